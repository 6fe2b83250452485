import PyProof.Rows.All
import Wide.All
import OpenK.AllK
import Wide.FinOn
import Lean
import PyProof.EqAt
import PyProof.EqKinds
import PyProof.TupleCall
import PySem.Challenge.RW_selvage_k37_whole_pieces_of_the_best
set_option Elab.async false
set_option linter.all false
set_option maxRecDepth 100000
set_option genSizeOfSpec false
set_option genInjectivity false
open PySem.W (Frag clsIn codeIn exmOne findIn fnOf hideAll instObj isFn keepIn kia_one kitOne lookIn methodObj mg_none_of mg_of nsIn specialIn subIn typeIn)
open List (any_cons append_assoc append_nil cons_append drop_eq_getElem_cons drop_eq_nil_of_le drop_zero filter_congr filter_cons filter_filter filter_nil find?_cons flatten_append flatten_cons foldl_cons getD_eq_getElem?_getD getElem?_append_left getElem?_append_right getElem?_drop getElem?_eq_getElem getElem?_map getElem?_set_ne getElem?_set_self getElem?_take getElem_mem length_append length_cons length_drop length_filter_le length_map length_nil length_replicate length_reverse length_set length_singleton length_take lookup_cons map_append map_congr_left map_cons map_drop map_id map_map map_nil map_take mem_append_left mem_append_right mem_cons mem_cons_of_mem mem_cons_self mem_iff_getElem mem_map_of_mem mem_of_getElem? mem_of_mem_drop mem_of_mem_take nodup_nil not_mem_nil perm_append_comm replicate_succ reverse_append reverse_cons set_append_right size_toArray sum_append sum_cons take_append_drop take_of_length_le take_zero zip_cons_cons)
open Nat (add_assoc add_zero le_add_right le_of_eq le_of_lt le_refl le_succ le_trans lt_irrefl lt_of_lt_of_le mul_le_mul ne_of_lt sub_self succ_mul zero_add zero_le)
open Int (add_nonneg emod_lt_of_pos emod_nonneg mul_add mul_nonneg mul_zero natCast_nonneg one_mul toNat_lt toNat_natCast zero_mul)
open Array (getElem?_toList length_toList toList_append toList_push toList_reverse)
open PySem.Heap (get?_push_of_some get?_push_size lt_size)
def PySem.W.Fast.tw3542876970369659949:=0
def PySem.W.Fast.tw16535733454234639766:=0
def PySem.W.Fast.tw8537128440193020083:=0
def PySem.W.Fast.tw7111121154331053491:=0
def PySem.W.Fast.tw16735419671427151688:=0
theorem aT0 (h:True:=by first | exact .inl rfl | exact .inr rfl | assumption):True:=True.intro
theorem aT3 (h:True:=by first | exact Or.inl rfl | exact Or.inr (Or.inl rfl) | exact Or.inr (Or.inr rfl)):True:=True.intro
namespace L2
open PySem PySem.Spec PyProof.Rows
noncomputable abbrev Key:=Sum Int Str
noncomputable def Ztm:Key→Value→Bool
 | .inl k,v=>Value.isInt k v
 | .inr x,v=>Value.isStrOf x v
noncomputable def keyH (w:World):Key→Int
 | .inl k=>hashInt k
 | .inr x=>hashStr w x
theorem Yo:∀{k:Key} {v:Value},Ztm k v=true→(∃i t,k=Sum.inl i∧v=Value.int i t)∨(∃x t,k=Sum.inr x∧v=Value.str x t)
 | .inl i,v,h=>by
  obtain ⟨t,e⟩:=Value.isInt_shape (k:=i) (v:=v) h
  exact .inl ⟨i,t,rfl,e⟩
 | .inr x,v,h=>by
  obtain ⟨t,e⟩:=Value.isStrOf_shape (x:=x) (v:=v) h
  exact .inr ⟨x,t,rfl,e⟩
theorem Zvs (i:Int)(t:Tok):Ztm (.inl i) (.int i t)=true:=by simp [Ztm,Value.isInt]
theorem Zuo (x:Str)(t:Tok):Ztm (.inr x) (.str x t)=true:=by simp [Ztm,Value.isStrOf]
theorem Xpm (a b:Int):decide ((Sum.inl a:Key)=Sum.inl b)=(a==b):=by
 by_cases e:a=b
 ·subst e;simp
 ·have h:¬(Sum.inl a:Key)=Sum.inl b:=fun q=>e (Sum.inl.inj q)
  rw [decide_eq_false h]
  exact (beq_eq_false_iff_ne.mpr e).symm
theorem Xsb (a b:Str):decide ((Sum.inr a:Key)=Sum.inr b)=decide (a=b):=by
 by_cases e:a=b
 ·subst e;simp
 ·have h:¬(Sum.inr a:Key)=Sum.inr b:=fun q=>e (Sum.inr.inj q)
  rw [decide_eq_false h,decide_eq_false e]
theorem Xth (a:Int)(b:Str):decide ((Sum.inl a:Key)=Sum.inr b)=false:=decide_eq_false (fun q=>nomatch q)
theorem Xqy (a:Str)(b:Int):decide ((Sum.inr a:Key)=Sum.inl b)=false:=decide_eq_false (fun q=>nomatch q)
noncomputable def Jh (prog:Program)(w:World):PySem.KeyKind prog w Key where
 is:=Ztm
 hash:=keyH w
 inj:=fun v a b ha hb=>by
  rcases Yo ha with ⟨i,t,rfl,rfl⟩ | ⟨x,t,rfl,rfl⟩
  ·rcases Yo hb with ⟨j,u,rfl,e⟩ | ⟨y,u,rfl,e⟩
   ·injection e with e1 _;rw [e1]
   ·exact nomatch e
  ·rcases Yo hb with ⟨j,u,rfl,e⟩ | ⟨y,u,rfl,e⟩
   ·exact nomatch e
   ·injection e with e1 _;rw [e1]
 byValue:=fun k v h=>by
  rcases Yo h with ⟨i,t,rfl,rfl⟩ | ⟨x,t,rfl,rfl⟩<;>rfl
 pyHash:=fun hv h=>by
  rcases Yo hv with ⟨i,t,rfl,rfl⟩ | ⟨x,t,rfl,rfl⟩
  ·exact wpAny_pyHash_int h
  ·exact wpAny_pyHash_str h
 eqBool:=fun hu hv h=>by
  rcases Yo hu with ⟨i,t,rfl,rfl⟩ | ⟨x,t,rfl,rfl⟩
  ·rcases Yo hv with ⟨j,u,rfl,rfl⟩ | ⟨y,u,rfl,rfl⟩
   ·rw [Xpm] at h;exact wpAny_eqBool_int h
   ·rw [Xth] at h;exact SeqAt.EqAt.int_str i t y u _ _ _ _ h
  ·rcases Yo hv with ⟨j,u,rfl,rfl⟩ | ⟨y,u,rfl,rfl⟩
   ·rw [Xqy] at h;exact SeqAt.EqAt.str_int x t j u _ _ _ _ h
   ·rw [Xsb] at h;exact wpAny_eqBool_str h
 «strs»:=fun k x t v h=>by
  rcases Yo h with ⟨i,u,rfl,e⟩ | ⟨y,u,rfl,e⟩
  ·exact nomatch e
  ·injection e with e1 _
   subst e1
   cases v<;>rfl
theorem Zoj (prog:Program)(w:World)(i:Int)(t:Tok):(Jh prog w).is (.inl i) (.int i t)=true:=Zvs i t
theorem Zow (prog:Program)(w:World)(x:Str)(t:Tok):(Jh prog w).is (.inr x) (.str x t)=true:=Zuo x t
set_option genInjectivity true in
inductive V where
 | non | bl (b:Bool) | int (i:Int) | str (x:Str) | byt (b:Array UInt8) | flt (b:UInt64) | ref (a:Addr) | ty (n:String)
 deriving DecidableEq
noncomputable def RelV:V→Value→Prop
 | .non,u=>u=Value.none
 | .bl b,u=>u=Value.bool b
 | .int i,u=>∃t,u=Value.int i t
 | .str x,u=>∃t,u=Value.str x t
 | .byt b,u=>∃t,u=Value.bytes b t
 | .flt b,u=>∃t,u=Value.float b t
 | .ref a,u=>u=Value.ref a
 | .ty n,u=>u=Value.type n
noncomputable abbrev Ys:List V→List Value→Prop:=Paired RelV
theorem Ys.length {xs:List V}{us:List Value}(r:Ys xs us):xs.length=us.length:=Paired.length r
theorem Ys.get:∀{xs:List V} {us:List Value} {i:Nat} {x:V},Ys xs us→xs[i]?=some x→∃u,us[i]?=some u∧RelV x u
 | _,_,_,_,.nil,e=>by simp at e
 | _,_,0,_,.cons r _,e=>by simp at e;subst e;exact ⟨_,rfl,r⟩
 | _,_,i+1,x,.cons _ t,e=>by
  obtain ⟨u,h1,h2⟩:=Ys.get (i:=i) (x:=x) t (by simpa using e)
  exact ⟨u,by simpa using h1,h2⟩
theorem Ys.append:∀{xs ys:List V} {us ws:List Value},Ys xs us→Ys ys ws→Ys (xs++ys) (us++ws)
 | _,_,_,_,.nil,s=>s
 | _,_,_,_,.cons r t,s=>.cons r (Ys.append t s)
theorem Ys.take:∀{xs:List V} {us:List Value} (n:Nat),Ys xs us→Ys (xs.take n) (us.take n)
 | _,_,0,_=>.nil
 | _,_,_+1,.nil=>.nil
 | _,_,n+1,.cons r t=>.cons r (Ys.take n t)
theorem Ys.drop:∀{xs:List V} {us:List Value} (n:Nat),Ys xs us→Ys (xs.drop n) (us.drop n)
 | _,_,0,r=>r
 | _,_,_+1,.nil=>.nil
 | _,_,n+1,.cons _ t=>Ys.drop n t
noncomputable def Zzl:Option V→Option Value→Prop
 | some v,some u=>RelV v u
 | none,none=>True
 | _,_=>False
def KV {κ:Type}:List (κ×V)→List (κ×Value)→Prop:=Paired fun (p:κ×V) (q:κ×Value)=>p.1=q.1∧RelV p.2 q.2
noncomputable def kV:Key→V
 | .inl i=>.int i
 | .inr x=>.str x
inductive HO where
 | lst (xs:List V)
 | tup (xs:List V)
 | dK (kvs:List (Key×V)) | dT (kvs:List (List Key×V))
 | set (S:Int→Bool) (n:Nat)
 | ins (C dx:Addr) (fs:List (Str×V))
 | own (x:Addr)
 | xd (fs:List (Str×V))
 | met (f x:Addr)
 | rng (lo hi:Int)
 | frz (o:Obj) (u:HO)
 | tbl (ps:Array Value)
 | ext (φ:Heap→Prop)
noncomputable abbrev Hp:=Addr→Option HO
noncomputable def upd (H:Hp)(a:Addr)(o:HO):Hp:=fun b=>if b=a then some o else H b
theorem Ja {H:Hp}{a:Addr}{o:HO}:upd H a o a=some o:=by unfold upd;rw [if_pos rfl]
theorem Yd {H:Hp}{a b:Addr}{o:HO}(h:b≠a):upd H a o b=H b:=by unfold upd;rw [if_neg h]
theorem ne_of {H:Hp}{a b:Addr}{o u:HO}(h:H a=some o)(h':H b=some u)(d:o≠u):a≠b:=by
 intro e;subst e;rw [h] at h';exact d (Option.some.inj h')
theorem Jb {H:Hp}{a b:Addr}{o:HO}(h:H a=some o)(h':H b=none):a≠b:=by
 intro e;subst e;rw [h] at h';cases h'
section
variable (P:Program)(w:World)
noncomputable def Zaa (H:Hp)(h:Heap)(a:Addr):HO→Prop
 | .lst xs=>xs.length≤sizeLine∧∃(its:List Value) (n:Nat),Ys xs its∧h.get? a=some {cls:=.type "list",data:=.seq its.toArray n}
 | .tup xs=>xs.length≤sizeLine∧∃its:List Value,Ys xs its∧IsTup h a its.toArray
 | .dK kvs=>kvs.length≤sizeLine∧(a==sysModules)=false∧∃vs,KV kvs vs∧h.DictOf (Jh P w) a vs
 | .dT kvs=>kvs.length≤sizeLine∧(a==sysModules)=false∧∃xs:List (List Key×Addr×Value),
   Paired (fun (p:List Key×V) (q:List Key×Addr×Value)=>p.1=q.1∧H q.2.1=some (.tup (p.1.map kV))∧RelV p.2 q.2.2) kvs xs∧
   ∃o es ep,h.get? a=some o∧o.ExactDict∧o.data=.dict es ep∧es.toList=xs.map (entryOfKey (tupleKind (Jh P w)))∧(xs.map (·.1)).Nodup
 | .set S n=>h.SetOf (intKind P w) a S n
 | .ins C dx fs=>H dx=some (.own a)∧fs.length≤1000∧dx≠a∧h.get? a=some (instObj C dx)∧
   ∃mA,h.Ns1 dx mA∧(∀f,Zzl (fs.lookup f) (mA f))∧PySem.Within mA (fs.map (·.1))
 | .own _=>∃o,h.get? a=some o
 | .xd fs=>∃mA,h.Ns1 a mA∧∀f,Zzl (fs.lookup f) (mA f)
 | .rng lo hi=>∃t u v,h.get? a=some {cls:=.type "range",data:=.fields #[.int lo t,.int hi u,.int 1 v]}
 | .frz o u=>h.get? a=some o∧Zaa H h a u
 | .tbl ps=>h.get? a=some {cls:=.none,data:=.fields ps}
 | .met f x=>h.get? a=some (methodObj (.ref f) (.ref x))
 | .ext φ=>φ h∧(∃o,h.get? a=some o)∧∀h1 h2:Heap,φ h1→(∀o,h1.get? a=some o→h2.get? a=some o)→φ h2
def HOk (H:Hp)(h:Heap):Prop:=∀a o,H a=some o→Zaa P w H h a o
end
section
variable {P:Program}{w:World}{H H':Hp}{h h':Heap}{a:Addr}{o:HO}
theorem Zaa.lt (x:Zaa P w H h a o):a<h.objs.size:=by
 cases o with
 | lst xs=>obtain ⟨_,_,_,_,e⟩:=x;exact lt_size e
 | tup xs=>obtain ⟨_,_,_,p⟩:=x;exact p.lt
 | dK kvs=>obtain ⟨_,_,_,_,o,_,_,e,_⟩:=x;exact lt_size e
 | dT kvs=>obtain ⟨_,_,_,_,o,_,_,e,_⟩:=x;exact lt_size e
 | set S n=>obtain ⟨o,_,_,_,e,_⟩:=x;exact lt_size e
 | ins C dx fs=>obtain ⟨_,_,_,e,_⟩:=x;exact lt_size e
 | own y=>obtain ⟨_,e⟩:=x;exact lt_size e
 | xd fs=>obtain ⟨_,⟨_,_,_,e,_⟩,_⟩:=x;exact lt_size e
 | rng lo hi=>obtain ⟨_,_,_,e⟩:=x;exact lt_size e
 | frz ob u=>obtain ⟨e,_⟩:=x;exact lt_size e
 | tbl ps=>exact lt_size (show h.get? a=some _ from x)
 | met f y=>exact lt_size (show h.get? a=some _ from x)
 | ext φ=>obtain ⟨_,⟨_,e⟩,_⟩:=x;exact lt_size e
theorem Paired.mapP {α β:Type}{F G:α→β→Prop}:∀{l₁:List α} {l₂:List β},Paired F l₁ l₂→(∀a b,F a b→G a b)→Paired G l₁ l₂
 | _,_,.nil,_=>.nil
 | _,_,.cons r t,f=>.cons (f _ _ r) (Paired.mapP t f)
theorem Zaa.stay (x:Zaa P w H h a o)(k:∀b u,(b=a∨H b=some (.own a))→h.get? b=some u→h'.get? b=some u)
  (ho:∀b,H b=some (.own a)→H' b=some (.own a)) (ht:∀b xs,H b=some (.tup xs)→H' b=some (.tup xs)):Zaa P w H' h' a o:=by
 induction o with
 | lst xs=>obtain ⟨z,its,n,r,e⟩:=x;exact ⟨z,its,n,r,k _ _ (.inl rfl) e⟩
 | tup xs=>obtain ⟨z,its,r,ob,e,c⟩:=x;exact ⟨z,its,r,ob,k _ _ (.inl rfl) e,c⟩
 | dK kvs=>obtain ⟨z,y,vs,r,ob,es,ep,e,c⟩:=x;exact ⟨z,y,vs,r,ob,es,ep,k _ _ (.inl rfl) e,c⟩
 | dT kvs =>
  obtain ⟨z,y,xs,r,ob,es,ep,e,c⟩:=x
  exact ⟨z,y,xs,Paired.mapP r fun p q z=>⟨z.1,ht _ _ z.2.1,z.2.2⟩,ob,es,ep,k _ _ (.inl rfl) e,c⟩
 | set S n=>obtain ⟨ob,es,ep,t,e,c⟩:=x;exact ⟨ob,es,ep,t,k _ _ (.inl rfl) e,c⟩
 | ins C dx fs =>
  obtain ⟨d,z,ne,e,mA,⟨od,es,ep,e2,c⟩,r⟩:=x
  exact ⟨ho _ d,z,ne,k _ _ (.inl rfl) e,mA,⟨od,es,ep,k _ _ (.inr d) e2,c⟩,r⟩
 | own y=>obtain ⟨ob,e⟩:=x;exact ⟨ob,k _ _ (.inl rfl) e⟩
 | xd fs=>obtain ⟨mA,⟨od,es,ep,e,c⟩,r⟩:=x;exact ⟨mA,⟨od,es,ep,k _ _ (.inl rfl) e,c⟩,r⟩
 | rng lo hi=>obtain ⟨t,u,v,e⟩:=x;exact ⟨t,u,v,k _ _ (.inl rfl) e⟩
 | frz ob u ih=>obtain ⟨e,q⟩:=x;exact ⟨k _ _ (.inl rfl) e,ih q⟩
 | tbl ps =>
  have e:h.get? a=some {cls:=.none,data:=.fields ps}:=x
  show h'.get? a=some {cls:=.none,data:=.fields ps}
  exact k a _ (.inl rfl) e
 | met f y =>
  have e:h.get? a=some (methodObj (.ref f) (.ref y)):=x
  show h'.get? a=some (methodObj (.ref f) (.ref y))
  exact k a _ (.inl rfl) e
 | ext φ=>obtain ⟨p,⟨o,e⟩,st⟩:=x;exact ⟨st _ _ p fun o q=>k _ _ (.inl rfl) q,⟨o,k _ _ (.inl rfl) e⟩,st⟩
theorem HOk.lt (x:HOk P w H h)(e:H a=some o):a<h.objs.size:=(x a o e).lt
theorem HOk.fresh (x:HOk P w H h)(e:h.objs.size≤a):H a=none:=by
 cases q:H a with
 | none=>rfl
 | some u=>exact absurd (lt_of_lt_of_le (x.lt q) e) (lt_irrefl _)
theorem HOk.kept (x:HOk P w H h)(k:∀b u,h.get? b=some u→h'.get? b=some u):HOk P w H h':=fun a o e =>
 (x a o e).stay (fun b u _ q=>k b u q) (fun _ q=>q) fun _ _ q=>q
theorem HOk.laid (x:HOk P w H h)(k:∀b u,h.get? b=some u→h'.get? b=some u)(hp:h.objs.size≤a)(new:Zaa P w (upd H a o) h' a o):HOk P w (upd H a o) h':=fun b u e=>by
 have hn:=x.fresh hp
 by_cases hb:b=a
 ·subst hb;rw [Ja] at e;cases e;exact new
 ·rw [Yd hb] at e
  exact (x b u e).stay (fun c v _ q=>k c v q) (fun c q=>by rw [Yd (Jb q hn)];exact q) fun c xs q=>by rw [Yd (Jb q hn)];exact q
end
def Rd (H:Hp)(a:Addr)(u:HO):Prop:=H a=some u∨∃o,H a=some (.frz o u)
theorem Rd.ok {P:Program}{w:World}{H:Hp}{h:Heap}{a:Addr}{u:HO}(r:Rd H a u)(x:HOk P w H h):Zaa P w H h a u:=by
 rcases r with r | ⟨o,r⟩
 ·exact x a u r
 ·obtain ⟨_,q⟩:=x a _ r
  exact q
noncomputable def Mut:Option HO→Prop
 | some (.lst _)=>True
 | some (.dK _)=>True
 | some (.dT _)=>True
 | some (.set _ _)=>True
 | some (.ins _ _ _)=>True
 | some (.ext _)=>True
 | _=>False
section
variable {P:Program}{w:World}{H:Hp}{h h':Heap}{x e:Addr}{o':HO}
theorem HOk.write (ok:HOk P w H h)(mu:Mut (H x))(he:e=x∨H e=some (.own x))(k:∀b u,b≠e→h.get? b=some u→h'.get? b=some u)(heo:∃u,h'.get? e=some u)
  (new:Zaa P w (upd H x o') h' x o'):HOk P w (upd H x o') h':=fun b u q=>by
 have nown:∀c y,H c=some (.own y)→c≠x:=fun c y r z=>by subst z;rw [r] at mu;exact mu
 have ntup:∀c xs,H c=some (.tup xs)→c≠x:=fun c xs r z=>by subst z;rw [r] at mu;exact mu
 by_cases hb:b=x
 ·subst hb;rw [Ja] at q;cases q;exact new
 ·rw [Yd hb] at q
  by_cases hbe:b=e
  ·have q':H b=some (.own x):=by
    rcases he with z | z
    ·exact absurd (hbe.trans z) hb
    ·rw [hbe];exact z
   rw [q] at q';cases q'
   obtain ⟨v,hv⟩:=heo
   exact ⟨v,by rw [hbe];exact hv⟩
  ·refine (ok b u q).stay (fun c v hc r=>k c v ?_ r) (fun c r=>by rw [Yd (nown c b r)];exact r) fun c xs r=>by rw [Yd (ntup c xs r)];exact r
   rcases hc with rfl | hc
   ·exact hbe
   ·rintro rfl
    rcases he with z | z
    ·exact nown c b hc z
    ·rw [hc] at z;cases z;exact hb rfl
end
structure Un (fs ex:List Addr)(H H':Hp)(h h':Heap):Prop where
 keep:∀b o,h.get? b=some o→H b=none→b∉fs→b∉ex→h'.get? b=some o
 slot:∀b o,h.get? b=some o→H b=none→b∈fs→b∉ex→∃sl,h'.get? b=some {o with slots:=sl}
 free:∀b o,h.get? b=some o→H b=none→b∉ex→H' b=none
 there:∀b o,h.get? b=some o→b∉ex→∃o',h'.get? b=some o'
 tups:∀b xs,H b=some (.tup xs)→H' b=some (.tup xs)
 frzs:∀b o u,H b=some (.frz o u)→H' b=some (.frz o u)
 tbls:∀b ps,H b=some (.tbl ps)→∃more,H' b=some (.tbl (ps++more))
section
variable {fs fs' ex ex':List Addr}{H H1 H2:Hp}{h h1 h2 h':Heap}{a x e:Addr}{o:HO}
theorem Un.any (u:Un fs ex H H1 h h1){b:Addr}{ob:Obj}(q:h.get? b=some ob)(n:H b=none)(hx:b∉ex):∃sl,h1.get? b=some {ob with slots:=sl}:=by
 by_cases hb:b∈fs
 ·exact u.slot b ob q n hb hx
 ·exact ⟨ob.slots,u.keep b ob q n hb hx⟩
theorem Un.kept (k:∀b u,h.get? b=some u→h'.get? b=some u):Un fs ex H H h h':=
 ⟨fun b ob q _ _ _=>k b ob q,fun b ob q _ _ _=>⟨ob.slots,k b ob q⟩,fun _ _ _ n _=>n,fun b ob q _=>⟨ob,k b ob q⟩,fun _ _ q=>q,fun _ _ _ q=>q,fun _ ps q=>⟨#[],by rw [q];simp⟩⟩
theorem Un.refl:Un fs ex H H h h:=Un.kept fun _ _ q=>q
theorem Un.laid (k:∀b u,h.get? b=some u→h'.get? b=some u)(hp:h.objs.size≤a)(hn:H a=none):Un fs ex H (upd H a o) h h' where
 keep:=fun b u q _ _ _=>k b u q
 slot:=fun b u q _ _ _=>⟨u.slots,k b u q⟩
 free:=fun b u q n _=>by rw [Yd (ne_of_lt (lt_of_lt_of_le (lt_size q) hp))];exact n
 there:=fun b u q _=>⟨u,k b u q⟩
 tups:=fun b xs q=>by rw [Yd (Jb q hn)];exact q
 frzs:=fun b u xs q=>by rw [Yd (Jb q hn)];exact q
 tbls:=fun b ps q=>⟨#[],by rw [Yd (Jb q hn),q];simp⟩
theorem Un.write (mu:Mut (H x))(he:e=x∨H e=some (.own x))(k:∀b u,b≠e→h.get? b=some u→h'.get? b=some u)(heo:∃u,h'.get? e=some u):Un fs ex H (upd H x o) h h':=by
  have hx:∀b,H b=none→b≠x:=fun b n z=>by subst z;rw [n] at mu;exact mu
  have hb:∀b,H b=none→b≠e:=fun b n z=>by
    subst z
    rcases he with r | r
    · exact hx b n r
    · rw [n] at r;cases r
  have hm:∀b u,H b=some u→¬Mut (some u)→b≠x:=fun b u q nm z=>by subst z;rw [q] at mu;exact nm mu
  refine ⟨fun b u q n _ _=>k b u (hb b n) q,fun b u q n _ _=>⟨u.slots,k b u (hb b n) q⟩,fun b u q n _=>by rw [Yd (hx b n)];exact n,fun b u q _=>?_,
    fun b xs q=>by rw [Yd (hm b _ q fun z=>z)];exact q,fun b u xs q=>by rw [Yd (hm b _ q fun z=>z)];exact q,fun b ps q=>⟨#[],by rw [Yd (hm b _ q fun z=>z),q];simp⟩⟩
  by_cases hbe:b=e
  · subst hbe;exact heo
  · exact ⟨u,k b u hbe q⟩
end
noncomputable def trk (h:Heap)(H:Hp):List Addr:=(List.range h.objs.size).filter fun a=>(H a).isSome
noncomputable def Xcc (h:Heap)(H:Hp):Heap:=hideAll h (trk h H)
theorem Zzi (h:Heap)(H:Hp):(Xcc h H).objs.size=h.objs.size:=PySem.W.hideAll_size _ _
theorem Xdv {h:Heap}{H:Hp}{b:Addr}{o:Obj}(e:h.get? b=some o)(n:H b=none):(Xcc h H).get? b=some o:=
 PySem.W.hideAll_get _ e fun hm=>by
  have q:(H b).isSome=true:=(List.mem_filter.mp hm).2
  rw [n] at q;simp at q
theorem Xlv {h:Heap}{H:Hp}{b:Addr}{o:Obj}(e:(Xcc h H).get? b=some o):h.get? b=some o∧H b=none:=by
 have e':h.get? b=some o:=PySem.W.of_hideAll (trk h H) e
 refine ⟨e',?_⟩
 cases q:H b with
 | none=>rfl
 | some x =>
  have hm:b∈trk h H:=List.mem_filter.mpr ⟨List.mem_range.mpr (lt_size e'),by simp [q]⟩
  have z:(Xcc h H).get? b=none:=PySem.W.hideAll_none (trk h H) hm
  rw [z] at e;cases e
noncomputable def Xil (g h:Heap)(L:Addr):List (Addr×Obj):=(List.range h.objs.size).filterMap fun a=>if a=L∨(g.get? a).isSome=true then none else (h.get? a).map fun o=>(a,o)
noncomputable def rest (g h:Heap)(L d:Addr):List (Addr×Obj):=(Xil g h L).filter fun p=>decide (p.1≠d)
structure Mod (K:Frag)(mg:Str→Option Value)(base:Heap):Prop where
 kin:K.In base
 glob:base.Ns mainGlobals mg
 blt:∃mb,base.Ns builtinsNs mb∧∀x:Str,x≠"__name__"→mb x=bootBuiltins x
 nolimit:base.NoLimit
structure Cx where
 prog:Program
 w:World
 K:Frag
 mg:Str→Option Value
 base:Heap
 A:Around
 N:List Str
 s₀:Shared
 H₀:Hp
 env:Env
 outer:List Env
 stack:List Env
 ex:List Addr
 fn:Str→Bool
 calm:Bool
 pn:List (Addr×Obj)
 xe:Value→Shared→Prop
noncomputable def frs (l:List Env):List Addr:=l.filterMap (·.frame)
noncomputable abbrev Cx.fs (X:Cx):List Addr:=frs X.outer
def Vis (sc:Scope)(x:Str):Prop:=sc.names.lookup x=some .local∨sc.names.lookup x=some .cell∨sc.names.lookup x=some .free
def Loc (sc:Scope)(x:Str):Prop:=sc.names.lookup x=some .local∨sc.names.lookup x=some .cell
def Look (env:Env)(h:Heap)(m:Str→Option Value)(x:Str)(u:Value):Prop:=
 (env.kindOf x=some .local∧m x=some u)∨((env.kindOf x=some .cell∨env.kindOf x=some .free)∧∃c,env.cells.lookup x=some c∧h.IsCell c (some u))
structure Cx.Ok (X:Cx):Prop where
 mod:Mod X.K X.mg X.base
 kind:X.env.scope.kind=.function
 glob:X.env.globals=mainGlobals
 blt:X.env.builtins=builtinsNs
 above:X.s₀.heap.objs.size≤X.env.locals
 inj:∀x y c,X.env.cells.lookup x=some c→X.env.cells.lookup y=some c→x=y
 has:∀x,(X.env.kindOf x=some .cell∨X.env.kindOf x=some .free)→∃c,X.env.cells.lookup x=some c
 cab:∀x c,X.fn x=true→X.env.cells.lookup x=some c→X.s₀.heap.objs.size≤c
 hd:X.calm=true→X.A.handled=none
 frames:X.A.frames=some X.stack
 stk:X.stack=X.outer∨(X.stack=X.env::X.outer∧X.env.frame=some X.env.locals)
 exf:∀b∈X.ex,b≠X.env.locals∧∀x c,X.env.cells.lookup x=some c→c≠b
 bs:∀b o,X.base.get? b=some o→X.s₀.heap.get? b=some o∧X.H₀ b=none
 bsz:X.base.objs.size≤X.s₀.heap.objs.size
 noex:∀b o,X.base.get? b=some o→b∉X.ex
 exfs:∀b∈X.ex,b∉X.fs
 funs:X.s₀.heap.FunFrames X.base X.outer
 frf:∀b∈X.fs,X.H₀ b=none
structure Inv (X:Cx)(pins:List (Addr×Obj))(σ:List (Option V))(H:Hp)(s:Shared):Prop where
 ok:X.Ok
 os:s.os=X.s₀.os
 bare:AllBare s.gens
 base:Un X.fs X.ex X.H₀ H X.s₀.heap s.heap
 loc:∃m,s.heap.Ns X.env.locals m∧∀(i:Nat) (x:Str) (v:V),X.N[i]?=some x→σ[i]?=some (some v)→Vis X.env.scope x→∃u,RelV v u∧Look X.env s.heap m x u
 cell:∀x c,X.env.cells.lookup x=some c→∃v,s.heap.IsCell c v
 free:H X.env.locals=none
 freeC:∀x c,X.env.cells.lookup x=some c→H c=none
 pin:∀p∈X.pn++pins,s.heap.get? p.1=some p.2∧H p.1=none∧p.1≠X.env.locals∧p.1∉X.fs∧∀v,p.2.data≠.cell v
 hok:HOk X.prog X.w H s.heap
 len:σ.length=X.N.length
section
variable {X:Cx}{pins:List (Addr×Obj)}{σ:List (Option V)}{H H':Hp}{s:Shared}{h':Heap}
theorem Cx.Ok.nofr (ok:X.Ok){b:Addr}{o:Obj}(e:X.base.get? b=some o):b∉X.fs:=fun hb=>by
 have:=(ok.funs.mem hb).1
 rw [e] at this;cases this
theorem Inv.bs (I:Inv X pins σ H s):∀b o,X.base.get? b=some o→s.heap.get? b=some o∧H b=none:=fun b o e =>
 ⟨I.base.keep b o (I.ok.bs b o e).1 (I.ok.bs b o e).2 (I.ok.nofr e) (I.ok.noex b o e),I.base.free b o (I.ok.bs b o e).1 (I.ok.bs b o e).2 (I.ok.noex b o e)⟩
theorem Inv.bk (I:Inv X pins σ H s):∀b o,X.base.get? b=some o→s.heap.get? b=some o:=fun b o e=>(I.bs b o e).1
theorem Inv.mod (I:Inv X pins σ H s):Mod X.K X.mg X.base:=I.ok.mod
theorem Inv.kIn (I:Inv X pins σ H s):X.K.In s.heap:=I.ok.mod.kin.keeps I.bk
theorem Inv.lt (I:Inv X pins σ H s):X.env.locals<s.heap.objs.size:=let ⟨_,hn,_⟩:=I.loc;hn.lt
theorem Inv.sz (I:Inv X pins σ H s):X.s₀.heap.objs.size≤s.heap.objs.size:=le_trans I.ok.above (le_of_lt I.lt)
theorem Inv.nofs (I:Inv X pins σ H s){a:Addr}(h:s.heap.objs.size≤a):a∉X.fs:=fun hb=>by
 obtain ⟨_,o,ho,_⟩:=I.ok.funs.mem hb
 exact absurd (lt_of_lt_of_le (lt_size ho) (le_trans I.sz h)) (lt_irrefl _)
theorem Inv.cne (I:Inv X pins σ H s):∀x c,X.env.cells.lookup x=some c→c≠X.env.locals:=fun x c e z=>by
 obtain ⟨v,o,ho,hd⟩:=I.cell x c e
 obtain ⟨m,⟨o',es,ep,ho',hd',_⟩,_⟩:=I.loc
 rw [z,ho'] at ho;cases ho;rw [hd'] at hd;cases hd
theorem Inv.funs (I:Inv X pins σ H s):s.heap.FunFrames X.base X.outer:=by
 have all:∀(l:List Env),(∀b∈frs l,b∈X.fs)→X.s₀.heap.FunFrames X.base l→s.heap.FunFrames X.base l:=by
  intro l
  induction l with
  | nil=>intro _ _;trivial
  | cons env r ih =>
   intro hs hl
   obtain ⟨hk,⟨L,o,hf,hn,ho,hd⟩,hr⟩:=hl
   have hL:L∈X.fs:=hs L (by unfold frs;rw [List.filterMap_cons,hf];exact mem_cons_self)
   obtain ⟨sl,e⟩:=I.base.slot L o ho (I.ok.frf L hL) hL fun z=>I.ok.exfs L z hL
   exact ⟨hk,⟨L,_,hf,hn,e,hd⟩,ih (fun b hb=>hs b (by unfold frs;rw [List.filterMap_cons,hf];exact mem_cons_of_mem _ hb)) hr⟩
 exact all X.outer (fun _ hb=>hb) I.ok.funs
theorem Inv.stack (I:Inv X pins σ H s):s.heap.FunFrames X.base X.stack:=by
 rcases I.ok.stk with e | ⟨e,hf⟩
 ·rw [e];exact I.funs
 ·rw [e]
  obtain ⟨m,hn,_⟩:=I.loc
  refine .cons (by rw [I.ok.kind];decide) hf hn ?_ I.funs
  exact Heap.get?_none_of_le (le_trans I.ok.bsz I.ok.above)
theorem Inv.stkSub (I:Inv X pins σ H s):∀b∈frs X.stack,b∈X.env.locals::X.fs:=fun b hb=>by
 rcases I.ok.stk with e | ⟨e,hf⟩
 ·rw [e] at hb;exact mem_cons_of_mem _ hb
 ·rw [e] at hb
  unfold frs at hb
  rw [List.filterMap_cons,hf] at hb
  exact hb
theorem Inv.stkFree (I:Inv X pins σ H s):∀b∈frs X.stack,H b=none:=fun b hb=>by
 rcases List.mem_cons.mp (I.stkSub b hb) with e | hb
 ·rw [e];exact I.free
 ·obtain ⟨_,o,ho,_⟩:=I.ok.funs.mem hb
  exact I.base.free b o ho (I.ok.frf b hb) fun z=>I.ok.exfs b z hb
theorem Inv.step {g':Array GenState}{t':Nat}{d':Drawn}{ch:List Addr}(I:Inv X pins σ H s)
  (hch:∀b∈ch,(b∈X.ex∨X.s₀.heap.objs.size≤b)∧b≠X.env.locals∧(∀x c,X.env.cells.lookup x=some c→c≠b)∧∀p∈X.pn++pins,p.1≠b)
  (keep:∀b o,b≠X.env.locals→b∉X.fs→b∉ch→s.heap.get? b=some o→H b=none→h'.get? b=some o)
  (slot:∀b o,b≠X.env.locals→b∈X.fs→b∉ch→s.heap.get? b=some o→H b=none→∃sl,h'.get? b=some {o with slots:=sl}) (free:∀b o,b∉ch→s.heap.get? b=some o→H b=none→H' b=none)
  (there:∀b o,b∉ch→s.heap.get? b=some o→∃o',h'.get? b=some o')
  (tups:∀b xs,H b=some (.tup xs)→H' b=some (.tup xs)) (frzs:∀b o u,H b=some (.frz o u)→H' b=some (.frz o u)) (tbls:∀b ps,H b=some (.tbl ps)→∃more,H' b=some (.tbl (ps++more)))
  (ns:∀m,s.heap.Ns X.env.locals m→h'.Ns X.env.locals m) (hok:HOk X.prog X.w H' h') (hg:AllBare g') :
  Inv X pins σ H' {s with heap:=h',gens:=g',drawn:=d',toks:=t'}:=by
 have neL:∀b o,X.s₀.heap.get? b=some o→b≠X.env.locals:=fun b o e=>ne_of_lt (lt_of_lt_of_le (lt_size e) I.ok.above)
 have neC:∀b o,X.s₀.heap.get? b=some o→b∉X.ex→b∉ch:=fun b o e hx hb=>by
  rcases (hch b hb).1 with z | z
  ·exact hx z
  ·exact absurd (lt_of_lt_of_le (lt_size e) z) (lt_irrefl _)
 have cellK:∀x c,X.env.cells.lookup x=some c→∀v,s.heap.IsCell c v→h'.IsCell c v:=fun x c e v ⟨o,ho,hd⟩=>by
  have nch:c∉ch:=fun z=>(hch c z).2.2.1 x c e rfl
  by_cases hc:c∈X.fs
  ·obtain ⟨sl,q⟩:=slot c o (I.cne x c e) hc nch ho (I.freeC x c e)
   exact ⟨_,q,hd⟩
  ·exact ⟨o,keep c o (I.cne x c e) hc nch ho (I.freeC x c e),hd⟩
 refine ⟨I.ok,I.os,hg,⟨fun b o e n hb hx=>?_,fun b o e n hb hx=>?_,fun b o e n hx=>?_,fun b o e hx=>?_,fun b xs e=>tups b xs (I.base.tups b xs e),fun b o xs e=>frzs b o xs (I.base.frzs b o xs e),fun b ps e=>?_⟩,?_,fun x c e=>?_,?_,fun x c e=>?_,fun p hp=>?_,hok,I.len⟩
 ·exact keep b o (neL b o e) hb (neC b o e hx) (I.base.keep b o e n hb hx) (I.base.free b o e n hx)
 ·obtain ⟨sl,e1⟩:=I.base.slot b o e n hb hx
  obtain ⟨sl',e2⟩:=slot b _ (neL b o e) hb (neC b o e hx) e1 (I.base.free b o e n hx)
  exact ⟨sl',e2⟩
 ·obtain ⟨o',e1⟩:=I.base.there b o e hx
  exact free b o' (neC b o e hx) e1 (I.base.free b o e n hx)
 ·obtain ⟨o',e1⟩:=I.base.there b o e hx
  exact there b o' (neC b o e hx) e1
 ·obtain ⟨m1,e1⟩:=I.base.tbls b ps e
  obtain ⟨m2,e2⟩:=tbls b _ e1
  exact ⟨m1++m2,by rw [e2,Array.append_assoc]⟩
 ·obtain ⟨m,hn,hl⟩:=I.loc
  refine ⟨m,ns m hn,fun i x v e1 e2 e3=>?_⟩
  obtain ⟨u,r,l⟩:=hl i x v e1 e2 e3
  refine ⟨u,r,?_⟩
  rcases l with l | ⟨k,c,e,z⟩
  ·exact .inl l
  ·exact .inr ⟨k,c,e,cellK x c e _ z⟩
 ·obtain ⟨v,z⟩:=I.cell x c e
  exact ⟨v,cellK x c e v z⟩
 ·obtain ⟨m,⟨o,_,_,ho,_⟩,_⟩:=I.loc
  exact free _ o (fun z=>(hch _ z).2.1 rfl) ho I.free
 ·obtain ⟨v,o,ho,hd⟩:=I.cell x c e
  exact free c o (fun z=>(hch c z).2.2.1 x c e rfl) ho (I.freeC x c e)
 ·obtain ⟨e,n,ne,nf,d⟩:=I.pin p hp
  have nch:p.1∉ch:=fun z=>(hch p.1 z).2.2.2 p hp rfl
  exact ⟨keep p.1 p.2 ne nf nch e n,free p.1 p.2 nch e n,ne,nf,d⟩
theorem Inv.un {t':Nat}(I:Inv X pins σ H s)(u:Un X.fs [] H H' s.heap h')(hok:HOk X.prog X.w H' h'):Inv X pins σ H' {s with heap:=h',toks:=t'}:=by
  obtain ⟨m,⟨o,es,ep,ho,r⟩,_⟩:=id I.loc
  obtain ⟨sl,hL⟩:=u.any ho I.free (by simp)
  exact I.step (g':=s.gens) (d':=s.drawn) (ch:=[]) (fun _ z=>nomatch z) (fun b o _ hb _ e n=>u.keep b o e n hb (by simp)) (fun b o _ hb _ e n=>u.slot b o e n hb (by simp)) (fun b o _ e n=>u.free b o e n (by simp)) (fun b o _ e=>u.there b o e (by simp)) u.tups u.frzs u.tbls (fun m' hm=>by
    obtain ⟨o',es',ep',ho',r'⟩:=hm
    rw [ho] at ho';cases ho'
    exact ⟨_,es',ep',hL,r'⟩) hok I.bare
theorem Inv.call {g':Array GenState}{t':Nat}{d':Drawn}{ch:List Addr}(I:Inv X pins σ H s)(u:Un (frs X.stack) ch H H' s.heap h')(hok:HOk X.prog X.w H' h')(hg:AllBare g')
    (hch:∀b∈ch,(b∈X.ex∨X.s₀.heap.objs.size≤b)∧b≠X.env.locals∧(∀x c,X.env.cells.lookup x=some c→c≠b)∧∀p∈X.pn++pins,p.1≠b) :
    Inv X pins σ H' {s with heap:=h',gens:=g',drawn:=d',toks:=t'}:=by
  obtain ⟨m,⟨o,es,ep,ho,r⟩,_⟩:=id I.loc
  obtain ⟨sl,hL⟩:=u.any ho I.free fun z=>(hch _ z).2.1 rfl
  exact I.step (ch:=ch) hch (fun b o hL hb hc e n=>u.keep b o e n (fun z=>(List.mem_cons.mp (I.stkSub b z)).elim hL hb) hc) (fun b o _ _ hc e n=>u.any e n hc) (fun b o hc e n=>u.free b o e n hc) (fun b o hc e=>u.there b o e hc) u.tups u.frzs u.tbls (fun m' hm=>by
    obtain ⟨o',es',ep',ho',r'⟩:=hm
    rw [ho] at ho';cases ho'
    exact ⟨_,es',ep',hL,r'⟩) hok hg
theorem Inv.turned {t':Nat}{it:Addr}(I:Inv X pins σ H s)(k:∀b o,b≠it→s.heap.get? b=some o→h'.get? b=some o)(hn:H it=none)(hL:it≠X.env.locals)
  (h1:it∈X.ex∨X.s₀.heap.objs.size≤it) (h2:∀x c,X.env.cells.lookup x=some c→c≠it) (h3:∀p∈X.pn++pins,p.1≠it):Inv X pins σ H {s with heap:=h',toks:=t'}:=by
 have nit:∀b u,H b=some u→b≠it:=fun b u e z=>by rw [z,hn] at e;cases e
 refine I.step (g':=s.gens) (d':=s.drawn) (ch:=[it]) (fun b hb=>?_) (fun b o _ _ hc e _=>k b o (fun z=>hc (by simp [z])) e) (fun b o _ _ hc e _=>⟨o.slots,k b o (fun z=>hc (by simp [z])) e⟩) (fun _ _ _ _ n=>n)
  (fun b o hc e=>⟨o,k b o (fun z=>hc (by simp [z])) e⟩) (fun _ _ e=>e) (fun _ _ _ e=>e) (fun b ps e=>⟨#[],by rw [e];simp⟩) (fun m hm=>?_) (fun b u e=>?_) I.bare
 ·have e:b=it:=by simpa using hb
  subst e
  exact ⟨h1,hL,h2,h3⟩
 ·obtain ⟨o,es,ep,ho,r⟩:=hm
  exact ⟨o,es,ep,k _ o (Ne.symm hL) ho,r⟩
 ·refine (I.hok b u e).stay (fun c v hc q=>k c v ?_ q) (fun _ q=>q) fun _ _ q=>q
  rcases hc with z | z
  ·rw [z];exact nit b u e
  ·exact nit c _ z
theorem Inv.tok (I:Inv X pins σ H s)(t:Nat):Inv X pins σ H {s with toks:=t}:=I.un (h':=s.heap) (t':=t) Un.refl I.hok
theorem Inv.kept {t':Nat}(I:Inv X pins σ H s)(k:∀b u,s.heap.get? b=some u→h'.get? b=some u):Inv X pins σ H {s with heap:=h',toks:=t'}:=I.un (Un.kept k) (I.hok.kept k)
theorem Inv.laid {a:Addr}{o:HO}{t':Nat}(I:Inv X pins σ H s)(k:∀b u,s.heap.get? b=some u→h'.get? b=some u)(hp:s.heap.objs.size≤a)(new:Zaa X.prog X.w (upd H a o) h' a o) :
  Inv X pins σ (upd H a o) {s with heap:=h',toks:=t'}:=I.un (Un.laid k hp (I.hok.fresh hp)) (I.hok.laid k hp new)
theorem Inv.write {x e:Addr}{o:HO}{t':Nat}(I:Inv X pins σ H s)(mu:Mut (H x))(he:e=x∨H e=some (.own x))(k:∀b u,b≠e→s.heap.get? b=some u→h'.get? b=some u)(heo:∃u,h'.get? e=some u)
  (new:Zaa X.prog X.w (upd H x o) h' x o):Inv X pins σ (upd H x o) {s with heap:=h',toks:=t'}:=I.un (Un.write mu he k heo) (I.hok.write mu he k heo new)
theorem Inv.pins_of {pins':List (Addr×Obj)}(I:Inv X pins σ H s)(h:∀p∈pins',s.heap.get? p.1=some p.2∧H p.1=none∧p.1≠X.env.locals∧p.1∉X.fs∧∀v,p.2.data≠.cell v):Inv X pins' σ H s:=
 ⟨I.ok,I.os,I.bare,I.base,I.loc,I.cell,I.free,I.freeC,fun p hp=>(List.mem_append.mp hp).elim (fun z=>I.pin p (mem_append_left _ z)) (h p),I.hok,I.len⟩
theorem Zql {N:List Str}(hN:N.Nodup){i j:Nat}{x:Str}(a:N[i]?=some x)(b:N[j]?=some x):i=j:=by
 obtain ⟨h1,e1⟩:=List.getElem?_eq_some_iff.mp a
 obtain ⟨h2,e2⟩:=List.getElem?_eq_some_iff.mp b
 exact (List.getElem_inj hN).mp (e1.trans e2.symm)
theorem Zni {M:Model}{A:Around}{E:Value→Shared→Prop}{i:Nat}{x:Str}{v:V}{u:Value}{Q:Unit→Shared→Prop}(I:Inv X pins σ H s)(hN:X.N.Nodup)(hi:X.N[i]?=some x)(hx:Loc X.env.scope x)(r:RelV v u)
  (h:∀s',Inv X pins (σ.set i (some v)) H s'→(∃a,Heap.SameBut a s.heap s'.heap∧(a=X.env.locals∨X.env.cells.lookup x=some a))→Q () s') (hf:autoParam (X.fn x=true∨X.env.scope.names.lookup x=some .local) aT0._auto_1):wpAny M A (storeName X.env x u) Q E s:=by
 obtain ⟨m,hn,hl⟩:=id I.loc
 have hcls:(X.env.scope.kind==.class||(X.env.scope.kind==.module&&X.env.locals != X.env.globals))=false:=by rw [I.ok.kind];rfl
 have hiσ:i<σ.length:=by rw [I.len];exact (List.getElem?_eq_some_iff.mp hi).1
 have cne:=I.cne
 have tracked:∀{a:Addr} {h':Heap},(∃o,s.heap.get? a=some o∧H a=none)→Heap.SameBut a s.heap h'→HOk X.prog X.w H h':=fun {a h'} ha hs b ob e=>by
  obtain ⟨_,_,hfree⟩:=ha
  refine (I.hok b ob e).stay (fun c w' hc q=>(hs.2 c ?_).trans q) (fun _ q=>q) fun _ _ q=>q
  rintro rfl
  rcases hc with rfl | hc
  ·rw [hfree] at e;cases e
  ·rw [hfree] at hc;cases hc
 rcases hx with hk | hk
 ·refine wpAny_storeName_local hk hn (fun h' hn' hs=>?_) hcls
  obtain ⟨oL,_,_,hoL,_⟩:=id hn
  refine h _ ⟨I.ok,I.os,I.bare,⟨fun b o e n hb hx=>?_,fun b o e n hb hx=>?_,I.base.free,fun b o e hx=>?_,I.base.tups,I.base.frzs,I.base.tbls⟩,⟨_,hn',fun j y v' e1 e2 e3=>?_⟩,fun y c e=>?_,I.free,I.freeC,fun p hp=>?_,tracked ⟨oL,hoL,I.free⟩ hs,by simpa using I.len⟩ ⟨_,hs,.inl rfl⟩
  ·exact (hs.2 b (ne_of_lt (lt_of_lt_of_le (lt_size e) I.ok.above))).trans (I.base.keep b o e n hb hx)
  ·obtain ⟨sl,e1⟩:=I.base.slot b o e n hb hx
   exact ⟨sl,(hs.2 b (ne_of_lt (lt_of_lt_of_le (lt_size e) I.ok.above))).trans e1⟩
  ·obtain ⟨o',e1⟩:=I.base.there b o e hx
   exact ⟨o',(hs.2 b (ne_of_lt (lt_of_lt_of_le (lt_size e) I.ok.above))).trans e1⟩
  ·by_cases hj:j=i
   ·subst hj
    rw [hi] at e1;cases e1
    rw [getElem?_set_self hiσ] at e2
    cases e2
    exact ⟨u,r,.inl ⟨hk,by simp⟩⟩
   ·rw [getElem?_set_ne (Ne.symm hj)] at e2
    obtain ⟨u',r',q⟩:=hl j y v' e1 e2 e3
    refine ⟨u',r',?_⟩
    rcases q with ⟨k,e⟩ | ⟨k,c,e,z⟩
    ·refine .inl ⟨k,?_⟩
     have:y≠x:=fun e=>hj (Zql hN e1 (e▸hi))
     simp [this,e]
    ·exact .inr ⟨k,c,e,z.sameBut hs (cne y c e)⟩
  ·obtain ⟨w',z⟩:=I.cell y c e
   exact ⟨w',z.sameBut hs (cne y c e)⟩
  ·obtain ⟨e,n,ne,nf,d⟩:=I.pin p hp
   exact ⟨(hs.2 p.1 ne).trans e,n,ne,nf,d⟩
 ·have hfn:X.fn x=true:=by
   rcases hf with z | z
   ·exact z
   ·rw [z] at hk;cases hk
  obtain ⟨c,hc⟩:=I.ok.has x (.inl hk)
  obtain ⟨w',z⟩:=I.cell x c hc
  refine wpAny_storeName_cell I.ok.kind hk hc z (fun h' hc' hs=>?_)
  obtain ⟨oc,hoc,hocd⟩:=id z
  refine h {s with heap:=h'} ⟨I.ok,I.os,I.bare,⟨fun b o e n hb hx=>?_,fun b o e n hb hx=>?_,I.base.free,fun b o e hx=>?_,I.base.tups,I.base.frzs,I.base.tbls⟩,⟨m,hn.sameBut hs (Ne.symm (cne x c hc)),fun j y v' e1 e2 e3=>?_⟩,fun y c' e=>?_,I.free,I.freeC,fun p hp=>?_,tracked ⟨oc,hoc,I.freeC x c hc⟩ hs,by simpa using I.len⟩ ⟨c,hs,.inr hc⟩
  ·exact (hs.2 b (ne_of_lt (lt_of_lt_of_le (lt_size e) (I.ok.cab x c hfn hc)))).trans (I.base.keep b o e n hb hx)
  ·obtain ⟨sl,e1⟩:=I.base.slot b o e n hb hx
   exact ⟨sl,(hs.2 b (ne_of_lt (lt_of_lt_of_le (lt_size e) (I.ok.cab x c hfn hc)))).trans e1⟩
  ·obtain ⟨o',e1⟩:=I.base.there b o e hx
   exact ⟨o',(hs.2 b (ne_of_lt (lt_of_lt_of_le (lt_size e) (I.ok.cab x c hfn hc)))).trans e1⟩
  ·by_cases hj:j=i
   ·subst hj
    rw [hi] at e1;cases e1
    rw [getElem?_set_self hiσ] at e2
    cases e2
    exact ⟨u,r,.inr ⟨.inl hk,c,hc,hc'⟩⟩
   ·rw [getElem?_set_ne (Ne.symm hj)] at e2
    obtain ⟨u',r',q⟩:=hl j y v' e1 e2 e3
    refine ⟨u',r',?_⟩
    rcases q with q | ⟨k,c',e,z'⟩
    ·exact .inl q
    ·refine .inr ⟨k,c',e,z'.sameBut hs ?_⟩
     rintro rfl
     exact hj (Zql hN e1 (I.ok.inj _ _ _ e hc▸hi))
  ·by_cases hcc:c'=c
   ·subst hcc;exact ⟨_,hc'⟩
   ·obtain ⟨w2,z2⟩:=I.cell y c' e
    exact ⟨w2,z2.sameBut hs hcc⟩
  ·obtain ⟨e,n,ne,nf,d⟩:=I.pin p hp
   refine ⟨(hs.2 p.1 ?_).trans e,n,ne,nf,d⟩
   intro q
   rw [q,hoc] at e
   have q':oc=p.2:=Option.some.inj e
   exact d w' (by rw [← q'];exact hocd)
theorem Zkp {M:Model}{A:Around}{E:Value→Shared→Prop}{i:Nat}{x:Str}{v:V}{u:Value}{Q:Unit→Shared→Prop}(I:Inv X pins σ H s)(hN:X.N.Nodup)(hi:X.N[i]?=some x)(hx:Loc X.env.scope x)(r:RelV v u)
  (h:∀s',Inv X pins (σ.set i (some v)) H s'→Q () s') (hf:autoParam (X.fn x=true∨X.env.scope.names.lookup x=some .local) aT0._auto_1):wpAny M A (storeName X.env x u) Q E s:=
 Zni I hN hi hx r (fun s' I' _=>h s' I') hf
theorem Inv.call' {s':Shared}{ch:List Addr}(I:Inv X pins σ H s)(ho:s'.os=s.os)(u:Un (frs X.stack) ch H H' s.heap s'.heap)(hok:HOk X.prog X.w H' s'.heap)(hg:AllBare s'.gens)
  (hch:∀b∈ch,(b∈X.ex∨X.s₀.heap.objs.size≤b)∧b≠X.env.locals∧(∀x c,X.env.cells.lookup x=some c→c≠b)∧∀p∈X.pn++pins,p.1≠b):Inv X pins σ H' s':=by
 obtain ⟨h',g',d',t',o'⟩:=s'
 have e:o'=s.os:=ho
 subst e
 exact I.call (g':=g') (t':=t') (d':=d') u hok hg hch
end
noncomputable abbrev XK:=Value→Option Addr→Hp→Prop
noncomputable abbrev St:=List (Option V)
noncomputable abbrev VK:=V→Hp→Prop
noncomputable abbrev TE:=St→Hp→VK→Prop
noncomputable abbrev TT:=St→Hp→(Bool→Hp→Prop)→Prop
noncomputable abbrev TA:=St→Hp→(List V→Hp→Prop)→Prop
structure Ends where
 nx:St→Hp→Prop
 rt:VK
 bk:St→Hp→Prop:=fun _ _=>False
 ct:St→Hp→Prop:=fun _ _=>False
noncomputable abbrev TS:=Ends→St→Hp→Prop
def EP (X:Cx)(pins:List (Addr×Obj))(σ:St)(Q:VK)(u:Value)(s':Shared):Prop:=∃v H',Inv X pins σ H' s'∧RelV v u∧Q v H'
def TP (X:Cx)(pins:List (Addr×Obj))(σ:St)(Q:Bool→Hp→Prop)(b:Bool)(s':Shared):Prop:=∃H',Inv X pins σ H' s'∧Q b H'
def AP (X:Cx)(pins:List (Addr×Obj))(σ:St)(Q:List V→Hp→Prop)(us:List Value)(s':Shared):Prop:=∃vs H',Inv X pins σ H' s'∧Ys vs us∧Q vs H'
def SP (X:Cx)(pins:List (Addr×Obj))(D:Ends)(f:Flow)(s':Shared):Prop:=
 match f with
 | .next=>∃σ' H',Inv X pins σ' H' s'∧D.nx σ' H'
 | .brk=>∃σ' H',Inv X pins σ' H' s'∧D.bk σ' H'
 | .cont=>∃σ' H',Inv X pins σ' H' s'∧D.ct σ' H'
 | .ret u=>∃v σ' H',Inv X pins σ' H' s'∧RelV v u∧D.rt v H'
def PE (X:Cx)(e:Expr)(t:TE):Prop:=
 ∀(pins:List (Addr×Obj)) (s:Shared) (σ:St) (H:Hp) (Q:VK),Inv X pins σ H s→t σ H Q→wpAny (model X.prog X.w) X.A (eval e X.env) (EP X pins σ Q) X.xe s
def PT (X:Cx)(e:Expr)(t:TT):Prop:=
 ∀(pins:List (Addr×Obj)) (s:Shared) (σ:St) (H:Hp) (Q:Bool→Hp→Prop),Inv X pins σ H s→t σ H Q→wpAny (model X.prog X.w) X.A (isTrue e X.env (eval e X.env)) (TP X pins σ Q) X.xe s
def PW (X:Cx)(e:Expr)(t:TT):Prop:=
 ∀(whole:Sem Value) (pins:List (Addr×Obj)) (s:Shared) (σ:St) (H:Hp) (Q:Bool→Hp→Prop),Inv X pins σ H s→t σ H Q→wpAny (model X.prog X.w) X.A (isTrue e X.env whole) (TP X pins σ Q) X.xe s
theorem PW.pt {X:Cx}{e:Expr}{t:TT}(h:PW X e t):PT X e t:=h _
def PA (X:Cx)(es:List Expr)(t:TA):Prop:=
 ∀(pos:Pos) (pins:List (Addr×Obj)) (s:Shared) (σ:St) (H:Hp) (Q:List V→Hp→Prop),Inv X pins σ H s→t σ H Q→wpAny (model X.prog X.w) X.A (spliced (backTo pos (starEach es X.env))) (AP X pins σ Q) X.xe s
def PS (X:Cx)(st:Stmt)(t:TS):Prop:=
 ∀(pins:List (Addr×Obj)) (s:Shared) (σ:St) (H:Hp) (D:Ends),Inv X pins σ H s→t D σ H→wpAny (model X.prog X.w) X.A (exec st X.env) (SP X pins D) X.xe s
def PSs (X:Cx)(st:List Stmt)(t:TS):Prop:=
 ∀(pins:List (Addr×Obj)) (s:Shared) (σ:St) (H:Hp) (D:Ends),Inv X pins σ H s→t D σ H→wpAny (model X.prog X.w) X.A (execs st X.env) (SP X pins D) X.xe s
theorem thn {α:Type}{t:Sem α}{Q Q':α→Shared→Prop}{M:Model}{A:Around}{E:Value→Shared→Prop}{s:Shared}(h:wpAny M A t Q E s)(hQ:∀a s,Q a s→Q' a s):wpAny M A t Q' E s:=wpAny_mono h hQ fun _ _ x=>x
section
variable {X:Cx}
def Zme (i:Nat):TE:=fun σ H Q=>∃v,σ[i]?=some (some v)∧Q v H
def tC (v:V):TE:=fun _ H Q=>Q v H
theorem Xrg {i:Nat}{x:Str}{pos:Pos}(hN:X.N[i]?=some x)(hv:Vis X.env.scope x)(hd:(x==("__debug__":Str))=false:=by decide)(hcd:(x==("__classdict__":Str))=false:=by decide):PE X (.Name x pos) (Zme i):=by
 intro pins s σ H Q I h
 obtain ⟨v,e,h⟩:=h
 obtain ⟨m,hn,hl⟩:=I.loc
 obtain ⟨u,r,l⟩:=hl i x v hN e hv
 have fin:EP X pins σ Q u s:=⟨v,H,I,r,h⟩
 rcases l with ⟨hk,hm⟩ | ⟨hk,c,hc,hcell⟩
 ·exact wpAny_Name (wpAny_loadName_local I.ok.kind hk hn hm fin) hd
 ·rcases hk with hk | hk
  ·exact wpAny_Name (wpAny_loadName_cell I.ok.kind hk hc hcell fin) hd
  ·exact wpAny_Name (wpAny_loadName_free I.ok.kind hk hc hcell fin hcd) hd
theorem Xrs {i j pos}:PE X (.Constant (.int i) j pos) (tC (.int i)):=fun _ _ _ H _ I h=>wpAny_Constant_int ⟨.int i,H,I.tok _,⟨_,rfl⟩,h⟩
theorem pe_bl {b j pos}:PE X (.Constant (.bool b) j pos) (tC (.bl b)):=fun _ _ _ H _ I h=>Constant_bool ⟨.bl b,H,I,rfl,h⟩
theorem Xri {j pos}:PE X (.Constant .none j pos) (tC .non):=fun _ _ _ H _ I h=>Constant_none ⟨.non,H,I,rfl,h⟩
theorem Xtl {x j pos}:PE X (.Constant (.str x) j pos) (tC (.str x)):=fun _ _ _ H _ I h=>Calls.Constant_str ⟨.str x,H,I.tok _,⟨_,rfl⟩,h⟩
def Gl (X:Cx)(x:Str):Prop:=X.env.kindOf x=some .globalImplicit
theorem Xhm {E:Value→Shared→Prop}{pins:List (Addr×Obj)}{s:Shared}{σ:St}{H:Hp}{x:Str}{u:Value}{pos:Pos}{Q:Value→Shared→Prop}(I:Inv X pins σ H s)(hg:Gl X x)(hm:X.mg x=some u)(h:Q u s)
  (hd:(x==("__debug__":Str))=false:=by decide):wpAny (model X.prog X.w) X.A (eval (.Name x pos) X.env) Q E s:=
 Calls.Name_function_global I.ok.kind hg (Calls.loadGlobal_global (by rw [I.ok.glob];exact I.mod.glob.keeps I.bk) hm h) hd
theorem Zee {E:Value→Shared→Prop}{pins:List (Addr×Obj)}{s:Shared}{σ:St}{H:Hp}{x:Str}{u:Value}{pos:Pos}{Q:Value→Shared→Prop}(I:Inv X pins σ H s)(hg:Gl X x)(hm:X.mg x=none)(hv:bootBuiltins x=some u)(h:Q u s)
  (hn:x≠"__name__":=by decide) (hd:(x==("__debug__":Str))=false:=by decide):wpAny (model X.prog X.w) X.A (eval (.Name x pos) X.env) Q E s:=by
 obtain ⟨mb,h1,h2⟩:=I.mod.blt
 exact Calls.Name_function_global I.ok.kind hg (Calls.loadGlobal_builtin (by rw [I.ok.glob];exact I.mod.glob.keeps I.bk) hm (by rw [I.ok.blt];exact h1.keeps I.bk) ((h2 x hn).trans hv) h) hd
theorem Xiy {x:Str}{v:V}{u:Value}{pos:Pos}(hg:Gl X x)(hm:X.mg x=none)(hv:bootBuiltins x=some u)(r:RelV v u)(hn:x≠"__name__":=by decide)(hd:(x==("__debug__":Str))=false:=by decide):PE X (.Name x pos) (tC v):=
 fun _ _ _ H _ I h=>Zee I hg hm hv ⟨v,H,I,r,h⟩ hn hd
variable {a b:Expr}{ta tb:TE}{pos:Pos}
def tB (t:TE):TT:=fun σ H Q=>t σ H fun x H1=>∃c,x=.bl c∧Q c H1
theorem Xqj {e:Expr}{t:TE}(h:PE X e t)(he:∀whole,isTrue e X.env whole=(do let v ← whole;standAt e.pos;holding [v] (truthy v)):=by intro _;rfl):PT X e (tB t):=by
 intro pins s σ H Q I hw
 refine isTrue_plain (thn (h pins s σ H _ I hw) fun v s1 hz9=>?_) (he _)
 obtain ⟨x,H1,I1,r1,q1⟩:=hz9
 obtain ⟨d,rfl,q⟩:=q1
 cases r1
 exact wpAny_truthy_bool ⟨H1,I1,q⟩
variable {tA tB':TT}{rest:List Expr}
def tOr (t u:TT):TT:=fun σ H Q=>t σ H fun c H1=>if c=true then Q true H1 else u σ H1 Q
def tNot (t:TT):TT:=fun σ H Q=>t σ H fun c H1=>Q (!c) H1
theorem Xrj (ha:PT X a tA):PW X (.BoolOp .Or [a] pos) tA:=by
 intro wh pins s σ H Q I h
 refine isTrue_or (thn (ha pins s σ H Q I h) fun c s1 e=>?_)
 cases c with
 | false=>exact isTrue_or_nil e
 | true=>exact e
theorem pw_or (ha:PT X a tA)(hb:PW X (.BoolOp .Or (b::rest) pos) tB'):PW X (.BoolOp .Or (a::b::rest) pos) (tOr tA tB'):=by
 intro wh pins s σ H Q I h
 refine isTrue_or (thn (ha pins s σ H _ I h) fun c s1 ⟨H1,I1,q1⟩=>?_)
 cases c with
 | true=>exact ⟨H1,I1,q1⟩
 | false=>exact hb wh pins s1 σ H1 Q I1 q1
theorem Xro (ha:PT X a tA):PT X (.UnaryOp .Not a pos) (tNot tA):=by
 intro pins s σ H Q I h
 exact isTrue_not (ha pins s σ H (fun c H1=>Q (!c) H1) I h)
def Xbl (ta tb:TE):TE:=fun σ H Q=>ta σ H fun x H1=>∃c,x=.bl c∧if c=true then tb σ H1 Q else Q (.bl false) H1
def Xai (ta:TE):TE:=fun σ H Q=>ta σ H fun x H1=>∃c,x=.bl c∧Q (.bl (!c)) H1
theorem Xte {op}{t:TE}(h:PE X a t):PE X (.BoolOp op [a] pos) t:=fun pins s σ H Q I hw=>BoolOp_one (h pins s σ H Q I hw)
theorem Xtc (ha:PE X a ta)(hb:PE X (.BoolOp .And (b::rest) pos) tb):PE X (.BoolOp .And (a::b::rest) pos) (Xbl ta tb):=by
 intro pins s σ H Q I h
 refine BoolOp_and (thn (ha pins s σ H _ I h) fun v s1 hz9=>?_)
 obtain ⟨x,H1,I1,r1,q1⟩:=hz9
 obtain ⟨c,rfl,q1⟩:=q1
 cases r1
 refine wpAny_truthy_bool ?_
 cases c with
 | true=>exact hb pins s1 σ H1 Q I1 q1
 | false=>exact ⟨.bl false,H1,I1,rfl,q1⟩
theorem Xts (ha:PE X a ta):PE X (.UnaryOp .Not a pos) (Xai ta):=by
 intro pins s σ H Q I h
 refine UnaryOp_ (thn (ha pins s σ H _ I h) fun v s1 hz9=>?_)
 obtain ⟨x,H1,I1,r1,q1⟩:=hz9
 obtain ⟨c,rfl,q1⟩:=q1
 cases r1
 exact not_of (wpAny_truthy_bool ⟨.bl (!c),H1,I1,rfl,q1⟩)
end
def SqL (K:Frag)(H:Hp)(a:Addr)(xs:List V):Prop:=
 Rd H a (.lst xs)∨
  ∃(o:Obj) (its:Array Value) (n:Nat),K.lookup a=some o∧o.cls=.type "list"∧o.dict=none∧o.data=.seq its n∧its.size≤sizeLine∧Ys xs its.toList
def SqT (K:Frag)(H:Hp)(a:Addr)(xs:List V):Prop:=
 Rd H a (.tup xs)∨
  ∃(o:Obj) (its:Array Value) (n:Nat),K.lookup a=some o∧o.cls=.type "tuple"∧o.data=.seq its n∧its.size≤sizeLine∧Ys xs its.toList
noncomputable def absV:Value→Option V
 | .none=>some .non
 | .bool b=>some (.bl b)
 | .int i _=>some (.int i)
 | .str x _=>some (.str x)
 | .bytes b _=>some (.byt b)
 | .float b _=>some (.flt b)
 | .ref a=>some (.ref a)
 | .type n=>some (.ty n)
 | _=>none
theorem RelV.abs {x:V}{u:Value}(r:RelV x u):absV u=some x:=by
 cases x with
 | non=>cases r;rfl
 | bl _=>cases r;rfl
 | int _=>obtain ⟨t,rfl⟩:=r;rfl
 | str _=>obtain ⟨t,rfl⟩:=r;rfl
 | byt _=>obtain ⟨t,rfl⟩:=r;rfl
 | flt _=>obtain ⟨t,rfl⟩:=r;rfl
 | ref _=>cases r;rfl
 | ty _=>cases r;rfl
theorem RelV.inj {x y:V}{u:Value}(r:RelV x u)(q:RelV y u):x=y:=Option.some.inj (r.abs.symm.trans q.abs)
theorem Ys.inj:∀{xs ys:List V} {us:List Value},Ys xs us→Ys ys us→xs=ys
 | _,_,_,.nil,.nil=>rfl
 | _,_,_,.cons r t,.cons r' t'=>by rw [r.inj r',Ys.inj t t']
section
variable {X:Cx}{pins:List (Addr×Obj)}{σ:St}{H:Hp}{s:Shared}{a:Addr}{xs ys:List V}
theorem SqL.of {K:Frag}(h:H a=some (.lst xs)):SqL K H a xs:=.inl (.inl h)
theorem SqT.of {K:Frag}(h:H a=some (.tup xs)):SqT K H a xs:=.inl (.inl h)
theorem Inv.list (I:Inv X pins σ H s)(h:SqL X.K H a xs):∃its:List Value,Ys xs its∧PlainL s.heap a its.toArray∧xs.length≤sizeLine:=by
 rcases h with h | ⟨o,its,n,hk,hc,hd,hs,hz,r⟩
 ·obtain ⟨z,its,n,r,e⟩:=h.ok I.hok
  exact ⟨its,r,⟨_,n,e,rfl,rfl,rfl⟩,z⟩
 ·refine ⟨its.toList,r,⟨o,n,I.kIn a o hk,hc,hd,by simpa using hs⟩,?_⟩
  have e:=r.length
  simp only [length_toList] at e
  omega
theorem Inv.tuple (I:Inv X pins σ H s)(h:SqT X.K H a xs):∃its:List Value,Ys xs its∧IsTup s.heap a its.toArray∧xs.length≤sizeLine:=by
 rcases h with h | ⟨o,its,n,hk,hc,hs,hz,r⟩
 ·obtain ⟨z,its,r,p⟩:=h.ok I.hok
  exact ⟨its,r,p,z⟩
 ·refine ⟨its.toList,r,⟨o,I.kIn a o hk,hc,n,by simpa using hs⟩,?_⟩
  have e:=r.length
  simp only [length_toList] at e
  omega
theorem Inv.list_inj (I:Inv X pins σ H s)(h:SqL X.K H a xs)(h':SqL X.K H a ys):xs=ys:=by
 obtain ⟨its,r,⟨o,n,e,_,_,d⟩,_⟩:=I.list h
 obtain ⟨its',r',⟨o',n',e',_,_,d'⟩,_⟩:=I.list h'
 rw [e] at e';cases e'
 rw [d] at d'
 injection d' with d1 _
 have:its=its':=by simpa using congrArg Array.toList d1
 subst this
 exact r.inj r'
end
noncomputable abbrev Cx.wish (X:Cx)(E:Value→Shared→Prop):Cx:={X with xe:=E}
noncomputable abbrev Cx.nox (X:Cx):Cx:=X.wish fun _ _=>False
theorem Cx.Ok.wish {X:Cx}(ok:X.Ok)(E:Value→Shared→Prop):(X.wish E).Ok:=
 ⟨ok.mod,ok.kind,ok.glob,ok.blt,ok.above,ok.inj,ok.has,ok.cab,ok.hd,ok.frames,ok.stk,ok.exf,ok.bs,ok.bsz,ok.noex,ok.exfs,ok.funs,ok.frf⟩
theorem Cx.Ok.unwish {X:Cx}{E:Value→Shared→Prop}(ok:(X.wish E).Ok):X.Ok:=
 ⟨ok.mod,ok.kind,ok.glob,ok.blt,ok.above,ok.inj,ok.has,ok.cab,ok.hd,ok.frames,ok.stk,ok.exf,ok.bs,ok.bsz,ok.noex,ok.exfs,ok.funs,ok.frf⟩
section
variable {X:Cx}{pins:List (Addr×Obj)}{σ:St}{H:Hp}{s:Shared}{E:Value→Shared→Prop}
theorem Inv.wish (I:Inv X pins σ H s)(E:Value→Shared→Prop):Inv (X.wish E) pins σ H s:=⟨I.ok.wish E,I.os,I.bare,I.base,I.loc,I.cell,I.free,I.freeC,I.pin,I.hok,I.len⟩
theorem Inv.unwish (I:Inv (X.wish E) pins σ H s):Inv X pins σ H s:=⟨I.ok.unwish,I.os,I.bare,I.base,I.loc,I.cell,I.free,I.freeC,I.pin,I.hok,I.len⟩
theorem SP.unwish {D:Ends}{f:Flow}{s':Shared}(h:SP (X.wish E) pins D f s'):SP X pins D f s':=by
 cases f with
 | next=>obtain ⟨σ',H',I,q⟩:=h;exact ⟨σ',H',I.unwish,q⟩
 | brk=>obtain ⟨σ',H',I,q⟩:=h;exact ⟨σ',H',I.unwish,q⟩
 | cont=>obtain ⟨σ',H',I,q⟩:=h;exact ⟨σ',H',I.unwish,q⟩
 | ret u=>obtain ⟨v,σ',H',I,r,q⟩:=h;exact ⟨v,σ',H',I.unwish,r,q⟩
theorem PSs.nox {st:List Stmt}{t:TS}(h:PSs X.nox st t):PSs X st t:=fun pins s σ H D I hw =>
 wpAny_mono (h pins s σ H D (I.wish _) hw) (fun _ _ q=>q.unwish) fun _ _ z=>False.elim z
end
section
variable {X:Cx}{st:Stmt}{rest:List Stmt}{t u:TS}{e:Expr}{te:TE}{pos:Pos}
def Xdz:TS:=fun D σ H=>D.nx σ H
def tSeq (t u:TS):TS:=fun D σ H=>t {D with nx:=u D} σ H
theorem Xnd:PSs X [] Xdz:=fun _ _ σ H _ I h=>wpAny_execs_nil ⟨σ,H,I,h⟩
theorem Xax (h1:PS X st t)(h2:PSs X rest u):PSs X (st::rest) (tSeq t u):=by
 intro pins s σ H D I h
 refine wpAny_execs_cons (thn (h1 pins s σ H {D with nx:=u D} I h) fun f s1 q=>?_)
 cases f with
 | next =>
  obtain ⟨σ',H',I',q⟩:=q
  exact h2 pins s1 σ' H' D I' q
 | ret v=>exact q
 | brk=>exact q
 | cont=>exact q
theorem Xko (h1:PS X st t):PSs X [st] t:=by
 intro pins s σ H D I h
 refine wpAny_execs_cons (thn (h1 pins s σ H D I h) fun f s1 q=>?_)
 cases f with
 | next=>exact wpAny_execs_nil q
 | ret v=>exact q
 | brk=>exact q
 | cont=>exact q
theorem Inv.quiet {pins:List (Addr×Obj)}{σ:St}{H:Hp}{s:Shared}(I:Inv X pins σ H s):interactive X.env=false:=by simp [interactive,I.ok.kind]
def Znn (te:TE):TS:=fun D σ H=>te σ H fun _ H1=>D.nx σ H1
theorem Xmq (he:PE X e te)(hs:swapsWith e none pos.line X.env=pure false:=by rfl):PS X (.Expr e pos) (Znn te):=by
 intro pins s σ H D I h
 exact wpAny_Expr_any (thn (he pins s σ H _ I h) fun v s1 ⟨x,H1,I1,r1,q1⟩=>⟨σ,H1,I1,q1⟩) I.quiet hs
def tRet (te:TE):TS:=fun D σ H=>te σ H D.rt
theorem Xof (he:PE X e te):PS X (.Return (some e) pos) (tRet te):=by
 intro pins s σ H D I h
 exact wpAny_Return_some (thn (he pins s σ H _ I h) fun v s1 ⟨x,H1,I1,r1,q1⟩=>⟨x,σ,H1,I1,r1,q1⟩)
def tIfS (c:TT)(t u:TS):TS:=fun D σ H=>c σ H fun b H1=>if b=true then t D σ H1 else u D σ H1
theorem ps_if {c:Expr}{a b:List Stmt}{tc:TT}(hc:PT X c tc)(ha:PSs X a t)(hb:PSs X b u):PS X (.If c a b pos) (tIfS tc t u):=by
 intro pins s σ H D I h
 refine wpAny_If (thn (hc pins s σ H _ I h) fun d s1 ⟨H1,I1,q1⟩=>?_)
 cases d with
 | true=>exact ha pins s1 σ H1 D I1 q1
 | false=>exact hb pins s1 σ H1 D I1 q1
def Zsl:TS:=fun _ _ _=>False
theorem Xfc:PS X st Zsl:=fun _ _ _ _ _ _ h=>h.elim
end
noncomputable abbrev TG:=V→St→Hp→(St→Hp→Prop)→Prop
noncomputable abbrev TGs:=List V→St→Hp→(St→Hp→Prop)→Prop
def PG (X:Cx)(target:Expr)(t:TG):Prop:=
 ∀(pins:List (Addr×Obj)) (s:Shared) (σ:St) (H:Hp) (v:V) (u:Value) (Q:St→Hp→Prop),Inv X pins σ H s→RelV v u→t v σ H Q→
  wpAny (model X.prog X.w) X.A (assign target X.env u) (fun _ s'=>∃σ' H',Inv X pins σ' H' s'∧Q σ' H') X.xe s
def PGs (X:Cx)(ts:List Expr)(t:TGs):Prop:=
 ∀(pins:List (Addr×Obj)) (s:Shared) (σ:St) (H:Hp) (vs:List V) (us:List Value) (Q:St→Hp→Prop),Inv X pins σ H s→Ys vs us→t vs σ H Q→
  wpAny (model X.prog X.w) X.A (assignInOrder ((assignEach ts X.env).map (·.2)) us) (fun _ s'=>∃σ' H',Inv X pins σ' H' s'∧Q σ' H') X.xe s
noncomputable abbrev TSet:=V→V→V→Hp→(Hp→Prop)→Prop
def PSet (X:Cx)(t:TSet):Prop:=
 ∀(pins:List (Addr×Obj)) (s:Shared) (σ:St) (H:Hp) (o i v:V) (ov iv u:Value) (Q:Hp→Prop),Inv X pins σ H s→RelV o ov→RelV i iv→RelV v u→t o i v H Q→
  wpAny (model X.prog X.w) X.A (setItem ov iv u) (fun _ s'=>∃H',Inv X pins σ H' s'∧Q H') X.xe s
noncomputable abbrev TIp:=V→V→Hp→VK→Prop
def PIp (X:Cx)(op:Operator)(t:TIp):Prop:=
 ∀(pins:List (Addr×Obj)) (s:Shared) (σ:St) (H:Hp) (x y:V) (v u:Value) (Q:VK),Inv X pins σ H s→RelV x v→RelV y u→t x y H Q→
  wpAny (model X.prog X.w) X.A (inplaceOp op v u) (EP X pins σ Q) X.xe s
section
variable {X:Cx}{pos:Pos}
noncomputable def Zdh (i:Nat):TG:=fun v σ H Q=>Q (σ.set i (some v)) H
theorem Xhn {i:Nat}{x:Str}(hN:X.N.Nodup)(hi:X.N[i]?=some x)(hx:Loc X.env.scope x)(hf:autoParam (X.fn x=true∨X.env.scope.names.lookup x=some .local) aT0._auto_1):PG X (.Name x pos) (Zdh i):=by
 intro pins s σ H v u Q I r h
 exact wpAny_assign_Name (Zkp I hN hi hx r (fun s' I'=>⟨_,H,I',h⟩) hf)
noncomputable def Xnl:TGs:=fun vs σ H Q=>vs=[]∧Q σ H
noncomputable def Ztj (t:TG)(u:TGs):TGs:=fun vs σ H Q=>∃v r,vs=v::r∧t v σ H fun σ' H'=>u r σ' H' Q
theorem Xnj:PGs X [] Xnl:=by
 intro pins s σ H vs us Q I r h
 obtain ⟨e,h⟩:=h
 subst e
 cases r
 exact assignInOrder_nil ⟨σ,H,I,h⟩
theorem Xey {e:Expr}{es:List Expr}{t:TG}{u:TGs}(h1:PG X e t)(h2:PGs X es u)
  (hs:(assignEach (e::es) X.env).map (·.2)=assign e X.env::(assignEach es X.env).map (·.2):=by rfl):PGs X (e::es) (Ztj t u):=by
 intro pins s σ H vs us Q I r h
 obtain ⟨v,vr,e1,h⟩:=h
 subst e1
 cases r with
 | cons r rr =>
  rw [hs]
  refine assignInOrder_cons (thn (h1 pins s σ H _ _ _ I r h) fun _ s1 hz9=>?_)
  obtain ⟨σ1,H1,I1,q1⟩:=hz9
  exact h2 pins s1 σ1 H1 _ _ Q I1 rr q1
noncomputable def Zhb (K:Frag)(n:Nat)(t:TGs):TG:=fun v σ H Q=>∃a xs,v=.ref a∧SqT K H a xs∧xs.length=n∧t xs σ H Q
theorem Xpf {es:List Expr}{k:Nat}{t:TGs}{n:Nat}(hc:X.calm=true)(h:PGs X es t)
  (hn:(assignEach es X.env).length=n:=by rfl) (hst:(assignEach es X.env).findIdx? (·.1)=none:=by rfl):PG X (.Tuple es k pos) (Zhb X.K n t):=by
 intro pins s σ H v u Q I r hw
 obtain ⟨a,xs,e1,hq,hl,hw⟩:=hw
 subst e1
 cases r
 obtain ⟨its,rv,ht,hz⟩:=I.tuple hq
 refine assign_Tuple_tuple (I.ok.hd hc) ht (by simp [hn,← hl,rv.length]) hst fun h' hx=>?_
 have I1:Inv X pins σ H {s with heap:=h'}:=I.kept (t':=s.toks) fun b o e=>hx b o (ne_of_lt (lt_size e)) e
 exact h pins _ σ H xs _ Q I1 (by simpa using rv) hw
noncomputable def Zgm (to ti:TE)(t:TSet):TG:=fun v σ H Q=>to σ H fun o H1=>ti σ H1 fun i H2=>t o i v H2 fun H3=>Q σ H3
theorem Xob {o i:Expr}{to ti:TE}{t:TSet}(ho:PE X o to)(hi:PE X i ti)(hs:PSet X t)
    (ha:∀v,assign (.Subscript o i pos) X.env v=(do
      let ov ← holding [v] (eval o X.env)
      let iv ← holding [v,ov] (eval i X.env)
      standAt pos
      holding [v,ov,iv] (setItem ov iv v)
      release [v,ov,iv] []):=by intro _;rfl):PG X (.Subscript o i pos) (Zgm to ti t):=by
  intro pins s σ H v u Q I r h
  rw [ha]
  refine wpAny_bind (wpAny_holding (thn (ho pins s σ H _ I h) fun ov s1 hz9=>?_))
  obtain ⟨x,H1,I1,r1,q1⟩:=hz9
  refine wpAny_bind (wpAny_holding (thn (hi pins s1 σ H1 _ I1 q1) fun iv s2 hz9=>?_))
  obtain ⟨y,H2,I2,r2,q2⟩:=hz9
  refine wpAny_bind (wpAny_standAt (wpAny_bind (wpAny_holding (thn (hs pins s2 σ H2 x y v ov iv u _ I2 r1 r2 r q2) fun _ s3 ⟨H3,I3,q3⟩=>?_))))
  exact wpAny_release ⟨σ,H3,I3,q3⟩
def Zth (te:TE)(g:TG):TS:=fun D σ H=>te σ H fun x H1=>g x σ H1 D.nx
theorem Xpj {tg e:Expr}{te:TE}{g:TG}(he:PE X e te)(hg:PG X tg g)(hs:swapsWithSole [tg] e pos.line X.env=pure false:=by rfl)(hw:swappedStores [tg] e X.env=pure none:=by rfl)
  (h1:(assignEach [tg] X.env).map (·.2)=[assign tg X.env]:=by rfl):PS X (.Assign [tg] e pos) (Zth te g):=by
 intro pins s σ H D I h
 refine wpAny_Assign_stores (thn (he pins s σ H _ I h) fun v s1 hz9=>?_) hs hw
 obtain ⟨x,H1,I1,r1,q1⟩:=hz9
 rw [h1]
 exact thn (hg pins s1 σ H1 x v _ I1 r1 q1) fun _ s2 q=>q
theorem Xra {i:Nat}{x:Str}{e:Expr}{te:TE}{pos':Pos}(hN:X.N.Nodup)(hi:X.N[i]?=some x)(hx:Loc X.env.scope x)(he:PE X e te)(hs:swapsWith e (some (.Name x pos')) pos.line X.env=pure false:=by rfl)(hf:autoParam (X.fn x=true∨X.env.scope.names.lookup x=some .local) aT0._auto_1) :
  PS X (.Assign [.Name x pos'] e pos) (Zth te (Zdh i)):=by
 intro pins s σ H D I h
 refine wpAny_Assign_Name (thn (he pins s σ H _ I h) fun v s1 hz9=>?_) hs
 obtain ⟨y,H1,I1,r1,q1⟩:=hz9
 exact Zkp I1 hN hi hx r1 (fun s2 I2=>⟨_,H1,I2,q1⟩) hf
def tAug (i:Nat)(te:TE)(ti:TIp):TS:=fun D σ H=>∃x,σ[i]?=some (some x)∧te σ H fun y H1=>ti x y H1 fun z H2=>D.nx (σ.set i (some z)) H2
theorem Xsd {i:Nat}{x:Str}{e:Expr}{te:TE}{op:Operator}{ti:TIp}{pos':Pos}(hN:X.N.Nodup)(hi:X.N[i]?=some x)(hx:Loc X.env.scope x)(he:PE X e te)(ho:PIp X op ti)(hf:autoParam (X.fn x=true∨X.env.scope.names.lookup x=some .local) aT0._auto_1) :
  PS X (.AugAssign (.Name x pos') op e pos) (tAug i te ti):=by
 intro pins s σ H D I h
 obtain ⟨v,e1,h⟩:=h
 obtain ⟨m,hn,hl⟩:=I.loc
 have vis:Vis X.env.scope x:=by rcases hx with k | k;exact .inl k;exact .inr (.inl k)
 obtain ⟨u,r,l⟩:=hl i x v hi e1 vis
 refine wpAny_AugAssign_Name ?_
 have go:wpAny (model X.prog X.w) X.A (eval e X.env) (fun w s₂=>wpAny (model X.prog X.w) X.A (inplaceOp op u w) (fun r s₃=>wpAny (model X.prog X.w) X.A (storeName X.env x r) (fun _=>SP X pins D .next) X.xe s₃) X.xe s₂) X.xe s:=by
  refine thn (he pins s σ H _ I h) fun w s1 hz9=>?_
  obtain ⟨y,H1,I1,r1,q1⟩:=hz9
  refine thn (ho pins s1 σ H1 v y u w _ I1 r r1 q1) fun z s2 hz9=>?_
  obtain ⟨zv,H2,I2,r2,q2⟩:=hz9
  exact Zkp I2 hN hi hx r2 (fun s3 I3=>⟨_,H2,I3,q2⟩) hf
 rcases l with ⟨hk,hm⟩ | ⟨hk,c,hc,hcell⟩
 ·exact wpAny_loadName_local I.ok.kind hk hn hm go
 ·rcases hk with hk | hk
  ·exact wpAny_loadName_cell I.ok.kind hk hc hcell go
  ·rcases hx with k | k
   ·have:X.env.scope.names.lookup x=some .free:=hk
    rw [k] at this;cases this
   ·have:X.env.scope.names.lookup x=some .free:=hk
    rw [k] at this;cases this
noncomputable def ipI (f:Int→Int→Int):TIp:=fun x y H Q=>∃i j,x=.int i∧y=.int j∧Q (.int (f i j)) H
theorem Xgy:PIp X .Sub (ipI fun i j=>i - j):=by
 intro pins s σ H x y v u Q I r1 r2 h
 obtain ⟨i,j,e1,e2,q⟩:=h
 subst e1;subst e2
 obtain ⟨t,rfl⟩:=r1
 obtain ⟨t',rfl⟩:=r2
 exact isub_int ⟨.int _,H,I.tok _,⟨_,rfl⟩,q⟩
def Zsn (c:TT)(tb:TS):TS:=fun D σ H=>∃W:Nat→St→Hp→Prop,(∃m,W m σ H)∧∀m σ H,W m σ H→
 c σ H fun b H1=>if b=true then ∃N:St→Hp→Prop,(∀σ' H',N σ' H'→∃m',m'<m∧W m' σ' H')∧tb {D with nx:=N,ct:=N,bk:=D.nx} σ H1 else D.nx σ H1
theorem Xen {c:Expr}{body:List Stmt}{tc:TT}{tb:TS}(hp:PassesOwn (model X.prog X.w) X.A X.env X.xe)(hc:PT X c tc)(hb:PSs X body tb):PS X (.While c body [] pos) (Zsn tc tb):=by
 intro pins s σ H D I h
 obtain ⟨W,⟨m0,w0⟩,turn⟩:=h
 refine wpAny_While (codeAny_whileLoop (fun n s'=>∃σ' H',Inv X pins σ' H' s'∧W n σ' H') ?_ m0 ⟨σ,H,I,w0⟩)
 rintro n s1 ⟨σ1,H1,I1,w1⟩
 refine wpAny_passesOwn hp (thn (hc pins s1 σ1 H1 _ I1 (turn n σ1 H1 w1)) fun b s2 ⟨H2,I2,q2⟩=>?_)
 cases b with
 | true =>
  obtain ⟨N,hN,q2⟩:=q2
  rw [if_pos rfl]
  refine wpAny_passesOwn hp (thn (hb pins s2 σ1 H2 _ I2 q2) fun f s3 q3=>?_)
  cases f with
  | next =>
   obtain ⟨σ3,H3,I3,n3⟩:=q3
   obtain ⟨m',hm,w3⟩:=hN σ3 H3 n3
   exact ⟨m',hm,σ3,H3,I3,w3⟩
  | cont =>
   obtain ⟨σ3,H3,I3,n3⟩:=q3
   obtain ⟨m',hm,w3⟩:=hN σ3 H3 n3
   exact ⟨m',hm,σ3,H3,I3,w3⟩
  | brk=>exact q3
  | ret v=>exact q3
 | false =>
  rw [if_neg Bool.false_ne_true]
  exact wpAny_execs_nil ⟨σ1,H2,I2,q2⟩
end
structure It where
 go:Nat→Hp→Prop
 yld:Nat→Hp→V→Hp→Prop
 stop:Nat→Hp→Prop
def Zyr (X:Cx)(pins:List (Addr×Obj))(H:Hp)(b:Addr):Prop:=
 H b=none∧b≠X.env.locals∧b∉X.fs∧(b∈X.ex∨X.s₀.heap.objs.size≤b)∧(∀x c,X.env.cells.lookup x=some c→c≠b)∧∀p∈X.pn++pins,p.1≠b
theorem Inv.fpOk {X:Cx}{pins:List (Addr×Obj)}{σ:St}{H H':Hp}{s:Shared}{b:Addr}(I:Inv X pins σ H s)(hb:s.heap.objs.size≤b)(hn:H' b=none):Zyr X pins H' b:=by
 refine ⟨hn,Nat.ne_of_gt (lt_of_lt_of_le I.lt hb),I.nofs hb,.inr (le_trans I.sz hb),fun x c e z=>?_,fun p hp z=>?_⟩
 ·obtain ⟨v,q⟩:=I.cell x c e
  exact absurd (lt_of_lt_of_le q.lt (by rw [z];exact hb)) (lt_irrefl _)
 ·exact absurd (lt_of_lt_of_le (lt_size (I.pin p hp).1) (by rw [z];exact hb)) (lt_irrefl _)
structure Turn (P:Program)(w:World)(K:Frag)(tg:Expr)(J:It)(fp:List Addr)(it:Addr)(tn:Nat→Heap→Prop):Prop where
  mem:it∈fp
  obj:∀i h,tn i h→∀b∈fp,∃o,h.get? b=some o∧∀v,o.data≠.cell v
  keep:∀i h h',tn i h→(∀b∈fp,∀o,h.get? b=some o→h'.get? b=some o)→tn i h'
  item:∀(X:Cx),X.prog=P→X.w=w→X.K=K→X.calm=true→∀(i:Nat) (pins:List (Addr×Obj)) (s:Shared) (σ:St) (H:Hp) (E:Value→Shared→Prop),Inv X pins σ H s→(∀b∈fp,Zyr X pins H b)→tn i s.heap→J.go i H→
    wpAny (model P w) X.A (pyNext (.ref it)) (fun r s1=>∃u,r=some u∧
      wpAny (model P w) X.A (letOwnedTupleGo tg (.ref it) u) (fun _ s2=>∃x H',Inv X pins σ H' s2∧RelV x u∧J.yld i H x H'∧tn (i+1) s2.heap∧∀b∈fp,H' b=none) E s1) E s
  done:∀(X:Cx),X.prog=P→X.w=w→X.K=K→X.calm=true→∀(i:Nat) (pins:List (Addr×Obj)) (s:Shared) (σ:St) (H:Hp) (E:Value→Shared→Prop),Inv X pins σ H s→(∀b∈fp,Zyr X pins H b)→tn i s.heap→J.stop i H→
    wpAny (model P w) X.A (pyNext (.ref it)) (fun r s1=>r=none∧Inv X pins σ H s1) E s
  self:∀(A:Around) (i:Nat) (s:Shared) (Q:Value→Shared→Prop) (E:Value→Shared→Prop),tn i s.heap→Q (.ref it) s→wpAny (model P w) A (pyIter (.ref it)) Q E s
noncomputable abbrev TI:=St→Hp→(It→Hp→Prop)→Prop
def PIE (X:Cx)(pins:List (Addr×Obj))(σ:St)(tg:Expr)(R:It→Hp→Prop)(itv:Value)(s2:Shared):Prop:=
 ∃(it:Addr) (fp:List Addr) (tn:Nat→Heap→Prop) (J:It) (H':Hp),itv=.ref it∧Inv X pins σ H' s2∧Turn X.prog X.w X.K tg J fp it tn∧tn 0 s2.heap∧(∀b∈fp,Zyr X pins H' b)∧R J H'
def PI (X:Cx)(tg iter:Expr)(wi:TI):Prop:=
 ∀(pins:List (Addr×Obj)) (s:Shared) (σ:St) (H:Hp) (R:It→Hp→Prop),Inv X pins σ H s→wi σ H R→
  wpAny (model X.prog X.w) X.A (eval iter X.env) (fun v s1=>wpAny (model X.prog X.w) X.A (pyIter v) (PIE X pins σ tg R) X.xe s1) X.xe s
theorem Xbz {M:Model}{A:Around}{E:Value→Shared→Prop}{s:Shared}{tg:Expr}{it:Addr}{u:Value}{o:Obj}{n:String}{vs:Array Value}{Q:Unit→Shared→Prop}(ho:s.heap.get? it=some o)(hc:o.cls=.type n)(hd:o.data=.fields vs)
    (hn:["enumerate","zip","dict_itemiterator","dict_reverseitemiterator","odict_iterator","itertools.zip_longest","itertools.pairwise"].contains n=false) (hQ:Q () s):wpAny M A (letOwnedTupleGo tg (.ref it) u) Q E s:=by
  unfold letOwnedTupleGo
  cases tg<;>first
    | exact wpAny_pure hQ
    | (cases u<;>first
        | exact wpAny_pure hQ
        | (refine wpAny_bind (wpAny_load ho ?_)
           rw [hc,hd]
           show wpAny M A (if (["enumerate","zip","dict_itemiterator","dict_reverseitemiterator","odict_iterator","itertools.zip_longest","itertools.pairwise"].contains n&&vs[0]?==some (rawInt _))=true then _ else _) Q E s
           rw [if_neg (by intro h;rw [hn,Bool.false_and] at h;cases h)]
           exact wpAny_pure hQ))
noncomputable def Itl (K:Frag)(a:Addr):It:=
 ⟨fun i H=>∃xs x,SqL K H a xs∧xs[i]?=some x,fun i H x H'=>H'=H∧∀xs,SqL K H a xs→xs[i]?=some x,fun i H=>∃xs,SqL K H a xs∧xs.length≤i⟩
noncomputable def Itr (lo:Int)(n:Nat):It:=⟨fun i _=>i<n,fun i H x H'=>H'=H∧x=.int (lo+i),fun i _=>n≤i⟩
theorem Zxc {P:Program}{w:World}{K:Frag}{tg:Expr}(a it:Addr):Turn P w K tg (Itl K a) [it] it (fun i h=>h.IsListIter it a i) where
 mem:=by simp
 obj:=fun i h st b hb=>by
  have e:b=it:=by simpa using hb
  subst e
  obtain ⟨o,e,c,d⟩:=st
  exact ⟨o,e,fun v z=>by rw [d] at z;cases z⟩
 keep:=fun i h h' st k=>st.at fun o e=>k it (by simp) o e
 item:=by
  intro X hP hw hK hc i pins s σ H E I hf st hg
  subst hP hw hK
  obtain ⟨xs,x,hq,hx⟩:=hg
  obtain ⟨its,rv,p,hz⟩:=I.list hq
  obtain ⟨u,hu,ru⟩:=rv.get hx
  obtain ⟨f0,f1,f2,f3,f4,f5⟩:=hf it (by simp)
  refine wpAny_pyNext_list_item st p.isList (x:=u) (by simpa using hu) fun h' st' sb=>?_
  have I1:Inv X pins σ H {s with heap:=h'}:=I.turned (t':=s.toks) (fun b o hb e=>(sb.2 b hb).trans e) f0 f1 f3 f4 f5
  obtain ⟨o,e,c,d⟩:=id st'
  exact ⟨u,rfl,Xbz (s:={s with heap:=h'}) e c d (by decide) ⟨x,H,I1,ru,⟨rfl,fun ys hy=>by rw [I.list_inj hy hq];exact hx⟩,st',fun b hb=>(hf b hb).1⟩⟩
 done:=by
  intro X hP hw hK hc i pins s σ H E I hf st hg
  subst hP hw hK
  obtain ⟨xs,hq,hx⟩:=hg
  obtain ⟨its,rv,p,hz⟩:=I.list hq
  obtain ⟨f0,f1,f2,f3,f4,f5⟩:=hf it (by simp)
  have hl:=rv.length
  exact wpAny_pyNext_list_end (I.ok.hd hc) st p.isList (by simp;omega) fun h' eb=>⟨rfl,I.turned (t':=s.toks) (fun b o hb e=>eb b o hb e) f0 f1 f3 f4 f5⟩
 self:=fun _ _ _ _ _ st h=>wpAny_pyIter_listiter st h
theorem Zti {P:Program}{w:World}{K:Frag}{tg:Expr}(it:Addr)(lo:Int)(n:Nat):Turn P w K tg (Itr lo n) [it] it (fun i h=>IsRangeIter h it (lo+(i:Nat)*1) ((n:Int) - (i:Nat)) 1) where
  mem:=by simp
  obj:=fun i h st b hb=>by
    have e:b=it:=by simpa using hb
    subst e
    exact ⟨_,st,fun v z=>by
      have z':Data.fields _=Data.cell v:=z
      cases z'⟩
  keep:=fun i h h' st k=>k it (by simp) _ st
  item:=by
    intro X hP hw hK hc i pins s σ H E I hf st hg
    subst hP hw hK
    obtain ⟨f0,f1,f2,f3,f4,f5⟩:=hf it (by simp)
    have W:=Walks.range (prog:=X.prog) (w:=X.w) (I.ok.hd hc) it lo 1 n
    refine W.item i s _ _ hg st fun v h' tk hv st' kk=>?_
    obtain ⟨t,rfl⟩:=hv
    have I1:Inv X pins σ H {s with heap:=h',toks:=tk}:=I.turned (fun b o hb e=>kk b o (by simpa using hb) e) f0 f1 f3 f4 f5
    refine ⟨_,rfl,Xbz (s:={s with heap:=h',toks:=tk}) (n:="range_iterator") st' rfl rfl (by decide) ⟨.int (lo+i),H,I1,⟨t,?_⟩,⟨rfl,rfl⟩,st',fun b hb=>(hf b hb).1⟩⟩
    rw [Int.mul_one]
  done:=by
    intro X hP hw hK hc i pins s σ H E I hf st hg
    subst hP hw hK
    obtain ⟨f0,f1,f2,f3,f4,f5⟩:=hf it (by simp)
    exact wpAny_pyNext_range_end (I.ok.hd hc) st (by have:n≤i:=hg;omega) fun h' eb=>⟨rfl,I.turned (t':=s.toks) (fun b o hb e=>eb b o hb e) f0 f1 f3 f4 f5⟩
  self:=fun _ _ _ _ _ st h=>wpAny_pyIter_rangeiter st h
section
variable {X:Cx}{tg:Expr}
noncomputable def Xbo (K:Frag)(tl:TE):TI:=fun σ H R=>tl σ H fun x H1=>∃a,x=.ref a∧(∃xs,SqL K H1 a xs)∧R (Itl K a) H1
theorem Xlp {l:Expr}{tl:TE}(hl:PE X l tl):PI X tg l (Xbo X.K tl):=by
 intro pins s σ H R I h
 refine thn (hl pins s σ H _ I h) fun v s1 hz9=>?_
 obtain ⟨x,H1,I1,r1,q1⟩:=hz9
 obtain ⟨a,e,⟨xs,hq⟩,q⟩:=q1
 subst e
 cases r1
 obtain ⟨its,rv,p,hz⟩:=I1.list hq
 refine wpAny_pyIter_list p.isList ?_
 refine ⟨s1.heap.objs.size,[s1.heap.objs.size],_,_,H1,rfl,I1.kept (t':=s1.toks) fun b o e=>get?_push_of_some _ e,Zxc a _,⟨_,get?_push_size _ rfl,rfl,rfl⟩,fun b hb=>?_,q⟩
 have e:b=s1.heap.objs.size:=by simpa using hb
 subst e
 exact I1.fpOk (le_refl _) (I1.hok.fresh (le_refl _))
theorem Zrd {pins:List (Addr×Obj)}{σ:St}{H:Hp}{s:Shared}{R:It→Hp→Prop}{E:Value→Shared→Prop}{lo hi:Int}{t u v:Tok}{tk:Nat}(I:Inv X pins σ H s)(h1:-(2 ^ 62)≤lo)(h2:lo<2 ^ 62)(h3:-(2 ^ 62)≤hi)(h4:hi<2 ^ 62)
    (q:R (Itr lo (hi - lo).toNat) H):wpAny (model X.prog X.w) X.A (pyIter (.ref s.heap.objs.size)) (PIE X pins σ tg R) E {s with heap:=s.heap.push {cls:=.type "range",data:=.fields #[.int lo t,.int hi u,.int 1 v]},toks:=tk}:=by
  refine wpAny_pyIter_range (IsRange.new ..) (small_one h1 h2 h3 h4) ?_
  have I1:Inv X pins σ H {s with heap:=s.heap.push {cls:=.type "range",data:=.fields #[.int lo t,.int hi u,.int 1 v]},toks:=tk}:=I.kept fun b o e=>get?_push_of_some _ e
  refine ⟨(s.heap.push {cls:=.type "range",data:=.fields #[.int lo t,.int hi u,.int 1 v]}).objs.size,[(s.heap.push {cls:=.type "range",data:=.fields #[.int lo t,.int hi u,.int 1 v]}).objs.size],_,_,H,rfl,
    I1.kept (t':=tk) fun b o e=>get?_push_of_some _ e,Zti _ lo (hi - lo).toNat,?_,fun b hb=>?_,q⟩
  · have e1:lo+((0:Nat):Int)*1=lo:=by simp
    have e2:(((hi - lo).toNat:Nat):Int) - ((0:Nat):Int)=Builtin.Range.rangeSize lo hi 1:=by rw [rangeSize_one];split<;>omega
    show IsRangeIter _ _ (lo+((0:Nat):Int)*1) ((((hi - lo).toNat:Nat):Int) - ((0:Nat):Int)) 1
    rw [e1,e2]
    exact get?_push_size _ rfl
  · have e:b=(s.heap.push {cls:=.type "range",data:=.fields #[.int lo t,.int hi u,.int 1 v]}).objs.size:=by simpa using hb
    subst e
    exact I1.fpOk (le_refl _) (I1.hok.fresh (le_refl _))
noncomputable def Xfg (ta:TA):TI:=fun σ H R=>ta σ H fun vs H1=>∃j:Int,vs=[.int j]∧-(2 ^ 62)≤j∧j<2 ^ 62∧R (Itr 0 j.toNat) H1
noncomputable def Xfi (ta:TA):TI:=fun σ H R=>ta σ H fun vs H1=>∃i j:Int,vs=[.int i,.int j]∧(-(2 ^ 62)≤i∧i<2 ^ 62∧-(2 ^ 62)≤j∧j<2 ^ 62)∧R (Itr i (j - i).toNat) H1
theorem Zxh {a:Expr}{ta:TA}{p pos:Pos}(hg:Gl X "range")(hm:X.mg "range"=none)(ha:PA X [a] ta)(hs:starEach [a] X.env=[(false,eval a X.env)]:=by rfl):PI X tg (.Call (.Name "range" p) [a] [] pos) (Xfg ta):=by
 intro pins s σ H R I h
 refine Call_ (Zee I hg hm boot_range (PyProof.Rows.callWith_type1 (thn (ha pos pins s σ H _ I h) fun us s1 hz9=>?_) hs rfl))
 obtain ⟨vs,H1,I1,r1,q1⟩:=hz9
 obtain ⟨j,e,q1,q2,q⟩:=q1
 subst e
 cases r1 with
 | cons r rr =>
  cases rr
  obtain ⟨t,rfl⟩:=r
  exact call_range_1 (Zrd I1 (by omega) (by omega) q1 q2 (by simpa using q))
theorem Zvl {a b:Expr}{ta:TA}{p pos:Pos}(hg:Gl X "range")(hm:X.mg "range"=none)(ha:PA X [a,b] ta)(hs:starEach [a,b] X.env=[(false,eval a X.env),(false,eval b X.env)]:=by rfl)(hs2:starEach [b] X.env=[(false,eval b X.env)]:=by rfl) :
  PI X tg (.Call (.Name "range" p) [a,b] [] pos) (Xfi ta):=by
 intro pins s σ H R I h
 refine Call_ (Zee I hg hm boot_range (PyProof.Rows.callWith_type1 (thn (ha pos pins s σ H _ I h) fun us s1 hz9=>?_) (by rw [hs,hs2]) (by rw [hs2];rfl)))
 obtain ⟨vs,H1,I1,r1,q1⟩:=hz9
 obtain ⟨i,j,e,⟨q1,q2,q3,q4⟩,q⟩:=q1
 subst e
 cases r1 with
 | cons r rr =>
  cases rr with
  | cons r' rr =>
   cases rr
   obtain ⟨t,rfl⟩:=r
   obtain ⟨t',rfl⟩:=r'
   exact call_range_2 (Zrd I1 q1 q2 q3 q4 q)
def tFor (wi:TI)(g:TG)(tb:TS):TS:=fun D σ H=>wi σ H fun J H1=>∃W:Nat→Nat→St→Hp→Prop,(∃m,W 0 m σ H1)∧∀i m σ H,W i m σ H→
 (J.stop i H∧D.nx σ H)∨(J.go i H∧∃N:St→Hp→Prop,(∀σ' H',N σ' H'→∃m',m'<m∧W (i+1) m' σ' H')∧∀x H',J.yld i H x H'→g x σ H' fun σ2 H2=>tb {D with nx:=N,ct:=N,bk:=D.nx} σ2 H2)
noncomputable def Zns (fp:List Addr)(h:Heap):List (Addr×Obj):=fp.filterMap fun b=>(h.get? b).map fun o=>(b,o)
theorem Zdd {fp:List Addr}{h:Heap}{b:Addr}{o:Obj}(hb:b∈fp)(e:h.get? b=some o):(b,o)∈Zns fp h:=List.mem_filterMap.mpr ⟨b,hb,by rw [e];rfl⟩
theorem Zvv {fp:List Addr}{h:Heap}{p:Addr×Obj}(hp:p∈Zns fp h):p.1∈fp∧h.get? p.1=some p.2:=by
 obtain ⟨b,hb,e⟩:=List.mem_filterMap.mp hp
 cases q:h.get? b with
 | none=>rw [q] at e;cases e
 | some o =>
  rw [q] at e
  have e':(b,o)=p:=Option.some.inj e
  subst e'
  exact ⟨hb,q⟩
theorem Inv.pinned {pins:List (Addr×Obj)}{σ:St}{H:Hp}{s:Shared}{fp:List Addr}(I:Inv X pins σ H s)(hf:∀b∈fp,Zyr X pins H b)(ho:∀b∈fp,∃o,s.heap.get? b=some o∧∀v,o.data≠.cell v):Inv X (pins++Zns fp s.heap) σ H s:=
 I.pins_of fun p hp=>(List.mem_append.mp hp).elim (fun z=>I.pin p (mem_append_right _ z)) fun z=>by
  obtain ⟨hb,e⟩:=Zvv z
  obtain ⟨f0,f1,f2,_⟩:=hf p.1 hb
  obtain ⟨o,e',d⟩:=ho p.1 hb
  rw [e] at e';cases e'
  exact ⟨e,f0,f1,f2,d⟩
theorem Inv.unpinned {pins pl:List (Addr×Obj)}{σ:St}{H:Hp}{s:Shared}(I:Inv X (pins++pl) σ H s):Inv X pins σ H s:=I.pins_of fun p hp=>I.pin p (mem_append_right _ (mem_append_left _ hp))
theorem Xqm {iter:Expr}{body:List Stmt}{wi:TI}{g:TG}{tb:TS}{pos:Pos}(hp:PassesOwn (model X.prog X.w) X.A X.env X.xe)(hc:X.calm=true)(hi:PI X tg iter wi)(hg:PG X tg g)(hb:PSs X body tb)
  (hs:∀x,foldedSetIterable iter X.env x=pure x:=by intro _;rfl):PS X (.For tg iter body [] pos) (tFor wi g tb):=by
 intro pins s σ H D I h
 refine wpAny_For (thn (hi pins s σ H _ I h) fun v s1 h1=>thn h1 fun itv s2 h2=>?_) hs
 obtain ⟨it,fp,tn,J,H2,e,I2,T,st2,f2,W,⟨m0,w0⟩,turn⟩:=h2
 subst e
 have stat:∀{H':Hp},(∀b∈fp,H' b=none)→∀b∈fp,Zyr X pins H' b:=fun hn b hb=>⟨hn b hb,(f2 b hb).2⟩
 refine codeAny_forLoop_any (fun n s'=>∃i σ' H',Inv X pins σ' H' s'∧tn i s'.heap∧(∀b∈fp,H' b=none)∧W i n σ' H') ?_ m0 ⟨0,σ,H2,I2,st2,fun b hb=>(f2 b hb).1,w0⟩
 rintro n s3 ⟨i,σ3,H3,I3,st3,fr3,w3⟩
 rcases turn i n σ3 H3 w3 with ⟨stop,qn⟩ | ⟨go,N,hN,step⟩
 ·refine wpAny_passesOwn hp (thn (T.done X rfl rfl rfl hc i pins s3 σ3 H3 X.xe I3 (stat fr3) st3 stop) fun r s4 ⟨hr,I4⟩=>?_)
  subst hr
  exact wpAny_execs_nil ⟨σ3,H3,I4,qn⟩
 ·refine wpAny_passesOwn hp (thn (T.item X rfl rfl rfl hc i pins s3 σ3 H3 X.xe I3 (stat fr3) st3 go) fun r s4 ⟨u,hr,h4⟩=>?_)
  subst hr
  refine wpAny_passesOwn hp (thn h4 fun _ s5 hz9=>?_)
  obtain ⟨x,H5,I5,r5,y5,st5,fr5⟩:=hz9
  have I5':=I5.pinned (stat fr5) (T.obj _ _ st5)
  refine wpAny_passesOwn hp (thn (hg _ s5 σ3 H5 x u _ I5' r5 (step x H5 y5)) fun _ s6 hz9=>?_)
  obtain ⟨σ6,H6,I6,q6⟩:=hz9
  refine wpAny_passesOwn hp (thn (hb _ s6 σ6 H6 _ I6 q6) fun f s7 q7=>?_)
  have again:∀{σ7:St} {H7:Hp},Inv X (pins++Zns fp s5.heap) σ7 H7 s7→N σ7 H7→∃m,m<n∧∃i σ' H',Inv X pins σ' H' s7∧tn i s7.heap∧(∀b∈fp,H' b=none)∧W i m σ' H':=fun {σ7 H7} I7 n7=>by
   obtain ⟨m',hm,w7⟩:=hN σ7 H7 n7
   refine ⟨m',hm,i+1,σ7,H7,I7.unpinned,T.keep _ _ _ st5 fun b hb o e=>(I7.pin (b,o) (mem_append_right _ (mem_append_right _ (Zdd hb e)))).1,fun b hb=>?_,w7⟩
   obtain ⟨o,e,d⟩:=T.obj _ _ st5 b hb
   exact (I7.pin (b,o) (mem_append_right _ (mem_append_right _ (Zdd hb e)))).2.1
  cases f with
  | next=>obtain ⟨σ7,H7,I7,n7⟩:=q7;exact again I7 n7
  | cont=>obtain ⟨σ7,H7,I7,n7⟩:=q7;exact again I7 n7
  | brk=>obtain ⟨σ7,H7,I7,q7⟩:=q7;exact ⟨σ7,H7,I7.unpinned,q7⟩
  | ret v=>obtain ⟨x7,σ7,H7,I7,r7,q7⟩:=q7;exact ⟨x7,σ7,H7,I7.unpinned,r7,q7⟩
end
noncomputable abbrev R2:=V→V→Hp→VK→Prop
def OpR (X:Cx)(f:Value→Value→Sem Value)(r:R2):Prop:=
 ∀(pins:List (Addr×Obj)) (s:Shared) (σ:St) (H:Hp) (x y:V) (v u:Value) (Q:VK),Inv X pins σ H s→RelV x v→RelV y u→r x y H Q→
  wpAny (model X.prog X.w) X.A (f v u) (EP X pins σ Q) X.xe s
def UnR (X:Cx)(f:Value→Sem Value)(r:V→Hp→VK→Prop):Prop:=
 ∀(pins:List (Addr×Obj)) (s:Shared) (σ:St) (H:Hp) (x:V) (v:Value) (Q:VK),Inv X pins σ H s→RelV x v→r x H Q→
  wpAny (model X.prog X.w) X.A (f v) (EP X pins σ Q) X.xe s
def Zaf (X:Cx)(f:Value)(r:List V→Hp→VK→Prop):Prop:=
 ∀(pins:List (Addr×Obj)) (s:Shared) (σ:St) (H:Hp) (xs:List V) (us:List Value) (Q:VK),Inv X pins σ H s→Ys xs us→r xs H Q→
  wpAny (model X.prog X.w) X.A (call f us) (EP X pins σ Q) X.xe s
def tOp (r:R2)(ta tb:TE):TE:=fun σ H Q=>ta σ H fun x H1=>tb σ H1 fun y H2=>r x y H2 Q
def tUn (r:V→Hp→VK→Prop)(ta:TE):TE:=fun σ H Q=>ta σ H fun x H1=>r x H1 Q
noncomputable def rI (C:Int→Int→Prop)(g:Int→Int→V):R2:=fun x y H Q=>∃i j,x=.int i∧y=.int j∧C i j∧Q (g i j) H
noncomputable def rI0 (g:Int→Int→V):R2:=fun x y H Q=>∃i j,x=.int i∧y=.int j∧Q (g i j) H
def rU (g:Int→V):V→Hp→VK→Prop:=fun x H Q=>∃i,x=.int i∧Q (g i) H
section
variable {X:Cx}{a b c:Expr}{ta tb tc:TE}{pos:Pos}
theorem binT (ha:PE X a ta)(hb:PE X b tb){pins:List (Addr×Obj)}{s:Shared}{σ:St}{H:Hp}{R:V→V→Hp→Prop}(I:Inv X pins σ H s)
  (h:ta σ H fun x H1=>tb σ H1 fun y H2=>R x y H2) {Q:Value→Shared→Prop} {f:Value→Value→Sem Value}
  (hf:∀v u s2 x y H2,Inv X pins σ H2 s2→RelV x v→RelV y u→R x y H2→wpAny (model X.prog X.w) X.A (f v u) Q X.xe s2) :
  wpAny (model X.prog X.w) X.A (eval a X.env) (fun v s₁=>wpAny (model X.prog X.w) X.A (eval b X.env) (fun u s₂=>wpAny (model X.prog X.w) X.A (f v u) Q X.xe s₂) X.xe s₁) X.xe s:=by
 refine thn (ha pins s σ H _ I h) fun v s1 hz9=>?_
 obtain ⟨x,H1,I1,r1,q1⟩:=hz9
 refine thn (hb pins s1 σ H1 _ I1 q1) fun u s2 hz9=>?_
 obtain ⟨y,H2,I2,r2,q2⟩:=hz9
 exact hf v u s2 x y H2 I2 r1 r2 q2
theorem pe_op {op:Operator}{r:R2}(ho:OpR X (binaryOp op) r)(ha:PE X a ta)(hb:PE X b tb):PE X (.BinOp a op b pos) (tOp r ta tb):=by
 intro pins s σ H Q I h
 exact wpAny_BinOp (binT ha hb I h fun v u s2 x y H2 I2 rx ry q=>ho pins s2 σ H2 x y v u Q I2 rx ry q)
theorem pe_un {op:UnaryOp}{r:V→Hp→VK→Prop}(ho:UnR X (unaryOp op) r)(ha:PE X a ta):PE X (.UnaryOp op a pos) (tUn r ta):=by
 intro pins s σ H Q I h
 exact UnaryOp_ (thn (ha pins s σ H _ I h) fun v s1 ⟨x,H1,I1,r1,q1⟩=>ho pins s1 σ H1 x v Q I1 r1 q1)
theorem opI {f:Value→Value→Sem Value}{C:Int→Int→Prop}{g:Int→Int→Int}
  (rule:∀(i j:Int) (t u:Tok) (s:Shared) (Q:Value→Shared→Prop) (E:Value→Shared→Prop),C i j→Q (.int (g i j) s.toks) {s with toks:=s.toks+1}→wpAny (model X.prog X.w) X.A (f (.int i t) (.int j u)) Q E s) :
  OpR X f (rI C fun i j=>.int (g i j)):=by
 intro pins s σ H x y v u Q I rx ry h
 obtain ⟨i,j,rfl,rfl,hc,q⟩:=h
 obtain ⟨t,rfl⟩:=rx
 obtain ⟨t',rfl⟩:=ry
 exact rule i j t t' s _ _ hc ⟨.int (g i j),H,I.tok _,⟨_,rfl⟩,q⟩
theorem opI0 {f:Value→Value→Sem Value}{g:Int→Int→Int}
  (rule:∀(i j:Int) (t u:Tok) (s:Shared) (Q:Value→Shared→Prop) (E:Value→Shared→Prop),Q (.int (g i j) s.toks) {s with toks:=s.toks+1}→wpAny (model X.prog X.w) X.A (f (.int i t) (.int j u)) Q E s) :
  OpR X f (rI0 fun i j=>.int (g i j)):=by
 intro pins s σ H x y v u Q I rx ry h
 obtain ⟨i,j,rfl,rfl,q⟩:=h
 obtain ⟨t,rfl⟩:=rx
 obtain ⟨t',rfl⟩:=ry
 exact rule i j t t' s _ _ ⟨.int (g i j),H,I.tok _,⟨_,rfl⟩,q⟩
theorem opB0 {f:Value→Value→Sem Value}{g:Int→Int→Bool}
  (rule:∀(i j:Int) (t u:Tok) (s:Shared) (Q:Value→Shared→Prop) (E:Value→Shared→Prop),Q (.bool (g i j)) s→wpAny (model X.prog X.w) X.A (f (.int i t) (.int j u)) Q E s) :
  OpR X f (rI0 fun i j=>.bl (g i j)):=by
 intro pins s σ H x y v u Q I rx ry h
 obtain ⟨i,j,rfl,rfl,q⟩:=h
 obtain ⟨t,rfl⟩:=rx
 obtain ⟨t',rfl⟩:=ry
 exact rule i j t t' s _ _ ⟨.bl (g i j),H,I,rfl,q⟩
def CPow (i j:Int):Prop:=0≤j∧j≤1000000∧i.natAbs<2 ^ 64
def Xnr (i j:Int):Prop:=(-(2 ^ 64)<i∧i<2 ^ 64)∨(-(2 ^ 64)<j∧j<2 ^ 64)
theorem Xnr.ok {i j:Int}(h:Xnr i j):IntMulOk i j:=by
 rcases h with ⟨h1,h2⟩ | ⟨h1,h2⟩
 ·exact .of_left (intBits_le_64 h1 h2)
 ·exact .of_right (intBits_le_64 h1 h2)
theorem Xpo:OpR X (binaryOp .Add) (rI0 fun i j=>.int (i+j)):=opI0 fun _ _ _ _ _ _ _ q=>add_int q
theorem Zeg:OpR X (binaryOp .Sub) (rI0 fun i j=>.int (i - j)):=opI0 fun _ _ _ _ _ _ _ q=>sub_int q
theorem Xph:OpR X (binaryOp .Mult) (rI Xnr fun i j=>.int (i*j)):=opI fun _ _ _ _ _ _ _ hc q=>mul_int q hc.ok
theorem Zbd:OpR X (binaryOp .Mod) (rI (fun _ j=>0<j) fun i j=>.int (i % j)):=opI fun i j _ _ _ _ _ hc q=>by
 have h1:(0:Int)<j:=hc
 exact mod_int' (by omega) (by rw [Int.fmod_eq_emod_of_nonneg i (by omega)];exact q)
theorem Zew:OpR X (binaryOp .Pow) (rI CPow fun i j=>.int (i ^ j.toNat)):=opI fun _ _ _ _ _ _ _ hc q=>pow_int_small hc.1 hc.2.1 hc.2.2 q
theorem unI {f:Value→Sem Value}{g:Int→Int}
  (rule:∀(i:Int) (t:Tok) (s:Shared) (Q:Value→Shared→Prop) (E:Value→Shared→Prop),Q (.int (g i) s.toks) {s with toks:=s.toks+1}→wpAny (model X.prog X.w) X.A (f (.int i t)) Q E s) :
  UnR X f (rU fun i=>.int (g i)):=by
 intro pins s σ H x v Q I rx h
 obtain ⟨i,rfl,q⟩:=h
 obtain ⟨t,rfl⟩:=rx
 exact rule i t s _ _ ⟨.int (g i),H,I.tok _,⟨_,rfl⟩,q⟩
theorem Xqg:UnR X (unaryOp .USub) (rU fun i=>.int (-i)):=unI fun _ _ _ _ _ q=>neg_int q
end
noncomputable def scal:V→V→Bool
 | .non,.non=>true | .non,.int _=>true | .int _,.non=>true | .non,.bl _=>true | .bl _,.non=>true | .non,.str _=>true | .str _,.non=>true
 | .int _,.int _=>true | .bl _,.bl _=>true | .str _,.str _=>true | .byt _,.byt _=>true
 | .int _,.str _=>true | .str _,.int _=>true | .bl _,.str _=>true | .str _,.bl _=>true
 | _,_=>false
noncomputable def rEq:R2:=fun x y H Q=>scal x y=true∧Q (.bl (decide (x=y))) H
noncomputable def rNe:R2:=fun x y H Q=>scal x y=true∧Q (.bl (!decide (x=y))) H
theorem Zym {i j:Int}:decide (V.int i=V.int j)=(i==j):=by
 rw [Bool.eq_iff_iff]
 simp
theorem Xfm {i j:Bool}:decide (V.bl i=V.bl j)=(i==j):=by
 rw [Bool.eq_iff_iff]
 simp
theorem Zwr {i j:Str}:decide (V.str i=V.str j)=(i==j):=by
 rw [Bool.eq_iff_iff]
 simp
theorem Zwj {i j:Array UInt8}:decide (V.byt i=V.byt j)=(i.toList==j.toList):=by
 rw [Bool.eq_iff_iff]
 cases i
 cases j
 simp
section
variable {X:Cx}{a b c:Expr}{ta tb tc:TE}{pos:Pos}
theorem Yb {pins:List (Addr×Obj)}{σ:St}{H:Hp}{s:Shared}{Q:VK}{k k':Bool}(I:Inv X pins σ H s)(q:Q (.bl k) H)(e:k=k'):EP X pins σ Q (.bool k') s:=by
 subst e
 exact ⟨.bl k,H,I,rfl,q⟩
theorem op_eq:OpR X (compareOp .Eq) rEq:=by
 intro pins s σ H x y v u Q I rx ry h
 obtain ⟨hs,q⟩:=h
 cases x with
 | non =>
  cases rx
  cases y with
  | non=>cases ry;exact PySem.EqNone.eq_none_none (Yb I q (by simp))
  | bl j=>cases ry;exact PySem.EqNone.eq_none_bool (Yb I q (by simp))
  | int j=>obtain ⟨t',rfl⟩:=ry;exact PySem.EqNone.eq_none_int (Yb I q (by simp))
  | str j=>obtain ⟨t',rfl⟩:=ry;exact PySem.EqNone.eq_none_str (Yb I q (by simp))
  | _=>exact absurd (show false=true from hs) Bool.false_ne_true
 | bl i =>
  cases rx
  cases y with
  | non=>cases ry;exact PySem.EqNone.eq_bool_none (Yb I q (by simp))
  | bl j=>cases ry;exact eq_bool (Yb I q Xfm)
  | str j=>obtain ⟨t',rfl⟩:=ry;exact PySem.EqMixed.eq_bool_str (Yb I q (by simp))
  | _=>exact absurd (show false=true from hs) Bool.false_ne_true
 | int i =>
  obtain ⟨t,rfl⟩:=rx
  cases y with
  | non=>cases ry;exact PySem.EqNone.eq_int_none (Yb I q (by simp))
  | int j=>obtain ⟨t',rfl⟩:=ry;exact eq_int (Yb I q Zym)
  | str j=>obtain ⟨t',rfl⟩:=ry;exact PySem.EqMixed.eq_int_str (Yb I q (by simp))
  | _=>exact absurd (show false=true from hs) Bool.false_ne_true
 | str i =>
  obtain ⟨t,rfl⟩:=rx
  cases y with
  | non=>cases ry;exact PySem.EqNone.eq_str_none (Yb I q (by simp))
  | bl j=>cases ry;exact PySem.EqMixed.eq_str_bool (Yb I q (by simp))
  | int j=>obtain ⟨t',rfl⟩:=ry;exact PySem.EqMixed.eq_str_int (Yb I q (by simp))
  | str j=>obtain ⟨t',rfl⟩:=ry;exact eq_str (Yb I q Zwr)
  | _=>exact absurd (show false=true from hs) Bool.false_ne_true
 | byt i =>
  obtain ⟨t,rfl⟩:=rx
  cases y with
  | byt j=>obtain ⟨t',rfl⟩:=ry;exact PySem.W.eq_bytes (Yb I q Zwj)
  | _=>exact absurd (show false=true from hs) Bool.false_ne_true
 | _=>cases y<;>exact absurd (show false=true from hs) Bool.false_ne_true
theorem op_ne:OpR X (compareOp .NotEq) rNe:=by
 intro pins s σ H x y v u Q I rx ry h
 obtain ⟨hs,q⟩:=h
 cases x with
 | non =>
  cases rx
  cases y with
  | non=>cases ry;exact PySem.EqNone.ne_none_none (Yb I q (by simp))
  | bl j=>cases ry;exact PySem.EqNone.ne_none_bool (Yb I q (by simp))
  | int j=>obtain ⟨t',rfl⟩:=ry;exact PySem.EqNone.ne_none_int (Yb I q (by simp))
  | str j=>obtain ⟨t',rfl⟩:=ry;exact PySem.EqNone.ne_none_str (Yb I q (by simp))
  | _=>exact absurd (show false=true from hs) Bool.false_ne_true
 | bl i =>
  cases rx
  cases y with
  | non=>cases ry;exact PySem.EqNone.ne_bool_none (Yb I q (by simp))
  | bl j=>cases ry;exact ne_bool (Yb I q (congrArg not Xfm))
  | str j=>obtain ⟨t',rfl⟩:=ry;exact PySem.EqMixed.ne_bool_str (Yb I q (by simp))
  | _=>exact absurd (show false=true from hs) Bool.false_ne_true
 | int i =>
  obtain ⟨t,rfl⟩:=rx
  cases y with
  | non=>cases ry;exact PySem.EqNone.ne_int_none (Yb I q (by simp))
  | int j=>obtain ⟨t',rfl⟩:=ry;exact ne_int (Yb I q (congrArg not Zym))
  | str j=>obtain ⟨t',rfl⟩:=ry;exact PySem.EqMixed.ne_int_str (Yb I q (by simp))
  | _=>exact absurd (show false=true from hs) Bool.false_ne_true
 | str i =>
  obtain ⟨t,rfl⟩:=rx
  cases y with
  | non=>cases ry;exact PySem.EqNone.ne_str_none (Yb I q (by simp))
  | bl j=>cases ry;exact PySem.EqMixed.ne_str_bool (Yb I q (by simp))
  | int j=>obtain ⟨t',rfl⟩:=ry;exact PySem.EqMixed.ne_str_int (Yb I q (by simp))
  | str j=>obtain ⟨t',rfl⟩:=ry;exact ne_str (Yb I q (congrArg not Zwr))
  | _=>exact absurd (show false=true from hs) Bool.false_ne_true
 | byt i =>
  obtain ⟨t,rfl⟩:=rx
  cases y with
  | byt j=>obtain ⟨t',rfl⟩:=ry;exact PySem.W.ne_bytes (Yb I q (congrArg not Zwj))
  | _=>exact absurd (show false=true from hs) Bool.false_ne_true
 | _=>cases y<;>exact absurd (show false=true from hs) Bool.false_ne_true
theorem Zss:OpR X (compareOp .Lt) (rI0 fun i j=>.bl (decide (i<j))):=opB0 fun _ _ _ _ _ _ _ q=>lt_int q
theorem Xpb:OpR X (compareOp .LtE) (rI0 fun i j=>.bl (decide (i≤j))):=opB0 fun _ _ _ _ _ _ _ q=>le_int q
theorem Zmv:OpR X (compareOp .Gt) (rI0 fun i j=>.bl (decide (j<i))):=opB0 fun _ _ _ _ _ _ _ q=>gt_int q
theorem Xpx:OpR X (compareOp .Is) (fun x y H Q=>y=.non∧Q (.bl (decide (x=.non))) H):=by
 intro pins s σ H x y v u Q I rx ry h
 obtain ⟨rfl,q⟩:=h
 cases ry
 refine is_none_gen (Yb I q ?_)
 cases x<;>first
  | (cases rx;rfl)
  | (obtain ⟨t,rfl⟩:=rx;rfl)
theorem OpR.or {f:Value→Value→Sem Value}{r r':R2}(h:OpR X f r)(h':OpR X f r'):OpR X f (fun x y H Q=>r x y H Q∨r' x y H Q):=by
 intro pins s σ H x y v u Q I rx ry q
 rcases q with q | q
 ·exact h pins s σ H x y v u Q I rx ry q
 ·exact h' pins s σ H x y v u Q I rx ry q
theorem Xp (b:Expr){op:CmpOp}(h:op≠.In:=by decide)(h2:op≠.NotIn:=by decide):behindInMarks op b=false:=by
 have e1:(op==CmpOp.In)=false:=by cases op<;>first | rfl | exact absurd rfl h
 have e2:(op==CmpOp.NotIn)=false:=by cases op<;>first | rfl | exact absurd rfl h2
 cases b<;>simp [behindInMarks,e1,e2]
theorem Xif {op:CmpOp}{r:R2}(ho:OpR X (compareOp op) r)(ha:PE X a ta)(hb:PE X b tb)(hm:behindInMarks op b=false):PE X (.Compare a [op] [b] pos) (tOp r ta tb):=by
 intro pins s σ H Q I h
 exact wpAny_Compare1 (binT ha hb I h fun v u s2 x y H2 I2 rx ry q=>ho pins s2 σ H2 x y v u Q I2 rx ry q) hm
def Xes (t:TE):TT:=fun σ H Q=>t σ H fun x H'=>∃k,x=.bl k∧Q k H'
theorem Xjo {op:CmpOp}{r:R2}(ho:OpR X (compareOp op) r)(ha:PE X a ta)(hb:PE X b tb)(hm:behindInMarks op b=false):PT X (.Compare a [op] [b] pos) (Xes (tOp r ta tb)):=by
  intro pins s σ H Q I h
  refine wpAny_isTrue_Compare1 (thn (ha pins s σ H _ I h) fun v s1 ⟨x,H1,I1,r1,q1⟩=>thn (hb pins s1 σ H1 _ I1 q1) fun u s2 ⟨y,H2,I2,r2,q2⟩ =>
    thn (ho pins s2 σ H2 x y v u _ I2 r1 r2 q2) fun c s3 ⟨z,H3,I3,r3,k,e,q3⟩=>?_) hm
  subst e
  cases r3
  exact wpAny_truthy_bool ⟨H3,I3,q3⟩
theorem Zjh:(sizeLine:Nat)<2 ^ 63:=by rw [sizeLine_eq];decide
theorem Ztp:OpR X (binaryOp .Add) (fun x y H Q=>∃i j,x=.str i∧y=.str j∧i.length+j.length≤sizeLine∧Q (.str (i++j)) H):=by
 intro pins s σ H x y v u Q I rx ry h
 obtain ⟨i,j,rfl,rfl,hz,q⟩:=h
 obtain ⟨t,rfl⟩:=rx
 obtain ⟨t',rfl⟩:=ry
 exact add_str (fun t' tk=>⟨.str (i++j),H,I.tok _,⟨_,rfl⟩,q⟩) hz
theorem vals1 {x:V}{us:List Value}(r:Ys [x] us):∃u,us=[u]∧RelV x u:=by
 cases r with
 | cons r1 r2=>cases r2;exact ⟨_,rfl,r1⟩
theorem vals2 {x y:V}{us:List Value}(r:Ys [x,y] us):∃u w',us=[u,w']∧RelV x u∧RelV y w':=by
 cases r with
 | cons r1 r2 =>
  cases r2 with
  | cons r3 r4=>cases r4;exact ⟨_,_,rfl,r1,r3⟩
theorem Zwk (hc:X.calm=true):Zaf X (.builtin "max") (fun xs H Q=>∃i j,xs=[.int i,.int j]∧Q (.int (if j > i then j else i)) H):=by
 intro pins s σ H xs us Q I r h
 obtain ⟨i,j,rfl,q⟩:=h
 obtain ⟨u,w',rfl,⟨t,rfl⟩,⟨t',rfl⟩⟩:=vals2 r
 refine max_two_ints (I.ok.hd hc) fun h' tk k=>⟨_,H,I.kept k,?_,q⟩
 by_cases hj:j > i
 ·rw [if_pos hj,if_pos hj];exact ⟨_,rfl⟩
 ·rw [if_neg hj,if_neg hj];exact ⟨_,rfl⟩
theorem Zuf (hc:X.calm=true):Zaf X (.builtin "min") (fun xs H Q=>∃i j,xs=[.int i,.int j]∧Q (.int (if j<i then j else i)) H):=by
 intro pins s σ H xs us Q I r h
 obtain ⟨i,j,rfl,q⟩:=h
 obtain ⟨u,w',rfl,⟨t,rfl⟩,⟨t',rfl⟩⟩:=vals2 r
 refine min_two_ints (I.ok.hd hc) fun h' tk k=>⟨_,H,I.kept k,?_,q⟩
 by_cases hj:j<i
 ·rw [if_pos hj,if_pos hj];exact ⟨_,rfl⟩
 ·rw [if_neg hj,if_neg hj];exact ⟨_,rfl⟩
end
structure ObjM (h:Heap)(x dx C:Addr)(mA:Str→Option Value):Prop where
 obj:h.get? x=some (instObj C dx)
 ns:h.Ns1 dx mA
 ne:dx≠x
theorem Zyl {h:Heap}{dx:Addr}{mA:Str→Option Value}(n:h.Ns1 dx mA):∃od,h.get? dx=some od∧∀name,lookIn name od=some (mA name):=by
 obtain ⟨o,es,ep,ho,hd,hk,_,hm⟩:=n
 refine ⟨o,ho,fun name=>?_⟩
 have e:=hm name
 unfold nsFind findBy at e
 rw [← Array.find?_toList] at e
 unfold lookIn
 rw [hd]
 dsimp only
 split
 ·rename_i y q
  rw [q] at e
  exact congrArg some e
 ·rename_i q
  rw [q] at e
  have a:es.toList.any (·.refKey)=false:=by
   rw [List.any_eq_false]
   intro y hy
   obtain ⟨z,t,hkey⟩:=hk y (Array.mem_toList_iff.mp hy)
   simp [DictEntry.refKey,hkey]
  have a':¬es.toList.any (·.refKey)=true:=by rw [a];exact Bool.false_ne_true
  rw [if_neg a']
  exact congrArg some e
theorem ObjM.look {h:Heap}{x dx C:Addr}{mA:Str→Option Value}(I:ObjM h x dx C mA):∃od,PySem.W.InstAt h x (instObj C dx) C (some od)∧∀name,lookIn name od=some (mA name):=
 let ⟨od,ho,hl⟩:=Zyl I.ns
 ⟨od,⟨I.obj,rfl,rfl,ho⟩,hl⟩
section
variable {prog:Program}{w:World}{A:Around}{E:Value→Shared→Prop}{s:Shared}{K:Frag}{x dx C f:Addr}{mA:Str→Option Value}{name:Str}{v:Value}
end
noncomputable def putF (f:Str)(v:V):List (Str×V)→List (Str×V)
 | []=>[(f,v)]
 | (g,x)::r=>if g=f then (g,v)::r else (g,x)::putF f v r
section
variable {P:Program}{w:World}{H H':Hp}{h h':Heap}{a C dx:Addr}{fs fs':List (Str×V)}
theorem Xit (hok:HOk P w H h)(e:H a=some (.ins C dx fs)):∃mA,ObjM h a dx C mA∧(∀f,Zzl (fs.lookup f) (mA f))∧PySem.Within mA (fs.map (·.1))∧fs.length≤1000∧H dx=some (.own a):=by
 obtain ⟨d,z,ne,ob,mA,n,r,q⟩:=(show Zaa P w H h a (.ins C dx fs) from hok a _ e)
 exact ⟨mA,⟨ob,n,ne⟩,r,q,z,d⟩
end
structure Cls (K:Frag)(C:Addr):Prop where
 pg:PySem.W.plainGet K C Str.empty=true
 hd:PySem.W.hasDictIn K C=true
 po:PySem.W.plainOver K C=true
 sa:findIn K (.ref C) "__setattr__"=some (some (.builtin "object.__setattr__"))
theorem Cls.get {K:Frag}{C:Addr}(c:Cls K C)(f:Str):PySem.W.plainGet K C f=true:=c.pg
def Xtv (K:Frag)(C:Addr)(f:Str):Prop:=findIn K (.ref C) f=some none
structure Con (K:Frag)(C:Addr)(f:Str)(v:V)(u:Value):Prop where
 at_:findIn K (.ref C) f=some (some u)
 rel:RelV v u
 get:specialIn K u "__get__"=some none
 cp:PySem.W.copiedNames.contains f=false
structure Meth (K:Frag)(C:Addr)(m:Str)(f:Addr):Prop where
 at_:findIn K (.ref C) m=some (some (.ref f))
 fn:isFn K (.ref f)=true
 kp:keepIn K (.ref f)=true
section
variable {X:Cx}{pins:List (Addr×Obj)}{σ:St}{H:Hp}{s:Shared}{a C dx:Addr}{fs:List (Str×V)}{f:Str}{v:V}{A:Around}{E:Value→Shared→Prop}
end
def sFld (K:Frag)(ta tv:TE)(f:Str):TS:=fun D σ H=>tv σ H fun y H1=>ta σ H1 fun x H2=>∃a C dx fs,x=.ref a∧H2 a=some (.ins C dx fs)∧Cls K C∧Xtv K C f∧fs.length<1000∧
 D.nx σ (upd H2 a (.ins C dx (putF f y fs)))
section
variable {X:Cx}{o e value:Expr}{f:Str}{pos pos' tpos:Pos}{ta tv:TE}
end
section
variable {X:Cx}{pins:List (Addr×Obj)}{σ:St}{H:Hp}{s:Shared}{A:Around}{E:Value→Shared→Prop}{Q:Value→Shared→Prop}{c:Value}{b:Bool}
inductive TyOf (K:Frag)(H:Hp):V→Value→Prop where
 | non:TyOf K H .non (.type "NoneType")
 | bl (x:Bool):TyOf K H (.bl x) (.type "bool")
 | int (i:Int):TyOf K H (.int i) (.type "int")
 | str (x:Str):TyOf K H (.str x) (.type "str")
 | flt (x:UInt64):TyOf K H (.flt x) (.type "float")
 | lst {a:Addr} {xs:List V} (e:H a=some (.lst xs)):TyOf K H (.ref a) (.type "list")
 | frz {a:Addr} {o:Obj} {xs:List V} (e:H a=some (.frz o (.lst xs))):TyOf K H (.ref a) (.type "list")
 | tup {a:Addr} {xs:List V} (e:H a=some (.tup xs)):TyOf K H (.ref a) (.type "tuple")
 | dK {a:Addr} {kvs:List (Key×V)} (e:H a=some (.dK kvs)):TyOf K H (.ref a) (.type "dict")
 | dT {a:Addr} {kvs:List (List Key×V)} (e:H a=some (.dT kvs)):TyOf K H (.ref a) (.type "dict")
 | ins {a C dx:Addr} {fs:List (Str×V)} (e:H a=some (.ins C dx fs)) (cl:Cls K C) (ha:findIn K (.ref C) "__class__"=some (some (.builtin "object.__class__")))
   (hn:specialIn K (.builtin "object.__class__") "__get__"=some (some (.builtin "getset_descriptor.__get__"))) (htk:PySem.W.takesIn K (.builtin "object.__class__")=some true)
   (hm:PySem.W.mroIn K C (.type "object")=some true):TyOf K H (.ref a) (.ref C)
theorem Zvn {x:V}{u t:Value}(I:Inv X pins σ H s)(rx:RelV x u)(ty:TyOf X.K H x t)(e:kitOne X.K t c=some b)(h:∀tk,Q (.bool b) {s with toks:=tk}) :
  wpAny (model X.prog X.w) A (call (.builtin "isinstance") [u,c]) Q E s:=by
 cases ty with
 | non=>cases (show u=Value.none from rx);exact kia_one PySem.W.kitx_none I.kIn True.intro e (fun z=>nomatch z) h
 | bl y=>cases (show u=Value.bool y from rx);exact kia_one PySem.W.kitx_bool I.kIn True.intro e (fun z=>nomatch z) h
 | int i=>obtain ⟨t,q⟩:=(show ∃t,u=Value.int i t from rx);cases q;exact kia_one PySem.W.kitx_int I.kIn True.intro e (fun z=>nomatch z) h
 | str y=>obtain ⟨t,q⟩:=(show ∃t,u=Value.str y t from rx);cases q;exact kia_one PySem.W.kitx_str I.kIn True.intro e (fun z=>nomatch z) h
 | flt y=>obtain ⟨t,q⟩:=(show ∃t,u=Value.float y t from rx);cases q;exact kia_one PySem.W.kitx_float I.kIn True.intro e (fun z=>nomatch z) h
 | @lst a xs ea =>
  cases (show u=Value.ref a from rx)
  obtain ⟨_,_,n,_,h1⟩:=(show Zaa X.prog X.w H s.heap a (.lst xs) from I.hok a _ ea)
  exact kia_one PySem.W.kitx_list I.kIn ⟨_,h1,rfl⟩ e (fun z=>nomatch z) h
 | @frz a ob xs ea =>
  cases (show u=Value.ref a from rx)
  obtain ⟨_,_,_,n,_,h1⟩:=(show Zaa X.prog X.w H s.heap a (.frz ob (.lst xs)) from I.hok a _ ea)
  exact kia_one PySem.W.kitx_list I.kIn ⟨_,h1,rfl⟩ e (fun z=>nomatch z) h
 | @tup a xs ea =>
  cases (show u=Value.ref a from rx)
  obtain ⟨_,_,_,p⟩:=(show Zaa X.prog X.w H s.heap a (.tup xs) from I.hok a _ ea)
  obtain ⟨o,h1,h2,_⟩:=p
  exact kia_one PySem.W.kitx_tuple I.kIn ⟨o,h1,h2⟩ e (fun z=>nomatch z) h
 | @dK a kvs ea =>
  cases (show u=Value.ref a from rx)
  obtain ⟨_,_,vs,_,p⟩:=(show Zaa X.prog X.w H s.heap a (.dK kvs) from I.hok a _ ea)
  obtain ⟨o,es,ep,h1,h2,_⟩:=p
  exact kia_one PySem.W.kitx_dict I.kIn ⟨o,h1,h2.1⟩ e (fun z=>nomatch z) h
 | @dT a kvs ea =>
  cases (show u=Value.ref a from rx)
  obtain ⟨_,_,xs,_,o,es,ep,h1,h2,_⟩:=(show Zaa X.prog X.w H s.heap a (.dT kvs) from I.hok a _ ea)
  exact kia_one PySem.W.kitx_dict I.kIn ⟨o,h1,h2.1⟩ e (fun z=>nomatch z) h
 | @ins a C dx fs ea cl ha hn htk hm =>
  cases (show u=Value.ref a from rx)
  obtain ⟨mA,O,_⟩:=Xit I.hok ea
  obtain ⟨od,J,_⟩:=O.look
  exact kia_one (PySem.W.kitx_own (cl.get _) cl.hd ha hn htk hm) I.kIn J e (fun z=>nomatch z) h
end
structure Ziw (k:Nat)(A:Around):Prop where
 hd:A.handled=none
 dp:A.depth+3*k+5<recursionLimit
 un:A.units+16*k+200<cLine
 gd:A.guards=some []
theorem Ziw.mono {j k:Nat}{A:Around}(r:Ziw k A)(h:j≤k):Ziw j A:=⟨r.hd,by have:=r.dp;omega,by have:=r.un;omega,r.gd⟩
theorem Ziw.deeper {k:Nat}{A:Around}(r:Ziw (k+1) A)(env:Env):Ziw k (A.deeper env):=
 ⟨r.hd,by have:=r.dp;show A.depth+1+3*k+5<_;omega,by have:=r.un;show A.units+3+16*k+200<_;omega,r.gd⟩
theorem Ziw.depth {k:Nat}{A:Around}(r:Ziw k A):A.depth<recursionLimit:=by have:=r.dp;omega
theorem Ziw.units {k:Nat}{A:Around}(r:Ziw k A):A.units+64<cLine:=by have:=r.un;omega
def Zlw:TA:=fun _ H Q=>Q [] H
def Zbk (ta:TE)(tr:TA):TA:=fun σ H Q=>ta σ H fun x H1=>tr σ H1 fun xs H2=>Q (x::xs) H2
section
variable {X:Cx}{e:Expr}{es:List Expr}{te:TE}{t:TA}{pos:Pos}
theorem Xgz:PA X [] Zlw:=fun _ _ _ _ H Q I h=>Calls.spliced_nil ⟨[],H,I,.nil,h⟩
theorem Zuy (ha:PE X e te)(hr:PA X es t)(hs:starEach (e::es) X.env=(false,eval e X.env)::starEach es X.env:=by rfl):PA X (e::es) (Zbk te t):=by
 intro pos pins s σ H Q I h
 rw [hs]
 show wpAny _ _ (spliced ((false,eval e X.env)::backTo pos (starEach es X.env))) _ _ s
 refine Calls.spliced_cons (thn (ha pins s σ H _ I h) fun u s1 hz9=>?_)
 obtain ⟨x,H1,I1,r1,q1⟩:=hz9
 exact thn (hr pos pins s1 σ H1 _ I1 q1) fun us s2 ⟨xs,H2,I2,r2,q2⟩=>⟨x::xs,H2,I2,.cons r1 r2,q2⟩
def tTup (t:TA):TE:=fun σ H Q=>t σ H fun xs H1=>xs.length≤sizeLine∧∀p,H1 p=none→Q (.ref p) (upd H1 p (.tup xs))
def Xnw (t:TA):TE:=fun σ H Q=>t σ H fun xs H1=>xs.length≤sizeLine∧∀p,H1 p=none→Q (.ref p) (upd H1 p (.lst xs))
theorem Xrn {x1}(h:PA X es t):PE X (.Tuple es x1 pos) (tTup t):=by
 intro pins s σ H Q I hq
 refine wpAny_Tuple_spliced (thn (h pos pins s σ H _ I hq) fun us s1 ⟨xs,H1,I1,r,z,q⟩=>⟨by rw [← r.length];exact z,?_⟩)
 have hf:H1 s1.heap.objs.size=none:=I1.hok.fresh (le_refl _)
 refine ⟨.ref s1.heap.objs.size,upd H1 s1.heap.objs.size (.tup xs),I1.laid (t':=s1.toks) (fun b u e=>get?_push_of_some _ e) (le_refl _) ?_,rfl,q _ hf⟩
 exact ⟨z,us,r,⟨_,get?_push_size _ rfl,rfl,_,rfl⟩⟩
theorem Xrh (h:PA X es t):PE X (.List es pos) (Xnw t):=by
 intro pins s σ H Q I hq
 refine wpAny_List_spliced (thn (h pos pins s σ H _ I hq) fun us s1 ⟨xs,H1,I1,r,z,q⟩=>⟨by rw [← r.length];exact z,?_⟩)
 have hf:H1 s1.heap.objs.size=none:=I1.hok.fresh (le_refl _)
 refine ⟨.ref s1.heap.objs.size,upd H1 s1.heap.objs.size (.lst xs),I1.laid (t':=s1.toks) (fun b u e=>get?_push_of_some _ e) (le_refl _) ?_,rfl,q _ hf⟩
 exact ⟨z,us,0,r,get?_push_size _ rfl⟩
end
noncomputable abbrev Sp:=List V→Hp→VK→XK→Prop
noncomputable abbrev CXT:=List Env→Hp→Shared→XK→Value→Shared→Prop
structure Xsv (P:Program)(w:World)(K:Frag)(mg:Str→Option Value)(base:Heap)(A:Around)(outer:List Env)(s:Shared)(H:Hp):Prop where
 frames:A.frames=some outer
 mod:Mod K mg base
 bs:∀b o,base.get? b=some o→s.heap.get? b=some o∧H b=none
 bsz:base.objs.size≤s.heap.objs.size
 funs:s.heap.FunFrames base outer
 frf:∀b∈frs outer,H b=none
 hok:HOk P w H s.heap
 bare:AllBare s.gens
def CE (outer:List Env)(P:Program)(w:World)(H:Hp)(s:Shared)(Q:VK)(u:Value)(s':Shared):Prop:=
 ∃v H',s'.os=s.os∧AllBare s'.gens∧Un (frs outer) [] H H' s.heap s'.heap∧HOk P w H' s'.heap∧RelV v u∧Q v H'
def CR (CX:CXT)(outer:List Env)(P:Program)(w:World)(H:Hp)(s:Shared)(Q:VK)(E:XK)(r:Result)(s':Shared):Prop:=
 match r with
 | .ok (.ret u)=>CE outer P w H s Q u s'
 | .ok _=>False
 | .error e=>CX outer H s E e s'
structure Zao (P:Program)(w:World)(K:Frag)(mg:Str→Option Value)(base:Heap)(CX:CXT)(k:Nat)(f:Addr)(fd:FuncData)(ps:List Str)(sp:Sp):Prop where
 len:∀vs H Q E,sp vs H Q E→vs.length=ps.length
 run:∀(A:Around) (outer:List Env) (s:Shared) (H:Hp) (args:Args) (us:List Value) (vs:List V) (Q:VK) (E:XK),Ziw k A→Xsv P w K mg base A outer s H→BindsTo s fd args (ps.zip us)→Ys vs us→sp vs H Q E→
  codeAny (model P w) A (.call (.ref f) args) (CR CX outer P w H s Q E) s
theorem Zao.imp {P:Program}{w:World}{K:Frag}{mg:Str→Option Value}{base:Heap}{CX:CXT}{k:Nat}{f:Addr}{fd:FuncData}{ps:List Str}{sp sp':Sp}(F:Zao P w K mg base CX k f fd ps sp)
  (h:∀vs H Q E,sp' vs H Q E→sp vs H Q E):Zao P w K mg base CX k f fd ps sp':=
 ⟨fun vs H Q E q=>F.len vs H Q E (h _ _ _ _ q),fun A outer s H args us vs Q E hr he hb hv hs=>F.run A outer s H args us vs Q E hr he hb hv (h _ _ _ _ hs)⟩
section
variable {X:Cx}{pins:List (Addr×Obj)}{σ:St}{H:Hp}{s s':Shared}
theorem Inv.env0 (I:Inv X pins σ H s):Xsv X.prog X.w X.K X.mg X.base X.A X.stack s H:=
 ⟨I.ok.frames,I.ok.mod,I.bs,le_trans I.ok.bsz I.sz,I.stack,I.stkFree,I.hok,I.bare⟩
theorem Inv.after {Q:VK}{u:Value}(I:Inv X pins σ H s)(h:CE X.stack X.prog X.w H s Q u s'):EP X pins σ Q u s':=by
 obtain ⟨v,H',os,bare,un,hok,r,q⟩:=h
 obtain ⟨hh,g,d,t,os'⟩:=s'
 obtain rfl:os'=s.os:=os
 exact ⟨v,H',I.call (h':=hh) (g':=g) (d':=d) (t':=t) (ch:=[]) un hok bare (fun b z=>absurd z (by simp)),r,q⟩
end
def Zsz (sp:Sp)(dvs:List V)(E:XK)(t:TA):TE:=fun σ H Q=>t σ H fun vs H1=>sp (vs++dvs) H1 Q E
def Binds (K:Frag)(fd:FuncData)(ps:List Str)(ds:List Value):Prop:=
 ∀(s:Shared) (us:List Value),K.In s.heap→(us++ds).length=ps.length→BindsTo s fd ⟨us,[]⟩ (ps.zip (us++ds))
theorem Binds.all {K:Frag}{fd:FuncData}{ps:List Str}(h:∀us:List Value,us.length=ps.length→bindArgs fd ⟨us,[]⟩=pure (ps.zip us)):Binds K fd ps []:=fun s us _ hl=>by
 rw [append_nil] at hl ⊢
 exact .of_eq (h us hl)
def Zjr (CX:CXT)(X:Cx)(E:XK):Prop:=∀(pins:List (Addr×Obj)) (σ:St) (H:Hp) (s:Shared) (e:Value) (s':Shared),Inv X pins σ H s→CX X.stack H s E e s'→X.xe e s'
section
variable {X:Cx}{CX:CXT}{k:Nat}{f C:Addr}{fd:FuncData}{ps:List Str}{sp:Sp}{dvs:List V}{ds:List Value}{E:XK}{x m:Str}{p pos apos:Pos}{e o:Expr}{es:List Expr}{ta:TE}{t:TA}
theorem Xtt {pins:List (Addr×Obj)}{σ:St}{H:Hp}{s:Shared}{Q:VK}{us:List Value}{vs:List V}(F:Zao X.prog X.w X.K X.mg X.base CX k f fd ps sp)(hr:Ziw k X.A)(hb:Binds X.K fd ps ds)(hd:Ys dvs ds)(hx:Zjr CX X E)
  (I:Inv X pins σ H s) (r:Ys vs us) (h:sp (vs++dvs) H Q E):wpAny (model X.prog X.w) X.A (call (.ref f) us) (EP X pins σ Q) X.xe s:=by
 have r2:Ys (vs++dvs) (us++ds):=r.append hd
 have hl:(us++ds).length=ps.length:=by rw [← r2.length];exact F.len _ _ _ _ h
 refine wpAny_call (codeAny_mono (F.run X.A X.stack s H ⟨us,[]⟩ (us++ds) (vs++dvs) Q E hr I.env0 (hb s us I.kIn hl) r2 h) fun r s' hq=>?_)
 cases r with
 | error e=>exact hx pins σ H s e s' I hq
 | ok fl =>
  cases fl with
  | ret u=>exact I.after hq
  | next=>exact False.elim hq
  | brk=>exact False.elim hq
  | cont=>exact False.elim hq
theorem Xjd (F:Zao X.prog X.w X.K X.mg X.base CX k f fd ps sp)(hr:Ziw k X.A)(hg:Gl X x)(hm:X.mg x=some (.ref f))(hk:keepIn X.K (.ref f)=true)(hb:Binds X.K fd ps ds)(hd:Ys dvs ds)(hx:Zjr CX X E)
  (ha:PA X (e::es) t) (hdb:(x==("__debug__":Str))=false:=by decide) (he:starEach (e::es) X.env=(false,eval e X.env)::starEach es X.env:=by rfl) (hpl:(backTo pos (starEach es X.env)).any (·.1)=false:=by rfl) :
  PE X (.Call (.Name x p) (e::es) [] pos) (Zsz sp dvs E t):=by
 intro pins s σ H Q I h
 refine wpAny_Call_Name_kw (Xhm I hg hm ?_ hdb)
 refine PySem.W.callWith_K (h₀:=X.base) I.ok.mod.kin hk (thn (ha pos pins s σ H _ I h) fun us s1 ⟨vs,H1,I1,r,q⟩=>⟨I1.kIn,?_⟩) he hpl
 exact Xtt F hr hb hd hx I1 r q
structure Mk (K:Frag)(C f:Addr):Prop where
 makes:PySem.W.makesIn K C=true
 init:findIn K (.ref C) "__init__"=some (some (.ref f))
 fn:isFn K (.ref f)=true
 kp:keepIn K (.ref C)=true
end
def PK (X:Cx)(kws:List Keyword)(t:TA):Prop:=
 ∀(pos:Pos) (pins:List (Addr×Obj)) (s:Shared) (σ:St) (H:Hp) (Q:List V→Hp→Prop),Inv X pins σ H s→t σ H Q→wpAny (model X.prog X.w) X.A (evalAll ((backToKw pos (keywordEach kws X.env)).map (·.2))) (AP X pins σ Q) X.xe s
section
variable {X:Cx}{CX:CXT}{k:Nat}{f C:Addr}{fd:FuncData}{ps ks:List Str}{sp:Sp}{E:XK}{x m:Str}{p pos apos kpos:Pos}{e o:Expr}{es:List Expr}{kws:List Keyword}{te ta:TE}{t tk:TA}{nm:Option Str}
structure KBinds (K:Frag)(fd:FuncData)(ps ks:List Str)(g:List Value→List Value→List Value)(gV:List V→List V→List V):Prop where
 to:∀(s:Shared) (us ws:List Value),K.In s.heap→(g us ws).length=ps.length→BindsTo s fd ⟨us,ks.zip ws⟩ (ps.zip (g us ws))
 rel:∀{vs:List V} {us:List Value} {zs:List V} {ws:List Value},Ys vs us→Ys zs ws→Ys (gV vs zs) (g us ws)
variable {g:List Value→List Value→List Value}{gV:List V→List V→List V}
end
structure Zz (N P:List Str)(sc:Scope):Prop where
 kind:sc.kind=.function
 co:sc.isCoroutine=false
 gen:sc.isGenerator=false
 nd:N.Nodup
 pre:N.take P.length=P
 par:∀x∈P,sc.names.lookup x=some .local∨sc.names.lookup x=some .cell
 nofree:∀y∈sc.names,y.2≠.free
theorem Zmh {kindOf:Str→Option NameKind}{x:Str}:∀{binds:List (Str×Value)} {m:Str→Option Value},(∀v,(x,v)∉binds)→bindL kindOf binds m x=m x
 | [],_,_=>rfl
 | (n,v)::r,m,h=>by
  unfold bindL
  rw [Zmh fun w hw=>h w (mem_cons_of_mem _ hw)]
  split
  ·have:x≠n:=by rintro rfl;exact h v mem_cons_self
   simp [this]
  ·rfl
theorem Zlm {kindOf:Str→Option NameKind}{x:Str}:∀{binds:List (Str×Value)} {m:Str→Option Value},(∀v,(x,v)∉binds)→bindC kindOf binds m x=m x
 | [],_,_=>rfl
 | (n,v)::r,m,h=>by
  unfold bindC
  rw [Zlm fun w hw=>h w (mem_cons_of_mem _ hw)]
  split
  ·rfl
  ·have:x≠n:=by rintro rfl;exact h v mem_cons_self
   simp [this]
theorem Zlo {kindOf:Str→Option NameKind}{x:Str}{v:Value}:∀{P:List Str} {vs:List Value} {i:Nat} {m:Str→Option Value},P.Nodup→P[i]?=some x→vs[i]?=some v→kindOf x=some .local→
  bindL kindOf (P.zip vs) m x=some v
 | [],_,_,_,_,h,_,_=>by simp at h
 | _::_,[],_,_,_,_,h,_=>by simp at h
 | p::P,w::vs,0,m,nd,h1,h2,hk=>by
  simp at h1 h2;subst h1;subst h2
  show bindL kindOf ((p,w)::P.zip vs) m p=_
  unfold bindL
  rw [Zmh fun v hv=>(List.nodup_cons.mp nd).1 (List.of_mem_zip hv).1,if_pos hk]
  simp
 | p::P,w::vs,i+1,m,nd,h1,h2,hk=>by
  show bindL kindOf ((p,w)::P.zip vs) m x=_
  unfold bindL
  exact Zlo (i:=i) (List.nodup_cons.mp nd).2 (by simpa using h1) (by simpa using h2) hk
theorem Zmm {kindOf:Str→Option NameKind}{x:Str}{v:Value}:∀{P:List Str} {vs:List Value} {i:Nat} {m:Str→Option Value},P.Nodup→P[i]?=some x→vs[i]?=some v→kindOf x≠some .local→
  bindC kindOf (P.zip vs) m x=some v
 | [],_,_,_,_,h,_,_=>by simp at h
 | _::_,[],_,_,_,_,h,_=>by simp at h
 | p::P,w::vs,0,m,nd,h1,h2,hk=>by
  simp at h1 h2;subst h1;subst h2
  show bindC kindOf ((p,w)::P.zip vs) m p=_
  unfold bindC
  rw [Zlm fun v hv=>(List.nodup_cons.mp nd).1 (List.of_mem_zip hv).1,if_neg hk]
  simp
 | p::P,w::vs,i+1,m,nd,h1,h2,hk=>by
  show bindC kindOf ((p,w)::P.zip vs) m x=_
  unfold bindC
  exact Zmm (i:=i) (List.nodup_cons.mp nd).2 (by simpa using h1) (by simpa using h2) hk
noncomputable def start (N:List Str)(vs:List V):St:=vs.map some++List.replicate (N.length - vs.length) none
noncomputable def Xge (CX:CXT)(P:Program)(w:World)(K:Frag)(mg:Str→Option Value)(base:Heap)(N:List Str)(qual:Str)(scope:Scope)(f:Addr)(cd:Value)(A:Around)(outer:List Env)(s:Shared)(H:Hp)(E:XK):Cx where
 prog:=P
 w:=w
 K:=K
 mg:=mg
 base:=base
 A:=A.deeper (envOfC qual scope s.heap.objs.size f cd)
 N:=N
 s₀:=s
 H₀:=H
 env:=envOfC qual scope s.heap.objs.size f cd
 outer:=outer
 stack:=envOfC qual scope s.heap.objs.size f cd::outer
 ex:=[]
 calm:=true
 fn:=fun _=>true
 pn:=[]
 xe:=fun e s'=>wpAny (model P w) (A.deeper (envOfC qual scope s.heap.objs.size f cd)) (leaving (envOfC qual scope s.heap.objs.size f cd) e) (fun _ s''=>CX outer H s E e s'') (fun e' s''=>CX outer H s E e' s'') s'
theorem Zqy {sc:Scope}{n:Nat}{x:Str}(h:sc.names.lookup x=some .cell):∃c,(cellsFrom n sc.names []).lookup x=some c:=by
 have q:=PySem.W.cellsFrom_some sc.names n [] (.inl h)
 exact Option.isSome_iff_exists.mp q
theorem Zxq {CX:CXT}{P:Program}{w:World}{K:Frag}{mg:Str→Option Value}{base:Heap}{N ps:List Str}{qual:Str}{scope:Scope}{f:Addr}{cd:Value}{A:Around}{outer:List Env}{s s1:Shared}{H:Hp}{E:XK}{us:List Value}{vs:List V}
    (S:Zz N ps scope) (hd:A.handled=none) (e0:Xsv P w K mg base A outer s H) (hl:vs.length=ps.length) (r:Ys vs us)
    (x:InCallC s s.heap.objs.size (bindL (envOfC qual scope s.heap.objs.size f cd).kindOf (ps.zip us) fun _=>none) (cellsFrom (s.heap.objs.size+1) scope.names []) (bindC (envOfC qual scope s.heap.objs.size f cd).kindOf (ps.zip us) fun _=>none) s1) :
    Inv (Xge CX P w K mg base N qual scope f cd A outer s H E) [] (start N vs) H s1:=by
  have hpl:ps.length≤N.length:=by have:=congrArg List.length S.pre;rw [length_take] at this;omega
  obtain ⟨h1,tk,rfl,hk⟩:=x.done
  have noA:∀b:Addr,b∉(Xge CX P w K mg base N qual scope f cd A outer s H E).ex:=fun b z=>absurd (show b∈([]:List Addr) from z) (by simp)
  refine ⟨⟨e0.mod,S.kind,rfl,rfl,le_refl _,fun y z c h1 h2=>?_,fun y hy=>?_,fun y c _ h=>?_,fun _=>hd,Around.frames_deeper e0.frames,.inr ⟨rfl,rfl⟩,fun b z=>absurd z (noA b),e0.bs,e0.bsz,fun b _ _=>noA b,fun b z=>absurd z (noA b),e0.funs,e0.frf⟩,
    rfl,e0.bare,Un.kept hk,⟨_,x.toInCall.ns,fun i y v h1 h2 h3=>?_⟩,fun y c h=>⟨_,x.cell y c h⟩,e0.hok.fresh (le_refl _),fun y c h=>?_,fun p hp=>absurd (show p∈([]:List (Addr×Obj)) from hp) (by simp),e0.hok.kept hk,?_⟩
  · exact name_of_addr x.apart (PySem.mem_of_lookup h1) (PySem.mem_of_lookup h2)
  · have hy:scope.names.lookup y=some .cell∨scope.names.lookup y=some .free:=hy
    rcases hy with hy | hy
    · exact Zqy hy
    · exact absurd rfl (S.nofree _ (PySem.mem_of_lookup hy))
  · exact le_of_lt (x.above y c (PySem.mem_of_lookup h))
  · have hi:i<vs.length:=by
      unfold start at h2
      by_cases hi:i<vs.length
      · exact hi
      · rw [getElem?_append_right (by simpa using hi)] at h2
        rw [List.getElem?_replicate] at h2
        split at h2<;>cases h2
    have ha:vs[i]?=some v:=by
      unfold start at h2
      rw [getElem?_append_left (by simpa using hi),getElem?_map] at h2
      cases e:vs[i]? with
      | none=>rw [e] at h2;cases h2
      | some a=>rw [e] at h2;cases h2;rfl
    obtain ⟨u,hu,rv⟩:=r.get ha
    have hp:ps[i]?=some y:=by
      rw [← S.pre,List.getElem?_take_of_lt (by omega)];exact h1
    have ndP:ps.Nodup:=by rw [← S.pre];exact S.nd.sublist (List.take_sublist _ _)
    refine ⟨u,rv,?_⟩
    rcases S.par y (mem_of_getElem? hp) with k | k
    · exact .inl ⟨k,Zlo ndP hp hu k⟩
    · obtain ⟨c,e⟩:=Zqy (n:=s.heap.objs.size+1) k
      refine .inr ⟨.inl k,c,e,?_⟩
      have q:=x.cell y c e
      rw [Zmm ndP hp hu (by show scope.names.lookup y≠_;rw [k];decide)] at q
      exact q
  · exact e0.hok.fresh (le_of_lt (x.above y c (PySem.mem_of_lookup h)))
  · unfold start
    show _=N.length
    rw [length_append,length_map,length_replicate]
    omega
theorem fn_of {CX:CXT}{P:Program}{w:World}{K:Frag}{mg:Str→Option Value}{base:Heap}{k:Nat}{f:Addr}{name qual:Str}{params:Arguments}{body:List Stmt}{scope:Scope}{dV kV doc pm cdv ct oc:Value}{an od:Option Addr}
    {osl:Array (Option Value)} {N ps:List Str} {sp:Sp} (lk:K.lookup f=some ⟨oc,od,.func (fnOf name qual params body scope dV kV doc pm an cdv ct),osl⟩) (hcd:codeIn K cdv qual=true) (S:Zz N ps scope)
    (len:∀vs H Q E,sp vs H Q E→vs.length=ps.length)
    (hbody:∀(A:Around) (outer:List Env) (s:Shared) (H:Hp) (vs:List V) (Q:VK) (E:XK),Ziw k (A.deeper (envOfC qual scope s.heap.objs.size f cdv))→sp vs H Q E→
      ∃t,PSs (Xge CX P w K mg base N qual scope f cdv A outer s H E) body t∧t {nx:=fun _ H'=>Q .non H',rt:=Q} (start N vs) H) :
    Zao P w K mg base CX (k+1) f (fnOf name qual params body scope dV kV doc pm an cdv ct) ps sp:=by
  refine ⟨len,fun A outer s H args us vs Q E hr e0 hb r hsp=>?_⟩
  have hl:=len _ _ _ _ hsp
  have KX:K.In s.heap:=e0.mod.kin.keeps fun b o e=>(e0.bs b o e).1
  have lim:s.heap.NoLimit:=e0.mod.nolimit.keeps fun b o e=>(e0.bs b o e).1
  have hkind:∀y∈ps.zip us,scope.names.lookup y.1=some .local∨(scope.names.lookup y.1=some .cell∧((cellsFrom (s.heap.objs.size+1) scope.names []).lookup y.1).isSome=true):=fun ⟨n,v⟩ hy=>by
    rcases S.par n (List.of_mem_zip hy).1 with q | q
    · exact .inl q
    · exact .inr ⟨q,PySem.W.cellsFrom_some _ _ _ (.inl q)⟩
  refine codeAny_call_function hr.depth (KX _ _ lk) rfl S.co S.gen rfl (PySem.W.codeRec_of KX hcd) (hb _ _ _ _ ?_)
  refine wpAny_newFunctionEnv_cells S.kind hkind fun env he s1 x=>?_
  subst he
  refine ⟨lim.keeps x.toInCall.keep,codeAny_func ?_⟩
  obtain ⟨t,ht,hq⟩:=hbody A outer s H vs Q E (hr.deeper _) hsp
  have I:Inv (Xge CX P w K mg base N qual scope f cdv A outer s H E) [] (start N vs) H s1:=Zxq S hr.hd e0 hl r x
  refine wpAny_mono (ht [] s1 (start N vs) H _ I hq) (fun fl s' hs=>?_) fun e s' hs=>hs
  have fin:∀{σ':St} {H':Hp} {v:V} {u:Value},Inv (Xge CX P w K mg base N qual scope f cdv A outer s H E) [] σ' H' s'→RelV v u→Q v H'→CE outer P w H s Q u s':=
    fun {σ' H' v u} J rv q=>⟨v,H',J.os,J.bare,J.base,J.hok,rv,q⟩
  cases fl with
  | ret u =>
    obtain ⟨v,σ',H',J,rv,q⟩:=hs
    exact fin J rv q
  | next =>
    obtain ⟨σ',H',J,q⟩:=hs
    exact fin (v:=V.non) (u:=Value.none) J rfl q
  | brk =>
    obtain ⟨_,_,_,q⟩:=hs
    exact False.elim q
  | cont =>
    obtain ⟨_,_,_,q⟩:=hs
    exact False.elim q
section
variable {X:Cx}{x:Str}{p pos:Pos}{e:Expr}{es:List Expr}{t:TA}{id T:String}{r:List V→Hp→VK→Prop}
def tCB (r:List V→Hp→VK→Prop)(t:TA):TE:=fun σ H Q=>t σ H fun vs H1=>r vs H1 Q
theorem Xce (hc:Zaf X (.builtin id) r)(hg:Gl X x)(hm:X.mg x=none)(hv:bootBuiltins x=some (.builtin id))(ha:PA X (e::es) t)(hn:x≠"__name__":=by decide)(hdb:(x==("__debug__":Str))=false:=by decide)
  (he:starEach (e::es) X.env=(false,eval e X.env)::starEach es X.env:=by rfl) (hpl:(backTo pos (starEach es X.env)).any (·.1)=false:=by rfl):PE X (.Call (.Name x p) (e::es) [] pos) (tCB r t):=by
 intro pins s σ H Q I h
 refine wpAny_Call_Name_kw (Zee I hg hm hv ?_ hn hdb)
 exact PyProof.Rows.callWith_builtin1 (thn (ha pos pins s σ H _ I h) fun us s1 ⟨vs,H1,I1,r1,q1⟩=>hc pins s1 σ H1 vs us Q I1 r1 q1) he hpl
theorem Zyb (hc:Zaf X (.type T) r)(hg:Gl X x)(hm:X.mg x=none)(hv:bootBuiltins x=some (.type T))(ha:PA X (e::es) t)(hn:x≠"__name__":=by decide)(hdb:(x==("__debug__":Str))=false:=by decide)
  (he:starEach (e::es) X.env=(false,eval e X.env)::starEach es X.env:=by rfl) (hpl:(backTo pos (starEach es X.env)).any (·.1)=false:=by rfl):PE X (.Call (.Name x p) (e::es) [] pos) (tCB r t):=by
 intro pins s σ H Q I h
 refine wpAny_Call_Name_kw (Zee I hg hm hv ?_ hn hdb)
 exact PyProof.Rows.callWith_type1 (thn (ha pos pins s σ H _ I h) fun us s1 ⟨vs,H1,I1,r1,q1⟩=>hc pins s1 σ H1 vs us Q I1 r1 q1) he hpl
end
end L2
namespace HT
open PySem PyProof.Rows
noncomputable def lexLt:List Int→List Int→Bool
 | [],[]=>false
 | [],_::_=>true
 | _::_,[]=>false
 | x::xs,y::ys=>if x=y then lexLt xs ys else decide (x<y)
section
open PySem.SeqAt
open PySem.AutoSeq1 (wpAny_loadPart')
open PySem.MeetsSeq PySem.MeetsSeq2 PySem.MeetsSeq3
variable {prog:Program}{w:World}{A:Around}{E:Value→Shared→Prop}{s:Shared}
noncomputable def sIx (n d:Nat):Option Int→Nat
 | none=>d
 | some v=>if v<0 then (v+(n:Int)).toNat else min v.toNat n
theorem clip_eq (v:Int)(n d:Nat):(if v<0 then max (v+(n:Int)) 0 else min v (n:Int))=((sIx n d (some v):Nat):Int):=by
 show (if v<0 then max (v+(n:Int)) 0 else min v (n:Int))=(((if v<0 then (v+(n:Int)).toNat else min v.toNat n):Nat):Int)
 by_cases hv:v<0
 ·simp only [if_pos hv];omega
 ·simp only [if_neg hv];omega
end
end HT
namespace L2
open PySem PySem.Spec PyProof.Rows
noncomputable abbrev TO:=St→Hp→(Option Int→Hp→Prop)→Prop
def PO (X:Cx)(e:Option Expr)(t:TO):Prop:=
 ∀(pins:List (Addr×Obj)) (s:Shared) (σ:St) (H:Hp) (Q:Option Int→Hp→Prop),Inv X pins σ H s→t σ H Q→
  wpAny (model X.prog X.w) X.A (evalPart e X.env) (fun u s'=>∃o H',Inv X pins σ H' s'∧IsPart u o∧Q o H') X.xe s
noncomputable def Zko:TO:=fun _ H Q=>Q none H
noncomputable def Zzy (t:TE):TO:=fun σ H Q=>t σ H fun x H1=>∃i,x=.int i∧Q (some i) H1
theorem intsAre_of {ns:List Int}:∀{us:List Value},Ys (ns.map V.int) us→IntsAre us ns:=by
 induction ns with
 | nil=>intro us r;rw [map_nil] at r;cases r;exact .nil
 | cons n ns ih =>
  intro us r
  rw [map_cons] at r
  cases r with
  | cons r1 r2 =>
   obtain ⟨t,e⟩:=r1
   subst e
   exact .cons n t (ih r2)
section
variable {X:Cx}{e:Expr}{te:TE}{lo hi:Option Expr}{tl th:TO}{pos p2:Pos}
theorem Xke:PO X none Zko:=by
 intro pins s σ H Q I h
 rw [evalPart_none]
 exact wpAny_pure ⟨none,H,I,.none,h⟩
theorem Xms (h:PE X e te):PO X (some e) (Zzy te):=by
 intro pins s σ H Q I hw
 rw [evalPart_some]
 refine thn (h pins s σ H _ I hw) fun u s1 hz9=>?_
 obtain ⟨x,H1,I1,r1,q1⟩:=hz9
 obtain ⟨i,rfl,q⟩:=q1
 obtain ⟨t,rfl⟩:=r1
 exact ⟨some i,H1,I1,.int i t,q⟩
def SlR (X:Cx)(r:V→Option Int→Option Int→Hp→VK→Prop):Prop:=
 ∀(pins:List (Addr×Obj)) (s:Shared) (σ:St) (H:Hp) (x:V) (v vl vu:Value) (lo hi:Option Int) (sl:Addr) (Q:VK),Inv X pins σ H s→RelV x v→s.heap.IsSliceOf sl vl vu .none→IsPart vl lo→IsPart vu hi→r x lo hi H Q→
  ∃T id,typeLookup (.type T) "__getitem__"=pure (some (.builtin id))∧s.TypeIs v T∧wpAny (model X.prog X.w) X.A (getItem v (.ref sl)) (EP X pins σ Q) X.xe s
def tSl (r:V→Option Int→Option Int→Hp→VK→Prop)(te:TE)(tl th:TO):TE:=fun σ H Q=>te σ H fun x H1=>tl σ H1 fun l H2=>th σ H2 fun u H3=>r x l u H3 Q
theorem Xem {r:V→Option Int→Option Int→Hp→VK→Prop}(hr:SlR X r)(he:PE X e te)(hl:PO X lo tl)(hu:PO X hi th):PE X (.Subscript e (.Slice lo hi none p2) pos) (tSl r te tl th):=by
 intro pins s σ H Q I h
 refine Subscript_ (thn (he pins s σ H _ I h) fun v s1 hz9=>?_)
 obtain ⟨x,H1,I1,r1,q1⟩:=hz9
 refine wpAny_Slice (thn (hl pins s1 σ H1 _ I1 q1) fun vl s2 ⟨l,H2,I2,pl,q2⟩=>thn (hu pins s2 σ H2 _ I2 q2) fun vu s3 ⟨u,H3,I3,pu,q3⟩=>?_)
 rw [evalPart_none]
 refine wpAny_pure ?_
 have I4:Inv X pins σ H3 {s3 with heap:=s3.heap.push {cls:=.type "slice",data:=.fields #[vl,vu,.none]}}:=I3.kept (t':=s3.toks) fun b ob q=>get?_push_of_some _ q
 obtain ⟨T,id,hT,ht,hg⟩:=hr pins {s3 with heap:=s3.heap.push {cls:=.type "slice",data:=.fields #[vl,vu,.none]}} σ H3 x v vl vu l u s3.heap.objs.size Q I4 r1 (Heap.IsSliceOf.new ..) pl pu q3
 show wpAny (model X.prog X.w) X.A (subscriptTail e (.Slice lo hi none p2) v (.ref s3.heap.objs.size)) (EP X pins σ Q) X.xe {s3 with heap:=s3.heap.push {cls:=.type "slice",data:=.fields #[vl,vu,.none]}}
 exact tail_any (ops:=[.ref s3.heap.objs.size,v]) ht hT hg (by with_unfolding_all rfl)
noncomputable def Xez (xs:List V)(lo hi:Option Int):List V:=(xs.drop (HT.sIx xs.length 0 lo)).take (HT.sIx xs.length xs.length hi - HT.sIx xs.length 0 lo)
theorem Zpq (xs:List V)(lo hi:Option Int):(Xez xs lo hi).length≤xs.length:=by
 unfold Xez
 rw [length_take,length_drop]
 omega
end
noncomputable def ixN (n:Nat)(i:Int):Option Nat:=if 0≤i then (if i<n then some i.toNat else none) else if -(n:Int)≤i then some (i+n).toNat else none
noncomputable def atI {α:Type}(xs:List α)(i:Int):Option α:=(ixN xs.length i).bind fun j=>xs[j]?
theorem Zxz {n:Nat}{i:Int}{j:Nat}(h:ixN n i=some j):seqIndex? i n=some j∧j<n∧-(n:Int)≤i∧i<n:=by
 unfold ixN at h
 by_cases h0:0≤i
 ·rw [if_pos h0] at h
  by_cases h1:i<n
  ·rw [if_pos h1] at h
   have e:i.toNat=j:=Option.some.inj h
   exact ⟨by rw [seqIndex_of h0 h1,e],by omega,by omega,h1⟩
  ·rw [if_neg h1] at h;cases h
 ·rw [if_neg h0] at h
  by_cases h1:-(n:Int)≤i
  ·rw [if_pos h1] at h
   have e:(i+n).toNat=j:=Option.some.inj h
   exact ⟨by rw [seqIndex_neg (by omega) h1,e],by omega,h1,by omega⟩
  ·rw [if_neg h1] at h;cases h
theorem Zcl {α:Type}{xs:List α}{i:Int}{v:α}(h:atI xs i=some v):∃j,seqIndex? i xs.length=some j∧xs[j]?=some v∧j<xs.length∧-(xs.length:Int)≤i∧i<xs.length:=by
 unfold atI at h
 cases e:ixN xs.length i with
 | none=>rw [e] at h;cases h
 | some j =>
  rw [e] at h
  obtain ⟨h1,h2,h3,h4⟩:=Zxz e
  exact ⟨j,h1,h,h2,h3,h4⟩
def Zag (b:Expr):Prop:=∀o i,subscripted b false o i=operate [o,i] (getItem o i)
def IxR (X:Cx)(r:R2):Prop:=
 ∀(value slice:Expr) (pins:List (Addr×Obj)) (s:Shared) (σ:St) (H:Hp) (x y:V) (v u:Value) (Q:VK),Inv X pins σ H s→RelV x v→RelV y u→r x y H Q→
  subscripted slice false v u=operate [v,u] (getItem v u)→wpAny (model X.prog X.w) X.A (subscriptTail value slice v u) (EP X pins σ Q) X.xe s
def MtR (X:Cx)(id:String)(r:V→List V→Hp→VK→Prop):Prop:=
 ∀(pins:List (Addr×Obj)) (s:Shared) (σ:St) (H:Hp) (x:V) (xs:List V) (v:Value) (us:List Value) (Q:VK),Inv X pins σ H s→RelV x v→Ys xs us→r x xs H Q→
  wpAny (model X.prog X.w) X.A (call (.builtin id) (v::us)) (EP X pins σ Q) X.xe s
section
variable {X:Cx}{a b:Expr}{ta tb:TE}{pos:Pos}
theorem IxR.or {r r':R2}(h:IxR X r)(h':IxR X r'):IxR X (fun x y H Q=>r x y H Q∨r' x y H Q):=by
 intro value slice pins s σ H x y v u Q I rx ry q hs
 rcases q with q | q
 ·exact h value slice pins s σ H x y v u Q I rx ry q hs
 ·exact h' value slice pins s σ H x y v u Q I rx ry q hs
theorem pe_ix {r:R2}(hr:IxR X r)(ha:PE X a ta)(hb:PE X b tb)(hs:Zag b):PE X (.Subscript a b pos) (tOp r ta tb):=by
 intro pins s σ H Q I h
 exact Subscript_ (binT ha hb I h fun v u s2 x y H2 I2 rx ry q=>hr a b pins s2 σ H2 x y v u Q I2 rx ry q (hs _ _))
noncomputable def rIxL (K:Frag):R2:=fun x y H Q=>∃p xs i v,x=.ref p∧y=.int i∧SqL K H p xs∧atI xs i=some v∧Q v H
noncomputable def rIxT (K:Frag):R2:=fun x y H Q=>∃p xs i v,x=.ref p∧y=.int i∧SqT K H p xs∧atI xs i=some v∧Q v H
noncomputable def rIxS:R2:=fun x y H Q=>∃z i c,x=.str z∧y=.int i∧z.length≤sizeLine∧atI z.cps.toList i=some c∧Q (.str ⟨#[c]⟩) H
theorem Xhp:IxR X (rIxL X.K):=by
 intro value slice pins s σ H x y v u Q I rx ry h hs
 obtain ⟨p,xs,i,z,rfl,rfl,hq,he,q⟩:=h
 cases rx
 obtain ⟨t,rfl⟩:=ry
 obtain ⟨its,r,pl,hz⟩:=I.list hq
 obtain ⟨j,h1,h2,h3,h4,h5⟩:=Zcl he
 obtain ⟨w,ew,rw'⟩:=r.get h2
 have hl:=r.length
 have hn:=Zjh
 have fin:EP X pins σ Q w s:=⟨z,H,I,rw',q⟩
 by_cases h0:0≤i
 ·have hj:i.toNat=j:=by
   rw [seqIndex_of h0 h5] at h1
   exact Option.some.inj h1
  exact item_listR pl.isList h0 (by omega) (by rw [hj];simpa using ew) fin hs
 ·have hj:(i+(its.toArray.size:Int)).toNat=j:=by
   rw [seqIndex_neg (by omega) h4] at h1
   rw [size_toArray,← hl]
   exact Option.some.inj h1
  exact subscriptTail_builtinR (x:=w) pl.isList.typeIs slot_list_getitem.lookup
   (wpAny_getItem_list_neg (Q:=fun r s'=>r=w∧EP X pins σ Q r s') pl.isList (by omega) (by rw [size_toArray]<;>omega) (by omega) (by rw [hj];simpa using ew) ⟨rfl,fin⟩) hs
theorem Xpd:IxR X (rIxT X.K):=by
 intro value slice pins s σ H x y v u Q I rx ry h hs
 obtain ⟨p,xs,i,z,rfl,rfl,hq,he,q⟩:=h
 cases rx
 obtain ⟨t,rfl⟩:=ry
 obtain ⟨its,r,pl,hz⟩:=I.tuple hq
 obtain ⟨j,h1,h2,h3,h4,h5⟩:=Zcl he
 obtain ⟨w,ew,rw'⟩:=r.get h2
 have hl:=r.length
 have hn:=Zjh
 have fin:EP X pins σ Q w s:=⟨z,H,I,rw',q⟩
 exact subscriptTail_builtinR (x:=w) pl.typeIs slot_tuple_getitem.lookup
  (getItem_tuple (j:=j) (Q:=fun r s'=>r=w∧EP X pins σ Q r s') pl (by omega) (by omega) (by rw [size_toArray,← hl];exact h1) (by simpa using ew) ⟨rfl,fin⟩) hs
theorem Xqw:IxR X rIxS:=by
  intro value slice pins s σ H x y v u Q I rx ry h hs
  obtain ⟨z,i,c,rfl,rfl,hz,he,q⟩:=h
  obtain ⟨t,rfl⟩:=rx
  obtain ⟨t',rfl⟩:=ry
  obtain ⟨j,h1,h2,h3,h4,h5⟩:=Zcl he
  have hl:z.cps.toList.length=z.length:=by simp [Str.length]
  rw [hl] at h1 h4 h5
  have hn:=Zjh
  exact tail_any (typeIs_str s z t) slot_str_getitem.lookup (getItem_str (c:=c) (by
    have e1:decide (i < -(2 ^ 63:Int))=false:=decide_eq_false (by omega)
    have e2:decide (i≥2 ^ 63)=false:=decide_eq_false (by omega)
    rw [e1,e2,Bool.or_false]) (by rw [h1];simpa using h2) ⟨.str ⟨#[c]⟩,H,I.tok _,⟨_,rfl⟩,q⟩) hs
noncomputable def rIx (K:Frag):R2:=fun x y H Q=>rIxL K x y H Q∨rIxT K x y H Q∨rIxS x y H Q
theorem Zri:IxR X (rIx X.K):=Xhp.or (Xpd.or Xqw)
theorem Znl (lo hi:Option Int)(n:Nat):(sliceBounds lo hi none n).1=((HT.sIx n 0 lo:Nat):Int)∧(sliceBounds lo hi none n).2.1=((HT.sIx n n hi:Nat):Int)∧(sliceBounds lo hi none n).2.2=1:=by
 refine ⟨?_,?_,rfl⟩
 ·cases lo with
  | none=>simp [sliceBounds,HT.sIx]
  | some i =>
   simp only [sliceBounds,HT.sIx,Option.getD_none,show (1:Int) > 0 by decide,if_true]
   by_cases h:i<0
   ·simp only [h,if_true]<;>omega
   ·simp only [h,if_false]<;>omega
 ·cases hi with
  | none=>simp [sliceBounds,HT.sIx]
  | some i =>
   simp only [sliceBounds,HT.sIx,Option.getD_none,show (1:Int) > 0 by decide,if_true]
   by_cases h:i<0
   ·simp only [h,if_true]<;>omega
   ·simp only [h,if_false]<;>omega
theorem Zkh (its:List Value)(lo hi:Option Int):slicePick its.toArray lo hi none=((its.drop (HT.sIx its.length 0 lo)).take (HT.sIx its.length its.length hi - HT.sIx its.length 0 lo)).toArray:=by
 obtain ⟨h1,h2,h3⟩:=Znl lo hi its.toArray.size
 unfold slicePick
 rw [h1,h2,h3]
 simp only [sliceRange_one,pick_run,size_toArray]<;>rfl
def rSlL (K:Frag):V→Option Int→Option Int→Hp→VK→Prop:=fun x lo hi H Q=>∃a xs,x=.ref a∧SqL K H a xs∧∀p,H p=none→Q (.ref p) (upd H p (.lst (Xez xs lo hi)))
theorem Xni:SlR X (rSlL X.K):=by
 intro pins s σ H x v vl vu lo hi sl Q I rx hs pl pu h
 obtain ⟨a,xs,rfl,hx,q⟩:=h
 cases rx
 obtain ⟨its,r,ht,hz⟩:=I.list hx
 have hlen:=r.length
 refine ⟨"list",_,slot_list_getitem.lookup,ht.isList.typeIs,?_⟩
 refine wpAny_getItem_list_slice ht.isList hs pl pu .none (by simp) ?_ (by rw [size_toArray]<;>omega)
 rw [Zkh,← hlen]
 refine ⟨.ref s.heap.objs.size,_,I.laid (t':=s.toks) (o:=.lst (Xez xs lo hi)) (fun b ob q=>get?_push_of_some _ q) (le_refl _) ?_,rfl,q _ (I.hok.fresh (le_refl _))⟩
 exact ⟨le_trans (Zpq xs lo hi) hz,_,0,(r.drop (HT.sIx xs.length 0 lo)).take (HT.sIx xs.length xs.length hi - HT.sIx xs.length 0 lo),get?_push_size _ rfl⟩
theorem Znk:Zaf X (.builtin "len") (fun xs H Q=>∃p ys,xs=[.ref p]∧(SqL X.K H p ys∨SqT X.K H p ys)∧Q (.int ys.length) H):=by
 intro pins s σ H xs us Q I r h
 obtain ⟨p,ys,rfl,hq,q⟩:=h
 obtain ⟨u,rfl,rx⟩:=vals1 r
 cases rx
 have hn:=Zjh
 rcases hq with hq | hq
 ·obtain ⟨its,r',pl,hz⟩:=I.list hq
  have hlen:=r'.length
  exact Calls.call_len_list pl.isList (by simp only [size_toArray]<;>omega) ⟨.int ys.length,H,I.tok _,⟨s.toks+1,by rw [size_toArray,hlen]⟩,q⟩
 ·obtain ⟨its,r',pl,hz⟩:=I.tuple hq
  have hlen:=r'.length
  exact len_tuple pl (by simp only [size_toArray]<;>omega) ⟨.int ys.length,H,I.tok _,⟨s.toks+1,by rw [size_toArray,hlen]⟩,q⟩
theorem Zmg:Zaf X (.builtin "len") (fun xs H Q=>∃z,xs=[.str z]∧z.length≤sizeLine∧Q (.int z.length) H):=by
 intro pins s σ H xs us Q I r h
 obtain ⟨z,rfl,hz,q⟩:=h
 obtain ⟨u,rfl,t,rfl⟩:=vals1 r
 have hn:=Zjh
 exact len_str (by omega) ⟨.int z.length,H,I.tok _,⟨_,rfl⟩,q⟩
theorem Zaf.or {f:Value}{r r':List V→Hp→VK→Prop}(h:Zaf X f r)(h':Zaf X f r'):Zaf X f (fun xs H Q=>r xs H Q∨r' xs H Q):=by
 intro pins s σ H xs us Q I rs q
 rcases q with q | q
 ·exact h pins s σ H xs us Q I rs q
 ·exact h' pins s σ H xs us Q I rs q
theorem Znh:Zaf X (.type "list") (fun xs H Q=>∃p ys,xs=[.ref p]∧(SqL X.K H p ys∨SqT X.K H p ys)∧∀l,H l=none→Q (.ref l) (upd H l (.lst ys))):=by
 intro pins s σ H xs us Q I r h
 obtain ⟨p,ys,rfl,hq,q⟩:=h
 obtain ⟨u,rfl,rx⟩:=vals1 r
 cases rx
 have fin:∀(its:List Value),Ys ys its→ys.length≤sizeLine→∀(h':Heap) (c':Nat),(∀b o',s.heap.get? b=some o'→h'.get? b=some o')→
   h'.get? s.heap.objs.size=some {cls:=.type "list",dict:=none,data:=.seq its.toArray c',slots:=#[]}→EP X pins σ Q (.ref s.heap.objs.size) {s with heap:=h'}:=fun its r' hz h' c' kp e =>
  ⟨.ref s.heap.objs.size,_,I.laid (t':=s.toks) kp (le_refl _) (show Zaa X.prog X.w _ h' _ (.lst ys) from ⟨hz,its,c',r',e⟩),rfl,q _ (I.hok.fresh (le_refl _))⟩
 rcases hq with hq | hq
 ·obtain ⟨its,r',pl,hz⟩:=I.list hq
  have hlen:=r'.length
  obtain ⟨o,ho,hc,n,hd⟩:=pl.isList
  exact call_list_seq p (.inl rfl) ho hc hd (fun h' c' kp e=>fin its r' hz h' c' kp e) (by simp only [size_toArray]<;>omega)
 ·obtain ⟨its,r',pl,hz⟩:=I.tuple hq
  have hlen:=r'.length
  obtain ⟨o,ho,hc,n,hd⟩:=pl
  exact call_list_seq p (.inr rfl) ho hc hd (fun h' c' kp e=>fin its r' hz h' c' kp e) (by simp only [size_toArray]<;>omega)
def tyV (K:Frag)(T:String)(x:V)(H:Hp):Prop:=match x with
 | .str _=>T="str"
 | .int _=>T="int"
 | .ref p=>(T="list"∧∃xs,SqL K H p xs)∨(T="tuple"∧∃o,K.lookup p=some o∧o.cls=.type "tuple"∧o.dict=none)∨
   (T="dict"∧((∃kvs,H p=some (.dK kvs))∨∃kvs,H p=some (.dT kvs)))∨(T="set"∧∃S n,H p=some (.set S n))
 | _=>False
theorem Xtk {pins:List (Addr×Obj)}{σ:St}{H:Hp}{s:Shared}{T:String}{x:V}{v:Value}(I:Inv X pins σ H s)(r:RelV x v)(ty:tyV X.K T x H) :
  s.TypeIs v T∧∀a,v=.ref a→∃ob,s.heap.get? a=some ob∧ob.dict=none:=by
 cases x with
 | str z =>
  obtain ⟨t,rfl⟩:=r
  cases (show T="str" from ty)
  exact ⟨typeIs_str s z t,fun _ e=>nomatch e⟩
 | int i =>
  obtain ⟨t,rfl⟩:=r
  cases (show T="int" from ty)
  exact ⟨typeIs_int s i t,fun _ e=>nomatch e⟩
 | ref p =>
  cases r
  rcases ty with ⟨rfl,xs,hq⟩ | ⟨rfl,o,hk,hc,hd⟩ | ⟨rfl,hk⟩ | ⟨rfl,S,n,hk⟩
  ·obtain ⟨its,_,pl,_⟩:=I.list hq
   refine ⟨pl.isList.typeIs,fun a e=>?_⟩
   cases e
   obtain ⟨o,n,e,c,hd,_⟩:=pl
   exact ⟨o,e,hd⟩
  ·refine ⟨⟨o,I.kIn p o hk,hc⟩,fun a e=>?_⟩
   cases e
   exact ⟨o,I.kIn _ o hk,hd⟩
  ·have z:∃o,s.heap.get? p=some o∧o.ExactDict:=by
    rcases hk with ⟨kvs,hk⟩ | ⟨kvs,hk⟩
    ·obtain ⟨_,_,_,_,o,_,_,e,ex,_⟩:=I.hok p _ hk
     exact ⟨o,e,ex⟩
    ·obtain ⟨_,_,_,_,o,_,_,e,ex,_⟩:=I.hok p _ hk
     exact ⟨o,e,ex⟩
   obtain ⟨o,e,ex⟩:=z
   refine ⟨⟨o,e,ex.1⟩,fun a e2=>?_⟩
   cases e2
   exact ⟨o,e,ex.2.1⟩
  ·obtain ⟨o,_,_,_,e,ex,_⟩:=I.hok p _ hk
   refine ⟨⟨o,e,ex.1⟩,fun a e2=>?_⟩
   cases e2
   exact ⟨o,e,ex.2.1⟩
 | _=>exact False.elim ty
def tBM (K:Frag)(T:String)(r:V→List V→Hp→VK→Prop)(to:TE)(t:TA):TE:=fun σ H Q=>to σ H fun x H1=>tyV K T x H1∧t σ H1 fun xs H2=>r x xs H2 Q
variable {o e:Expr}{es:List Expr}{to:TE}{t:TA}{name:Str}{apos cpos:Pos}{T id:String}{r:V→List V→Hp→VK→Prop}
theorem pe_bm (pa:PlainAttrs T)(slot:Slot T name id)(hty:typeOf (.builtin id)=pure (.type "method_descriptor"))(hm:MtR X id r)(ho:PE X o to)(ha:PA X (e::es) t)
    (hbase:attributeBase o name X.env (eval o X.env)=eval o X.env:=by rfl)
    (hfew:((backTo cpos (starEach (e::es) X.env)).all (fun x=>!x.1)&&(backToKw cpos (keywordEach [] X.env)).all (fun x=>x.1.isSome)
      && decide ((e::es).length+([]:List Keyword).length+(if ([]:List Keyword).isEmpty then 0 else 1)<30))=true:=by rfl)
    (hline:(apos.endLine==cpos.line)=true:=by rfl) (hs:starEach (e::es) X.env=(false,eval e X.env)::starEach es X.env:=by rfl) (hplain:(backTo cpos (starEach es X.env)).any (·.1)=false:=by rfl) :
    PE X (.Call (.Attribute o name apos) (e::es) [] cpos) (tBM X.K T r to t):=by
  intro pins s σ H Q I h
  refine wpAny_Call_method_late hbase hfew hline rfl (thn (ho pins s σ H _ I h) fun v s1 hz9=>?_)
  obtain ⟨x,H1,I1,r1,ty,q1⟩:=hz9
  obtain ⟨h1,h2⟩:=Xtk I1 r1 ty
  refine ⟨T,id,pa,slot,hty,h1,h2,?_⟩
  have hA:=ha cpos pins s1 σ H1 _ I1 q1
  rw [hs] at hA ⊢
  refine Calls.callWith_builtin (by show (false||(backTo cpos (starEach es X.env)).any (·.1))=false;rw [hplain]<;>rfl) (Calls.evalArgs_plain ?_)
  exact thn hA fun us s2 ⟨vs,H2,I2,r2,q2⟩=>hm pins s2 σ H2 x vs v us Q I2 r1 r2 q2
end
def MtM (X:Cx)(id:String)(r:V→List V→Hp→VK→Prop):Prop:=
 ∀(pins:List (Addr×Obj)) (s:Shared) (σ:St) (H:Hp) (x:V) (xs:List V) (v:Value) (us:List Value) (Q:VK),Inv X pins σ H s→RelV x v→Ys xs us→r x xs H Q→
  wpAny (model X.prog X.w) X.A (call (.builtin id) (v::us)) (EP X pins σ Q) X.xe s
theorem Ys.one:∀{x:V} {us:List Value},Ys [x] us→∃u,us=[u]∧RelV x u
 | _,_,.cons r .nil=>⟨_,rfl,r⟩
theorem Ys.zero:∀{us:List Value},Ys [] us→us=[]
 | _,.nil=>rfl
theorem Ys.reverse {xs:List V}{us:List Value}(h:Ys xs us):Ys xs.reverse us.reverse:=by
 induction h with
 | nil=>exact .nil
 | cons r t ih=>rw [reverse_cons,reverse_cons];exact Ys.append ih (.cons r .nil)
theorem Ys.rep {xs:List V}{us:List Value}(h:Ys xs us):∀k:Nat,Ys (List.replicate k xs).flatten (List.replicate k us).flatten
 | 0=>.nil
 | k+1=>by
  rw [replicate_succ,replicate_succ,flatten_cons,flatten_cons]
  exact Ys.append h (Ys.rep h k)
theorem foldl_rep (its:List Value):∀(k:Nat) (acc:List Value),
  List.foldl (fun x1 x2=>x1++x2) acc.toArray (List.replicate k its.toArray)=(acc++(List.replicate k its).flatten).toArray
 | 0,acc=>by simp
 | k+1,acc=>by
  have e:acc.toArray++its.toArray=(acc++its).toArray:=by simp
  have e2:(acc++its)++(List.replicate k its).flatten=acc++(List.replicate (k+1) its).flatten:=by
   rw [replicate_succ,flatten_cons,append_assoc]
  rw [← e2,← foldl_rep its k (acc++its),← e,replicate_succ,foldl_cons]
section
variable {X:Cx}{pins:List (Addr×Obj)}{σ:St}{H:Hp}{s:Shared}{l b:Addr}{xs ys zs:List V}
theorem Inv.lset {its its':List Value}{n:Nat}{f:Array Value→Array Value}{t':Nat}(I:Inv X pins σ H s)(hH:H l=some (.lst xs))
  (e:s.heap.get? l=some {cls:=.type "list",data:=.seq its.toArray n}) (hf:f its.toArray=its'.toArray) (hv:Ys ys its') (hz:ys.length≤sizeLine) :
  Inv X pins σ (upd H l (.lst ys)) {s with heap:=s.heap.update l (Obj.mapSeq f),toks:=t'}:=by
 have q:=PySem.IsL.update e f
 rw [hf] at q
 refine I.write (x:=l) (e:=l) (by rw [hH];exact trivial) (.inl rfl) (fun b' u hb hu=>(Heap.get?_update_other s.heap (Obj.mapSeq f) (Ne.symm hb)).trans hu) ⟨_,q⟩ ?_
 exact ⟨hz,its',_,hv,q⟩
theorem Inv.lnew {its:List Value}{t':Nat}(I:Inv X pins σ H s)(hv:Ys ys its)(hz:ys.length≤sizeLine) :
  Inv X pins σ (upd H s.heap.objs.size (.lst ys)) {s with heap:=s.heap.push {cls:=.type "list",data:=.seq its.toArray},toks:=t'}:=
 I.laid (fun _ _ q=>get?_push_of_some _ q) (le_refl _) ⟨hz,its,0,hv,get?_push_size _ rfl⟩
theorem Inv.fresh (I:Inv X pins σ H s):H s.heap.objs.size=none:=I.hok.fresh (le_refl _)
theorem Inv.lstM (I:Inv X pins σ H s)(hH:H l=some (.lst xs)):xs.length≤sizeLine∧∃(its:List Value) (n:Nat),Ys xs its∧xs.length=its.length∧s.heap.get? l=some {cls:=.type "list",data:=.seq its.toArray n}:=by
 obtain ⟨z,its,n,r,e⟩:=I.hok l _ hH
 exact ⟨z,its,n,r,r.length,e⟩
theorem Zsg {n:Nat}(h:n≤sizeLine):Builtin.List.listTooLong n=false:=by
 unfold Builtin.List.listTooLong
 exact decide_eq_false (by omega)
end
section
variable {X:Cx}
def Zdy:V→List V→Hp→VK→Prop:=fun x vs H Q=>∃l xs y,x=.ref l∧vs=[y]∧H l=some (.lst xs)∧xs.length<sizeLine∧Q .non (upd H l (.lst (xs++[y])))
theorem Zia:MtM X "list.append" Zdy:=by
 intro pins s σ H x vs v us Q I rx rv h
 obtain ⟨l,xs,y,rfl,rfl,hH,hz,q⟩:=h
 cases rx
 obtain ⟨u,rfl,ru⟩:=rv.one
 obtain ⟨z,its,n,r,hl,e⟩:=I.lstM hH
 refine call_meets F.slot_list_append ⟨_,e,rfl⟩ F.entry_list_append (F.args_list_append_2 _ _) (PySem.list_append l its.toArray n u (by rw [size_toArray];omega)) ⟨e,?_⟩
 refine ⟨.non,_,I.lset (its':=its++[u]) hH e (by simp) (r.append (.cons ru .nil)) ?_,rfl,q⟩
 rw [length_append,length_singleton]
 omega
def Zpg:V→List V→Hp→VK→Prop:=fun x vs H Q=>∃l b xs zs,x=.ref l∧vs=[.ref b]∧H l=some (.lst xs)∧H b=some (.lst zs)∧xs.length+zs.length≤sizeLine∧Q .non (upd H l (.lst (xs++zs)))
theorem Zyn:MtM X "list.extend" Zpg:=by
 intro pins s σ H x vs v us Q I rx rv h
 obtain ⟨l,b,xs,zs,rfl,rfl,hH,hB,hz,q⟩:=h
 cases rx
 obtain ⟨u,rfl,ru⟩:=rv.one
 cases ru
 obtain ⟨z,its,n,r,hl,e⟩:=I.lstM hH
 obtain ⟨z2,its2,n2,r2,hl2,e2⟩:=I.lstM hB
 have hsz:its.toArray.size+its2.toArray.size≤sizeLine:=by rw [size_toArray,size_toArray];omega
 have hlong:¬(!its.toArray.isEmpty&&Builtin.List.listTooLong (its.toArray.size+its2.toArray.size))=true:=by
  rw [Zsg hsz,Bool.and_false]
  exact Bool.false_ne_true
 refine call_meets F.slot_list_extend ⟨_,e,rfl⟩ F.entry_list_extend (F.args_list_extend_2 _ _)
  (AutoSeq1.list_extend_list_list_0 l its.toArray n b its2.toArray n2 hlong (by rw [size_toArray];omega) (by omega)) ⟨e,e2,?_⟩
 refine ⟨.non,_,I.lset (its':=its++its2) hH e (by simp) (r.append r2) ?_,rfl,q⟩
 rw [length_append]
 omega
noncomputable def rCat:R2:=fun x y H Q=>∃l b xs zs,x=.ref l∧y=.ref b∧H l=some (.lst xs)∧H b=some (.lst zs)∧xs.length+zs.length≤sizeLine∧∀p,H p=none→Q (.ref p) (upd H p (.lst (xs++zs)))
theorem Xoa:OpR X (binaryOp .Add) rCat:=by
 intro pins s σ H x y v u Q I rx ry h
 obtain ⟨l,b,xs,zs,rfl,rfl,hH,hB,hz,q⟩:=h
 cases rx
 cases ry
 obtain ⟨z,its,n,r,hl,e⟩:=I.lstM hH
 obtain ⟨z2,its2,n2,r2,hl2,e2⟩:=I.lstM hB
 refine PySem.P.add_list e e2 ?_ (by rw [size_toArray,size_toArray];omega)
 have ea:its.toArray++its2.toArray=(its++its2).toArray:=by simp
 rw [ea]
 exact ⟨.ref _,_,I.lnew (t':=s.toks) (r.append r2) (by rw [length_append];omega),rfl,q _ I.fresh⟩
noncomputable def rRep:R2:=fun x y H Q=>∃l k xs,x=.ref l∧y=.int k∧H l=some (.lst xs)∧-(2 ^ 63)≤k∧k<2 ^ 63∧xs.length*k.toNat≤sizeLine∧
 ∀p,H p=none→Q (.ref p) (upd H p (.lst (List.replicate k.toNat xs).flatten))
theorem len_rep {α:Type}(xs:List α)(k:Nat):(List.replicate k xs).flatten.length=k*xs.length:=by
 induction k with
 | zero=>simp
 | succ k ih=>rw [replicate_succ,flatten_cons,length_append,ih,succ_mul,Nat.add_comm]
theorem Xoc:OpR X (binaryOp .Mult) rRep:=by
  intro pins s σ H x y v u Q I rx ry h
  obtain ⟨l,k,xs,rfl,rfl,hH,h1,h2,hz,q⟩:=h
  cases rx
  obtain ⟨t,rfl⟩:=ry
  obtain ⟨z,its,n,r,hl,e⟩:=I.lstM hH
  have hlen:its.toArray.size*k.toNat≤sizeLine:=by rw [size_toArray,← hl];exact hz
  have hcap:¬its.toArray.size*k.toNat > (2 ^ 63 - 1) / 8:=by
    have:(sizeLine:Nat)≤(2 ^ 63 - 1) / 8:=by decide
    omega
  have hfit:¬(!Builtin.List.listFitsIndex k)=true:=by
    rw [fitsIndex_both h1 h2]
    exact Bool.false_ne_true
  have hlong:¬Builtin.List.listTooLong (its.toArray.size*k.toNat)=true:=by
    rw [Zsg hlen]
    exact Bool.false_ne_true
  have hnew:List.foldl (fun x1 x2=>x1++x2) #[] (List.replicate (if its.toArray.isEmpty=true then 0 else k.toNat) its.toArray)=(List.replicate k.toNat its).flatten.toArray:=by
    have f0:∀m:Nat,List.foldl (fun x1 x2=>x1++x2) #[] (List.replicate m its.toArray)=(List.replicate m its).flatten.toArray:=fun m=>by
      have:=foldl_rep its m []
      rw [List.nil_append] at this
      exact this
    rw [f0]
    cases its with
    | nil=>simp
    | cons a r'=>rw [if_neg (by simp)]
  refine wpAny_binaryOp_repeat_ref (T:="list") (U:="int") (by decide) ⟨_,e,rfl⟩ (fun s'=>typeIs_int s' k t) noFill_list_mul F.fills_int_mul F.slot_int_rmul repeat_list F.slot_int_index.lookup
    (call_meets F.slot_int_rmul (typeIs_int s k t) F.entry_int_rmul (F.args_int_rmul_2 _ _) (int___rmul___int_list k t l its.toArray n)
      ⟨e,rfl,⟨_,e,rfl⟩,call_meets F.slot_list_mul ⟨_,e,rfl⟩ F.entry_list_mul (F.args_list_mul_2 _ _) (AutoListH.list___mul___list_int_3 l its.toArray n k t hfit hcap hlong) ⟨e,?_⟩⟩)
  rw [hnew]
  exact ⟨.ref _,_,I.lnew (t':=s.toks) (r.rep k.toNat) (by rw [len_rep,Nat.mul_comm];exact hz),rfl,q _ I.fresh⟩
variable {prog:Program}{w:World}{A:Around}{E:Value→Shared→Prop}{s:Shared}
set_option maxRecDepth 100000 in
end
end L2
namespace Att
open PySem PySem.W PySem.Calls PyProof.Rows
theorem Zhy {P:Params}{h:Heap}:∀(ns:List Int) (vs:List Value),WellAll P h vs (ns.map WData.int)→IntsAre vs ns:=by
 intro ns
 induction ns with
 | nil =>
  intro vs w
  rw [map_nil] at w
  cases w
  exact .nil
 | cons n ns ih =>
  intro vs w
  rw [map_cons] at w
  cases w with
  | cons a b =>
   cases a
   exact .cons _ _ (ih _ b)
theorem Zvm {l:OpenLaw}{n:Nat}(hn:l.most=some n){P:Params}{h:Heap}{args:List WData}{vals:List Value}
  (hpre:l.row.toRowW.claim.pre args=true) (hwl:WellAll P h vals args) :
  ∃a vs ns,vals=[Value.ref a]∧args=[WData.list (ns.map WData.int)]∧h.get? a=some {cls:=.type "list",data:=.seq vs.toArray}∧IntsAre vs ns∧ns.length≤n:=by
 have hsh:WShape.hasAll [] args [.list .int]=true:=(pre_splitW hpre).1
 have hc:l.pre.holds [] {args:=args}=true:=(pre_splitW hpre).2
 obtain ⟨d,r,rfl,h1,h2⟩:=hasAllW_cons hsh
 obtain rfl:=hasAllW_nil h2
 obtain ⟨xs,rfl,h3⟩:=hasW_list h1
 obtain ⟨ns,rfl⟩:=items_int h3
 have hlen:ns.length≤n:=by
  unfold OpenLaw.pre at hc
  have h4:(WTm.not (.lt (.lit (.int (n:Int))) (.len (.arg 0)))).holds [] {args:=[.list (ns.map .int)]}=true:=by
   have h4:=(holds_andW hc).1
   rw [hn] at h4
   exact h4
  have h5:=condW_of h4 (w_not (w_lt w_lit (w_len_list (w_arg rfl))))
  rw [length_map] at h5
  refine Nat.le_of_not_lt fun q=>?_
  have q':(n:Int)<((ns.length:Nat):Int):=by omega
  first
   | (rw [decide_eq_true q'] at h5;exact absurd h5 (by decide))
   | (simp at h5;omega)
 cases hwl with
 | cons w1 w2 =>
  cases w2
  cases w1 with
  | list ho hall=>exact ⟨_,_,ns,rfl,rfl,ho,Zhy ns _ hall,hlen⟩
theorem Zyq (l:OpenLaw)(args:List WData):l.row.toRowW.claim.post args (.bool true) args=true:=
 postW_of (r:=l.row.toRowW) (X:=(true==true))
  (show WShape.has [] (.bool true) .bool=true by first | rfl | decide | simp [WShape.has,WShape.arms,WShape.armsAll])
  (show (WTm.eq .res (.lit (.bool true))).value [] {args:=args,res:=some (.bool true),after:=args}=some (.bool (true==true)) from w_eq_bool (w_res rfl) w_lit) rfl
theorem attach_call {l:OpenLaw}{n:Nat}{q:Program}{loose:List Str}{XP:(Str→Option Value)→Heap→Prop}{YP:World→Heap→Prop}{d:DefRec}
    (hn:l.most=some n) (hdf:d.params.defaults=[])
    (call:∀(w:World) (s₀ s₁:Shared) (mg mb:Str→Option Value) (fa:Addr) (o:Obj) (pm cd doc:Value) (a:Addr) (vs:List Value) (ns:List Int),
      Ground q loose [] XP w s₀ mg mb s₁.heap→YP w s₁.heap→
      s₁.heap.get? fa=some o→o.data=.func (docDef d.name d.params d.body d.scope pm cd doc)→s₁.heap.CodeRec cd d.name→mg d.name=some (.ref fa)→
      s₁.heap.get? a=some {cls:=.type "list",data:=.seq vs.toArray}→IntsAre vs ns→ns.length≤n→s₁.gens=#[]→
      codeAny (model l.prog w) callerA (.call (.ref fa) ⟨[.ref a],[]⟩) (fun r s'=>r=.ok (.ret (.bool true))∧OldK s₁.heap s'.heap∧s'.os=s₁.os∧AllBare s'.gens) s₁) :
    WalkO q loose XP YP l.row.toRowW d [] (fun f vs=>PySem.call f vs):=by
  intro w s₀ s₁ mg mb G Y fa o pm cd doc dV kV ho hd hcd hD hmg hg args vals as hpre hlay hrd hwl hlo
  obtain rfl:dV=.none:=Dflts.none hD hdf
  obtain rfl:kV=.none:=Dflts.noKw hD
  obtain ⟨a,vs,ns,rfl,rfl,hobj,hints,hlen⟩:=Zvm hn hpre hwl
  refine enter_call (codeAny_mono (call w s₀ s₁ mg mb fa o pm cd doc a vs ns G Y ho (fd_plain hd) hcd hmg hobj hints hlen hg) fun r s' hq=>?_)
  obtain ⟨rfl,h2,h3,h4⟩:=hq
  exact ⟨.inl ⟨.bool true,.bool true,[],rfl,fun _=>rfl,.bool true,Zyq l _,fun _=>⟨List.Pairwise.nil,fun _ hm=>(nomatch hm)⟩⟩,h2,h3,h4⟩
section
variable {prog:Program}{w:World}{A:Around}{E:Value→Shared→Prop}{s:Shared}{K:Frag}
end
end Att
namespace L2
open PySem PySem.Spec PyProof.Rows
theorem Zlp:∀{vs:List Value} {ns:List Int},IntsAre vs ns→Ys (ns.map V.int) vs
 | _,_,.nil=>.nil
 | _,_,.cons n t h=>.cons ⟨t,rfl⟩ (Zlp h)
def Only (H:Hp):Prop:=∀b,H b=none∨∃o xs,H b=some (.frz o (.lst xs))
theorem Xaj {P:Program}{w:World}{K:Frag}{mg mb:Str→Option Value}{CX:CXT}{k:Nat}{fa a:Addr}{fd:FuncData}{x:Str}{sp:Sp}{s₁:Shared}{vs:List Value}{ns:List Int}
    (KX:K.In s₁.heap) (hns:s₁.heap.Ns mainGlobals mg) (hb:s₁.heap.Ns builtinsNs mb) (hbb:∀x:Str,x≠"__name__"→mb x=bootBuiltins x) (hlim:s₁.heap.NoLimit) (hg:s₁.gens=#[])
    (ha:s₁.heap.get? a=some {cls:=.type "list",data:=.seq vs.toArray}) (hi:IntsAre vs ns) (hl:ns.length≤sizeLine) (hr:Ziw k callerA)
    (F:∀base:Heap,K.In base→base.Ns mainGlobals mg→Zao P w K mg base CX k fa fd [x] sp) (hbind:∀(s:Shared) (u:Value),BindsTo s fd ⟨[u],[]⟩ [(x,u)])
    (hsp:∀H:Hp,Only H→SqL K H a (ns.map V.int)→sp [.ref a] H (fun v _=>v=.bl true) fun _ _ _=>False)
    (hCX:∀H e s',CX [] H s₁ (fun _ _ _=>False) e s'→False) :
    codeAny (model P w) callerA (.call (.ref fa) ⟨[.ref a],[]⟩) (fun r s'=>r=.ok (.ret (.bool true))∧OldK s₁.heap s'.heap∧s'.os=s₁.os∧AllBare s'.gens) s₁:=by
  have rv:=Zlp hi
  have lenV:=hi.length
  have core:∀H:Hp,Only H→SqL K H a (ns.map V.int)→HOk P w H s₁.heap→(∀b,H b≠none→b=a)→(H a≠none→K.lookup a=none)→
      codeAny (model P w) callerA (.call (.ref fa) ⟨[.ref a],[]⟩) (fun r s'=>r=.ok (.ret (.bool true))∧OldK s₁.heap s'.heap∧s'.os=s₁.os∧AllBare s'.gens) s₁:=by
    intro H hO hS hok hA hK
    have base_of:∀{b:Addr} {o:Obj},s₁.heap.get? b=some o→H b=none→(Xcc s₁.heap H).get? b=some o:=fun e n=>Xdv e n
    have noA:∀{b:Addr} {o:Obj} {es:Array DictEntry} {ep:Nat},s₁.heap.get? b=some o→o.data=.dict es ep→H b=none:=fun {b o es ep} e d=>by
      cases q:H b with
      | none=>rfl
      | some u =>
        have e':b=a:=hA b (by rw [q];simp)
        subst e'
        rw [ha] at e;cases e
        have d':Data.seq vs.toArray _=Data.dict es ep:=d
        cases d'
    have nsK:∀{b:Addr} {m:Str→Option Value},s₁.heap.Ns b m→(Xcc s₁.heap H).Ns b m:=fun {b m} ⟨o,es,ep,e,d,r⟩=>⟨o,es,ep,base_of e (noA e d),d,r⟩
    have hKb:K.In (Xcc s₁.heap H):=fun b o e=>base_of (KX b o e) (by
      cases q:H b with
      | none=>rfl
      | some u =>
        have e':b=a:=hA b (by rw [q];simp)
        subst e'
        rw [hK (by rw [q];simp)] at e;cases e)
    have hM:Mod K mg (Xcc s₁.heap H):=⟨hKb,nsK hns,⟨mb,nsK hb,hbb⟩,let ⟨mc,h1,h2⟩:=hlim;⟨mc,nsK h1,h2⟩⟩
    have e0:Xsv P w K mg (Xcc s₁.heap H) callerA [] s₁ H:=⟨rfl,hM,fun b o e=>Xlv e,le_of_eq (Zzi _ _),trivial,fun b hb=>absurd (show b∈([]:List Addr) from hb) (by simp),hok,.of_eq hg⟩
    refine codeAny_mono ((F _ hKb (nsK hns)).run callerA [] s₁ H ⟨[.ref a],[]⟩ [.ref a] [.ref a] _ _ hr e0 (hbind s₁ (.ref a)) (.cons rfl .nil) (hsp H hO hS)) fun r s' h=>?_
    cases r with
    | error e=>exact (hCX H e s' h).elim
    | ok fl =>
      cases fl with
      | next=>exact False.elim h
      | brk=>exact False.elim h
      | cont=>exact False.elim h
      | ret u =>
        obtain ⟨v,H',os,bare,un,hok',r',q⟩:=h
        have q':v=.bl true:=q
        subst q'
        obtain rfl:u=Value.bool true:=r'
        refine ⟨rfl,OldK.of_keep fun b o e=>?_,os,bare⟩
        cases q:H b with
        | none=>exact un.keep b o e q (by intro z;exact absurd (show b∈([]:List Addr) from z) (by simp)) (by simp)
        | some u =>
          rcases hO b with z | ⟨ob,xs,z⟩
          · rw [q] at z;cases z
          · have z2:=un.frzs b ob _ z
            obtain ⟨e1,_⟩:=hok b _ z
            obtain ⟨e2,_⟩:=hok' b _ z2
            rw [e] at e1;cases e1
            exact e2
  cases hk:K.lookup a with
  | some o =>
    have e:=KX a o hk
    rw [ha] at e
    cases e
    refine core (fun _=>none) (fun _=>.inl rfl) (.inr ⟨_,vs.toArray,_,hk,rfl,rfl,rfl,by rw [size_toArray,lenV];exact hl,by simpa using rv⟩) (fun b u z=>by have z':(none:Option HO)=some u:=z;cases z') (fun b z=>absurd rfl z) fun z=>absurd rfl z
  | none =>
    refine core (fun b=>if b=a then some (.frz {cls:=.type "list",data:=.seq vs.toArray} (.lst (ns.map V.int))) else none) (fun b=>?_) (.inl (.inr ⟨{cls:=.type "list",data:=.seq vs.toArray},if_pos rfl⟩)) (fun b u z=>?_) (fun b z=>?_) fun _=>hk
    · by_cases hb:b=a
      · exact .inr ⟨_,_,if_pos hb⟩
      · exact .inl (if_neg hb)
    · by_cases hb:b=a
      · have z':=(if_pos hb).symm.trans z
        cases z'
        subst hb
        exact ⟨ha,by rw [length_map];exact hl,vs,_,rv,ha⟩
      · have z':=(if_neg hb).symm.trans z
        cases z'
    · by_cases hb:b=a
      · exact hb
      · exact absurd (if_neg hb) z
noncomputable abbrev KOf {K:Frag}{h:Heap}(_:K.In h):Frag:=K
theorem Xmg {l:PySem.W.OpenLaw}{n k:Nat}{q:Program}{loose:List Str}{XP:(Str→Option Value)→Heap→Prop}{YP:World→Heap→Prop}{d:DefRec}{K:Params→Frag}{CX:World→CXT}{sp:World→Sp}{x:Str}
    (hn:l.most=some n) (hn2:n≤sizeLine) (hdf:d.params.defaults=[]) (hr:Ziw k callerA)
    (hY:∀(w:World) (h:Heap),YP w h→(K w.params).In h)
    (F:∀(w:World) (mg:Str→Option Value) (fa:Addr) (h:Heap),(K w.params).In h→h.Ns mainGlobals mg→mg d.name=some (.ref fa)→
      ∃fd:FuncData,(∀(s:Shared) (u:Value),BindsTo s fd ⟨[u],[]⟩ [(x,u)])∧
        ∀base:Heap,(K w.params).In base→base.Ns mainGlobals mg→Zao l.prog w (K w.params) mg base (CX w) k fa fd [x] (sp w))
    (hsp:∀(w:World) (H:Hp) (a:Addr) (ns:List Int),ns.length≤n→Only H→SqL (K w.params) H a (ns.map V.int)→sp w [.ref a] H (fun v _=>v=.bl true) fun _ _ _=>False)
    (hCX:∀(w:World) (H:Hp) (s:Shared) (e:Value) (s':Shared),CX w [] H s (fun _ _ _=>False) e s'→False) :
    PySem.W.WalkO q loose XP YP l.row.toRowW d [] (fun f vs=>PySem.call f vs):=by
  refine Att.attach_call hn hdf fun w s₀ s₁ mg mb fa o pm cd doc a vs ns G Y ho hd hcd hmg hobj hints hlen hg=>?_
  have KX:=hY w _ Y
  obtain ⟨fd,hb,hF⟩:=F w mg fa _ KX G.T.g hmg
  exact Xaj KX G.T.g G.T.b G.T.builtins G.T.nolimit hg hobj hints (le_trans hlen hn2) hr hF hb (fun H hO hS=>hsp w H a ns hlen hO hS) fun H e s'=>hCX w H s₁ e s'
noncomputable def Zhz (s:Stmt):Arguments:=match s with
 | .FunctionDef _ a _ _ _ _ _ _ _ _=>a
 | _=>{posonlyargs:=[],args:=[],vararg:=none,kwonlyargs:=[],kw_defaults:=[],kwarg:=none,defaults:=[]}
noncomputable def Zcm (s:Stmt):List Stmt:=match s with
 | .FunctionDef _ _ b _ _ _ _ _ _ _=>b
 | _=>[]
noncomputable def Zn (s:Stmt):Scope:=match s with
 | .FunctionDef _ _ _ _ _ _ sc _ _ _=>sc
 | _=>{kind:=.function,names:=[],isGenerator:=false,isCoroutine:=false}
noncomputable abbrev CX0:CXT:=fun _ _ _ _ _ _=>False
noncomputable abbrev E0:XK:=fun _ _ _=>False
theorem Xi {X:Cx}:Zjr CX0 X E0:=fun _ _ _ _ _ _ _ h=>h.elim
structure Fun (K:Frag)(x qual:Str)(st:Stmt)(f:Addr)(fd:FuncData):Prop where
 ex:∃(oc:Value) (od:Option Addr) (kV doc pm:Value) (an:Option Addr) (cdv ct:Value) (osl:Array (Option Value)),
  fd=fnOf x qual (Zhz st) (Zcm st) (Zn st) .none kV doc pm an cdv ct∧K.lookup f=some ⟨oc,od,.func fd,osl⟩∧codeIn K cdv qual=true
 kp:keepIn K (.ref f)=true
section
variable {P:Program}{w:World}{K:Frag}{mg:Str→Option Value}{base:Heap}
theorem Fun.ok {x qual:Str}{st:Stmt}{f:Addr}{fd:FuncData}{N ps:List Str}{k:Nat}{sp:Sp}(F:Fun K x qual st f fd)(S:Zz N ps (Zn st))(len:∀vs H Q E,sp vs H Q E→vs.length=ps.length)
    (hbody:∀(cdv:Value) (A:Around) (outer:List Env) (s:Shared) (H:Hp) (vs:List V) (Q:VK) (E:XK),Ziw k (A.deeper (envOfC qual (Zn st) s.heap.objs.size f cdv))→sp vs H Q E→
      ∃t,PSs (Xge CX0 P w K mg base N qual (Zn st) f cdv A outer s H E).nox (Zcm st) t∧t {nx:=fun _ H'=>Q .non H',rt:=Q} (start N vs) H):Zao P w K mg base CX0 (k+1) f fd ps sp:=by
  obtain ⟨oc,od,kV,doc,pm,an,cdv,ct,osl,rfl,lk,hcd⟩:=F.ex
  refine fn_of lk hcd S len fun A outer s H vs Q E hr hsp=>?_
  obtain ⟨t,h,q⟩:=hbody cdv A outer s H vs Q E hr hsp
  exact ⟨t,h.nox,q⟩
theorem Fun.binds {x qual:Str}{st:Stmt}{f:Addr}{fd:FuncData}{ps:List Str}(F:Fun K x qual st f fd)
  (h:∀(kV doc pm:Value) (an:Option Addr) (cdv ct:Value) (us:List Value),us.length=ps.length→bindArgs (fnOf x qual (Zhz st) (Zcm st) (Zn st) .none kV doc pm an cdv ct) ⟨us,[]⟩=pure (ps.zip us)):Binds K fd ps []:=by
 obtain ⟨oc,od,kV,doc,pm,an,cdv,ct,osl,rfl,lk,hcd⟩:=F.ex
 exact .all (h kV doc pm an cdv ct)
theorem Xz {x qual:Str}{st:Stmt}{f:Addr}{oc:Value}{od an:Option Addr}{osl:Array (Option Value)}{kV doc pm cdv ct:Value}(l:K.lookup f=some ⟨oc,od,.func (fnOf x qual (Zhz st) (Zcm st) (Zn st) .none kV doc pm an cdv ct),osl⟩)
  (c:codeIn K cdv qual=true) (k:keepIn K (.ref f)=true):Fun K x qual st f (fnOf x qual (Zhz st) (Zcm st) (Zn st) .none kV doc pm an cdv ct):=⟨⟨oc,od,kV,doc,pm,an,cdv,ct,osl,rfl,l,c⟩,k⟩
variable {X:Cx}
theorem pv (i:Nat){x:Str}{pos:Pos}(hN:X.N[i]?=some x:=by rfl)(hv:autoParam (Vis X.env.scope x) aT3._auto_1)(hd:(x==("__debug__":Str))=false:=by decide)
  (hcd:(x==("__classdict__":Str))=false:=by decide):PE X (.Name x pos) (Zme i):=Xrg hN hv hd hcd
end
def Xx (H H':Hp):Prop:=∀b o,H b=some o→H' b=some o
theorem Xx.refl (H:Hp):Xx H H:=fun _ _ h=>h
theorem Xx.trans {H H1 H2:Hp}(a:Xx H H1)(b:Xx H1 H2):Xx H H2:=fun c o h=>b c o (a c o h)
theorem Xx.free {H H':Hp}(e:Xx H H'){l:Addr}(h:H' l=Option.none):H l=Option.none:=by
 cases q:H l with
 | none=>rfl
 | some o =>
  rw [e l o q] at h
  cases h
theorem Xd {a b:Expr}{op:Operator}{pos:Pos}{es:List Expr}{env:Env}:starEach (.BinOp a op b pos::es) env=(false,eval (.BinOp a op b pos) env)::starEach es env:=rfl
theorem Zf {c:Const}{k:Nat}{pos:Pos}{es:List Expr}{env:Env}:starEach (.Constant c k pos::es) env=(false,eval (.Constant c k pos) env)::starEach es env:=rfl
theorem Za {x:Str}{pos:Pos}{es:List Expr}{env:Env}:starEach (.Name x pos::es) env=(false,eval (.Name x pos) env)::starEach es env:=rfl
theorem Yf {a b:Expr}{pos:Pos}{es:List Expr}{env:Env}:starEach (.Subscript a b pos::es) env=(false,eval (.Subscript a b pos) env)::starEach es env:=rfl
theorem Zo {a:Expr}{as:List Expr}{ks:List Keyword}{pos:Pos}{es:List Expr}{env:Env}:starEach (.Call a as ks pos::es) env=(false,eval (.Call a as ks pos) env)::starEach es env:=rfl
theorem Zcs {as:List Expr}{pos:Pos}{es:List Expr}{env:Env}:starEach (.List as pos::es) env=(false,eval (.List as pos) env)::starEach es env:=rfl
theorem Zdg {as:List Expr}{k:Nat}{pos:Pos}{es:List Expr}{env:Env}:starEach (.Tuple as k pos::es) env=(false,eval (.Tuple as k pos) env)::starEach es env:=rfl
theorem Xmj {op:UnaryOp}{a:Expr}{pos:Pos}{es:List Expr}{env:Env}:starEach (.UnaryOp op a pos::es) env=(false,eval (.UnaryOp op a pos) env)::starEach es env:=rfl
theorem Zid {a:Expr}{gs:List Comprehension}{sc:Scope}{pos:Pos}{es:List Expr}{env:Env}:starEach (.ListComp a gs sc pos::es) env=(false,eval (.ListComp a gs sc pos) env)::starEach es env:=rfl
theorem Jg {a b:Expr}{pos:Pos}:Zag (.Subscript a b pos):=fun _ _=>rfl
theorem Xk {x:Str}{pos:Pos}:Zag (.Name x pos):=fun _ _=>rfl
theorem Zl {c:Const}{k:Nat}{pos:Pos}:Zag (.Constant c k pos):=fun _ _=>rfl
theorem plain_bin {a b:Expr}{op:Operator}{pos:Pos}:Zag (.BinOp a op b pos):=fun _ _=>rfl
theorem Zcb {a:Expr}{op:UnaryOp}{pos:Pos}:Zag (.UnaryOp op a pos):=fun _ _=>rfl
theorem Zjo {a:Expr}{es:List Expr}{ks:List Keyword}{pos:Pos}:Zag (.Call a es ks pos):=fun _ _=>rfl
noncomputable def Xbi:R2:=fun x y H Q=>rI0 (fun i j=>.int (i+j)) x y H Q∨(∃i j,x=.str i∧y=.str j∧i.length+j.length≤sizeLine∧Q (.str (i++j)) H)∨rCat x y H Q
noncomputable def Xdd:R2:=fun x y H Q=>rI Xnr (fun i j=>.int (i*j)) x y H Q∨rRep x y H Q
def Xrm (_ j:Int):Prop:=0<j∧j<2 ^ 200
section
variable {X:Cx}
theorem Zw:OpR X (binaryOp .Add) Xbi:=Xpo.or (Ztp.or Xoa)
theorem Yn:OpR X (binaryOp .Mult) Xdd:=Xph.or Xoc
theorem log2_small {j:Int}(h1:0<j)(h2:j<2 ^ 200):j.natAbs.log2<9000:=by
 have h3:j.natAbs<2 ^ 200:=by omega
 exact Nat.lt_trans ((Nat.log2_lt (by omega)).mpr h3) (by decide)
theorem Zke:OpR X (binaryOp .FloorDiv) (rI Xrm fun i j=>.int (i / j)):=opI fun i j _ _ _ _ _ hc q=>by
 have h1:(0:Int)<j:=hc.1
 have h2:j<2 ^ 200:=hc.2
 exact floordiv_int (by omega) (by rw [Int.fdiv_eq_ediv_of_nonneg i (by omega)];exact q) (.inl (PyProof.noPylong_of_log2 (log2_small h1 h2)))
end
mutual
inductive Dn (K:Frag)(H:Hp):V→PyData→Prop
 | non:Dn K H .non .none
 | bl (b:Bool):Dn K H (.bl b) (.bool b)
 | int (i:Int):Dn K H (.int i) (.int i)
 | str (x:Str):Dn K H (.str x) (.str x)
 | lst {a:Addr} {xs:List V} {ds:List PyData}:SqL K H a xs→DnA K H xs ds→Dn K H (.ref a) (.list ds)
 | tup {a:Addr} {xs:List V} {ds:List PyData}:SqT K H a xs→DnA K H xs ds→Dn K H (.ref a) (.tuple ds)
inductive DnA (K:Frag)(H:Hp):List V→List PyData→Prop
 | nil:DnA K H [] []
 | cons {x:V} {d:PyData} {xs:List V} {ds:List PyData}:Dn K H x d→DnA K H xs ds→DnA K H (x::xs) (d::ds)
end
section
variable {X:Cx}{pins:List (Addr×Obj)}{σ:St}{H:Hp}{s:Shared}
mutual
theorem Dn.reads (I:Inv X pins σ H s):∀{x:V} {d:PyData} {u:Value},Dn X.K H x d→RelV x u→∃as,Reads s.heap u d as
 | _,_,_,.non,r=>by cases (show _=Value.none from r);exact ⟨_,.none⟩
 | _,_,_,.bl b,r=>by cases (show _=Value.bool b from r);exact ⟨_,.bool b⟩
 | _,_,_,.int i,r=>by obtain ⟨t,q⟩:=(show ∃t,_=Value.int i t from r);cases q;exact ⟨_,.int i t⟩
 | _,_,_,.str x,r=>by obtain ⟨t,q⟩:=(show ∃t,_=Value.str x t from r);cases q;exact ⟨_,.str x t⟩
 | _,_,_,.lst (a:=a) h ra,r=>by
  cases (show _=Value.ref a from r)
  obtain ⟨its,rv,pl,_⟩:=I.list h
  obtain ⟨as,q⟩:=DnA.reads I ra rv
  obtain ⟨o,ho,hc,n,hd⟩:=pl.isList
  exact ⟨_,.list ho hc hd q⟩
 | _,_,_,.tup (a:=a) h ra,r=>by
  cases (show _=Value.ref a from r)
  obtain ⟨its,rv,pl,_⟩:=I.tuple h
  obtain ⟨as,q⟩:=DnA.reads I ra rv
  obtain ⟨o,ho,hc,n,hd⟩:=pl
  exact ⟨_,.tuple ho hc hd q⟩
theorem DnA.reads (I:Inv X pins σ H s):∀{xs:List V} {ds:List PyData} {us:List Value},DnA X.K H xs ds→Ys xs us→∃as,ReadsAll s.heap us ds as
 | _,_,_,.nil,.nil=>⟨_,.nil⟩
 | _,_,_,.cons h ra,.cons r rs=>by
  obtain ⟨as,q⟩:=Dn.reads I h r
  obtain ⟨bs,q'⟩:=DnA.reads I ra rs
  exact ⟨_,.cons q q'⟩
end
end
noncomputable def rEqD (K:Frag):R2:=fun x y H Q=>∃dx dy,Dn K H x dx∧Dn K H y dy∧SeqAt.shaped dx=true∧SeqAt.shaped dy=true∧Q (.bl (PyData.eqv dx dy)) H
noncomputable def rNeD (K:Frag):R2:=fun x y H Q=>∃dx dy,Dn K H x dx∧Dn K H y dy∧SeqAt.shaped dx=true∧SeqAt.shaped dy=true∧Q (.bl (!PyData.eqv dx dy)) H
noncomputable def Zlh (K:Frag):R2:=fun x y H Q=>rEq x y H Q∨rEqD K x y H Q
noncomputable def Xno (K:Frag):R2:=fun x y H Q=>rNe x y H Q∨rNeD K x y H Q
section
variable {X:Cx}
theorem Xpt (hu:X.A.units+64<cLine):OpR X (compareOp .Eq) (rEqD X.K):=by
 intro pins s σ H x y v u Q I rx ry h
 obtain ⟨dx,dy,h1,h2,s1,s2,q⟩:=h
 obtain ⟨as,ra⟩:=h1.reads I rx
 obtain ⟨bs,rb⟩:=h2.reads I ry
 exact eq_dataH ra rb s1 s2 hu ⟨.bl _,H,I,rfl,q⟩
theorem Xnx (hu:X.A.units+64<cLine):OpR X (compareOp .NotEq) (rNeD X.K):=by
 intro pins s σ H x y v u Q I rx ry h
 obtain ⟨dx,dy,h1,h2,s1,s2,q⟩:=h
 obtain ⟨as,ra⟩:=h1.reads I rx
 obtain ⟨bs,rb⟩:=h2.reads I ry
 exact ne_dataH ra rb s1 s2 hu ⟨.bl _,H,I,rfl,q⟩
theorem Zaj (hu:X.A.units+64<cLine):OpR X (compareOp .Eq) (Zlh X.K):=op_eq.or (Xpt hu)
theorem Zqs (hu:X.A.units+64<cLine):OpR X (compareOp .NotEq) (Xno X.K):=op_ne.or (Xnx hu)
end
def Zba (K:Frag):List V→Hp→VK→Prop:=fun xs H Q=>(∃p ys,xs=[.ref p]∧(SqL K H p ys∨SqT K H p ys)∧Q (.int ys.length) H)∨∃z,xs=[.str z]∧z.length≤sizeLine∧Q (.int z.length) H
def Xqr (K:Frag):List V→Hp→VK→Prop:=fun xs H Q=>∃(p:Addr) (ns:List Int),xs=[.ref p]∧SqL K H p (ns.map V.int)∧Q (.int ns.sum) H
def Xns (K:Frag):List V→Hp→VK→Prop:=fun xs H Q=>∃x c t b,xs=[x,.ty c]∧TyOf K H x t∧kitOne K t (.type c)=some b∧Q (.bl b) H
noncomputable def Zoo (lo:Int)(n:Nat):List V:=(List.range n).map fun (k:Nat)=>V.int (lo+(k:Int))
def Zbo (K:Frag):List V→Hp→VK→Prop:=fun xs H Q=>(∃p ys,xs=[.ref p]∧(SqL K H p ys∨SqT K H p ys)∧∀l,H l=none→Q (.ref l) (upd H l (.lst ys)))∨
 ∃p i j,xs=[.ref p]∧H p=some (.rng i j)∧-(2 ^ 62)≤i∧i<2 ^ 62∧-(2 ^ 62)≤j∧j<2 ^ 62∧(j - i).toNat≤1000000∧∀l,H l=none→Q (.ref l) (upd H l (.lst (Zoo i (j - i).toNat)))
section
variable {X:Cx}
theorem Xr:Zaf X (.builtin "len") (Zba X.K):=Znk.or Zmg
theorem Zrx (hc:X.calm=true):Zaf X (.builtin "sum") (Xqr X.K):=by
 intro pins s σ H xs us Q I r h
 obtain ⟨p,ns,rfl,hq,q⟩:=h
 obtain ⟨u,rfl,rx⟩:=vals1 r
 cases rx
 obtain ⟨its,rv,pl,hz⟩:=I.list hq
 have hi:IntsAre its ns:=intsAre_of rv
 obtain ⟨xs,hxs⟩:=hi.allInts.items
 have hn:numsOf its.toArray.toList=ns:=by rw [show its.toArray.toList=its from rfl,hi.numsOf]
 have hl:=pl.isList
 rw [hxs] at hl hn
 rw [nums_intItems] at hn
 refine sum_intListG (I.ok.hd hc) hl fun h' tk t' hk=>⟨.int ns.sum,H,I.kept hk,⟨t',?_⟩,q⟩
 rw [preSum_eq,take_of_length_le (by simp),hn]
theorem Znv:Zaf X (.builtin "isinstance") (Xns X.K):=by
 intro pins s σ H xs us Q I r h
 obtain ⟨x,c,t,b,rfl,ty,e,q⟩:=h
 obtain ⟨u,w',rfl,rx,ry⟩:=vals2 r
 cases (show w'=Value.type c from ry)
 exact Zvn I rx ty e fun tk=>⟨.bl b,H,I.tok _,rfl,q⟩
theorem Zla (hc:X.calm=true):Zaf X (.type "list") (fun xs H Q=>∃p i j,xs=[.ref p]∧H p=some (.rng i j)∧-(2 ^ 62)≤i∧i<2 ^ 62∧-(2 ^ 62)≤j∧j<2 ^ 62∧(j - i).toNat≤1000000∧
    ∀l,H l=none→Q (.ref l) (upd H l (.lst (Zoo i (j - i).toNat)))):=by
  intro pins s σ H xs us Q I r h
  obtain ⟨p,i,j,rfl,hH,h1,h2,h3,h4,h5,q⟩:=h
  obtain ⟨u,rfl,rx⟩:=vals1 r
  cases rx
  obtain ⟨t,u,v,e⟩:=I.hok p _ hH
  have en:Builtin.Range.rangeSize i j 1=(((j - i).toNat:Nat):Int):=by rw [rangeSize_one];split<;>omega
  refine call_list_range (n:=(j - i).toNat) (I.ok.hd hc) e (small_one h1 h2 h3 h4) en (le_trans h5 (by decide)) fun h' tk acc' c' hk hg hit=>?_
  refine ⟨.ref s.heap.objs.size,_,I.laid (t':=tk) hk (le_refl _) (show Zaa X.prog X.w _ h' _ (.lst (Zoo i (j - i).toNat)) from ⟨?_,acc'.toList,c',?_,?_⟩),rfl,q _ I.fresh⟩
  · unfold Zoo
    rw [length_map,List.length_range]
    exact le_trans h5 (by decide)
  · obtain ⟨hsz,hv⟩:=hit
    have key:∀(k:Nat) (l:List Value) (lo:Int),l.length=k→(∀(m:Nat) (v:Value),l[m]?=some v→∃t,v=Value.int (lo+(m:Int)) t)→Ys (Zoo lo k) l:=by
      intro k
      induction k with
      | zero =>
        intro l lo hl _
        rw [List.length_eq_zero_iff.mp hl]
        exact .nil
      | succ k ih =>
        intro l lo hl hv
        cases l with
        | nil=>simp at hl
        | cons x l =>
          obtain ⟨t,e⟩:=hv 0 x (by simp)
          have er:Zoo lo (k+1)=V.int lo::Zoo (lo+1) k:=by
            unfold Zoo
            rw [List.range_succ_eq_map,map_cons,map_map]
            congr 1
            · simp
            · apply map_congr_left
              intro m _
              show V.int (lo+((m+1:Nat):Int))=V.int (lo+1+(m:Int))
              congr 1
              omega
          rw [er]
          refine .cons ⟨t,?_⟩ (ih l (lo+1) (by simpa using hl) fun m v hm=>?_)
          · rw [e]
            congr 1
            simp
          · obtain ⟨t',e'⟩:=hv (m+1) v (by simpa using hm)
            refine ⟨t',?_⟩
            rw [e']
            congr 1
            omega
    refine key _ _ i (by simpa using hsz) fun m v hm=>?_
    obtain ⟨t,e⟩:=hv m v (by simpa using hm)
    exact ⟨t,by rw [e];congr 1;omega⟩
  · simpa using hg
theorem Xl (hc:X.calm=true):Zaf X (.type "list") (Zbo X.K):=Znh.or (Zla hc)
end
structure Def (P:Program)(w:World)(K:Frag)(mg:Str→Option Value)(base:Heap)(CX:CXT)(k:Nat)(x:Str)(ps:List Str)(sp:Sp):Prop where
 ex:∃f fd,mg x=some (.ref f)∧keepIn K (.ref f)=true∧Binds K fd ps []∧Zao P w K mg base CX k f fd ps sp
theorem Xcv {X:Cx}{CX:CXT}{k:Nat}{ps:List Str}{sp:Sp}{E:XK}{x:Str}{p pos:Pos}{e:Expr}{es:List Expr}{t:TA}(D:Def X.prog X.w X.K X.mg X.base CX k x ps sp)(hr:Ziw k X.A)(hg:Gl X x)(hx:Zjr CX X E)
  (ha:PA X (e::es) t) (hdb:(x==("__debug__":Str))=false:=by decide) (he:starEach (e::es) X.env=(false,eval e X.env)::starEach es X.env:=by rfl) (hpl:(backTo pos (starEach es X.env)).any (·.1)=false:=by rfl) :
  PE X (.Call (.Name x p) (e::es) [] pos) (Zsz sp [] E t):=by
 obtain ⟨f,fd,m,kp,b,F⟩:=D.ex
 exact Xjd F hr hg m kp b .nil hx ha hdb he hpl
section
variable {σ:St}{H:Hp}{Q:VK}{D:Ends}{K:Frag}
theorem rd_I {C:Int→Int→Prop}{g:Int→Int→V}{i j:Int}(c:C i j)(q:Q (g i j) H):rI C g (.int i) (.int j) H Q:=⟨i,j,rfl,rfl,c,q⟩
theorem rd_I0 {g:Int→Int→V}{i j:Int}(q:Q (g i j) H):rI0 g (.int i) (.int j) H Q:=⟨i,j,rfl,rfl,q⟩
theorem rd_U {g:Int→V}{i:Int}(q:Q (g i) H):rU g (.int i) H Q:=⟨i,rfl,q⟩
theorem Xoq {i j:Int}(q:Q (.int (i+j)) H):Xbi (.int i) (.int j) H Q:=.inl ⟨i,j,rfl,rfl,q⟩
theorem Xqo {i j:Int}(c:Xnr i j)(q:Q (.int (i*j)) H):Xdd (.int i) (.int j) H Q:=.inl ⟨i,j,rfl,rfl,c,q⟩
theorem Xmh {sp:Sp}{E:XK}{t:TA}(q:t σ H fun vs H1=>sp vs H1 Q E):Zsz sp [] E t σ H Q:=by
 show t σ H fun vs H1=>sp (vs++[]) H1 Q E
 have e:(fun vs H1=>sp (vs++[]) H1 Q E)=fun vs H1=>sp vs H1 Q E:=by
  funext vs H1
  rw [append_nil]
 rw [e]
 exact q
theorem Xgb {p:Addr}{xs:List V}{i:Int}{v:V}(h:SqL K H p xs)(e:atI xs i=some v)(q:Q v H):rIx K (.ref p) (.int i) H Q:=.inl ⟨p,xs,i,v,rfl,rfl,h,e,q⟩
theorem Xpw {p:Addr}{xs:List V}{i:Int}{v:V}(h:SqT K H p xs)(e:atI xs i=some v)(q:Q v H):rIx K (.ref p) (.int i) H Q:=.inr (.inl ⟨p,xs,i,v,rfl,rfl,h,e,q⟩)
theorem Zwh {p:Addr}{ys:List V}(h:SqL K H p ys)(q:Q (.int ys.length) H):Zba K [.ref p] H Q:=.inl ⟨p,ys,rfl,.inl h,q⟩
theorem Xly {p:Addr}{ys:List V}(h:SqT K H p ys)(q:Q (.int ys.length) H):Zba K [.ref p] H Q:=.inl ⟨p,ys,rfl,.inr h,q⟩
theorem Xlk {z:Str}(h:z.length≤sizeLine)(q:Q (.int z.length) H):Zba K [.str z] H Q:=.inr ⟨z,rfl,h,q⟩
theorem Xow {l:Addr}{xs:List V}{y:V}(h:H l=some (.lst xs))(hz:xs.length<sizeLine)(q:Q .non (upd H l (.lst (xs++[y])))):Zdy (.ref l) [y] H Q:=⟨l,xs,y,rfl,rfl,h,hz,q⟩
theorem Xgt {a:Addr}{xs:List V}{lo hi:Option Int}(h:SqL K H a xs)(q:∀p,H p=none→Q (.ref p) (upd H p (.lst (Xez xs lo hi)))):rSlL K (.ref a) lo hi H Q:=⟨a,xs,rfl,h,q⟩
theorem Xtd {a b:Addr}{xs zs:List V}(h1:H a=some (.lst xs))(h2:H b=some (.lst zs))(hz:xs.length+zs.length≤sizeLine)(q:∀p,H p=none→Q (.ref p) (upd H p (.lst (xs++zs)))):Xbi (.ref a) (.ref b) H Q:=
 .inr (.inr ⟨a,b,xs,zs,rfl,rfl,h1,h2,hz,q⟩)
theorem Xry {l:Addr}{k:Int}{xs:List V}(h:H l=some (.lst xs))(h1:-(2 ^ 63)≤k)(h2:k<2 ^ 63)(hz:xs.length*k.toNat≤sizeLine)(q:∀p,H p=none→Q (.ref p) (upd H p (.lst (List.replicate k.toNat xs).flatten))):Xdd (.ref l) (.int k) H Q:=
 .inr ⟨l,k,xs,rfl,rfl,h,h1,h2,hz,q⟩
theorem Xrz {p:Addr}{ns:List Int}(h:SqL K H p (ns.map V.int))(q:Q (.int ns.sum) H):Xqr K [.ref p] H Q:=⟨p,ns,rfl,h,q⟩
theorem Xto {x:V}{c:String}{t:Value}{b:Bool}(h:TyOf K H x t)(e:kitOne K t (.type c)=some b)(q:Q (.bl b) H):Xns K [x,.ty c] H Q:=⟨x,c,t,b,rfl,h,e,q⟩
theorem Xbw {p:Addr}{ys:List V}(h:SqL K H p ys)(q:∀l,H l=none→Q (.ref l) (upd H l (.lst ys))):Zbo K [.ref p] H Q:=.inl ⟨p,ys,rfl,.inl h,q⟩
theorem Xci {p:Addr}{i j:Int}(h:H p=some (.rng i j))(h1:-(2 ^ 62)≤i)(h2:i<2 ^ 62)(h3:-(2 ^ 62)≤j)(h4:j<2 ^ 62)(h5:(j - i).toNat≤1000000)(q:∀l,H l=none→Q (.ref l) (upd H l (.lst (Zoo i (j - i).toNat)))):Zbo K [.ref p] H Q:=
 .inr ⟨p,i,j,rfl,h,h1,h2,h3,h4,h5,q⟩
end
structure QE (X:Cx)(e:Expr)(t:TE):Prop where
 out:PE X e t
structure QT (X:Cx)(e:Expr)(t:TT):Prop where
 out:PT X e t
structure QW (X:Cx)(e:Expr)(t:TT):Prop where
 out:PW X e t
structure QA (X:Cx)(es:List Expr)(t:TA):Prop where
 out:PA X es t
structure QO (X:Cx)(e:Option Expr)(t:TO):Prop where
 out:PO X e t
structure QG (X:Cx)(e:Expr)(t:TG):Prop where
 out:PG X e t
structure QGs (X:Cx)(es:List Expr)(t:TGs):Prop where
 out:PGs X es t
structure QI (X:Cx)(tg iter:Expr)(wi:TI):Prop where
 out:PI X tg iter wi
structure QS (X:Cx)(st:Stmt)(t:TS):Prop where
 out:PS X st t
structure QSs (X:Cx)(st:List Stmt)(t:TS):Prop where
 out:PSs X st t
section
variable {X:Cx}{a b c e st o tg iter:Expr}{rest es:List Expr}{ta tb tc te ts to:TE}{tA tB':TT}{t:TA}{pos p p2 apos cpos:Pos}
theorem Xqn {i:Int}{j:Nat}:QE X (.Constant (.int i) j pos) (tC (.int i)):=⟨Xrs⟩
theorem qe_bl {i:Bool}{j:Nat}:QE X (.Constant (.bool i) j pos) (tC (.bl i)):=⟨pe_bl⟩
theorem Xoj {j:Nat}:QE X (.Constant .none j pos) (tC .non):=⟨Xri⟩
theorem Xpg {x:Str}{j:Nat}:QE X (.Constant (.str x) j pos) (tC (.str x)):=⟨Xtl⟩
theorem qv (i:Nat){x:Str}(hN:X.N[i]?=some x:=by rfl)(hv:autoParam (Vis X.env.scope x) aT3._auto_1)(hd:(x==("__debug__":Str))=false:=by decide)
  (hcd:(x==("__classdict__":Str))=false:=by decide):QE X (.Name x pos) (Zme i):=⟨pv i hN hv hd hcd⟩
theorem Xju {x:Str}{v:V}{u:Value}(hg:Gl X x)(hm:X.mg x=none)(hv:bootBuiltins x=some u)(r:RelV v u)(hn:x≠"__name__":=by decide)(hd:(x==("__debug__":Str))=false:=by decide):QE X (.Name x pos) (tC v):=⟨Xiy hg hm hv r hn hd⟩
theorem qe_op {op:Operator}{r:R2}(ho:OpR X (binaryOp op) r)(ha:QE X a ta)(hb:QE X b tb):QE X (.BinOp a op b pos) (tOp r ta tb):=⟨pe_op ho ha.out hb.out⟩
theorem qe_un {op:UnaryOp}{r:V→Hp→VK→Prop}(ho:UnR X (unaryOp op) r)(ha:QE X a ta):QE X (.UnaryOp op a pos) (tUn r ta):=⟨pe_un ho ha.out⟩
theorem Xkb {op:CmpOp}{r:R2}(ho:OpR X (compareOp op) r)(ha:QE X a ta)(hb:QE X b tb)(hm:behindInMarks op b=false):QE X (.Compare a [op] [b] pos) (tOp r ta tb):=⟨Xif ho ha.out hb.out hm⟩
theorem Xij {op:CmpOp}{r:R2}(ho:OpR X (compareOp op) r)(ha:QE X a ta)(hb:QE X b tb)(hm:behindInMarks op b=false):QT X (.Compare a [op] [b] pos) (Xes (tOp r ta tb)):=⟨Xjo ho ha.out hb.out hm⟩
theorem Xpv {op:BoolOp}(h:QE X a ta):QE X (.BoolOp op [a] pos) ta:=⟨Xte h.out⟩
theorem Xqp (ha:QE X a ta)(hb:QE X (.BoolOp .And (b::rest) pos) tb):QE X (.BoolOp .And (a::b::rest) pos) (Xbl ta tb):=⟨Xtc ha.out hb.out⟩
theorem Xtb (ha:QE X a ta):QE X (.UnaryOp .Not a pos) (Xai ta):=⟨Xts ha.out⟩
theorem Xsg (h:QE X e te)(he:∀whole,isTrue e X.env whole=(do let v ← whole;standAt e.pos;holding [v] (truthy v)):=by intro _;rfl):QT X e (tB te):=⟨Xqj h.out he⟩
theorem Xsc (ha:QT X a tA):QT X (.UnaryOp .Not a pos) (tNot tA):=⟨Xro ha.out⟩
theorem Xqu (ha:QT X a tA):QW X (.BoolOp .Or [a] pos) tA:=⟨Xrj ha.out⟩
theorem qw_or (ha:QT X a tA)(hb:QW X (.BoolOp .Or (b::rest) pos) tB'):QW X (.BoolOp .Or (a::b::rest) pos) (tOr tA tB'):=⟨pw_or ha.out hb.out⟩
theorem qt_w (h:QW X a tA):QT X a tA:=⟨h.out.pt⟩
theorem Zhk:QA X [] Zlw:=⟨Xgz⟩
theorem Zbz (ha:QE X e te)(hr:QA X es t)(hs:starEach (e::es) X.env=(false,eval e X.env)::starEach es X.env):QA X (e::es) (Zbk te t):=⟨Zuy ha.out hr.out hs⟩
theorem Xqq {x1:Nat}(h:QA X es t):QE X (.Tuple es x1 pos) (tTup t):=⟨Xrn h.out⟩
theorem Xfj (h:QA X es t):QE X (.List es pos) (Xnw t):=⟨Xrh h.out⟩
theorem Xbb {r:R2}(hr:IxR X r)(ha:QE X a ta)(hb:QE X b tb)(hs:Zag b):QE X (.Subscript a b pos) (tOp r ta tb):=⟨pe_ix hr ha.out hb.out hs⟩
theorem Xht:QO X none Zko:=⟨Xke⟩
theorem Xjs (h:QE X e te):QO X (some e) (Zzy te):=⟨Xms h.out⟩
theorem Xff {r:V→Option Int→Option Int→Hp→VK→Prop}{lo hi:Option Expr}{tl th:TO}(hr:SlR X r)(he:QE X e te)(hl:QO X lo tl)(hu:QO X hi th):QE X (.Subscript e (.Slice lo hi none p2) pos) (tSl r te tl th):=⟨Xem hr he.out hl.out hu.out⟩
theorem Xcn {CX:CXT}{k:Nat}{ps:List Str}{sp:Sp}{E:XK}{x:Str}(D:Def X.prog X.w X.K X.mg X.base CX k x ps sp)(hr:Ziw k X.A)(hg:Gl X x)(hx:Zjr CX X E)
  (ha:QA X (e::es) t) (hdb:(x==("__debug__":Str))=false:=by decide) (he:starEach (e::es) X.env=(false,eval e X.env)::starEach es X.env:=by rfl) (hpl:(backTo pos (starEach es X.env)).any (·.1)=false:=by rfl) :
  QE X (.Call (.Name x p) (e::es) [] pos) (Zsz sp [] E t):=⟨Xcv D hr hg hx ha.out hdb he hpl⟩
theorem Zgz {x:Str}{id:String}{r:List V→Hp→VK→Prop}(hc:Zaf X (.builtin id) r)(hg:Gl X x)(hm:X.mg x=none)(hv:bootBuiltins x=some (.builtin id))(ha:QA X (e::es) t)(hn:x≠"__name__":=by decide)(hdb:(x==("__debug__":Str))=false:=by decide)
  (he:starEach (e::es) X.env=(false,eval e X.env)::starEach es X.env:=by rfl) (hpl:(backTo pos (starEach es X.env)).any (·.1)=false:=by rfl):QE X (.Call (.Name x p) (e::es) [] pos) (tCB r t):=⟨Xce hc hg hm hv ha.out hn hdb he hpl⟩
theorem Zvp {x:Str}{T:String}{r:List V→Hp→VK→Prop}(hc:Zaf X (.type T) r)(hg:Gl X x)(hm:X.mg x=none)(hv:bootBuiltins x=some (.type T))(ha:QA X (e::es) t)(hn:x≠"__name__":=by decide)(hdb:(x==("__debug__":Str))=false:=by decide)
  (he:starEach (e::es) X.env=(false,eval e X.env)::starEach es X.env:=by rfl) (hpl:(backTo pos (starEach es X.env)).any (·.1)=false:=by rfl):QE X (.Call (.Name x p) (e::es) [] pos) (tCB r t):=⟨Zyb hc hg hm hv ha.out hn hdb he hpl⟩
theorem Xia {name:Str}{T id:String}{r:V→List V→Hp→VK→Prop}(pa:PlainAttrs T)(slot:Slot T name id)(hty:typeOf (.builtin id)=pure (.type "method_descriptor"))(hm:MtR X id r)(ho:QE X o to)(ha:QA X (e::es) t)
    (hbase:attributeBase o name X.env (eval o X.env)=eval o X.env:=by rfl)
    (hfew:((backTo cpos (starEach (e::es) X.env)).all (fun x=>!x.1)&&(backToKw cpos (keywordEach [] X.env)).all (fun x=>x.1.isSome)
      && decide ((e::es).length+([]:List Keyword).length+(if ([]:List Keyword).isEmpty then 0 else 1)<30))=true:=by rfl)
    (hline:(apos.endLine==cpos.line)=true:=by rfl) (hs:starEach (e::es) X.env=(false,eval e X.env)::starEach es X.env:=by rfl) (hplain:(backTo cpos (starEach es X.env)).any (·.1)=false:=by rfl) :
    QE X (.Call (.Attribute o name apos) (e::es) [] cpos) (tBM X.K T r to t):=⟨pe_bm pa slot hty hm ho.out ha.out hbase hfew hline hs hplain⟩
theorem Zon {i:Nat}{x:Str}(hN:X.N.Nodup)(hi:X.N[i]?=some x)(hx:Loc X.env.scope x)(hf:autoParam (X.fn x=true∨X.env.scope.names.lookup x=some .local) aT0._auto_1):QG X (.Name x pos) (Zdh i):=⟨Xhn hN hi hx hf⟩
theorem Xfx {k:Nat}{tt:TGs}{n:Nat}(hc:X.calm=true)(h:QGs X es tt)(hn:(assignEach es X.env).length=n:=by rfl)(hst:(assignEach es X.env).findIdx? (·.1)=none:=by rfl):QG X (.Tuple es k pos) (Zhb X.K n tt):=⟨Xpf hc h.out hn hst⟩
theorem Zwp:QGs X [] Xnl:=⟨Xnj⟩
theorem Zrt {tt:TG}{u:TGs}(h1:QG X e tt)(h2:QGs X es u)(hs:(assignEach (e::es) X.env).map (·.2)=assign e X.env::(assignEach es X.env).map (·.2):=by rfl):QGs X (e::es) (Ztj tt u):=⟨Xey h1.out h2.out hs⟩
theorem Xhk (hl:QE X e te):QI X tg e (Xbo X.K te):=⟨Xlp hl.out⟩
theorem Zwe (hg:Gl X "range")(hm:X.mg "range"=none)(ha:QA X [a] t)(hs:starEach [a] X.env=[(false,eval a X.env)]:=by rfl):QI X tg (.Call (.Name "range" p) [a] [] pos) (Xfg t):=⟨Zxh hg hm ha.out hs⟩
theorem Zyf (hg:Gl X "range")(hm:X.mg "range"=none)(ha:QA X [a,b] t)(hs:starEach [a,b] X.env=[(false,eval a X.env),(false,eval b X.env)]:=by rfl)(hs2:starEach [b] X.env=[(false,eval b X.env)]:=by rfl):QI X tg (.Call (.Name "range" p) [a,b] [] pos) (Xfi t):=⟨Zvl hg hm ha.out hs hs2⟩
variable {s1:Stmt}{ss body other:List Stmt}{u v:TS}{pos':Pos}
theorem Xjy:QSs X [] Xdz:=⟨Xnd⟩
theorem Xfa (h1:QS X s1 u)(h2:QSs X ss v):QSs X (s1::ss) (tSeq u v):=⟨Xax h1.out h2.out⟩
theorem Xkq (h1:QS X s1 u):QSs X [s1] u:=⟨Xko h1.out⟩
theorem Xaw:QS X s1 Zsl:=⟨Xfc⟩
theorem Zny (he:QE X e te)(hs:swapsWith e none pos.line X.env=pure false:=by rfl):QS X (.Expr e pos) (Znn te):=⟨Xmq he.out hs⟩
theorem Xox (he:QE X e te):QS X (.Return (some e) pos) (tRet te):=⟨Xof he.out⟩
theorem qs_if (hc:QT X c tA)(ha:QSs X body u)(hb:QSs X other v):QS X (.If c body other pos) (tIfS tA u v):=⟨ps_if hc.out ha.out hb.out⟩
theorem Xhd {g:TG}(he:QE X e te)(hg:QG X tg g)(hs:swapsWithSole [tg] e pos.line X.env=pure false:=by rfl)(hw:swappedStores [tg] e X.env=pure none:=by rfl)(h1:(assignEach [tg] X.env).map (·.2)=[assign tg X.env]:=by rfl):QS X (.Assign [tg] e pos) (Zth te g):=⟨Xpj he.out hg.out hs hw h1⟩
theorem Xqt {i:Nat}{x:Str}(hN:X.N.Nodup)(hi:X.N[i]?=some x)(hx:Loc X.env.scope x)(he:QE X e te)(hs:swapsWith e (some (.Name x pos')) pos.line X.env=pure false:=by rfl)(hf:autoParam (X.fn x=true∨X.env.scope.names.lookup x=some .local) aT0._auto_1) :
  QS X (.Assign [.Name x pos'] e pos) (Zth te (Zdh i)):=⟨Xra hN hi hx he.out hs hf⟩
theorem Xrc {wi:TI}{g:TG}(hp:PassesOwn (model X.prog X.w) X.A X.env X.xe)(hc:X.calm=true)(hi:QI X tg iter wi)(hg:QG X tg g)(hb:QSs X body u)(hs:∀x,foldedSetIterable iter X.env x=pure x:=by intro _;rfl):QS X (.For tg iter body [] pos) (tFor wi g u):=⟨Xqm hp hc hi.out hg.out hb.out hs⟩
end
theorem Fun.okQ {P:Program}{w:World}{K:Frag}{mg:Str→Option Value}{base:Heap}{x qual:Str}{st:Stmt}{f:Addr}{fd:FuncData}{N ps:List Str}{k:Nat}{sp:Sp}(F:Fun K x qual st f fd)(S:Zz N ps (Zn st))(len:∀vs H Q E,sp vs H Q E→vs.length=ps.length)
    (hbody:∀(cdv:Value) (A:Around) (outer:List Env) (s:Shared) (H:Hp) (vs:List V) (Q:VK) (E:XK),Ziw k (A.deeper (envOfC qual (Zn st) s.heap.objs.size f cdv))→sp vs H Q E→
      ∃t,QSs (Xge CX0 P w K mg base N qual (Zn st) f cdv A outer s H E).nox (Zcm st) t∧t {nx:=fun _ H'=>Q .non H',rt:=Q} (start N vs) H):Zao P w K mg base CX0 (k+1) f fd ps sp:=
  F.ok S len fun cdv A outer s H vs Q E hr h=>by
    obtain ⟨t,ht,q⟩:=hbody cdv A outer s H vs Q E hr h
    exact ⟨t,ht.out,q⟩
@[reducible] noncomputable def Cx.blk (X:Cx)(N2:List Str)(x:Str)(sc:Scope)(cl:List (Str×Addr))(C:Addr)(s0:Shared)(H0:Hp)(fp:List Addr):Cx:=
 {X with N:=N2++[x],s₀:=s0,H₀:=H0,env:=compEnvC sc cl C X.env,outer:=X.stack,ex:=fp,fn:=fun _=>false,pn:=[],xe:=fun _ _=>False}
structure BlkOk (sc esc:Scope)(x:Str)(N N2:List Str):Prop where
 kind:sc.kind=.function
 cell:∀y∈sc.names,y.2≠.cell
 loc:∀y∈sc.names,y.2=.local→sc.names.lookup y.1=some .local
 own:sc.names.lookup x=some .local
 free:∀y∈sc.names,y.2=.free→esc.names.lookup y.1=some .cell∨esc.names.lookup y.1=some .free
 out:∀y∈N2,sc.names.lookup y≠some .local
 nd:N.Nodup
 nd2:N2.Nodup
 len:N2.length=N.length
 ren:∀p∈N.zip N2,p.2=p.1∨sc.names.lookup p.2=none
theorem lookup_mem {l:List (Str×NameKind)}{y:Str}{k:NameKind}(h:(y,k)∈l):l.lookup y≠none:=by
 induction l with
 | nil=>simp at h
 | cons p r ih =>
  obtain ⟨n,k'⟩:=p
  cases hy:y==n with
  | true=>rw [lookup_cons,hy];simp
  | false =>
   rw [lookup_cons,hy]
   rcases List.mem_cons.mp h with e | e
   ·cases e
    simp at hy
   ·exact ih e
noncomputable def Jc (cells:List (Str×Addr)):List (Str×NameKind)→List (Str×Addr)→List (Str×Addr)
 | [],cs=>cs
 | (n,k)::r,cs=>Jc cells r (if k=.free then (n,(cells.lookup n).getD 0)::cs else cs)
theorem Zdl {sc:Scope}{env:Env}(h:∀y∈sc.names,y.2=.free→∃c,env.cells.lookup y.1=some c):closureFor sc env=pure (Jc env.cells sc.names []):=by
  unfold closureFor
  generalize sc.names=l at h ⊢
  have key:∀(l:List (Str×NameKind)) (cs:List (Str×Addr)),(∀y∈l,y.2=.free→∃c,env.cells.lookup y.1=some c)→
      (forIn l cs fun (y:Str×NameKind) (r:List (Str×Addr))=>(do
        let (name,kind):=y
        if kind==.free then
          let c ← cellOf env name
          pure (ForInStep.yield ((name,c)::r))
        else pure (ForInStep.yield r):Sem (ForInStep (List (Str×Addr)))))=pure (Jc env.cells l cs):=by
    intro l
    induction l with
    | nil=>intro cs _;rfl
    | cons y r ih =>
      intro cs hy
      obtain ⟨n,k⟩:=y
      rw [List.forIn_cons]
      have hr:∀y∈r,y.2=.free→∃c,env.cells.lookup y.1=some c:=fun y h'=>hy y (mem_cons_of_mem _ h')
      by_cases hk:k=.free
      · subst hk
        obtain ⟨c,hc⟩:=hy _ mem_cons_self rfl
        have e:cellOf env n=pure c:=by unfold cellOf;rw [show env.cells.lookup n=some c from hc]
        simp only [beq_self_eq_true,if_true,e]
        rw [Jc,if_pos rfl,show env.cells.lookup n=some c from hc]
        exact ih _ hr
      · have hb:(k==NameKind.free)=false:=by simpa using hk
        rw [Jc,if_neg hk]
        simp only [hb,if_false,Bool.false_eq_true]
        exact ih _ hr
  have q:=key l [] h
  exact (congrArg (fun z:Sem (List (Str×Addr))=>z >>= fun r=>pure r) q).trans rfl
theorem Zmb {cells:List (Str×Addr)}:∀{l:List (Str×NameKind)} {cs:List (Str×Addr)} {y:Str} {c:Addr},(∀z∈l,z.2=.free→∃c,cells.lookup z.1=some c)→(∀c,cs.lookup y=some c→cells.lookup y=some c)→
  (Jc cells l cs).lookup y=some c→cells.lookup y=some c
 | [],_,_,_,_,h0,h=>h0 _ h
 | (n,k)::r,cs,y,c,hl,h0,h=>by
  rw [Jc] at h
  refine Zmb (l:=r) (fun z hz=>hl z (mem_cons_of_mem _ hz)) (fun c' hc'=>?_) h
  by_cases hk:k=.free
  ·rw [if_pos hk] at hc'
   obtain ⟨c0,e0⟩:=hl _ mem_cons_self hk
   cases hy:y==n with
   | true =>
    have e:y=n:=by simpa using hy
    subst e
    rw [lookup_cons,hy] at hc'
    have e1:(cells.lookup y).getD 0=c':=by simpa using hc'
    have e2:cells.lookup y=some c0:=e0
    rw [e2] at e1 ⊢
    simpa using e1
   | false =>
    rw [lookup_cons,hy] at hc'
    exact h0 _ hc'
  ·rw [if_neg hk] at hc'
   exact h0 _ hc'
theorem Zma {cells:List (Str×Addr)}:∀{l:List (Str×NameKind)} {cs:List (Str×Addr)} {y:Str},(∃c,cs.lookup y=some c)→∃c,(Jc cells l cs).lookup y=some c
 | [],_,_,h=>h
 | (n,k)::r,cs,y,h=>by
  rw [Jc]
  refine Zma ?_
  split
  ·cases hy:y==n with
   | true=>exact ⟨_,by rw [lookup_cons,hy]⟩
   | false=>rw [lookup_cons,hy];exact h
  ·exact h
theorem Zkv {cells:List (Str×Addr)}:∀{l:List (Str×NameKind)} {cs:List (Str×Addr)} {y:Str},(y,NameKind.free)∈l→∃c,(Jc cells l cs).lookup y=some c
 | (n,k)::r,cs,y,h=>by
  rw [Jc]
  rcases List.mem_cons.mp h with e | e
  ·cases e
   refine Zma ?_
   rw [if_pos rfl]
   exact ⟨_,by rw [lookup_cons,beq_self_eq_true]⟩
  ·exact Zkv e
theorem Zco {env:Env}:∀{names:List (Str×NameKind)} {y:Str} {k:NameKind},(∀z∈names,z.2≠.cell)→(k=.cell∨k=.free)→
  (names.map fun (n,k)=>if (k==NameKind.free&&env.scope.kind==.function&&env.kindOf n==some .cell) then (n,NameKind.cell) else (n,k)).lookup y=some k→(y,NameKind.free)∈names
 | [],_,_,_,_,hz=>by simp at hz
 | (n,k0)::r,y,k,hc,hk,h=>by
  rw [map_cons] at h
  cases hy:y==n with
  | true =>
   have e:y=n:=by simpa using hy
   subst e
   by_cases hf:k0=.free
   ·subst hf;exact mem_cons_self
   ·have hb:(k0==NameKind.free)=false:=by simpa using hf
    simp only [hb,Bool.false_and,Bool.false_eq_true,if_false,lookup_cons,beq_self_eq_true] at h
    have e1:k0=k:=by simpa using h
    subst e1
    rcases hk with z | z
    ·exact absurd z (hc _ mem_cons_self)
    ·exact absurd z hf
  | false =>
   refine mem_cons_of_mem _ (Zco (env:=env) (k:=k) (fun z hz=>hc z (mem_cons_of_mem _ hz)) hk ?_)
   by_cases hc':(k0==NameKind.free&&env.scope.kind==.function&&env.kindOf n==some .cell)=true
   ·simp only [hc',if_true,lookup_cons,hy] at h
    exact h
   ·simp only [hc',Bool.false_eq_true,if_false,lookup_cons,hy] at h
    exact h
theorem Zib {env:Env}:∀{names:List (Str×NameKind)} {y:Str},
  (names.map fun (n,k)=>if (k==NameKind.free&&env.scope.kind==.function&&env.kindOf n==some .cell) then (n,NameKind.cell) else (n,k)).lookup y=some .local→names.lookup y=some .local
 | [],_,h=>by simp at h
 | (n,kn)::r,y,h=>by
  rw [map_cons] at h
  cases hy:y==n with
  | true =>
   rw [lookup_cons,hy]
   by_cases hc:(kn==NameKind.free&&env.scope.kind==.function&&env.kindOf n==some .cell)=true
   ·simp only [hc,if_true,lookup_cons,hy] at h
    cases h
   ·simp only [hc,Bool.false_eq_true,if_false,lookup_cons,hy] at h
    exact h
  | false =>
   rw [lookup_cons,hy]
   refine Zib (env:=env) ?_
   by_cases hc:(kn==NameKind.free&&env.scope.kind==.function&&env.kindOf n==some .cell)=true
   ·simp only [hc,if_true,lookup_cons,hy] at h
    exact h
   ·simp only [hc,Bool.false_eq_true,if_false,lookup_cons,hy] at h
    exact h
section
variable {s:Shared}{R:Result→Shared→Prop}{A:Around}{P:Program}{w:World}
noncomputable def Zuv (ifs:List Expr)(env:Env):Sem Bool:=forIn ifs true fun c r=>if r=true then do let ok ← isTrue c env (eval c env);pure (ForInStep.yield ok) else pure (ForInStep.yield r)
theorem Ztw {elt tg iter:Expr}{ifs:List Expr}{scope:Scope}{pos:Pos}{it ac:Value}{env:Env}(W:Nat→Shared→Prop)
    (turn:∀n s,W n s→wpAny (model P w) A (pyNext it) (fun r s₁=>match r with
      | none=>R (.ok .next) s₁
      | some v=>wpAny (model P w) A (letOwnedTupleGo tg it v) (fun _ s₁'=>wpAny (model P w) A (assign tg env v) (fun _ s₂ =>
          wpAny (model P w) A (Zuv ifs env) (fun ok s₃ =>
            if ok=true then wpAny (model P w) A (eval elt env) (fun z s₄ =>
              wpAny (model P w) A (call (.builtin "list.append") [ac,z]) (fun _ s₅=>∃m,m<n∧W m s₅) (fun _ _=>False) s₄) (fun _ _=>False) s₃
            else ∃m,m<n∧W m s₃) (fun _ _=>False) s₂) (fun _ _=>False) s₁') (fun _ _=>False) s₁) (fun _ _=>False) s)
    (n:Nat) (h:W n s) :
    codeAny (model P w) A (.compLoop (.ListComp elt [⟨tg,iter,ifs,0⟩] scope pos) 0 it ac env) R s:=by
  refine codeAny_loop rfl W (fun n s hI=>?_) n h
  show wpAny _ A ((compTurn (.ListComp elt [⟨tg,iter,ifs,0⟩] scope pos) 0 it ac env).onRaise (fun z=>do noteFrame z env;theTreesLotGoes z)) _ _ s
  refine wpAny_noted ?_
  rw [compTurn_list]
  refine wpAny_bind (wpAny_standAt (wpAny_bind (wpAny_mono (turn n s hI) (fun r s₁ h₁=>?_) fun _ _ h'=>h'.elim)))
  cases r with
  | none=>exact wpAny_pure h₁
  | some v =>
    refine wpAny_bind (wpAny_mono h₁ (fun _ s₁' h₁'=>?_) fun _ _ h'=>h'.elim)
    refine wpAny_bind (wpAny_mono h₁' (fun _ s₂ h₂=>wpAny_bind (wpAny_mono h₂ (fun ok s₃ h₃=>?_) fun _ _ h'=>h'.elim)) fun _ _ h'=>h'.elim)
    cases ok with
    | false=>exact wpAny_pure (And.intro rfl h₃)
    | true =>
      exact wpAny_bind (wpAny_bind (wpAny_mono h₃ (fun x s₄ h₄=>wpAny_bind (wpAny_mono h₄ (fun _ s₅ h₅=>wpAny_pure (wpAny_pure ⟨rfl,h₅⟩)) fun _ _ h'=>h'.elim)) fun _ _ h'=>h'.elim))
end
def PIf (X:Cx)(ifs:List Expr)(t:TT):Prop:=
 ∀(pins:List (Addr×Obj)) (s:Shared) (σ:St) (H:Hp) (Q:Bool→Hp→Prop),Inv X pins σ H s→t σ H Q→wpAny (model X.prog X.w) X.A (Zuv ifs X.env) (TP X pins σ Q) X.xe s
def tYes:TT:=fun _ H Q=>Q true H
theorem Xnk {X:Cx}:PIf X [] tYes:=fun _ _ _ H _ I h=>wpAny_pure ⟨H,I,h⟩
theorem Xkc {X:Cx}{c:Expr}{t:TT}(h:PT X c t):PIf X [c] t:=fun pins s σ H Q I hw=>wpAny_tests_one (h pins s σ H Q I hw)
section
variable {X:Cx}{elt iter:Expr}{x:Str}{px pos:Pos}{ifs:List Expr}{sc:Scope}{N2:List Str}{wi:TI}{tc:TT}{te:TE}
end
structure QIf (X:Cx)(ifs:List Expr)(t:TT):Prop where
 out:PIf X ifs t
section
variable {X:Cx}{elt iter c:Expr}{x:Str}{px pos:Pos}{ifs:List Expr}{sc esc:Scope}{N N2:List Str}{wi:TI}{tc:TT}{te:TE}
theorem Xkm:QIf X [] tYes:=⟨Xnk⟩
theorem Xmt (h:QT X c tc):QIf X [c] tc:=⟨Xkc h.out⟩
end
section
variable {K:Frag}{a D:Addr}{xs:List V}{tc:TT}{te:TE}{σ:St}{H:Hp}{Q:VK}{R:Hp→Prop}
end
@[reducible] noncomputable def Cx.blkN (X:Cx)(N2 xs:List Str)(sc:Scope)(cl:List (Str×Addr))(C:Addr)(s0:Shared)(H0:Hp)(fp:List Addr):Cx:=
 {X with N:=N2++xs,s₀:=s0,H₀:=H0,env:=compEnvC sc cl C X.env,outer:=X.stack,ex:=fp,fn:=fun _=>false,pn:=[],xe:=fun _ _=>False}
structure Xfv (sc esc:Scope)(xs N N2:List Str):Prop where
 kind:sc.kind=.function
 cell:∀y∈sc.names,y.2≠.cell
 loc:∀y∈sc.names,y.2=.local→sc.names.lookup y.1=some .local
 free:∀y∈sc.names,y.2=.free→esc.names.lookup y.1=some .cell∨esc.names.lookup y.1=some .free
 out:∀y∈N2,sc.names.lookup y≠some .local
 nd:N.Nodup
 len:N2.length=N.length
 ren:∀p∈N.zip N2,p.2=p.1∨sc.names.lookup p.2=none
def Zis (k:Nat)(g:TG)(wi:TI)(tc:TT)(te:TE):TE:=fun σ H Q=>wi σ H fun J H1=>∀D,H1 D=none→∃W:Nat→Nat→Hp→Prop,(∃m,W 0 m (upd H1 D (.lst [])))∧∀i m H,W i m H→
  (J.stop i H∧Q (.ref D) H)∨(J.go i H∧∃N:Hp→Prop,(∀H',N H'→∃m',m'<m∧W (i+1) m' H')∧∀x H',J.yld i H x H'→∀os:St,os.length=k→g x (σ++os) H' fun σ' Hg=>(∃os',os'.length=k∧σ'=σ++os')∧tc σ' Hg fun b H2 =>
    if b=true then te σ' H2 fun v H3=>∃ys,H3 D=some (.lst ys)∧ys.length<sizeLine∧N (upd H3 D (.lst (ys++[v])))
    else N H2)
section
variable {X:Cx}{elt iter tg:Expr}{xs:List Str}{pos:Pos}{g:TG}{ifs:List Expr}{sc:Scope}{N2:List Str}{wi:TI}{tc:TT}{te:TE}
theorem Ztn {pins:List (Addr×Obj)}{σ:St}{H:Hp}{s s1:Shared}{fp:List Addr}{h':Heap}{m:Str→Option Value}{tk:Nat}(B:Xfv sc X.env.scope xs X.N N2)(I:Inv X pins σ H s)(hf:∀b∈fp,Zyr X pins H b)
    (hfl:∀b∈fp,b<s.heap.objs.size) (hn:h'.Ns s.heap.objs.size m) (hk:∀b o,s.heap.get? b=some o→h'.get? b=some o) (e1:s1={s with heap:=h',toks:=tk}) :
    Inv (X.blkN N2 xs sc (Jc X.env.cells sc.names []) s.heap.objs.size s H fp) [] (σ++List.replicate xs.length none) H s1:=by
  subst e1
  have hcl:∀y∈sc.names,y.2=.free→∃c,X.env.cells.lookup y.1=some c:=fun y hy hf=>I.ok.has y.1 (B.free y hy hf)
  have look:∀y c,(Jc X.env.cells sc.names []).lookup y=some c→X.env.cells.lookup y=some c:=fun y c h=>Zmb hcl (fun _ z=>by simp at z) h
  have isfree:∀y,(relabel sc X.env).names.lookup y=some .cell∨(relabel sc X.env).names.lookup y=some .free→(y,NameKind.free)∈sc.names:=fun y hy=>by
    rcases hy with hy | hy
    · exact Zco (env:=X.env) B.cell (.inl rfl) hy
    · exact Zco (env:=X.env) B.cell (.inr rfl) hy
  refine ⟨⟨I.ok.mod,B.kind,I.ok.glob,I.ok.blt,le_refl _,fun y z c h1 h2=>I.ok.inj y z c (look y c h1) (look z c h2),fun y hy=>Zkv (isfree y hy),fun _ _ h=>(by cases h),I.ok.hd,I.ok.frames,.inl rfl,fun b hb=>?_,fun b o e=>?_,le_trans I.ok.bsz I.sz,fun b o e hb=>?_,fun b hb hs=>?_,I.stack,I.stkFree⟩,
    rfl,I.bare,Un.kept hk,⟨_,hn,fun i y v h1 h2 h3=>?_⟩,fun y c h=>?_,I.hok.fresh (le_refl _),fun y c h=>I.freeC y c (look y c h),fun p hp=>absurd (show p∈([]:List (Addr×Obj)) from hp) (by simp),I.hok.kept hk,?_⟩
  · exact ⟨ne_of_lt (hfl b hb),fun y c h=>(hf b hb).2.2.2.2.1 y c (look y c h)⟩
  · exact I.bs b o e
  · rcases (hf b hb).2.2.2.1 with z | z
    · exact I.ok.noex b o e z
    · exact absurd (lt_of_lt_of_le (lt_size e) (le_trans I.ok.bsz z)) (lt_irrefl _)
  · rcases List.mem_cons.mp (I.stkSub b hs) with z | z
    · exact (hf b hb).2.1 z
    · exact (hf b hb).2.2.1 z
  · have hlen:=I.len
    have hl2:=B.len
    have h1:(N2++xs)[i]?=some y:=h1
    have h2:(σ++List.replicate xs.length none)[i]?=some (some v):=h2
    have hi:i<X.N.length:=by
      by_cases hi:i<X.N.length
      · exact hi
      · rw [getElem?_append_right (by omega)] at h2
        have hm:=mem_of_getElem? h2
        rw [List.mem_replicate] at hm
        exact absurd hm.2 (by intro z;cases z)
    rw [getElem?_append_left (by omega)] at h1
    rw [getElem?_append_left (by omega)] at h2
    have h3':(relabel sc X.env).names.lookup y=some .cell∨(relabel sc X.env).names.lookup y=some .free:=by
      rcases h3 with z | z
      · exact absurd (Zib (env:=X.env) z) (B.out y (mem_of_getElem? h1))
      · exact z
    have hfr:=isfree y h3'
    have h1:X.N[i]?=some y:=by
      obtain ⟨z,hz⟩:∃z,X.N[i]?=some z:=⟨X.N[i],getElem?_eq_getElem hi⟩
      rcases B.ren (z,y) (mem_of_getElem? (List.getElem?_zip_eq_some.mpr ⟨hz,h1⟩)) with e | e
      · rw [hz,show y=z from e]
      · exact absurd e (lookup_mem hfr)
    obtain ⟨m3,hn3,hl3⟩:=I.loc
    have hv:X.env.scope.names.lookup y=some .cell∨X.env.scope.names.lookup y=some .free:=B.free (y,.free) hfr rfl
    obtain ⟨u,ru,lk⟩:=hl3 i y v h1 h2 (.inr hv)
    refine ⟨u,ru,.inr ⟨h3',?_⟩⟩
    rcases lk with ⟨k1,_⟩ | ⟨k1,c,ec,zc⟩
    · rcases hv with q | q
      · rw [show X.env.kindOf y=X.env.scope.names.lookup y from rfl,q] at k1
        cases k1
      · rw [show X.env.kindOf y=X.env.scope.names.lookup y from rfl,q] at k1
        cases k1
    · obtain ⟨c',e'⟩:=Zkv (cells:=X.env.cells) (cs:=[]) hfr
      have e2:=look y c' e'
      rw [ec] at e2
      cases e2
      obtain ⟨o,ho,hd⟩:=zc
      exact ⟨c,e',o,hk _ _ ho,hd⟩
  · obtain ⟨v,o,ho,hd⟩:=I.cell y c (look y c h)
    exact ⟨v,o,hk _ _ ho,hd⟩
  · show (σ++List.replicate xs.length none).length=(N2++xs).length
    rw [length_append,length_append,I.len,B.len,length_replicate]
theorem Zsp {pins:List (Addr×Obj)}{σ:St}{H2:Hp}{s2:Shared}{it:Addr}{fp:List Addr}{tn:Nat→Heap→Prop}{J:It}{Q:VK}{E:Value→Shared→Prop}{RR:Value→Addr→Result→Shared→Prop}(hc:X.calm=true)(B:Xfv sc X.env.scope xs X.N N2)
    (hg:∀cl C s0 H0 fp,PG (X.blkN N2 xs sc cl C s0 H0 fp) tg g) (ht:∀cl C s0 H0 fp,PIf (X.blkN N2 xs sc cl C s0 H0 fp) ifs tc) (he:∀cl C s0 H0 fp,PE (X.blkN N2 xs sc cl C s0 H0 fp) elt te)
    (I2:Inv X pins σ H2 s2) (T:Turn X.prog X.w X.K tg J fp it tn) (st2:tn 0 s2.heap) (f2:∀b∈fp,Zyr X pins H2 b)
    (hw:∀D,H2 D=none→∃W:Nat→Nat→Hp→Prop,(∃m,W 0 m (upd H2 D (.lst [])))∧∀i m H,W i m H→
      (J.stop i H∧Q (.ref D) H)∨(J.go i H∧∃N:Hp→Prop,(∀H',N H'→∃m',m'<m∧W (i+1) m' H')∧∀x H',J.yld i H x H'→∀os:St,os.length=xs.length→g x (σ++os) H' fun σ' Hg=>(∃os',os'.length=xs.length∧σ'=σ++os')∧tc σ' Hg fun b H2 =>
        if b=true then te σ' H2 fun v H3=>∃ys,H3 D=some (.lst ys)∧ys.length<sizeLine∧N (upd H3 D (.lst (ys++[v])))
        else N H2))
    (fin:∀(D C:Addr) (H':Hp) (s':Shared) (m:Str→Option Value),Inv X pins σ H' s'→s'.heap.Ns C m→Zyr X pins H' C→Q (.ref D) H'→RR (.ref D) C (.ok .next) s') :
    wpAny (model X.prog X.w) X.A (newList []) (fun acc s₃=>wpAny (model X.prog X.w) X.A (newFunctionEnv sc X.env.globals (Jc X.env.cells sc.names []) [] X.env.qual none .none (some X.env)) (fun cenv s₄ =>
      codeAny (model X.prog X.w) X.A (.compStart (.ListComp elt [⟨tg,iter,ifs,0⟩] sc pos) 0 (.ref it) acc {cenv with scope:=relabel sc X.env}) (RR acc cenv.locals) s₄) E s₃) E s2:=by
  refine wpAny_newObj_type (wpAny_newFunctionEnv B.cell (by intro y hy;simp at hy) (fun h₁ hns₁ hsb₁=>?_) B.kind)
  have hD:H2 s2.heap.objs.size=none:=I2.fresh
  obtain ⟨W,⟨m0,w0⟩,turn⟩:=hw _ hD
  have I3:Inv X pins σ (upd H2 s2.heap.objs.size (.lst [])) {s2 with heap:=s2.heap.push {cls:=.type "list",data:=.seq ([]:List Value).toArray}}:=I2.lnew (its:=[]) (t':=s2.toks) .nil (zero_le _)
  have fne:∀b∈fp,b<s2.heap.objs.size:=fun b hb=>by
    obtain ⟨o,ho,_⟩:=T.obj _ _ st2 b hb
    exact lt_size ho
  generalize hs3:({s2 with heap:=s2.heap.push {cls:=.type "list",data:=.seq ([]:List Value).toArray}}:Shared)=s3 at I3
  have hs3h:s3.heap=s2.heap.push {cls:=.type "list",data:=.seq ([]:List Value).toArray}:=by rw [← hs3]
  have f3:∀b∈fp,Zyr X pins (upd H2 s2.heap.objs.size (.lst [])) b:=fun b hb=>⟨by rw [Yd (ne_of_lt (fne b hb))];exact (f2 b hb).1,(f2 b hb).2⟩
  have fl3:∀b∈fp,b<s3.heap.objs.size:=fun b hb=>by
    rw [hs3h,Heap.size_push]
    exact Nat.lt_succ_of_lt (fne b hb)
  have keep3:∀b o,s3.heap.get? b=some o→h₁.get? b=some o:=fun b o e=>by
    rw [hs3h] at e
    refine hsb₁.extBut b o ?_ (get?_push_of_some _ e)
    exact ne_of_lt (lt_size e)
  have hns3:h₁.Ns s3.heap.objs.size (fun z=>([]:List (Str×Value)).reverse.lookup z):=by
    rw [hs3h]
    exact hns₁
  have I4:=Ztn (xs:=xs) (sc:=sc) (s1:={s3 with heap:=h₁,toks:=s3.toks+([]:List (Str×Value)).length}) B I3 f3 fl3 hns3 keep3 rfl
  have st4:tn 0 h₁:=T.keep _ _ _ st2 fun b hb o e=>keep3 b o (by rw [hs3h];exact get?_push_of_some _ e)
  have stat:∀{H':Hp},(∀b∈fp,H' b=none)→∀b∈fp,Zyr (X.blkN N2 xs sc (Jc X.env.cells sc.names []) s3.heap.objs.size s3 (upd H2 s2.heap.objs.size (.lst [])) fp) [] H' b:=fun hn b hb =>
    ⟨hn b hb,(I4.ok.exf b hb).1,I4.ok.exfs b hb,.inl hb,(I4.ok.exf b hb).2,fun p hp=>absurd (show p∈([]:List (Addr×Obj)) from hp) (by simp)⟩
  have loop:∀s4:Shared,s4={s3 with heap:=h₁,toks:=s3.toks+([]:List (Str×Value)).length}→
      codeAny (model X.prog X.w) X.A (.compLoop (.ListComp elt [⟨tg,iter,ifs,0⟩] sc pos) 0 (.ref it) (.ref s2.heap.objs.size) (compEnvC sc (Jc X.env.cells sc.names []) s3.heap.objs.size X.env)) (RR (.ref s2.heap.objs.size) s3.heap.objs.size) s4:=by
    rintro s4 rfl
    refine Ztw (fun n s'=>∃(i:Nat) (o:St) (H':Hp),o.length=xs.length∧Inv (X.blkN N2 xs sc (Jc X.env.cells sc.names []) s3.heap.objs.size s3 (upd H2 s2.heap.objs.size (.lst [])) fp) [] (σ++o) H' s'∧tn i s'.heap∧(∀b∈fp,H' b=none)∧W i n H') ?_ m0
      ⟨0,List.replicate xs.length none,_,by simp,I4,st4,fun b hb=>(f3 b hb).1,w0⟩
    rintro n s5 ⟨i,o,H5,ol5,I5,st5,fr5,w5⟩
    rcases turn i n H5 w5 with ⟨stop,qn⟩ | ⟨go,N,hN,step⟩
    · refine thn (T.done (X.blkN N2 xs sc (Jc X.env.cells sc.names []) s3.heap.objs.size s3 (upd H2 s2.heap.objs.size (.lst [])) fp) rfl rfl rfl hc i [] s5 (σ++o) H5 _ I5 (stat fr5) st5 stop) fun r s6 ⟨hr,I6⟩=>?_
      subst hr
      obtain ⟨m6,hn6,_⟩:=I6.loc
      refine fin _ _ H5 s6 m6 ?_ hn6 (I3.fpOk (le_refl _) I6.free) qn
      exact I3.call' (ch:=fp) I6.os I6.base I6.hok I6.bare fun b hb=>⟨(f3 b hb).2.2.2.1,(f3 b hb).2.1,(f3 b hb).2.2.2.2.1,(f3 b hb).2.2.2.2.2⟩
    · refine thn (T.item (X.blkN N2 xs sc (Jc X.env.cells sc.names []) s3.heap.objs.size s3 (upd H2 s2.heap.objs.size (.lst [])) fp) rfl rfl rfl hc i [] s5 (σ++o) H5 _ I5 (stat fr5) st5 go) fun r s6 ⟨u,hr,h6⟩=>?_
      subst hr
      refine thn h6 fun _ s7 hz9=>?_
      obtain ⟨v,H7,I7,r7,y7,st7,fr7⟩:=hz9
      have I7':=I7.pinned (stat fr7) (T.obj _ _ st7)
      refine thn (hg _ _ _ _ _ _ s7 _ H7 v u _ I7' r7 (step v H7 y7 o ol5)) fun _ s8 ⟨σ8,H8,I8,⟨os',ol8,e8⟩,q8⟩=>?_
      subst e8
      have again:∀{H9:Hp} {s9:Shared},Inv (X.blkN N2 xs sc (Jc X.env.cells sc.names []) s3.heap.objs.size s3 (upd H2 s2.heap.objs.size (.lst [])) fp) ([]++Zns fp s7.heap) (σ++os') H9 s9→N H9→
          ∃m,m<n∧∃(i:Nat) (o:St) (H':Hp),o.length=xs.length∧Inv (X.blkN N2 xs sc (Jc X.env.cells sc.names []) s3.heap.objs.size s3 (upd H2 s2.heap.objs.size (.lst [])) fp) [] (σ++o) H' s9∧tn i s9.heap∧(∀b∈fp,H' b=none)∧W i m H':=fun {H9 s9} I9 n9=>by
        obtain ⟨m',hm,w9⟩:=hN H9 n9
        refine ⟨m',hm,i+1,os',H9,ol8,I9.unpinned,T.keep _ _ _ st7 fun b hb o e=>(I9.pin (b,o) (mem_append_right _ (mem_append_right _ (Zdd hb e)))).1,fun b hb=>?_,w9⟩
        obtain ⟨o,e,d⟩:=T.obj _ _ st7 b hb
        exact (I9.pin (b,o) (mem_append_right _ (mem_append_right _ (Zdd hb e)))).2.1
      refine thn (ht _ _ _ _ _ _ s8 _ H8 _ I8 q8) fun ok s9 ⟨H9,I9,q9⟩=>?_
      cases ok with
      | false =>
        rw [if_neg Bool.false_ne_true] at q9 ⊢
        exact again I9 q9
      | true =>
        rw [if_pos rfl] at q9 ⊢
        refine thn (he _ _ _ _ _ _ s9 _ H9 _ I9 q9) fun ue s10 hz9=>?_
        obtain ⟨ve,H10,I10,r10,ys,hy,hz,q10⟩:=hz9
        refine thn (Zia _ s10 _ H10 (.ref s2.heap.objs.size) [ve] (.ref s2.heap.objs.size) [ue] (fun _ H'=>N H') I10 rfl (.cons r10 .nil) ⟨_,ys,ve,rfl,rfl,hy,hz,q10⟩) fun _ s11 hz9=>?_
        obtain ⟨_,H11,I11,_,q11⟩:=hz9
        exact again I11 q11
  have fin':codeAny (model X.prog X.w) X.A (.compStart (.ListComp elt [⟨tg,iter,ifs,0⟩] sc pos) 0 (.ref it) (.ref s2.heap.objs.size) (compEnvC sc (Jc X.env.cells sc.names []) s3.heap.objs.size X.env)) (RR (.ref s2.heap.objs.size) s3.heap.objs.size) {s3 with heap:=h₁,toks:=s3.toks+([]:List (Str×Value)).length}:=
    codeAny_compStart_list (loop _ rfl) (T.self _ 0 _ _ _ st4 (loop _ rfl))
  exact fin'
theorem Xdl (hc:X.calm=true)(B:Xfv sc X.env.scope xs X.N N2)(hi:PI X tg iter wi)(hg:∀cl C s0 H0 fp,PG (X.blkN N2 xs sc cl C s0 H0 fp) tg g)(ht:∀cl C s0 H0 fp,PIf (X.blkN N2 xs sc cl C s0 H0 fp) ifs tc)(he:∀cl C s0 H0 fp,PE (X.blkN N2 xs sc cl C s0 H0 fp) elt te)
  (hs:∀v,foldedSetIterable iter X.env v=pure v:=by intro _;rfl):PE X (.ListComp elt [⟨tg,iter,ifs,0⟩] sc pos) (Zis xs.length g wi tc te):=by
 intro pins s σ H Q I h
 rw [eval_ListComp]
 have hcl:∀y∈sc.names,y.2=.free→∃c,X.env.cells.lookup y.1=some c:=fun y hy hf=>I.ok.has y.1 (B.free y hy hf)
 refine wpAny_comprehension_free (use:=none) rfl hs (Zdl hcl) B.kind B.loc (thn (hi pins s σ H _ I h) fun v s1 h1=>thn h1 fun itv s2 h2=>?_)
 obtain ⟨it,fp,tn,J,H2,e,I2,T,st2,f2,hw⟩:=h2
 subst e
 refine Zsp (RR:=fun acc C=>compPost (model X.prog X.w) X.A X.xe none (EP X pins σ Q) acc C) hc B hg ht he I2 T st2 f2 hw ?_
 intro D C H' s' m I' hn hC q
 obtain ⟨c0,c1,c2,c3,c4,c5⟩:=hC
 refine ⟨m,hn,fun h'' hs''=>⟨.ref D,H',?_,rfl,q⟩⟩
 exact I'.turned (t':=s'.toks) (fun b o hb e=>hs''.extBut b o hb e) c0 c1 c3 c4 c5
theorem Xag {i:Nat}{y:Str}{py spos:Pos}(hc:X.calm=true)(B:Xfv sc X.env.scope xs X.N N2)(hi:PI X tg iter wi)(hg:∀cl C s0 H0 fp,PG (X.blkN N2 xs sc cl C s0 H0 fp) tg g)(ht:∀cl C s0 H0 fp,PIf (X.blkN N2 xs sc cl C s0 H0 fp) ifs tc)(he:∀cl C s0 H0 fp,PE (X.blkN N2 xs sc cl C s0 H0 fp) elt te)
    (hy:X.N[i]?=some y) (hl:X.env.scope.names.lookup y=some .local) (hsw:swapsWith (.ListComp elt [⟨tg,iter,ifs,0⟩] sc pos) (some (.Name y py)) spos.line X.env=pure true:=by rfl)
    (hs:∀v,foldedSetIterable iter X.env v=pure v:=by intro _;rfl):PS X (.Assign [.Name y py] (.ListComp elt [⟨tg,iter,ifs,0⟩] sc pos) spos) (Zth (Zis xs.length g wi tc te) (Zdh i)):=by
  intro pins s σ H D I h
  have hx:=exec_Assign_Name_used (env:=X.env) _ _ _ _ hsw
  rw [hx]
  refine wpAny_bind (wpAny_standAt ?_)
  refine wpAny_bind ?_
  show wpAny _ X.A (do let _ ← comprehension (.ListComp elt [⟨tg,iter,ifs,0⟩] sc pos) sc X.env _ (newList []) false (eval iter X.env) (some (assign (.Name y py) X.env))) _ _ s
  have hcl:∀y∈sc.names,y.2=.free→∃c,X.env.cells.lookup y.1=some c:=fun y hy hf=>I.ok.has y.1 (B.free y hy hf)
  refine wpAny_bind (wpAny_mono (wpAny_comprehension_free (use:=some (assign (.Name y py) X.env)) (Q:=fun _ s'=>SP X pins D .next s') rfl hs (Zdl hcl) B.kind B.loc
    (thn (hi pins s σ H _ I h) fun v s1 h1=>thn h1 fun itv s2 h2=>?_)) (fun _ s' hq=>wpAny_pure (wpAny_pure hq)) fun _ _ e=>e)
  obtain ⟨it,fp,tn,J,H2,e,I2,T,st2,f2,hw⟩:=h2
  subst e
  refine Zsp (Q:=fun v H1=>Zdh i v σ H1 D.nx) (RR:=fun acc C=>compPost (model X.prog X.w) X.A X.xe (some (assign (.Name y py) X.env)) (fun _ s'=>SP X pins D .next s') acc C) hc B hg ht he I2 T st2 f2 hw ?_
  intro E C H' s' m I' hn hC q
  obtain ⟨c0,c1,c2,c3,c4,c5⟩:=hC
  show wpAny _ X.A (assign (.Name y py) X.env (.ref E)) _ _ _
  refine wpAny_assign_Name (Zni (v:=.ref E) I' B.nd hy (.inl hl) rfl (fun s8 I8 ⟨a,sb,ha⟩=>?_) (.inr hl))
  have hCa:C≠a:=by
    rcases ha with z | z
    · rw [z];exact c1
    · exact fun z'=>c4 _ _ z z'.symm
  refine ⟨m,hn.sameBut sb hCa,fun h'' hs''=>⟨_,H',?_,q⟩⟩
  exact I8.turned (t':=s8.toks) (fun b o hb e=>hs''.extBut b o hb e) c0 c1 c3 c4 c5
end
section
variable {X:Cx}{elt iter c tg:Expr}{xs:List Str}{pos:Pos}{ifs:List Expr}{sc esc:Scope}{N N2:List Str}{wi:TI}{tc:TT}{te:TE}{g:TG}
theorem Xbp (esc:Scope)(N N2 xs:List Str)(B:Xfv sc esc xs N N2)(hi:QI X tg iter wi)(hg:∀cl C s0 H0 fp,QG (X.blkN N2 xs sc cl C s0 H0 fp) tg g)(ht:∀cl C s0 H0 fp,QIf (X.blkN N2 xs sc cl C s0 H0 fp) ifs tc)(he:∀cl C s0 H0 fp,QE (X.blkN N2 xs sc cl C s0 H0 fp) elt te)
  (hesc:X.env.scope=esc:=by rfl) (hN:X.N=N:=by rfl) (hc:X.calm=true:=by rfl) (hs:∀v,foldedSetIterable iter X.env v=pure v:=by intro _;rfl):QE X (.ListComp elt [⟨tg,iter,ifs,0⟩] sc pos) (Zis xs.length g wi tc te):=by
 subst hesc hN
 exact ⟨Xdl hc B hi.out (fun cl C s0 H0 fp=>(hg cl C s0 H0 fp).out) (fun cl C s0 H0 fp=>(ht cl C s0 H0 fp).out) (fun cl C s0 H0 fp=>(he cl C s0 H0 fp).out) hs⟩
theorem Xdq {i:Nat}{y:Str}{py spos:Pos}(esc:Scope)(N N2 xs:List Str)(B:Xfv sc esc xs N N2)(hy:N[i]?=some y)(hl:esc.names.lookup y=some .local)(hi:QI X tg iter wi)(hg:∀cl C s0 H0 fp,QG (X.blkN N2 xs sc cl C s0 H0 fp) tg g)(ht:∀cl C s0 H0 fp,QIf (X.blkN N2 xs sc cl C s0 H0 fp) ifs tc)(he:∀cl C s0 H0 fp,QE (X.blkN N2 xs sc cl C s0 H0 fp) elt te)
  (hesc:X.env.scope=esc:=by rfl) (hN:X.N=N:=by rfl) (hc:X.calm=true:=by rfl) (hsw:swapsWith (.ListComp elt [⟨tg,iter,ifs,0⟩] sc pos) (some (.Name y py)) spos.line X.env=pure true:=by rfl)
  (hs:∀v,foldedSetIterable iter X.env v=pure v:=by intro _;rfl):QS X (.Assign [.Name y py] (.ListComp elt [⟨tg,iter,ifs,0⟩] sc pos) spos) (Zth (Zis xs.length g wi tc te) (Zdh i)):=by
 subst hesc hN
 exact ⟨Xag hc B hi.out (fun cl C s0 H0 fp=>(hg cl C s0 H0 fp).out) (fun cl C s0 H0 fp=>(ht cl C s0 H0 fp).out) (fun cl C s0 H0 fp=>(he cl C s0 H0 fp).out) hy hl hsw hs⟩
end
theorem Zhd (bt:Nat→Nat→Bool):∀k,argBest bt k≤k
 | 0=>le_refl _
 | k+1=>by
  rw [argBest]
  have:=Zhd bt k
  split<;>omega
theorem Zso (val:Nat→Int):∀k j,j≤k→val j≤val (argBest (fun i j=>decide (val i > val j)) k)
 | 0,j,h=>by
  have e:j=0:=by omega
  subst e
  exact Int.le_refl _
 | k+1,j,h=>by
  have ih:=Zso val k
  rw [argBest]
  by_cases c:val (k+1) > val (argBest (fun i j=>decide (val i > val j)) k)
  ·rw [if_pos (by simpa using c)]
   by_cases e:j=k+1
   ·subst e;exact Int.le_refl _
   ·have:=ih j (by omega)
    omega
  ·rw [if_neg (by simpa using c)]
   by_cases e:j=k+1
   ·subst e
    omega
   ·exact ih j (by omega)
def Xqa (K:Frag):List V→Hp→VK→Prop:=fun xs H Q=>∃p ns,xs=[.ref p]∧SqL K H p (ns.map V.int)∧ns≠[]∧∀m,m∈ns→(∀n∈ns,n≤m)→Q (.int m) H
def Zxy (K:Frag):List V→Hp→VK→Prop:=fun xs H Q=>(∃i j,xs=[.int i,.int j]∧Q (.int (if j > i then j else i)) H)∨Xqa K xs H Q
section
variable {X:Cx}
theorem Zve (hc:X.calm=true):Zaf X (.builtin "max") (Xqa X.K):=by
 intro pins s σ H xs us Q I r h
 obtain ⟨p,ns,rfl,hq,hne,q⟩:=h
 obtain ⟨u,rfl,rx⟩:=vals1 r
 cases rx
 obtain ⟨its,rv,pl,hz⟩:=I.list hq
 have hi:IntsAre its ns:=intsAre_of rv
 obtain ⟨xs,hxs⟩:=hi.allInts.items
 have hn:numsOf its.toArray.toList=ns:=by rw [show its.toArray.toList=its from rfl,hi.numsOf]
 have hl:=pl.isList
 rw [hxs] at hl hn
 rw [nums_intItems] at hn
 have hsz:xs.size=ns.length:=by rw [← hn];simp
 have h0:0<ns.length:=List.length_pos_iff.mpr hne
 have val:∀i,i<ns.length→numAt xs i=ns.getD i 0:=fun i hi=>by
  rw [← hn]
  have:i<xs.size:=by omega
  simp [numAt,List.getD,this]
 refine max_intList (I.ok.hd hc) hl (by omega) fun v h' tk hv hk=>?_
 obtain ⟨tk',rfl⟩:=intItems_at hv
 have hb:=Zhd (fun i j=>decide (numAt xs i > numAt xs j)) (xs.size - 1)
 have hlt:argBest (fun i j=>decide (numAt xs i > numAt xs j)) (xs.size - 1)<ns.length:=by omega
 refine ⟨.int (numAt xs (argBest (fun i j=>decide (numAt xs i > numAt xs j)) (xs.size - 1))),H,I.kept hk,⟨tk',rfl⟩,q _ ?_ fun n hn'=>?_⟩
 ·rw [val _ hlt]
  have e:ns.getD (argBest (fun i j=>decide (numAt xs i > numAt xs j)) (xs.size - 1)) 0=ns[argBest (fun i j=>decide (numAt xs i > numAt xs j)) (xs.size - 1)]:=by simp [List.getD,hlt]
  rw [e]
  exact getElem_mem hlt
 ·obtain ⟨j,hj,e⟩:=List.mem_iff_getElem.mp hn'
  have q1:=Zso (numAt xs) (xs.size - 1) j (by omega)
  rw [val j hj] at q1
  have e2:ns.getD j 0=ns[j]:=by simp [List.getD,hj]
  rw [e2,e] at q1
  exact q1
theorem Zwv (hc:X.calm=true):Zaf X (.builtin "max") (Zxy X.K):=(Zwk hc).or (Zve hc)
variable {σ:St}{H:Hp}{Q:VK}{D:Ends}{K:Frag}
theorem Xkh {i j:Int}(q:Q (.int (if j > i then j else i)) H):Zxy K [.int i,.int j] H Q:=.inl ⟨i,j,rfl,q⟩
theorem Xmy {p:Addr}{ns:List Int}(h:SqL K H p (ns.map V.int))(hne:ns≠[])(q:∀m,m∈ns→(∀n∈ns,n≤m)→Q (.int m) H):Zxy K [.ref p] H Q:=.inr ⟨p,ns,rfl,h,hne,q⟩
variable {a b c e o i':Expr}{to ti te:TE}{tc:TT}{pos p2 apos cpos:Pos}{body:List Stmt}{tb:TS}
theorem Xae (hp:PassesOwn (model X.prog X.w) X.A X.env X.xe)(hc:QT X c tc)(hb:QSs X body tb):QS X (.While c body [] pos) (Zsn tc tb):=⟨Xen hp hc.out hb.out⟩
theorem Xqe {i:Nat}{x:Str}{op:Operator}{tp:TIp}{pos':Pos}(hN:X.N.Nodup)(hi:X.N[i]?=some x)(hx:Loc X.env.scope x)(he:QE X e te)(ho:PIp X op tp)(hf:autoParam (X.fn x=true∨X.env.scope.names.lookup x=some .local) aT0._auto_1) :
  QS X (.AugAssign (.Name x pos') op e pos) (tAug i te tp):=⟨Xsd hN hi hx he.out ho hf⟩
theorem Xsw {t:TSet}(ho:QE X o to)(hi:QE X i' ti)(hs:PSet X t)
    (ha:∀v,assign (.Subscript o i' pos) X.env v=(do
      let ov ← holding [v] (eval o X.env)
      let iv ← holding [v,ov] (eval i' X.env)
      standAt pos
      holding [v,ov,iv] (setItem ov iv v)
      release [v,ov,iv] []):=by intro _;rfl):QG X (.Subscript o i' pos) (Zgm to ti t):=⟨Xob ho.out hi.out hs ha⟩
end
theorem Xmz:typeLookup (.type "list_reverseiterator") "__len__"=pure none:=by rw [typeLookup_type,builtinLookup_eq_fast];kernel_rfl
theorem Xee:typeLookup (.type "list_reverseiterator") "__length_hint__"=pure (some (.builtin "list_reverseiterator.__length_hint__")):=by rw [typeLookup_type,builtinLookup_eq_fast];kernel_rfl
section
variable {s:Shared}{E:Value→Shared→Prop}{A:Around}{P:Program}{w:World}
theorem Xdb {it l:Addr}{i:Int}{Q:Bool→Shared→Prop}(hit:s.heap.IsRevIter it l i)(h:Q false s):wpAny (model P w) A (Builtin.List.listLengthHint (.ref it)) Q E s:=by
 delta Builtin.List.listLengthHint
 refine wpAny_bind (wpAny_specialOf hit.typeIs Xmz ?_)
 refine wpAny_ite_split (fun z=>absurd z (by decide +kernel)) fun _=>?_
 refine wpAny_ite_split (fun z=>absurd z (by decide +kernel)) fun _=>?_
 refine wpAny_bind (wpAny_specialOf hit.typeIs Xee ?_)
 generalize hid:("list_reverseiterator.__length_hint__":String)=id0
 wp_delta
 rw [show splitId id0=some ("list_reverseiterator","__length_hint__") from by subst hid;decide +kernel]
 subst hid
 refine wpAny_bind (wpAny_isInstance (T:="list_reverseiterator") (b:=true) hit.typeIs (by rw [isSubtype_type];kernel_rfl) ?_)
 refine wpAny_ite_split (fun z=>absurd z (by decide)) fun _=>?_
 refine wpAny_ite_split (fun _=>?_) fun z=>absurd (by decide +kernel) z
 refine wpAny_ite_split (fun z=>absurd z (by decide +kernel)) fun _=>?_
 exact wpAny_pure h
theorem Zsr {R:Result→Shared→Prop}{it l:Addr}{items:Array Value}(hh:A.handled=none)(hit:s.heap.IsRevIter it l ((items.size:Int) - 1))(hl:s.heap.IsList l items)(hne:l≠it)(hn:items.size≤sizeLine)(S:Addr)(res:Value)(c₀:Nat)
    (hN:s.heap.get? S=some {cls:=.type "list",data:=.seq #[] c₀}) (hSi:S≠it) (hSl:S≠l)
    (hR:∀h' tk acc' c',(∀b o,b≠S→b≠it→s.heap.get? b=some o→h'.get? b=some o)→h'.get? S=some {cls:=.type "list",dict:=none,data:=.seq acc' c',slots:=#[]}→
      ItemsOf (fun i v=>items[items.size - 1 - i]?=some v) acc' items.size→R (.ok (.ret res)) {s with heap:=h',toks:=tk}) :
    wpAny (model P w) A.in1 (Builtin.List.listExtendWith (.ref S) (.ref it) res)
      (fun fi s1=>match fi with | .done fl=>R (.ok fl) s1 | .again cd=>cd.quiet=true∧codeAny (model P w) A cd R s1) (fun ev s1=>R (.error ev) s1) s:=by
  have W:=(Walks.listRev (prog:=P) (w:=w) (A:=A.in1) hh it l hne items).toS
  have key:codeAny (model P w) A (.builtin "list.extend.loop" ⟨[.ref S,.ref it,res],[]⟩) R s:=by
    refine codeAny_extend_loopS W hn S (by simp [hSi,hSl]) res items.size 0 s #[] c₀ rfl (zero_le _) ⟨zero_le _,by simpa using hit,hl⟩ hN (ItemsOf.nil _) fun s' acc' c' hm hN1 hacc=>?_
    rw [Moved.eq_with hm]
    exact hR s'.heap s'.toks acc' c' (fun b o hb hbi e=>hm.heap b o (by simp [hb,hbi]) e) hN1 hacc
  delta Builtin.List.listExtendWith
  refine wpAny_bind (wpAny_typeOf (T:="list_reverseiterator") hit.typeIs ?_)
  have h1:Builtin.List.listSameRef (.ref S) (.ref it)=false:=by simp [Builtin.List.listSameRef,hSi]
  have h2:(Value.type "list_reverseiterator"==Value.type "list")=false:=by decide
  have h3:(Value.type "list_reverseiterator"==Value.type "tuple")=false:=by decide
  simp only [h1,h2,h3,Bool.or_false,if_false,Bool.false_eq_true]
  refine wpAny_bind (wpAny_pyIter_revIter hit ?_)
  refine wpAny_bind (wpAny_holding (Xdb hit ?_))
  exact wpAny_ite_split (fun z=>absurd z (by decide +kernel)) (fun _=>wpAny_pure ⟨plainId_quiet F.plain_extend_loop _,key⟩)
theorem Zjy {Q:Value→Shared→Prop}{it l:Addr}{items:Array Value}(hh:A.handled=none)(hit:s.heap.IsRevIter it l ((items.size:Int) - 1))(hl:s.heap.IsList l items)(hne:l≠it)(hn:items.size≤sizeLine)
    (hQ:∀h' tk acc' c',(∀b o,b≠it→s.heap.get? b=some o→h'.get? b=some o)→h'.get? s.heap.objs.size=some {cls:=.type "list",dict:=none,data:=.seq acc' c',slots:=#[]}→
      ItemsOf (fun i v=>items[items.size - 1 - i]?=some v) acc' items.size→Q (.ref s.heap.objs.size) {s with heap:=h',toks:=tk}) :
    wpAny (model P w) A (call (.type "list") [.ref it]) Q E s:=by
  have hit0:=hit
  obtain ⟨oi,hoi,_⟩:=id hit
  obtain ⟨ol,hol,_⟩:=id hl
  have hi:it<s.heap.objs.size:=lt_size hoi
  have hLl:l<s.heap.objs.size:=lt_size hol
  refine callType_codes (Q₁:=fun ob z=>ob=.ref s.heap.objs.size∧z={s with heap:=s.heap.push {cls:=.type "list",data:=.seq #[]}}) F.called_list (F.typeCall_list_1 _) F.entry_list_init
    (code_list_new _ ⟨rfl,rfl⟩) fun ob z h1=>?_
  obtain ⟨rfl,rfl⟩:=h1
  have hN:(s.heap.push {cls:=.type "list",data:=.seq #[]}).get? s.heap.objs.size=some {cls:=.type "list",data:=.seq #[]}:=get?_push_size _ rfl
  refine ⟨⟨_,hN,rfl⟩,F.args_list_init_2 _ _,?_⟩
  show wpAny _ _ (do let old ← Builtin.List.listItems (.ref s.heap.objs.size);Builtin.List.listUpdate (.ref s.heap.objs.size) (fun _=>#[]);letGo old.toList.reverse;Builtin.List.listExtendWith (.ref s.heap.objs.size) (.ref it) .none) _ _ _
  refine wpAny_bind ?_
  unfold Builtin.List.listItems
  refine wpAny_bind (wpAny_seqItems hN rfl (wpAny_pure ?_))
  show wpAny _ _ (updateSeq s.heap.objs.size (fun _=>#[]) >>= fun _=>letGo (#[]:Array Value).toList.reverse >>= fun _=>Builtin.List.listExtendWith (.ref s.heap.objs.size) (.ref it) .none) _ _ _
  refine wpAny_bind (wpAny_updateSeq hN rfl ?_)
  have hN2:=Heap.get?_update_self (Obj.mapSeq (fun _=>(#[]:Array Value))) hN rfl
  have oth:∀b o,b≠s.heap.objs.size→s.heap.get? b=some o→((s.heap.push {cls:=.type "list",data:=.seq #[]}).update s.heap.objs.size (Obj.mapSeq (fun _=>(#[]:Array Value)))).get? b=some o:=
    fun b o hb e=>(Heap.get?_update_other _ _ (Ne.symm hb)).trans (get?_push_of_some _ e)
  refine wpAny_bind (wpAny_letGo ?_)
  refine Zsr (A:=A.in1) hh (hit0.at fun o e=>oth it o (ne_of_lt hi) e) (hl.at fun o e=>oth l o (ne_of_lt hLl) e) hne hn _ .none _ hN2 (Nat.ne_of_gt hi) (Nat.ne_of_gt hLl) fun h' tk acc' c' hk hN1 hacc=>?_
  exact ⟨rfl,hQ h' tk acc' c' (fun b o hb e=>hk b o (ne_of_lt (lt_size e)) hb (oth b o (ne_of_lt (lt_size e)) e)) hN1 hacc⟩
end
section
variable {X:Cx}{e:Expr}{te:TE}{p p' pos pos':Pos}
def Xab (K:Frag)(te:TE):TE:=fun σ H Q=>Zbk te Zlw σ H fun vs H1=>∃a xs,vs=[.ref a]∧SqL K H1 a xs∧∀r,H1 r=none→Q (.ref r) (upd H1 r (.lst xs.reverse))
theorem Xkv (hc:X.calm=true)(hg:Gl X "list")(hm:X.mg "list"=none)(hg':Gl X "reversed")(hm':X.mg "reversed"=none)(he:PE X e te)(hs2:starEach [e] X.env=(false,eval e X.env)::starEach [] X.env) :
  PE X (.Call (.Name "list" p) [.Call (.Name "reversed" p') [e] [] pos'] [] pos) (Xab X.K te):=by
 intro pins s σ H Q I h
 refine wpAny_Call_Name_kw (Zee I hg hm boot_list ?_ (by decide) (by decide))
 refine PyProof.Rows.callWith_type1 ?_ Zo rfl
 rw [Zo]
 show wpAny _ _ (spliced ((false,eval (.Call (.Name "reversed" p') [e] [] pos') X.env)::backTo pos (starEach [] X.env))) _ _ s
 refine Calls.spliced_cons ?_
 refine wpAny_Call_Name_kw (Zee I hg' hm' boot_reversed ?_ (by decide) (by decide))
 refine PyProof.Rows.callWith_type1 (thn (Zuy he Xgz hs2 pos' pins s σ H _ I h) fun us s1 hz9=>?_) hs2 rfl
 obtain ⟨vs,H1,I1,r1,q1⟩:=hz9
 obtain ⟨a,xs,rfl,hq,q⟩:=q1
 obtain ⟨u,rfl,rx⟩:=vals1 r1
 cases rx
 obtain ⟨its,rv,pl,hz⟩:=I1.list hq
 have hlen:=rv.length
 have hl:=pl.isList
 obtain ⟨oa,hoa,_⟩:=id hl
 have ha:a<s1.heap.objs.size:=lt_size hoa
 refine call_reversed_list hl (Calls.spliced_nil ?_)
 refine Zjy (it:=s1.heap.objs.size) (l:=a) (items:=its.toArray) (I1.ok.hd hc) ⟨_,get?_push_size _ rfl,rfl,rfl⟩ (hl.push _) (ne_of_lt ha) (by rw [size_toArray];omega) fun h' tk acc' c' hk hN1 hacc=>?_
 have hsz:(s1.heap.push (revObj a ((its.toArray.size:Int) - 1))).objs.size=s1.heap.objs.size+1:=Heap.size_push ..
 have hle:s1.heap.objs.size≤(s1.heap.push (revObj a ((its.toArray.size:Int) - 1))).objs.size:=by rw [hsz];exact le_succ _
 have hk1:∀b o,s1.heap.get? b=some o→h'.get? b=some o:=fun b o e=>hk b o (ne_of_lt (lt_size e)) (get?_push_of_some _ e)
 have hrev:acc'.toList=its.reverse:=by
  obtain ⟨h1,h2⟩:=hacc
  have h0:acc'.size=its.length:=h1.trans (size_toArray ..)
  refine List.ext_getElem? fun j=>?_
  by_cases hj:j<its.length
  ·have hj':j<acc'.size:=by omega
   have e1:=h2 j acc'[j] (Array.getElem?_eq_getElem hj')
   have e2:its.toArray[its.toArray.size - 1 - j]?=its[its.length - 1 - j]?:=by simp
   rw [getElem?_toList,Array.getElem?_eq_getElem hj',List.getElem?_reverse hj,← e2]
   exact e1.symm
  ·rw [List.getElem?_eq_none (by simp;omega),List.getElem?_eq_none (by simp;omega)]
 refine ⟨.ref _,_,I1.laid (o:=.lst xs.reverse) (t':=tk) hk1 hle ?_,rfl,q _ (I1.hok.fresh hle)⟩
 refine ⟨by rw [length_reverse];exact hz,acc'.toList,c',?_,?_⟩
 ·rw [hrev]
  exact rv.reverse
 ·rw [hN1]
theorem Xkg (hg:Gl X "list")(hm:X.mg "list"=none)(hg':Gl X "reversed")(hm':X.mg "reversed"=none)(he:QE X e te)(hs2:starEach [e] X.env=(false,eval e X.env)::starEach [] X.env)(hc:X.calm=true:=by rfl) :
  QE X (.Call (.Name "list" p) [.Call (.Name "reversed" p') [e] [] pos'] [] pos) (Xab X.K te):=⟨Xkv hc hg hm hg' hm' he.out hs2⟩
variable {σ:St}{H:Hp}{Q:VK}{K:Frag}
end
section
variable {X:Cx}
theorem truths {prog:Program}{w:World}{A:Around}{bs:List Bool}{its:List Value}(rv:Ys (bs.map V.bl) its):TruthOf prog w A (fun i v=>its.toArray[i]?=some v) (fun i=>bs.getD i false):=by
  intro i v s Q E hv hQ
  have hl:=rv.length
  rw [length_map] at hl
  have hv':its[i]?=some v:=by simpa using hv
  have hi:i<its.length:=(List.getElem?_eq_some_iff.mp hv').1
  obtain ⟨u,e,ru⟩:=rv.get (i:=i) (x:=V.bl (bs.getD i false)) (by
    rw [getElem?_map,getElem?_eq_getElem (by omega)]
    simp [List.getD,show i<bs.length by omega])
  rw [hv'] at e
  cases e
  cases (show v=Value.bool (bs.getD i false) from ru)
  exact wpAny_truthy_bool hQ
variable {H:Hp}{Q:VK}{K:Frag}
end
noncomputable def Zzj (K:Frag)(neg:Bool):R2:=fun x y H Q=>∃d xs,Dn K H y (.list xs)∧Dn K H x d∧PyData.canLayAll0 xs=true∧d.canLay0=true∧d.depth≤20∧Q (.bl (if neg then !(xs.any fun z=>PyData.eqv z d) else xs.any fun z=>PyData.eqv z d)) H
noncomputable def rIsA (neg:Bool):R2:=fun x y H Q=>(y=.non∧Q (.bl (if neg then !decide (x=.non) else decide (x=.non))) H)∨∃b c,x=.bl b∧y=.bl c∧Q (.bl (if neg then !(b==c) else b==c)) H
section
variable {X:Cx}
theorem Xfr (hu:X.A.units+64<cLine):OpR X (compareOp .In) (Zzj X.K false):=by
 intro pins s σ H x y v u Q I rx ry h
 obtain ⟨d,xs,h1,h2,c1,c2,dd,q⟩:=h
 obtain ⟨as,ra⟩:=h1.reads I ry
 obtain ⟨bs,rb⟩:=h2.reads I rx
 exact SeqAt.in_list_reads ra rb c1 c2 (by have:=Nat.min_le_right (PyData.depthAll xs) d.depth;omega) ⟨.bl _,H,I,rfl,q⟩
theorem Zev (hu:X.A.units+64<cLine):OpR X (compareOp .NotIn) (Zzj X.K true):=by
 intro pins s σ H x y v u Q I rx ry h
 obtain ⟨d,xs,h1,h2,c1,c2,dd,q⟩:=h
 obtain ⟨as,ra⟩:=h1.reads I ry
 obtain ⟨bs,rb⟩:=h2.reads I rx
 exact SeqAt.notIn_list_reads ra rb c1 c2 (by have:=Nat.min_le_right (PyData.depthAll xs) d.depth;omega) ⟨.bl _,H,I,rfl,q⟩
theorem Xor:OpR X (compareOp .Is) (rIsA false):=by
 intro pins s σ H x y v u Q I rx ry h
 rcases h with ⟨rfl,q⟩ | ⟨b,c,rfl,rfl,q⟩
 ·exact Xpx pins s σ H x .non v u Q I rx ry ⟨rfl,q⟩
 ·cases (show v=Value.bool b from rx)
  cases (show u=Value.bool c from ry)
  refine wpAny_is_plain (by cases b<;>cases c<;>rfl) ⟨.bl (b==c),H,I,?_,q⟩
  cases b<;>cases c<;>rfl
variable {H:Hp}{Q:VK}{K:Frag}
end
noncomputable def Dk {α:Type}:Sem α→Prop
 | .pure _=>True
 | .raise _=>True
 | .unsupported _=>True
 | .finish _=>True
 | .rule _ k=>Dk (k ())
 | .at _ k=>Dk (k ())
 | .load _ _ k=>∀o,Dk (k o)
 | .update _ _ f k=>(∀o:Obj,o.isFreed=false→(f o).isFreed=false∧(f o).dict=o.dict)∧Dk (k ())
 | .alloc _ k=>∀a,Dk (k a)
 | .loadIfAlive _ k=>∀o,Dk (k o)
 | .point _ k=>Dk (k ())
 | .fresh k=>∀a,Dk (k a)
 | .ask k=>∀a,Dk (k a)
 | .choose _ _ k=>∀a,Dk (k a)
 | .os _ _ k=>∀a,Dk (k a)
 | .handled _ k=>∀a,Dk (k a)
 | .stack k=>∀a,Dk (k a)
 | .thread k=>∀a,Dk (k a)
 | .register _ _=>False
 | .call ..=>False
 | .newGen ..=>False
 | .genState ..=>False
 | .resume ..=>False
 | .yield ..=>False
 | .fork ..=>False
 | .await ..=>False
section
variable {X:Cx}{pins:List (Addr×Obj)}{σ:St}{H H':Hp}{s:Shared}{h':Heap}
end
section
variable {X:Cx}{pins:List (Addr×Obj)}{σ:St}{H:Hp}{s:Shared}
structure Kept (X:Cx)(own:List Addr)(h h':Heap):Prop where
 st:(hideAll h (own++frs X.stack)).StaysIn h'
 fr:h'.FunFrames (hideAll h (own++frs X.stack)) X.stack
 up:h.UpToSlots h'
end
noncomputable abbrev bmV:List Value:=[.type "ValueError",.type "Exception",.type "BaseException",.type "object"]
section
variable {X:Cx}{pins:List (Addr×Obj)}{σ:St}{H:Hp}{s:Shared}
noncomputable def exO (e:Addr)(cls:Value)(dx:Option Addr):HO:=.ext fun h=>∃o vs,h.get? e=some o∧o.cls=cls∧o.data=.fields vs∧o.dict=dx
noncomputable abbrev Cx.hand (X:Cx)(e:Addr):Cx:={X with A:=X.A.mark (some (.ref e)),calm:=false,xe:=fun _ _=>False}
end
end L2
namespace L2
open PySem PySem.Spec
section
variable {prog:Program}{w:World}{A:Around}{E:Value→Shared→Prop}{h:Heap}{g:Array GenState}{d:Drawn}{t:Nat}{os:OsState}{a C:Addr}{o:Obj}{vs:Array Value}
open PySem.W (Looks)
end
end L2
namespace L2
open PySem PySem.Spec PyProof.Rows
noncomputable abbrev TJ:=St→Hp→(Hp→Prop)→Prop
def PJ (X:Cx)(es:List Expr)(t:TJ):Prop:=
 ∀(out:Str) (pins:List (Addr×Obj)) (s:Shared) (σ:St) (H:Hp) (Q:VK),Inv X pins σ H s→out.length+2000*es.length≤sizeLine→t σ H (fun H1=>∀z,Q (.str z) H1)→
  wpAny (model X.prog X.w) X.A (joinParts out (evalEach es X.env)) (EP X pins σ Q) X.xe s
structure QJ (X:Cx)(es:List Expr)(t:TJ):Prop where
 out:PJ X es t
section
variable {X:Cx}{a b e:Expr}{es:List Expr}{te:TE}{t:TJ}{pos:Pos}
end
end L2
namespace L2
open PySem PySem.Spec PyProof.Rows
open PySem.W (Looks)
structure ErrIn (K:Frag)(C:Addr):Prop where
 exc:PySem.W.excIn K C bmV "ValueError.__new__"=true
 ty:typeIn K (.ref C)=some (.type "type")
 cl:∃c,clsIn K C=some c
 ga:findIn K (.ref C) "__getattribute__"=some (some (.builtin "BaseException.__getattribute__"))
 ge:findIn K (.ref C) "__getattr__"=some none
 lk:findIn K (.ref C) "__class__"=some (some (.builtin "object.__class__"))
 so:subIn K (.ref C) (.type "object")=some true
 sb:subIn K (.ref C) (.type "BaseException")=some true
 se:subIn K (.ref C) (.ref C)=some true
section
variable {K:Frag}{C D e:Addr}{b:Bool}
structure ErrK (K:Frag)(C:Addr):Prop where
 ob:∃dd cd sl,K.lookup C=some ⟨.type "type",dd,.cls cd,sl⟩
 ty:typeIn K (.ref C)=some (.type "type")
 cl:∃c,clsIn K C=some c
 ga:findIn K (.ref C) "__getattribute__"=some (some (.builtin "BaseException.__getattribute__"))
 ge:findIn K (.ref C) "__getattr__"=some none
 lk:findIn K (.ref C) "__class__"=some (some (.builtin "object.__class__"))
 so:subIn K (.ref C) (.type "object")=some true
 sb:subIn K (.ref C) (.type "BaseException")=some true
 se:subIn K (.ref C) (.ref C)=some true
variable {X:Cx}
end
section
variable {σ:St}{H:Hp}{Q:VK}{D:Ends}{K:Frag}
variable {X:Cx}{a b c d:Expr}{ta tb tc td:TE}{pos:Pos}
end
section
variable {X:Cx}{e:Expr}{es:List Expr}{t:TA}{np cpos pos hpos:Pos}
end
end L2
namespace L2
open PySem PySem.Spec PyProof.Rows
structure Pl (n:Nat)(x:Str):Prop where
 len:x.length≤n
 asc:∀c∈x.cps.toList,c<128
section
variable {X:Cx}{e:Expr}{te:TE}{pos:Pos}
end
section
variable {κ:Type}[DecidableEq κ]
noncomputable def Zry (kvs:List (κ×V))(k:κ):Option V:=(kvs.find? fun kv=>decide (kv.1=k)).map (·.2)
noncomputable def putK (kvs:List (κ×V))(k:κ)(v:V):List (κ×V):=
 if (kvs.any fun kv=>decide (kv.1=k))=true then kvs.map (fun kv=>if kv.1=k then (kv.1,v) else kv) else kvs++[(k,v)]
theorem Zgs {p:κ×V}{r:List (κ×V)}{k:κ}(e:p.1=k):Zry (p::r) k=some p.2:=by simp [Zry,find?_cons,e]
theorem Zgv {p:κ×V}{r:List (κ×V)}{k:κ}(e:¬p.1=k):Zry (p::r) k=Zry r k:=by simp [Zry,find?_cons,e]
theorem Zse (k:κ):∀kvs:List (κ×V),(kvs.any fun kv=>decide (kv.1=k))=(Zry kvs k).isSome
 | []=>rfl
 | p::r=>by
  rw [any_cons]
  by_cases e:p.1=k
  ·simp only [Zgs e,decide_eq_true e,Bool.true_or,Option.isSome_some]
  ·rw [Zgv e,decide_eq_false e,Bool.false_or];exact Zse k r
theorem Zik (kvs:List (κ×V))(k:κ)(v:V):(putK kvs k v).length≤kvs.length+1:=by
 unfold putK
 split
 ·rw [length_map];omega
 ·rw [length_append,length_cons,length_nil];omega
theorem Zzl.isSome_eq {o:Option V}{u:Option Value}(r:Zzl o u):o.isSome=u.isSome:=by
 cases o with
 | none=>cases u with
  | none=>rfl
  | some _=>exact (show False from r).elim
 | some _=>cases u with
  | none=>exact (show False from r).elim
  | some _=>rfl
theorem Zzl.getD {o:Option V}{u:Option Value}{d:V}{d':Value}(r:Zzl o u)(rd:RelV d d'):RelV (o.getD d) (u.getD d'):=by
 cases o with
 | none=>cases u with
  | none=>exact rd
  | some _=>exact (show False from r).elim
 | some _=>cases u with
  | none=>exact (show False from r).elim
  | some _=>exact r
theorem KV.val {kvs:List (κ×V)}{vs:List (κ×Value)}(r:KV kvs vs)(k:κ):Zzl (Zry kvs k) (valueAt vs k):=by
 unfold KV at r
 induction r with
 | nil=>exact True.intro
 | @cons p q ps qs h t ih =>
  obtain ⟨h1,h2⟩:=h
  by_cases e:p.1=k
  ·have e':q.1=k:=h1.symm.trans e
   have b:valueAt (q::qs) k=some q.2:=by simp [valueAt,find?_cons,e']
   rw [Zgs e,b];exact h2
  ·have e':¬q.1=k:=fun z=>e (h1.trans z)
   have b:valueAt (q::qs) k=valueAt qs k:=by simp [valueAt,find?_cons,e']
   rw [Zgv e,b];exact ih
theorem KV.any {kvs:List (κ×V)}{vs:List (κ×Value)}(r:KV kvs vs)(k:κ):(kvs.any fun kv=>decide (kv.1=k))=vs.any fun kv=>decide (kv.1=k):=by
 unfold KV at r
 induction r with
 | nil=>rfl
 | cons h t ih=>rw [any_cons,any_cons,ih,h.1]
theorem KV.repl {kvs:List (κ×V)}{vs:List (κ×Value)}(r:KV kvs vs)(k:κ){y:V}{u:Value}(ry:RelV y u) :
  KV (kvs.map fun kv=>if kv.1=k then (kv.1,y) else kv) (vs.map fun kv=>if kv.1=k then (kv.1,u) else kv):=by
 unfold KV at r ⊢
 induction r with
 | nil=>exact .nil
 | @cons p q ps qs h t ih =>
  rw [map_cons,map_cons]
  refine .cons ?_ ih
  obtain ⟨h1,h2⟩:=h
  by_cases e:p.1=k
  ·rw [if_pos e,if_pos (h1.symm.trans e)];exact ⟨h1,ry⟩
  ·rw [if_neg e,if_neg (fun z=>e (h1.trans z))];exact ⟨h1,h2⟩
theorem KV.put {kvs:List (κ×V)}{vs:List (κ×Value)}(r:KV kvs vs)(k:κ){y:V}{u:Value}(ry:RelV y u):KV (putK kvs k y) (stored vs k u):=by
 unfold putK stored
 rw [r.any k]
 by_cases e:(vs.any fun kv=>decide (kv.1=k))=true
 ·rw [if_pos e,if_pos e];exact r.repl k ry
 ·rw [if_neg e,if_neg e];exact Paired.snoc r ⟨rfl,ry⟩
theorem KV.length {kvs:List (κ×V)}{vs:List (κ×Value)}(r:KV kvs vs):kvs.length=vs.length:=Paired.length r
end
theorem Xme {P:Program}{w:World}{k:Key}{u:Value}(r:RelV (kV k) u):(Jh P w).is k u=true:=by
 cases k with
 | inl i=>obtain ⟨t,e⟩:=(show ∃t,u=Value.int i t from r);subst e;exact Zoj P w i t
 | inr x=>obtain ⟨t,e⟩:=(show ∃t,u=Value.str x t from r);subst e;exact Zow P w x t
theorem Zmd {P:Program}{w:World}:∀{ks:List Key} {us:List Value},Ys (ks.map kV) us→ItemsAre (Jh P w) ks us
 | [],_,r=>by rw [map_nil] at r;cases r;exact .nil
 | k::ks,_,r=>by
  rw [map_cons] at r
  cases r with
  | cons h t=>exact .cons (Xme h) (Zmd t)
noncomputable abbrev KT (H:Hp):List (List Key×V)→List (List Key×Addr×Value)→Prop:=Paired fun p q=>p.1=q.1∧H q.2.1=some (.tup (p.1.map kV))∧RelV p.2 q.2.2
theorem KT.val {H:Hp}{kvs:List (List Key×V)}{xs:List (List Key×Addr×Value)}(r:KT H kvs xs)(k:List Key):Zzl (Zry kvs k) ((atKey xs k).map (·.2)):=by
 induction r with
 | nil=>exact True.intro
 | @cons p q ps qs h t ih =>
  obtain ⟨h1,_,h2⟩:=h
  by_cases e:p.1=k
  ·have e':q.1=k:=h1.symm.trans e
   have b:atKey (q::qs) k=some q.2:=by simp [atKey,find?_cons,e']
   rw [Zgs e,b];exact h2
  ·have e':¬q.1=k:=fun z=>e (h1.trans z)
   have b:atKey (q::qs) k=atKey qs k:=by simp [atKey,find?_cons,e']
   rw [Zgv e,b];exact ih
theorem KT.repl {H:Hp}{kvs:List (List Key×V)}{xs:List (List Key×Addr×Value)}(r:KT H kvs xs)(k:List Key){y:V}{u:Value}(ry:RelV y u) :
  KT H (kvs.map fun kv=>if kv.1=k then (kv.1,y) else kv) (xs.map (putAt k u)):=by
 induction r with
 | nil=>exact .nil
 | @cons p q ps qs h t ih =>
  rw [map_cons,map_cons]
  refine .cons ?_ ih
  obtain ⟨h1,h2,h3⟩:=h
  unfold putAt
  by_cases e:p.1=k
  ·rw [if_pos e,if_pos (h1.symm.trans e)];exact ⟨h1,h2,ry⟩
  ·rw [if_neg e,if_neg (fun z=>e (h1.trans z))];exact ⟨h1,h2,h3⟩
theorem KT.put {H:Hp}{kvs:List (List Key×V)}{xs:List (List Key×Addr×Value)}(r:KT H kvs xs)(k:List Key){b:Addr}{y:V}{u:Value}(hb:H b=some (.tup (k.map kV)))(ry:RelV y u) :
  KT H (putK kvs k y) (storedH xs k b u):=by
 have e:(kvs.any fun kv=>decide (kv.1=k))=(atKey xs k).isSome:=by
  rw [Zse,(r.val k).isSome_eq,Option.isSome_map]
 unfold putK storedH
 rw [e]
 by_cases q:(atKey xs k).isSome=true
 ·rw [if_pos q,if_pos q];exact r.repl k ry
 ·rw [if_neg q,if_neg q];exact Paired.snoc r ⟨rfl,hb,ry⟩
theorem KT.keeps {H H':Hp}{kvs:List (List Key×V)}{xs:List (List Key×Addr×Value)}(r:KT H kvs xs)(ht:∀b ys,H b=some (.tup ys)→H' b=some (.tup ys)):KT H' kvs xs:=
 Paired.mapP r fun _ _ z=>⟨z.1,ht _ _ z.2.1,z.2.2⟩
section
variable {P:Program}{w:World}{H:Hp}{h:Heap}{a:Addr}
theorem Xrf {u:HO}(ok:HOk P w H h)(e:Rd H a u):Zaa P w H h a u:=e.ok ok
theorem Xhy {kvs:List (Key×V)}(ok:HOk P w H h)(e:Rd H a (.dK kvs)):kvs.length≤sizeLine∧(a==sysModules)=false∧∃vs,KV kvs vs∧h.DictOf (Jh P w) a vs:=
 show Zaa P w H h a (.dK kvs) from Xrf ok e
theorem dk_of {kvs:List (Key×V)}(ok:HOk P w H h)(e:H a=some (.dK kvs)):kvs.length≤sizeLine∧(a==sysModules)=false∧∃vs,KV kvs vs∧h.DictOf (Jh P w) a vs:=Xhy ok (.inl e)
theorem Zun {ks:List Key}(ok:HOk P w H h)(e:H a=some (.tup (ks.map kV))):(tupleKind (Jh P w)).is h ks a:=by
 obtain ⟨_,its,r,o,h1,h2,n,h3⟩:=(show Zaa P w H h a (.tup (ks.map kV)) from ok a _ e)
 exact ⟨o,its.toArray,n,h1,h2,h3,by simpa using Zmd r⟩
theorem Xic {kvs:List (List Key×V)}(ok:HOk P w H h)(e:Rd H a (.dT kvs)):kvs.length≤sizeLine∧(a==sysModules)=false∧
  ∃xs,KT H kvs xs∧h.DictOfH (tupleKind (Jh P w)) a xs:=by
 obtain ⟨z,y,xs,r,o,es,ep,h1,h2,h3,h4,h5⟩:=(show Zaa P w H h a (.dT kvs) from Xrf ok e)
 refine ⟨z,y,xs,r,o,es,ep,h1,h2,h3,h4,fun x hx=>?_,h5⟩
 have all:∀{l:List (List Key×V)} {m:List (List Key×Addr×Value)},KT H l m→∀x∈m,(tupleKind (Jh P w)).is h x.1 x.2.1:=by
  intro l m q
  induction q with
  | nil=>intro x hx;exact nomatch hx
  | @cons p q ps qs hq t ih =>
   intro x hx
   rcases List.mem_cons.mp hx with e | hx
   ·subst e
    exact Zun ok (by rw [← hq.1];exact hq.2.1)
   ·exact ih x hx
 exact all r x hx
theorem Xrp {kvs:List (List Key×V)}(ok:HOk P w H h)(e:H a=some (.dT kvs)):kvs.length≤sizeLine∧(a==sysModules)=false∧
  ∃xs,KT H kvs xs∧h.DictOfH (tupleKind (Jh P w)) a xs:=Xic ok (.inl e)
end
def Xsh (H:Hp)(a:Addr)(y:V)(r:Option V):Prop:=
 (∃kvs k,Rd H a (.dK kvs)∧y=kV k∧r=Zry kvs k)∨∃kvs k b,Rd H a (.dT kvs)∧y=.ref b∧H b=some (.tup (k.map kV))∧r=Zry kvs k
def Xnp (H:Hp)(a:Addr)(y v:V)(H':Hp):Prop:=
 (∃kvs k,H a=some (.dK kvs)∧y=kV k∧kvs.length<sizeLine∧H'=upd H a (.dK (putK kvs k v)))∨
 ∃kvs k b,H a=some (.dT kvs)∧y=.ref b∧H b=some (.tup (k.map kV))∧kvs.length<sizeLine∧H'=upd H a (.dT (putK kvs k v))
theorem Xsh.t {H:Hp}{a b:Addr}{kvs:List (List Key×V)}{k:List Key}(e:H a=some (.dT kvs))(eb:H b=some (.tup (k.map kV))):Xsh H a (.ref b) (Zry kvs k):=.inr ⟨kvs,k,b,.inl e,rfl,eb,rfl⟩
theorem Xnp.t {H:Hp}{a b:Addr}{kvs:List (List Key×V)}{k:List Key}{v:V}(e:H a=some (.dT kvs))(eb:H b=some (.tup (k.map kV)))(hl:kvs.length<sizeLine) :
  Xnp H a (.ref b) v (upd H a (.dT (putK kvs k v))):=.inr ⟨kvs,k,b,e,rfl,eb,hl,rfl⟩
section
variable {X:Cx}{pins:List (Addr×Obj)}{σ:St}{H:Hp}{s:Shared}{a:Addr}{y v:V}{u r:Value}{o:Option V}{A:Around}{E:Value→Shared→Prop}
theorem Inv.big (I:Inv X pins σ H s):sysModules<s.heap.objs.size:=by
 have h:mainGlobals<s.heap.objs.size:=(I.mod.glob.keeps I.bk).lt
 exact Nat.lt_trans (by decide) h
theorem Zue {h':Heap}{t':Nat}{ob:HO}(I:Inv X pins σ H s)(mu:Mut (H a))(hs:Heap.SameBut a s.heap h')(he:∃q,h'.get? a=some q)(new:Zaa X.prog X.w (upd H a ob) h' a ob) :
  Inv X pins σ (upd H a ob) {s with heap:=h',toks:=t'}:=
 I.write (x:=a) (e:=a) mu (.inl rfl) (fun b q hb z=>(hs.2 b hb).trans z) he new
theorem Xqd {P:Program}{w:World}{H':Hp}{h':Heap}{kvs:List (Key×V)}{vs:List (Key×Value)}(z:kvs.length≤sizeLine)(hd:(a==sysModules)=false)(rel:KV kvs vs)(dd:h'.DictOf (Jh P w) a vs) :
  Zaa P w H' h' a (.dK kvs):=⟨z,hd,vs,rel,dd⟩
theorem Zzb {H':Hp}{Q:Unit→Shared→Prop}(hu:A.units+1<cLine)(I:Inv X pins σ H s)(g:Xnp H a y v H')(ry:RelV y u)(rv:RelV v r)(h:∀s',Inv X pins σ H' s'→Q () s') :
  wpAny (model X.prog X.w) A (setItem (.ref a) u r) Q E s:=by
 rcases g with ⟨kvs,k,e,ey,l,eH⟩ | ⟨kvs,k,b,e,ey,eb,l,eH⟩
 ·subst ey eH
  obtain ⟨z,hd,vs,rel,dd⟩:=dk_of I.hok e
  have hz:vs.length≤sizeLine:=by rw [← rel.length];exact z
  have hl:(putK kvs k v).length≤sizeLine:=by have:=Zik kvs k v;omega
  refine wpAny_setItem_pairs (hsz:=hz) (Xme ry) dd fun h' dd' hs=>h _ ?_
  have he:∃q,h'.get? a=some q:=let ⟨q,_,_,hq,_⟩:=dd';⟨q,hq⟩
  exact Zue I (by rw [e];exact True.intro) hs he (Xqd hl hd (rel.put k rv) dd')
 ·subst ey eH
  cases (show u=Value.ref b from ry)
  obtain ⟨z,hd,xs,rel,dd⟩:=Xrp I.hok e
  have hz:xs.length≤sizeLine:=by rw [← Paired.length rel];exact z
  have hl:(putK kvs k v).length≤sizeLine:=by have:=Zik kvs k v;omega
  refine wpAny_setItem_heap (hsz:=hz) (tupleKind_room_in1 hu) (Zun I.hok eb) dd fun h' dd' hs=>h _ ?_
  obtain ⟨q,es,ep,hq,h2,h3,h4,_,h5⟩:=dd'
  refine Zue I (by rw [e];exact True.intro) hs ⟨q,hq⟩ ⟨hl,hd,_,(rel.put k eb rv).keeps fun c ys ec=>?_,q,es,ep,hq,h2,h3,h4,h5⟩
  rw [Yd (ne_of ec e (fun z=>nomatch z))]
  exact ec
end
section
variable {X:Cx}{pins:List (Addr×Obj)}{σ:St}{H:Hp}{s:Shared}{a:Addr}{kvs:List (Key×V)}{k:Key}{u:Value}{A:Around}{E:Value→Shared→Prop}
end
def sDPut (td ty tv:TE):TS:=fun D σ H=>tv σ H fun v H1=>td σ H1 fun x H2=>ty σ H2 fun y H3=>∃a H4,x=.ref a∧Xnp H3 a y v H4∧D.nx σ H4
section
variable {X:Cx}{o i e value:Expr}{pos pos' tpos:Pos}{td ty tv:TE}
end
theorem Xaf {P:Program}{w:World}{H:Hp}(h:Heap)(hb:sysModules<h.objs.size):Zaa P w H (h.push {cls:=.type "dict",data:=.dict #[]}) h.objs.size (.dT []):=
 ⟨zero_le _,beq_eq_false_iff_ne.mpr (Ne.symm (ne_of_lt hb)),[],.nil,_,#[],0,get?_push_size _ rfl,⟨rfl,rfl,rfl⟩,rfl,rfl,nodup_nil⟩
def Zyg:TE:=fun _ H Q=>∀p,H p=none→Q (.ref p) (upd H p (.dT []))
section
variable {X:Cx}{pos:Pos}
theorem Xaz:PE X (.Dict [] [] pos) Zyg:=fun pins s σ H Q I h =>
 wpAny_Dict_empty ⟨.ref s.heap.objs.size,_,I.laid (a:=s.heap.objs.size) (o:=.dT []) (t':=s.toks) (fun _ _ q=>get?_push_of_some _ q) (le_refl _) (Xaf s.heap I.big),rfl,h _ (I.hok.fresh (le_refl _))⟩
end
noncomputable def Xru:List (TE×TE)→St→Hp→(List (V×V)→Hp→Prop)→Prop
 | [],_,H,Q=>Q [] H
 | (tk,tv)::r,σ,H,Q=>tk σ H fun x H1=>tv σ H1 fun y H2=>Xru r σ H2 fun ps H3=>Q ((x,y)::ps) H3
structure M1 (X:Cx)(o:Expr)(m:Str)(apos:Pos)(e:Expr)(cpos:Pos):Prop where
  base:attributeBase o m X.env (eval o X.env)=eval o X.env
  few:((backTo cpos (starEach [e] X.env)).all (fun x=>!x.1)&&(backToKw cpos (keywordEach [] X.env)).all (fun x=>x.1.isSome)
    && decide (([e]:List Expr).length+([]:List Keyword).length+(if ([]:List Keyword).isEmpty then 0 else 1)<30))=true
  line:(apos.endLine==cpos.line)=true
  trees:backTo cpos (starEach [e] X.env)=[(false,eval e X.env)]
structure M2 (X:Cx)(o:Expr)(m:Str)(apos:Pos)(e f:Expr)(cpos:Pos):Prop where
  base:attributeBase o m X.env (eval o X.env)=eval o X.env
  few:((backTo cpos (starEach [e,f] X.env)).all (fun x=>!x.1)&&(backToKw cpos (keywordEach [] X.env)).all (fun x=>x.1.isSome)
    && decide (([e,f]:List Expr).length+([]:List Keyword).length+(if ([]:List Keyword).isEmpty then 0 else 1)<30))=true
  line:(apos.endLine==cpos.line)=true
  trees:backTo cpos (starEach [e,f] X.env)=[(false,eval e X.env),(false,eval f X.env)]
def IsD (H:Hp)(a:Addr):Prop:=(∃kvs,Rd H a (.dK kvs))∨∃kvs,Rd H a (.dT kvs)
theorem Xoi {X:Cx}{pins:List (Addr×Obj)}{σ:St}{H:Hp}{s:Shared}{a:Addr}(I:Inv X pins σ H s)(d:IsD H a) :
  s.TypeIs (.ref a) "dict"∧(∀b,Value.ref a=.ref b→∃ob,s.heap.get? b=some ob∧ob.dict=none)∧(a==sysModules)=false:=by
 rcases d with ⟨kvs,e⟩ | ⟨kvs,e⟩
 ·obtain ⟨_,hd,vs,_,dd⟩:=Xhy I.hok e
  refine ⟨dd.typeIs,fun b q=>?_,hd⟩
  cases q
  obtain ⟨ob,_,_,h1,h2,_⟩:=dd
  exact ⟨ob,h1,h2.2.1⟩
 ·obtain ⟨_,hd,xs,_,dd⟩:=Xic I.hok e
  refine ⟨dd.typeIs,fun b q=>?_,hd⟩
  cases q
  obtain ⟨ob,_,_,h1,h2,_⟩:=dd
  exact ⟨ob,h1,h2.2.1⟩
section
variable {X:Cx}{pins:List (Addr×Obj)}{σ:St}{H:Hp}{s:Shared}{a:Addr}{y d:V}{u r:Value}{o:Option V}{A:Around}{E:Value→Shared→Prop}
theorem Xod {Q:Value→Shared→Prop}(hu:A.units+1<cLine)(I:Inv X pins σ H s)(g:Xsh H a y o)(ry:RelV y u)(rd:RelV d r)(h:∀w' s',Inv X pins σ H s'→RelV (o.getD d) w'→Q w' s') :
  wpAny (model X.prog X.w) A (call (.builtin "dict.get") [.ref a,u,r]) Q E s:=by
 rcases g with ⟨kvs,k,e,ey,l⟩ | ⟨kvs,k,b,e,ey,eb,l⟩
 ·subst ey
  obtain ⟨z,hd,vs,rel,dd⟩:=Xhy I.hok e
  refine call_meetsIn PySem.F.slot_dict_get dd.typeIs PySem.F.entry_dict_get (PySem.F.args_dict_get_3 _ _ _) (meets_dict_get_default (Jh X.prog X.w) a (Xme ry) hd r) ⟨_,dd.mapOf,h _ _ (I.tok _) ?_⟩
  rw [l]
  exact (rel.val k).getD rd
 ·subst ey
  cases (show u=Value.ref b from ry)
  obtain ⟨z,hd,xs,rel,dd⟩:=Xic I.hok e
  refine call_meetsIn PySem.F.slot_dict_get dd.typeIs PySem.F.entry_dict_get (PySem.F.args_dict_get_3 _ _ _) (meetsH_dict_get_default (tupleKind (Jh X.prog X.w)) a b hd r) ⟨tupleKind_room_in1 hu,k,xs,Zun I.hok eb,dd,h _ _ (I.tok _) ?_⟩
  rw [l]
  exact (rel.val k).getD rd
end
def Zxb (td ty tx:TE):TE:=fun σ H Q=>td σ H fun x H1=>∃a,x=.ref a∧IsD H1 a∧ty σ H1 fun y H2=>tx σ H2 fun z H3=>∃o,Xsh H3 a y o∧Q (o.getD z) H3
section
variable {X:Cx}{o e f:Expr}{apos cpos:Pos}{td ty tx:TE}
theorem Xcg (hu:X.A.units+1<cLine)(ho:PE X o td)(he:PE X e ty)(hf:PE X f tx)(m:M2 X o "get" apos e f cpos):PE X (.Call (.Attribute o "get" apos) [e,f] [] cpos) (Zxb td ty tx):=by
  intro pins s σ H Q I h
  refine wpAny_Call_method m.base m.few m.line PySem.F.plainAttrs_dict PySem.F.slot_dict_get PySem.F.type_dict_get (thn (ho pins s σ H _ I h) fun u s1 ⟨x,H1,I1,rx,a,ex,d,q1⟩=>?_)
  subst ex
  obtain rfl:u=Value.ref a:=rx
  obtain ⟨t1,t2,_⟩:=Xoi I1 d
  refine ⟨t1,t2,?_⟩
  rw [m.trees]
  refine Calls.callWith_builtin rfl (Calls.evalArgs_plain (Calls.spliced_cons (thn (he pins s1 σ H1 _ I1 q1) fun iv s2 ⟨y,H2,I2,ry,q2⟩ =>
    Calls.spliced_cons (thn (hf pins s2 σ H2 _ I2 q2) fun fv s3 ⟨z,H3,I3,rz,ov,g,q3⟩=>Calls.spliced_nil ?_))))
  exact Xod hu I3 g ry rz fun w' s4 I4 rw'=>⟨_,H3,I4,rw',q3⟩
variable {pins:List (Addr×Obj)}{σ:St}{H:Hp}{s:Shared}{a:Addr}{kvs:List (Key×V)}{A:Around}{E:Value→Shared→Prop}
end
section
variable {X:Cx}{pins:List (Addr×Obj)}{σ:St}{H:Hp}{s:Shared}{a:Addr}{y:V}{u:Value}{A:Around}{E:Value→Shared→Prop}
end
end L2
namespace Dl
open PySem
set_option genInjectivity true in
inductive D where
 | non
 | bl (b:Bool)
 | int (i:Int)
 | str (x:Str)
 | lst (xs:List D)
 | tup (xs:List D)
 | scr (ns:List Int)
 | rng (lo hi:Int)
 | exc (c:String) (f:Option Int)
 | obj (c:String) (ns:List Str) (xs:List D)
 | dct (ks:List (Int ⊕ Str)) (xs:List D)
 | dtt (ks:List (List (Int ⊕ Str))) (xs:List D)
 deriving Inhabited
set_option genInjectivity true in
inductive R (α:Type) where
 | ok (a:α)
 | err (c:String) (f:Option Int)
 | bad
noncomputable abbrev Env:=List (Option D)
set_option genInjectivity true in
inductive Fl where
 | nx (ρ:Env)
 | ret (d:D)
 | brk (ρ:Env)
 | cnt (ρ:Env)
noncomputable def R.bind {α β:Type}:R α→(α→R β)→R β
 | .ok a,f=>f a
 | .err c x,_=>.err c x
 | .bad,_=>.bad
@[simp] theorem Zvd {α β:Type}(a:α)(f:α→R β):(R.ok a).bind f=f a:=(rfl)
@[simp] theorem bind_err {α β:Type}(c:String)(x:Option Int)(f:α→R β):(R.err c x:R α).bind f=.err c x:=(rfl)
@[simp] theorem bind_bad {α β:Type}(f:α→R β):(R.bad:R α).bind f=.bad:=(rfl)
noncomputable abbrev FE:=Env→R D
noncomputable abbrev FT:=Env→R Bool
noncomputable abbrev FA:=Env→R (List D)
noncomputable abbrev FO:=Env→R (Option Int)
noncomputable abbrev FS:=Env→R Fl
noncomputable def fC (d:D):FE:=fun _=>.ok d
noncomputable def fV (i:Nat):FE:=fun ρ=>match ρ[i]? with
 | some (some d)=>.ok d
 | _=>.bad
noncomputable def oR {α:Type}:Option α→R α
 | some a=>.ok a
 | none=>.bad
@[simp] theorem oR_some {α:Type}(a:α):oR (some a)=.ok a:=(rfl)
@[simp] theorem oR_none {α:Type}:(oR (none:Option α))=.bad:=(rfl)
noncomputable def f1 (g:D→Option D)(a:FE):FE:=fun ρ=>(a ρ).bind fun x=>oR (g x)
noncomputable def f2 (g:D→D→Option D)(a b:FE):FE:=fun ρ=>(a ρ).bind fun x=>(b ρ).bind fun y=>oR (g x y)
noncomputable def Zt:FA:=fun _=>.ok []
noncomputable def Zc (a:FE)(r:FA):FA:=fun ρ=>(a ρ).bind fun x=>(r ρ).bind fun xs=>.ok (x::xs)
noncomputable def fA (g:List D→Option D)(a:FA):FE:=fun ρ=>(a ρ).bind fun xs=>oR (g xs)
noncomputable def Xb (F:List D→R D)(a:FA):FE:=fun ρ=>(a ρ).bind F
noncomputable abbrev lim:Nat:=1000000
noncomputable def Zae (xs:List D):Option D:=if xs.length≤lim then some (.lst xs) else none
noncomputable def Zhb (xs:List D):Option D:=if xs.length≤lim then some (.tup xs) else none
mutual
noncomputable def flat:D→Bool
 | .lst _=>false
 | .tup xs=>Xw xs
 | .non=>true
 | .bl _=>true
 | .int _=>true
 | .str _=>true
 | .scr _=>true
 | .rng _ _=>true
 | .exc _ _=>true
 | .obj _ _ _=>false
 | .dct _ _=>false
 | .dtt _ _=>false
noncomputable def Xw:List D→Bool
 | []=>true
 | x::xs=>flat x&&Xw xs
end
noncomputable def Ye (d:D):Option D:=if flat d then some d else none
noncomputable def Jp:D→D→Option D
 | .int i,.int j=>some (.int (i+j))
 | .str x,.str y=>if x.length+y.length≤lim then some (.str (x++y)) else none
 | .lst xs,.lst ys=>if xs.length+ys.length≤lim∧Xw xs∧Xw ys then some (.lst (xs++ys)) else none
 | _,_=>none
noncomputable def gAddI:D→D→Option D
 | .int i,.int j=>some (.int (i+j))
 | _,_=>none
noncomputable def Zgm:D→D→Option D
 | .int i,.int j=>some (.int (i - j))
 | _,_=>none
noncomputable def short (i:Int):Bool:=decide (-(2 ^ 64)<i)&&decide (i<2 ^ 64)
noncomputable def Zck:D→D→Option D
 | .int i,.int j=>if short i||short j then some (.int (i*j)) else none
 | .lst xs,.int k=>if k≤1000000∧xs.length*k.toNat≤lim∧-1000000≤k∧Xw xs then some (.lst (List.replicate k.toNat xs).flatten) else none
 | _,_=>none
noncomputable def Zjb:D→D→Option D
 | .int i,.int j=>if 0<j then some (.int (i % j)) else none
 | _,_=>none
noncomputable def Xmc:D→D→Option D
 | .int i,.int j=>if 0<j∧j<2 ^ 200 then some (.int (i / j)) else none
 | _,_=>none
noncomputable def Zjn:D→D→Option D
 | .int i,.int j=>if 0≤j∧j≤1000000∧i.natAbs<2 ^ 64 then some (.int (i ^ j.toNat)) else none
 | _,_=>none
noncomputable def Zqk:D→Option D
 | .int i=>some (.int (-i))
 | _=>none
noncomputable def gLt:D→D→Option D
 | .int i,.int j=>some (.bl (decide (i<j)))
 | _,_=>none
noncomputable def gLe:D→D→Option D
 | .int i,.int j=>some (.bl (decide (i≤j)))
 | _,_=>none
noncomputable def gGt:D→D→Option D
 | .int i,.int j=>some (.bl (decide (j<i)))
 | _,_=>none
noncomputable def gGe:D→D→Option D
 | .int i,.int j=>some (.bl (decide (j≤i)))
 | _,_=>none
mutual
noncomputable def dep:D→Nat
 | .lst xs=>Zfl xs+1
 | .tup xs=>Zfl xs+1
 | .scr _=>100
 | .rng _ _=>100
 | .exc _ _=>100
 | .obj _ _ _=>100
 | .dct _ _=>100
 | .dtt _ _=>100
 | .non=>0
 | .bl _=>0
 | .int _=>0
 | .str _=>0
noncomputable def Zfl:List D→Nat
 | []=>0
 | x::xs=>max (dep x) (Zfl xs)
end
mutual
noncomputable def eqv:D→D→Bool
 | .non,.non=>true
 | .bl a,.bl b=>a==b
 | .bl a,.int j=>(if a then 1 else 0)==j
 | .int i,.bl b=>i==(if b then 1 else 0)
 | .int i,.int j=>i==j
 | .str x,.str y=>x==y
 | .lst xs,.lst ys=>Xfu xs ys
 | .tup xs,.tup ys=>Xfu xs ys
 | _,_=>false
noncomputable def Xfu:List D→List D→Bool
 | [],[]=>true
 | x::xs,y::ys=>eqv x y&&Xfu xs ys
 | _,_=>false
end
noncomputable def gEq (a b:D):Option D:=if dep a≤20∧dep b≤20 then some (.bl (eqv a b)) else none
noncomputable def gNe (a b:D):Option D:=if dep a≤20∧dep b≤20 then some (.bl (!eqv a b)) else none
noncomputable def gIn (x:D):D→Option D
 | .lst ys=>if dep x≤20∧Zfl ys≤20 then some (.bl (ys.any fun y=>eqv y x)) else none
 | _=>none
noncomputable def Zcr (x:D):D→Option D
 | .lst ys=>if dep x≤20∧Zfl ys≤20 then some (.bl (!(ys.any fun y=>eqv y x))) else none
 | _=>none
noncomputable def Ziz:D→Bool
 | .non=>true
 | _=>false
noncomputable def gIs (x:D):D→Option D
 | .non=>some (.bl (Ziz x))
 | .bl c=>match x with
  | .bl b=>some (.bl (b==c))
  | _=>none
 | _=>none
noncomputable def Xgd (x:D):D→Option D
 | .non=>some (.bl (!Ziz x))
 | .bl c=>match x with
  | .bl b=>some (.bl (!(b==c)))
  | _=>none
 | _=>none
noncomputable def ixD (n:Nat)(i:Int):Option Nat:=if 0≤i then (if i<n then some i.toNat else none) else if -(n:Int)≤i then some (i+n).toNat else none
noncomputable def atD {α:Type}(xs:List α)(i:Int):Option α:=(ixD xs.length i).bind fun j=>xs[j]?
noncomputable def Xnn (n d:Nat):Option Int→Nat
 | none=>d
 | some v=>if v<0 then (max (v+(n:Int)) 0).toNat else min v.toNat n
noncomputable def cut {α:Type}(xs:List α)(lo hi:Option Int):List α:=(xs.drop (Xnn xs.length 0 lo)).take (Xnn xs.length xs.length hi - Xnn xs.length 0 lo)
noncomputable def gIx:D→D→Option D
 | .lst xs,.int i=>(atD xs i)
 | .tup xs,.int i=>(atD xs i)
 | .scr ns,.int i=>((atD ns i).map D.int)
 | .str z,.int i=>if z.length≤lim then ((atD z.cps.toList i).map fun c=>D.str ⟨#[c]⟩) else none
 | _,_=>none
noncomputable def Xir (x y:D):Option D:=match x with
 | .lst _=>gIx x y
 | _=>none
noncomputable def Zwd:FO:=fun _=>.ok none
noncomputable def Zpn (a:FE):FO:=fun ρ=>(a ρ).bind fun d=>match d with
 | .int i=>.ok (some i)
 | _=>.bad
noncomputable def fSl (g:D→Option Int→Option Int→Option D)(a:FE)(l h:FO):FE:=fun ρ=>(a ρ).bind fun x=>(l ρ).bind fun lo=>(h ρ).bind fun hi=>oR (g x lo hi)
noncomputable def gSl:D→Option Int→Option Int→Option D
 | .lst xs,lo,hi=>if Xw xs then some (.lst (cut xs lo hi)) else none
 | .scr ns,lo,hi=>some (.lst ((cut ns lo hi).map D.int))
 | _,_,_=>none
noncomputable def plain (n:Nat)(z:Str):Bool:=decide (z.length≤n)&&z.cps.toList.all (fun c=>decide (c<128))
noncomputable def Zgp:D→Option D
 | .lst xs=>if Xw xs then some (.lst xs.reverse) else none
 | _=>none
noncomputable def intsOf:List D→Option (List Int)
 | []=>some []
 | .int i::r=>(intsOf r).map (i::·)
 | _::_=>none
noncomputable def bools:List D→Option (List Bool)
 | []=>some []
 | .bl i::r=>(bools r).map (i::·)
 | _::_=>none
noncomputable def Zcc:List D→Option D
 | [.lst xs]=>some (.int xs.length)
 | [.tup xs]=>some (.int xs.length)
 | [.scr xs]=>some (.int xs.length)
 | [.str z]=>if z.length≤lim then some (.int z.length) else none
 | _=>none
noncomputable def Xjx:List D→Option D
 | [.lst xs]=>(intsOf xs).bind fun ns=>some (.int ns.sum)
 | _=>none
noncomputable def Xdy:List Int→Int
 | []=>0
 | x::r=>r.foldl max x
noncomputable def Xsz:List D→Option D
 | [.int i,.int j]=>some (.int (if j > i then j else i))
 | [.lst xs]=>(intsOf xs).bind fun ns=>if ns=[] then none else some (.int (Xdy ns))
 | _=>none
noncomputable def Xnm:List D→Option D
 | [.int i,.int j]=>some (.int (if j<i then j else i))
 | _=>none
noncomputable def Zgc (lo:Int)(n:Nat):List D:=(List.range n).map fun (k:Nat)=>D.int (lo+(k:Int))
noncomputable def Jt:List D→Option D
 | [.lst xs]=>if Xw xs then some (.lst xs) else none
 | [.tup xs]=>if Xw xs then some (.lst xs) else none
 | [.rng i j]=>if -1000000000≤i∧i≤1000000000∧-1000000000≤j∧j≤1000000000∧(j - i).toNat≤lim then some (.lst (Zgc i (j - i).toNat)) else none
 | _=>none
noncomputable def Xpa:List D→Option D
 | [.lst xs]=>some (.lst xs)
 | _=>none
noncomputable def Xha:D→String
 | .non=>"NoneType"
 | .bl _=>"bool"
 | .int _=>"int"
 | .str _=>"str"
 | .lst _=>"list"
 | .tup _=>"tuple"
 | .scr _=>"list"
 | .rng _ _=>"range"
 | .exc c _=>c
 | .obj c _ _=>c
 | .dct _ _=>"dict"
 | .dtt _ _=>"dict"
noncomputable def Zqz (c:String):D→Option D
 | .non=>some (.bl false)
 | .bl _=>some (.bl (c=="bool"||c=="int"))
 | .int _=>some (.bl (c=="int"))
 | .str _=>some (.bl (c=="str"))
 | .lst _=>some (.bl (c=="list"))
 | .tup _=>some (.bl (c=="tuple"))
 | _=>none
noncomputable def cE (a:FE):FT:=fun ρ=>(a ρ).bind fun d=>match d with
 | .bl b=>.ok b
 | _=>.bad
noncomputable def Zwi (a:FT):FT:=fun ρ=>(a ρ).bind fun b=>.ok (!b)
noncomputable def cAnd (a b:FT):FT:=fun ρ=>(a ρ).bind fun x=>if x then b ρ else .ok false
noncomputable def cOr (a b:FT):FT:=fun ρ=>(a ρ).bind fun x=>if x then .ok true else b ρ
noncomputable def fAnd (a b:FE):FE:=fun ρ=>(a ρ).bind fun x=>match x with
 | .bl true=>b ρ
 | .bl false=>.ok (.bl false)
 | _=>.bad
noncomputable def fOr (a b:FE):FE:=fun ρ=>(a ρ).bind fun x=>match x with
 | .bl true=>.ok (.bl true)
 | .bl false=>b ρ
 | _=>.bad
noncomputable def gNot:D→Option D
 | .bl b=>some (.bl (!b))
 | _=>none
noncomputable def fIf (c:FT)(a b:FE):FE:=fun ρ=>(c ρ).bind fun x=>if x then a ρ else b ρ
noncomputable def Xpn (g g':D→D→Option D)(a b c:FE):FE:=fun ρ=>(a ρ).bind fun x=>(b ρ).bind fun y=>(oR (g x y)).bind fun z=>match z with
 | .bl true=>(c ρ).bind fun w=>oR (g' y w)
 | .bl false=>.ok (.bl false)
 | _=>.bad
noncomputable abbrev FB:=D→Env→R Env
noncomputable def Xe (i:Nat):FB:=fun d ρ=>.ok (ρ.set i (some d))
noncomputable def Zzk:List D→Env→R Env
 | [],ρ=>.ok ρ
 | _,_=>.bad
noncomputable def Zeu (b:FB)(r:List D→Env→R Env):List D→Env→R Env
 | d::ds,ρ=>(b d ρ).bind fun ρ'=>r ds ρ'
 | _,_=>.bad
noncomputable def Xac (r:List D→Env→R Env):FB:=fun d ρ=>match d with
 | .tup ds=>r ds ρ
 | _=>.bad
noncomputable def R.calm {α:Type}:R α→R α
 | .ok a=>.ok a
 | .err _ _=>.bad
 | .bad=>.bad
@[simp] theorem calm_ok {α:Type}(a:α):(R.ok a).calm=.ok a:=(rfl)
noncomputable def Zeo (k:Nat)(b:FB)(c:FT)(e:FE)(ρ:Env):List D→R (List D)
 | []=>.ok []
 | x::xs=>(b x (ρ++List.replicate k none)).calm.bind fun ρ1=>(c ρ1).bind fun t=>if t then (e ρ1).bind fun y=>(Zeo k b c e ρ xs).bind fun ys=>.ok (y::ys) else Zeo k b c e ρ xs
noncomputable def Ztz:FT:=fun _=>.ok true
noncomputable abbrev FI:=Env→R (List D)
noncomputable def Jj (a:FE):FI:=fun ρ=>(a ρ).bind fun d=>match d with
 | .lst xs=>if xs.length≤lim then .ok xs else .bad
 | .scr ns=>if ns.length≤lim then .ok (ns.map D.int) else .bad
 | _=>.bad
noncomputable def jTup (a:FE):FI:=fun ρ=>(a ρ).bind fun d=>match d with
 | .tup xs=>if xs.length≤lim then .ok xs else .bad
 | _=>.bad
noncomputable def Zlk (a:FA):FI:=fun ρ=>(a ρ).bind fun ds=>match ds with
 | [.int j]=>if -1000000000≤j∧j≤1000000 then .ok (Zgc 0 j.toNat) else .bad
 | _=>.bad
noncomputable def Zxw (a:FA):FI:=fun ρ=>(a ρ).bind fun ds=>match ds with
 | [.int i,.int j]=>if -1000000000≤i∧i≤1000000000∧-1000000000≤j∧j≤1000000000∧(j - i).toNat≤lim then .ok (Zgc i (j - i).toNat) else .bad
 | _=>.bad
noncomputable def Zfs (lo:Int)(n:Nat):List Int:=(List.range n).map fun (k:Nat)=>lo - (k:Int)
noncomputable def Zyt (a:FA):FI:=fun ρ=>(a ρ).bind fun ds=>match ds with
 | [.int i,.int j,.int k]=>if k=-1∧-1000000000≤i∧i≤1000000000∧-1000000000≤j∧j≤1000000000∧(i - j).toNat≤lim then .ok ((Zfs i (i - j).toNat).map D.int) else .bad
 | _=>.bad
noncomputable def Zcg (n k:Nat)(it:FI)(b:FB)(c:FT)(e:FE):FE:=fun ρ=>if ρ.length=n then (it ρ).bind fun xs=>(Zeo k b c e ρ xs).calm.bind fun ys=>.ok (.lst ys) else .bad
noncomputable def sNx:FS:=fun ρ=>.ok (.nx ρ)
noncomputable def Zhq:FS:=fun _=>.bad
noncomputable def Xt (a b:FS):FS:=fun ρ=>(a ρ).bind fun fl=>match fl with
 | .nx ρ'=>b ρ'
 | fl=>.ok fl
noncomputable def Yt (i:Nat)(e:FE):FS:=fun ρ=>(e ρ).bind fun d=>.ok (.nx (ρ.set i (some d)))
noncomputable def Zal (e:FE):FS:=fun ρ=>(e ρ).bind fun d=>.ok (.ret d)
noncomputable def sIf (c:FT)(a b:FS):FS:=fun ρ=>(c ρ).bind fun x=>if x then a ρ else b ρ
noncomputable def Zlg (i:Nat)(e:FE):FS:=fun ρ=>match ρ[i]? with
 | some (some (.lst xs))=>(e ρ).bind fun d=>if xs.length<lim then .ok (.nx (ρ.set i (some (.lst (xs++[d]))))) else .bad
 | _=>.bad
noncomputable def Xfy (i:Nat)(g:D→D→Option D)(e:FE):FS:=fun ρ=>match ρ[i]? with
 | some (some x)=>(e ρ).bind fun y=>(oR (g x y)).bind fun z=>.ok (.nx (ρ.set i (some z)))
 | _=>.bad
noncomputable def Zgk (f:List D→Option (List D)):List Int→D→Option D
 | [],.lst xs=>(f xs).map D.lst
 | n::r,.lst xs=>(ixD xs.length n).bind fun j=>xs[j]?.bind fun d=>(Zgk f r d).map fun d'=>D.lst (xs.set j d')
 | n::r,.tup xs=>(ixD xs.length n).bind fun j=>xs[j]?.bind fun d=>(Zgk f r d).map fun d'=>D.tup (xs.set j d')
 | _,_=>none
noncomputable def Zua (d:D)(xs:List D):Option (List D):=if xs.length<lim then some (xs++[d]) else none
noncomputable def Zpm (i:Nat)(ks:FA)(e:FE):FS:=fun ρ=>match ρ[i]? with
 | some (some d)=>(ks ρ).calm.bind fun zs=>match intsOf zs with
  | some path=>(e ρ).calm.bind fun v=>match Zgk (Zua v) path d with
   | some d'=>.ok (.nx (ρ.set i (some d')))
   | none=>.bad
  | none=>.bad
 | _=>.bad
noncomputable def Xrl (i j:Nat)(c:FT)(r:D)(e:FE)(ρ:Env):List D→List D→R Fl
 | dn,[]=>.ok (.nx ((ρ.set i (some (.lst dn))).set j none))
 | dn,x::rest=>(c ((ρ.set i (some (.lst (dn++x::rest)))).set j (some x))).bind fun b=>if b then .ok (.ret r) else
   (e ((ρ.set i (some (.lst (dn++x::rest)))).set j (some x))).calm.bind fun v=>match Zgk (Zua v) [] x with
    | some x'=>Xrl i j c r e ρ (dn++[x']) rest
    | none=>.bad
noncomputable def Xmm (e:FE)(b:FB):FS:=fun ρ=>(e ρ).bind fun d=>(b d ρ).calm.bind fun ρ'=>.ok (.nx ρ')
noncomputable def Zbr (b:FB)(s:FS):List D→Env→R Fl
 | [],ρ=>.ok (.nx ρ)
 | x::xs,ρ=>(b x ρ).calm.bind fun ρ1=>(s ρ1).bind fun fl=>match fl with
  | .nx ρ2=>Zbr b s xs ρ2
  | .cnt ρ2=>Zbr b s xs ρ2
  | .brk ρ2=>.ok (.nx ρ2)
  | .ret d=>.ok (.ret d)
noncomputable def Ziv (it:FI)(b:FB)(s:FS):FS:=fun ρ=>(it ρ).bind fun xs=>Zbr b s xs ρ
noncomputable def Zbp (c:FT)(s:FS):Nat→Env→R Fl
 | 0,_=>.bad
 | n+1,ρ=>(c ρ).bind fun b=>if b then (s ρ).bind fun fl=>match fl with
  | .nx ρ2=>Zbp c s n ρ2
  | .cnt ρ2=>Zbp c s n ρ2
  | .brk ρ2=>.ok (.nx ρ2)
  | .ret d=>.ok (.ret d)
  else .ok (.nx ρ)
noncomputable def Zlx (n:Nat)(c:FT)(s:FS):FS:=fun ρ=>Zbp c s n ρ
noncomputable def Xrv (c:String)(words:FA):FS:=fun ρ=>(words ρ).bind fun _=>.err c none
noncomputable def strsOf:List D→Option (List Str)
 | []=>some []
 | .str i::r=>(strsOf r).map (i::·)
 | _::_=>none
noncomputable def Xtj:D→D→Option D
 | .str s,.lst ds=>(strsOf ds).bind fun ts=>if (ts.map (·.length)).sum+ts.length*s.length≤lim then some (.str (Str.join s ts)) else none
 | _,_=>none
noncomputable def fJoin (a b:FE):FE:=fun ρ=>(a ρ).bind fun x=>match x with
 | .str s=>(b ρ).bind fun y=>oR (Xtj (.str s) y)
 | _=>.bad
noncomputable def pickM (N:Nat)(c:String)(x:Option Int):List (List (String×Bool)×Option Nat×FS)→R Fl
  | []=>.bad
  | z::r=>match z.1.lookup c with
    | some true=>(match z.2.1 with
      | some i=>(z.2.2 ((List.replicate N none).set i (some (.exc c x)))).calm.bind fun fl=>match fl with
        | .nx _=>.ok (.nx (List.replicate N none))
        | .brk _=>.ok (.brk (List.replicate N none))
        | .cnt _=>.ok (.cnt (List.replicate N none))
        | .ret d=>.ok (.ret d)
      | none=>(z.2.2 (List.replicate N none)).calm)
    | some false=>pickM N c x r
    | none=>.bad
noncomputable def Zta:D→D→Option D
 | .int i,.int j=>if i.natAbs<2 ^ 4000∧j.natAbs<2 ^ 4000 then some (.int (i*j)) else none
 | _,_=>none
noncomputable def fIx (f:Str):List Str→Option Nat
 | []=>none
 | g::r=>if g=f then some 0 else (fIx f r).map (·+1)
noncomputable def putO (c:String)(f:Str)(d:D):D→Option D
 | .obj c' ns xs=>if c'=c∧ns.length<100 then match fIx f ns with
   | some j=>some (.obj c' ns (xs.set j d))
   | none=>some (.obj c' (ns++[f]) (xs++[d]))
  else none
 | _=>none
noncomputable def sFld (i:Nat)(c:String)(f:Str)(e:FE):FS:=fun ρ=>(e ρ).bind fun d=>match ρ[i]? with
 | some (some o)=>(oR (putO c f d o)).bind fun o'=>.ok (.nx (ρ.set i (some o')))
 | _=>.bad
noncomputable abbrev FM:=Env→R (D×Env)
noncomputable abbrev FMT:=Env→R (Bool×Env)
noncomputable def run (N:Nat)(b:FS)(ds:List D):R D:=(b (ds.map some++List.replicate (N - ds.length) none)).bind fun fl=>match fl with
 | .nx _=>.ok .non
 | .ret d=>.ok d
 | _=>.bad
noncomputable def keyD:D→Option (Int ⊕ Str)
 | .int i=>some (.inl i)
 | .str x=>some (.inr x)
 | _=>none
noncomputable def dHas (ks:List (Int ⊕ Str))(k:Int ⊕ Str):Bool:=ks.any fun j=>decide (j=k)
noncomputable def dPut (ks:List (Int ⊕ Str))(xs:List D)(k:Int ⊕ Str)(d:D):D:=if dHas ks k then .dct ks (List.zipWith (fun j x=>if j=k then d else x) ks xs) else .dct (ks++[k]) (xs++[d])
noncomputable def sDPut (i:Nat)(k e:FE):FS:=fun ρ=>(e ρ).bind fun d=>match ρ[i]? with
 | some (some (.dct ks xs))=>(k ρ).bind fun z=>match keyD z with
  | some q=>if flat d=true∧Xw xs=true∧ks.length<lim then .ok (.nx (ρ.set i (some (dPut ks xs q d)))) else .bad
  | none=>.bad
 | _=>.bad
noncomputable def catO:Str→List D→Option D
 | out,[]=>some (.str out)
 | out,.str y::r=>if y.length≤2000 then catO (out++y) r else none
 | _,_=>none
noncomputable def Xfl (c:Nat):List Nat→List (List Nat)
 | []=>[[]]
 | x::r=>if x=c then []::Xfl c r else match Xfl c r with
  | []=>[[x]]
  | w::ws=>(x::w)::ws
noncomputable def unR (p:List Nat):Option (List Nat):=if p.getLast?=some 32 then some p.dropLast else none
noncomputable def unL:List Nat→Option (List Nat)
 | []=>none
 | x::r=>if x=32 then some r else none
noncomputable def unP:List Nat→List (List Nat)→Option (List (List Nat))
 | p,[]=>some [p]
 | p,q::r=>(unR p).bind fun w=>(unL q).bind fun q'=>(unP q' r).bind fun ws=>some (w::ws)
noncomputable def Zzo:List D→Option (List (Int ⊕ Str))
 | []=>some []
 | d::r=>(keyD d).bind fun k=>(Zzo r).bind fun ks=>some (k::ks)
noncomputable def keyT:D→Option (List (Int ⊕ Str))
 | .tup ds=>Zzo ds
 | _=>none
noncomputable def tAt:List (List (Int ⊕ Str))→List D→List (Int ⊕ Str)→Option D
 | j::ks,x::xs,k=>if j=k then some x else tAt ks xs k
 | _,_,_=>none
noncomputable def Zub (ks:List (List (Int ⊕ Str)))(k:List (Int ⊕ Str)):Bool:=ks.any fun j=>decide (j=k)
noncomputable def Xnv (ks:List (List (Int ⊕ Str)))(xs:List D)(k:List (Int ⊕ Str))(d:D):D:=if Zub ks k then .dtt ks (List.zipWith (fun j x=>if j=k then d else x) ks xs) else .dtt (ks++[k]) (xs++[d])
noncomputable def Zxl (i:Nat)(k e:FE):FS:=fun ρ=>(e ρ).bind fun d=>match ρ[i]? with
 | some (some (.dtt ks xs))=>(k ρ).bind fun z=>match keyT z with
  | some q=>if flat d=true∧Xw xs=true∧ks.length<lim then .ok (.nx (ρ.set i (some (Xnv ks xs q d)))) else .bad
  | none=>.bad
 | _=>.bad
noncomputable def Zoi (a b c:FE):FE:=fun ρ=>(a ρ).bind fun d=>match d with
 | .dtt ks xs=>(b ρ).bind fun y=>(c ρ).bind fun z=>match keyT y with
  | some k=>if Xw xs=true∧flat z=true then .ok ((tAt ks xs k).getD z) else .bad
  | none=>.bad
 | _=>.bad
noncomputable def Zud (es xs:List D):Option (List D):=if xs.length+es.length≤lim then some (xs++es) else none
noncomputable def Zhn (i:Nat)(k e:FE):FS:=fun ρ=>match ρ[i]? with
 | some (some d)=>(k ρ).calm.bind fun z=>match z with
  | .int n=>(e ρ).calm.bind fun v=>match v with
   | .lst es=>match Zgk (Zud es) [n] d with
    | some d'=>.ok (.nx (ρ.set i (some d')))
    | none=>.bad
   | _=>.bad
  | _=>.bad
 | _=>.bad
noncomputable abbrev Pc:=Int×Str
noncomputable def sLt (x y:Str):Bool:=decide (x.cps.toList<y.cps.toList)
noncomputable def Zli (p q:Pc):Bool:=if p.1=q.1 then (if p.2=q.2 then false else sLt p.2 q.2) else decide (p.1<q.1)
noncomputable def Zbv:List Pc→List Pc→Bool
 | [],[]=>false
 | [],_::_=>true
 | _::_,[]=>false
 | p::c,q::d=>if p=q then Zbv c d else Zli p q
noncomputable def Xgq (c:List Pc):List (List Pc)→List (List Pc)
 | []=>[c]
 | d::r=>if Zbv c d=true then c::d::r else d::Xgq c r
noncomputable def Zez:List (List Pc)→List (List Pc)
 | []=>[]
 | c::r=>Xgq c (Zez r)
noncomputable def ctD (c:List Pc):D:=.lst (c.map fun p=>.tup [.int p.1,.str p.2])
noncomputable def Xok:D→Option Pc
 | .tup [.int i,.str z]=>some (i,z)
 | _=>none
noncomputable def Zmf:List D→Option (List Pc)
 | []=>some []
 | d::r=>(Xok d).bind fun p=>(Zmf r).bind fun ps=>some (p::ps)
noncomputable def ctOf:D→Option (List Pc)
 | .lst ds=>Zmf ds
 | _=>none
noncomputable def Zno:List D→Option (List (List Pc))
 | []=>some []
 | d::r=>(ctOf d).bind fun c=>(Zno r).bind fun cs=>some (c::cs)
noncomputable def Zly:List D→Option D
 | [.lst ds]=>(Zno ds).bind fun cs=>if cs.length≤1000 then some (.lst ((Zez cs).map ctD)) else none
 | _=>none
noncomputable def Xev:D→Option D
 | .dtt ks _=>some (.int ks.length)
 | _=>none
noncomputable def Zjc (lo c:Int)(n:Nat):List Int:=(List.range n).map fun (k:Nat)=>lo+(k:Int)*c
noncomputable def Zdt (i j c:Int):Nat:=if i<j then ((j - i - 1) / c+1).toNat else 0
noncomputable def Zvk (a:FA):FI:=fun ρ=>(a ρ).bind fun ds=>match ds with
 | [.int i,.int j,.int c]=>if 0<c∧c≤1000000∧-1000000000≤i∧i≤1000000000∧-1000000000≤j∧j≤1000000000∧Zdt i j c≤lim then .ok ((Zjc i c (Zdt i j c)).map D.int) else .bad
 | _=>.bad
end Dl
namespace L2
open PySem PySem.Spec PyProof.Rows
open Dl (D R FE FT FA FO FS FI FB Fl)
def FzL (K:Frag)(H:Hp)(a:Addr)(xs:List V):Prop:=
 (∃o,H a=some (.frz o (.lst xs)))∨∃(o:Obj) (its:Array Value) (n:Nat),K.lookup a=some o∧o.cls=.type "list"∧o.dict=none∧o.data=.seq its n∧its.size≤sizeLine∧Ys xs its.toList
theorem FzL.sq {K:Frag}{H:Hp}{a:Addr}{xs:List V}(h:FzL K H a xs):SqL K H a xs:=by
 rcases h with ⟨o,h⟩ | h
 ·exact .inl (.inr ⟨o,h⟩)
 ·exact .inr h
noncomputable def fnm (c:String):Str:=if c="TooMany" then "most" else "at"
def FOk (H:Hp)(c:String)(f:Option Int)(dx:Option Addr):Prop:=match f with
 | none=>True
 | some i=>∃d,dx=some d∧H d=some (.xd [(fnm c,.int i)])
section
variable (K:Frag)(C:String→Addr)
mutual
noncomputable def Rp (H:Hp):D→V→List Addr→Prop
 | .non,v,A=>v=.non∧A=[]
 | .bl b,v,A=>v=.bl b∧A=[]
 | .int i,v,A=>v=.int i∧A=[]
 | .str x,v,A=>v=.str x∧PyData.strOk x=true∧A=[]
 | .lst ds,v,A=>∃a xs B,v=.ref a∧H a=some (.lst xs)∧RpA H ds xs B∧A=a::B
 | .tup ds,v,A=>∃a xs,v=.ref a∧H a=some (.tup xs)∧RpA H ds xs A
 | .scr ns,v,A=>∃a,v=.ref a∧FzL K H a (ns.map V.int)∧A=[]
 | .rng lo hi,v,A=>∃a,v=.ref a∧H a=some (.rng lo hi)∧A=[]
 | .exc c f,v,A=>∃e dx,v=.ref e∧H e=some (exO e (.ref (C c)) dx)∧FOk H c f dx∧A=[]
 | .obj c ns ds,v,A=>∃a dx xs B,v=.ref a∧H a=some (.ins (C c) dx (ns.zip xs))∧ns.length=ds.length∧RpA H ds xs B∧A=a::B
 | .dct ks ds,v,A=>∃a xs B,v=.ref a∧H a=some (.dK (ks.zip xs))∧ks.length=ds.length∧RpA H ds xs B∧A=a::B
 | .dtt ks ds,v,A=>∃a xs B,v=.ref a∧H a=some (.dT (ks.zip xs))∧ks.length=ds.length∧RpA H ds xs B∧A=a::B
noncomputable def RpA (H:Hp):List D→List V→List Addr→Prop
 | [],xs,A=>xs=[]∧A=[]
 | d::ds,xs,A=>∃x r B B',xs=x::r∧Rp H d x B∧RpA H ds r B'∧A=B++B'
end
end
section
variable {K:Frag}{C:String→Addr}{H H' H1 H2:Hp}
inductive IsM:HO→Prop where
 | lst {xs:List V}:IsM (.lst xs)
 | ins {C dx:Addr} {fs:List (Str×V)}:IsM (.ins C dx fs)
 | dct {kvs:List (Key×V)}:IsM (.dK kvs)
 | dtt {kvs:List (List Key×V)}:IsM (.dT kvs)
def Ext (W:Addr→Prop)(H H':Hp):Prop:=∀b o,H b=some o→H' b=some o∨(W b∧IsM o)
theorem Ext.same (h:Xx H H'):Ext (fun _=>False) H H':=fun b o q=>.inl (h b o q)
mutual
theorem Rp.ext {W:Addr→Prop}(h:Ext W H H'):∀{d:D} {v:V} {A:List Addr},(∀a∈A,¬W a)→Rp K C H d v A→Rp K C H' d v A
 | .non,_,_,_,r=>r
 | .bl _,_,_,_,r=>r
 | .int _,_,_,_,r=>r
 | .str _,_,_,_,r=>r
 | .lst ds,v,A,hw,r=>by
  obtain ⟨a,xs,B,e1,e2,e3,e4⟩:=r
  subst e4
  refine ⟨a,xs,B,e1,?_,RpA.ext h (fun b hb=>hw b (.tail _ hb)) e3,rfl⟩
  rcases h a _ e2 with q | ⟨q,_⟩
  ·exact q
  ·exact absurd q (hw a (.head _))
 | .tup ds,v,A,hw,r=>by
  obtain ⟨a,xs,e1,e2,e3⟩:=r
  refine ⟨a,xs,e1,?_,RpA.ext h hw e3⟩
  rcases h a _ e2 with q | ⟨_,q⟩
  ·exact q
  ·cases q
 | .scr ns,v,A,_,r=>by
  obtain ⟨a,e1,e2,e3⟩:=r
  refine ⟨a,e1,?_,e3⟩
  rcases e2 with ⟨o,e2⟩ | e2
  ·rcases h a _ e2 with q | ⟨_,q⟩
   ·exact .inl ⟨o,q⟩
   ·cases q
  ·exact .inr e2
 | .rng lo hi,v,A,_,r=>by
  obtain ⟨a,e1,e2,e3⟩:=r
  refine ⟨a,e1,?_,e3⟩
  rcases h a _ e2 with q | ⟨_,q⟩
  ·exact q
  ·cases q
 | .exc c f,v,A,_,r=>by
  obtain ⟨a,dx,e1,e2,e3,e4⟩:=r
  refine ⟨a,dx,e1,?_,?_,e4⟩
  ·rcases h a _ e2 with q | ⟨_,q⟩
   ·exact q
   ·cases q
  ·cases f with
   | none=>trivial
   | some i =>
    obtain ⟨d,z1,z2⟩:=e3
    refine ⟨d,z1,?_⟩
    rcases h d _ z2 with q | ⟨_,q⟩
    ·exact q
    ·cases q
 | .obj c ns ds,v,A,hw,r=>by
  obtain ⟨a,dx,xs,B,e1,e2,e0,e3,e4⟩:=r
  subst e4
  refine ⟨a,dx,xs,B,e1,?_,e0,RpA.ext h (fun b hb=>hw b (.tail _ hb)) e3,rfl⟩
  rcases h a _ e2 with q | ⟨q,_⟩
  ·exact q
  ·exact absurd q (hw a (.head _))
 | .dct ks ds,v,A,hw,r=>by
  obtain ⟨a,xs,B,e1,e2,e0,e3,e4⟩:=r
  subst e4
  refine ⟨a,xs,B,e1,?_,e0,RpA.ext h (fun b hb=>hw b (.tail _ hb)) e3,rfl⟩
  rcases h a _ e2 with q | ⟨q,_⟩
  ·exact q
  ·exact absurd q (hw a (.head _))
 | .dtt ks ds,v,A,hw,r=>by
  obtain ⟨a,xs,B,e1,e2,e0,e3,e4⟩:=r
  subst e4
  refine ⟨a,xs,B,e1,?_,e0,RpA.ext h (fun b hb=>hw b (.tail _ hb)) e3,rfl⟩
  rcases h a _ e2 with q | ⟨q,_⟩
  ·exact q
  ·exact absurd q (hw a (.head _))
theorem RpA.ext {W:Addr→Prop}(h:Ext W H H'):∀{ds:List D} {vs:List V} {A:List Addr},(∀a∈A,¬W a)→RpA K C H ds vs A→RpA K C H' ds vs A
 | [],_,_,_,r=>r
 | d::ds,vs,A,hw,r=>by
  obtain ⟨x,l,B,B',e1,e2,e3,e4⟩:=r
  subst e4
  exact ⟨x,l,B,B',e1,Rp.ext h (fun a ha=>hw a (mem_append_left _ ha)) e2,RpA.ext h (fun a ha=>hw a (mem_append_right _ ha)) e3,rfl⟩
end
theorem Rp.same (h:Xx H H'){d:D}{v:V}{A:List Addr}(r:Rp K C H d v A):Rp K C H' d v A:=r.ext (Ext.same h) (fun _ _ q=>q)
theorem RpA.same (h:Xx H H'){d:List D}{v:List V}{A:List Addr}(r:RpA K C H d v A):RpA K C H' d v A:=r.ext (Ext.same h) (fun _ _ q=>q)
def Agree (W:List Addr)(H Hb:Hp):Prop:=(∀a∈W,Hb a=H a)∧∀b o,H b=some o→¬IsM o→Hb b=some o
theorem Agree.ext {W:List Addr}(h:Agree W H H'):Ext (fun a=>a∉W) H H':=fun b o q=>by
 by_cases hb:b∈W
 ·exact .inl ((h.1 b hb).trans q)
 ·by_cases ho:IsM o
  ·exact .inr ⟨hb,ho⟩
  ·exact .inl (h.2 b o q ho)
theorem RpA.agree {W:List Addr}(h:Agree W H H'){ds:List D}{vs:List V}{A:List Addr}(hA:∀a∈A,a∈W)(r:RpA K C H ds vs A):RpA K C H' ds vs A:=r.ext h.ext fun a ha z=>z (hA a ha)
mutual
theorem Rp.isl:∀{d:D} {v:V} {A:List Addr},Rp K C H d v A→∀a∈A,∃o,H a=some o∧IsM o
 | .non,_,_,r,a,ha=>by rw [r.2] at ha;cases ha
 | .bl _,_,_,r,a,ha=>by rw [r.2] at ha;cases ha
 | .int _,_,_,r,a,ha=>by rw [r.2] at ha;cases ha
 | .str _,_,_,r,a,ha=>by rw [r.2.2] at ha;cases ha
 | .lst ds,_,_,r,a,ha=>by
  obtain ⟨b,xs,B,e1,e2,e3,e4⟩:=r
  rw [e4] at ha
  rcases List.mem_cons.mp ha with z | z
  ·rw [z];exact ⟨_,e2,.lst⟩
  ·exact RpA.isl e3 a z
 | .tup ds,_,_,r,a,ha=>by
  obtain ⟨b,xs,e1,e2,e3⟩:=r
  exact RpA.isl e3 a ha
 | .scr _,_,_,r,a,ha=>by obtain ⟨_,_,_,e⟩:=r;rw [e] at ha;cases ha
 | .rng _ _,_,_,r,a,ha=>by obtain ⟨_,_,_,e⟩:=r;rw [e] at ha;cases ha
 | .exc _ _,_,_,r,a,ha=>by obtain ⟨_,_,_,_,_,e⟩:=r;rw [e] at ha;cases ha
 | .obj c ns ds,_,_,r,a,ha=>by
  obtain ⟨b,dx,xs,B,e1,e2,e0,e3,e4⟩:=r
  rw [e4] at ha
  rcases List.mem_cons.mp ha with z | z
  ·rw [z];exact ⟨_,e2,.ins⟩
  ·exact RpA.isl e3 a z
 | .dct ks ds,_,_,r,a,ha=>by
  obtain ⟨b,xs,B,e1,e2,e0,e3,e4⟩:=r
  rw [e4] at ha
  rcases List.mem_cons.mp ha with z | z
  ·rw [z];exact ⟨_,e2,.dct⟩
  ·exact RpA.isl e3 a z
 | .dtt ks ds,_,_,r,a,ha=>by
  obtain ⟨b,xs,B,e1,e2,e0,e3,e4⟩:=r
  rw [e4] at ha
  rcases List.mem_cons.mp ha with z | z
  ·rw [z];exact ⟨_,e2,.dtt⟩
  ·exact RpA.isl e3 a z
theorem RpA.isl:∀{ds:List D} {vs:List V} {A:List Addr},RpA K C H ds vs A→∀a∈A,∃o,H a=some o∧IsM o
 | [],_,_,r,a,ha=>by rw [r.2] at ha;cases ha
 | d::ds,_,_,r,a,ha=>by
  obtain ⟨x,l,B,B',e1,e2,e3,e4⟩:=r
  rw [e4] at ha
  rcases List.mem_append.mp ha with z | z
  ·exact Rp.isl e2 a z
  ·exact RpA.isl e3 a z
end
mutual
theorem Rp.flat:∀{d:D} {v:V} {A:List Addr},Dl.flat d=true→Rp K C H d v A→A=[]
 | .non,_,_,_,r=>r.2
 | .bl _,_,_,_,r=>r.2
 | .int _,_,_,_,r=>r.2
 | .str _,_,_,_,r=>r.2.2
 | .lst _,_,_,h,_=>by simp [Dl.flat] at h
 | .tup ds,_,_,h,r=>by
  obtain ⟨b,xs,e1,e2,e3⟩:=r
  exact RpA.flat (by simpa [Dl.flat] using h) e3
 | .scr _,_,_,_,r=>by obtain ⟨_,_,_,e⟩:=r;exact e
 | .rng _ _,_,_,_,r=>by obtain ⟨_,_,_,e⟩:=r;exact e
 | .exc _ _,_,_,_,r=>by obtain ⟨_,_,_,_,_,e⟩:=r;exact e
 | .obj _ _ _,_,_,h,_=>by simp [Dl.flat] at h
 | .dct _ _,_,_,h,_=>by simp [Dl.flat] at h
 | .dtt _ _,_,_,h,_=>by simp [Dl.flat] at h
theorem RpA.flat:∀{ds:List D} {vs:List V} {A:List Addr},Dl.Xw ds=true→RpA K C H ds vs A→A=[]
 | [],_,_,_,r=>r.2
 | d::ds,_,_,h,r=>by
  obtain ⟨x,l,B,B',e1,e2,e3,e4⟩:=r
  simp only [Dl.Xw,Bool.and_eq_true] at h
  rw [e4,Rp.flat h.1 e2,RpA.flat h.2 e3]
  rfl
end
theorem RpA.len:∀{ds:List D} {vs:List V} {A:List Addr},RpA K C H ds vs A→vs.length=ds.length
 | [],_,_,r=>by rw [r.1];rfl
 | d::ds,_,_,r=>by
  obtain ⟨x,l,B,B',e1,e2,e3,e4⟩:=r
  rw [e1,length_cons,length_cons,RpA.len e3]
theorem RpA.get:∀{ds:List D} {vs:List V} {A:List Addr} {i:Nat} {d:D},RpA K C H ds vs A→ds[i]?=some d→∃v B,vs[i]?=some v∧Rp K C H d v B∧∀a∈B,a∈A
 | [],_,_,_,_,_,h=>by simp at h
 | d::ds,_,_,0,_,r,h=>by
  obtain ⟨x,l,B,B',e1,e2,e3,e4⟩:=r
  simp only [List.getElem?_cons_zero,Option.some.injEq] at h
  subst h e1 e4
  exact ⟨x,B,rfl,e2,fun a ha=>mem_append_left _ ha⟩
 | d::ds,_,_,i+1,_,r,h=>by
  obtain ⟨x,l,B,B',e1,e2,e3,e4⟩:=r
  simp only [List.getElem?_cons_succ] at h
  obtain ⟨v,B2,q1,q2,q3⟩:=RpA.get e3 h
  subst e1 e4
  exact ⟨v,B2,by simpa using q1,q2,fun a ha=>mem_append_right _ (q3 a ha)⟩
theorem RpA.get':∀{ds:List D} {vs:List V} {A:List Addr} {i:Nat} {v:V},RpA K C H ds vs A→vs[i]?=some v→∃d B,ds[i]?=some d∧Rp K C H d v B∧∀a∈B,a∈A:=fun {ds vs A i v} r h=>by
 have hl:=r.len
 have hi:i<ds.length:=by
  have:=(List.getElem?_eq_some_iff.mp h).1
  omega
 obtain ⟨v',B,q1,q2,q3⟩:=r.get (getElem?_eq_getElem hi)
 rw [h] at q1
 cases q1
 exact ⟨_,B,getElem?_eq_getElem hi,q2,q3⟩
theorem RpA.app:∀{ds es:List D} {vs ws:List V} {A B:List Addr},RpA K C H ds vs A→RpA K C H es ws B→RpA K C H (ds++es) (vs++ws) (A++B)
 | [],_,_,_,_,_,r,q=>by
  obtain ⟨e1,e2⟩:=r
  subst e1 e2
  exact q
 | d::ds,_,_,_,_,_,r,q=>by
  obtain ⟨x,l,B,B',e1,e2,e3,e4⟩:=r
  subst e1 e4
  exact ⟨x,_,B,_,rfl,e2,RpA.app e3 q,append_assoc ..⟩
theorem RpA.one {d:D}{v:V}{A:List Addr}(r:Rp K C H d v A):RpA K C H [d] [v] A:=⟨v,[],A,[],rfl,r,⟨rfl,rfl⟩,(append_nil _).symm⟩
theorem RpA.flatRev {ds:List D}{vs:List V}{A:List Addr}:Dl.Xw ds=true→RpA K C H ds vs A→RpA K C H ds.reverse vs.reverse []:=by
 intro h r
 induction ds generalizing vs A with
 | nil=>rw [r.1];exact ⟨rfl,rfl⟩
 | cons d ds ih =>
  obtain ⟨x,l,B,B',e1,e2,e3,e4⟩:=r
  simp only [Dl.Xw,Bool.and_eq_true] at h
  have z:=Rp.flat h.1 e2
  subst e1 z
  rw [reverse_cons,reverse_cons]
  exact (ih h.2 e3).app (RpA.one e2)
theorem RpA.flatDrop {ds:List D}{vs:List V}{A:List Addr}:Dl.Xw ds=true→RpA K C H ds vs A→∀n,RpA K C H (ds.drop n) (vs.drop n) []:=by
 intro h r n
 induction ds generalizing vs A n with
 | nil=>rw [r.1];simp;exact ⟨rfl,rfl⟩
 | cons d ds ih =>
  have r0:=r
  obtain ⟨x,l,B,B',e1,e2,e3,e4⟩:=r
  cases n with
  | zero =>
   have z:=RpA.flat h r0
   subst z
   exact r0
  | succ n =>
   simp only [Dl.Xw,Bool.and_eq_true] at h
   subst e1
   exact ih h.2 e3 n
theorem RpA.flatTake {ds:List D}{vs:List V}{A:List Addr}:Dl.Xw ds=true→RpA K C H ds vs A→∀n,RpA K C H (ds.take n) (vs.take n) []:=by
 intro h r n
 induction ds generalizing vs A n with
 | nil=>rw [r.1];simp;exact ⟨rfl,rfl⟩
 | cons d ds ih =>
  obtain ⟨x,l,B,B',e1,e2,e3,e4⟩:=r
  simp only [Dl.Xw,Bool.and_eq_true] at h
  have z:=Rp.flat h.1 e2
  subst e1 z
  cases n with
  | zero=>exact ⟨rfl,rfl⟩
  | succ n=>exact ⟨x,_,[],_,rfl,e2,ih h.2 e3 n,rfl⟩
theorem Zsy {ds:List D}(h:Dl.Xw ds=true):∀n,Dl.Xw (ds.drop n)=true:=by
 intro n
 induction ds generalizing n with
 | nil=>simp;rfl
 | cons d ds ih =>
  cases n with
  | zero=>exact h
  | succ n =>
   simp only [Dl.Xw,Bool.and_eq_true] at h
   exact ih h.2 n
theorem RpA.ints {ns:List Int}:RpA K C H (ns.map D.int) (ns.map V.int) []:=by
 induction ns with
 | nil=>exact ⟨rfl,rfl⟩
 | cons n ns ih=>exact ⟨_,_,[],[],rfl,⟨rfl,rfl⟩,ih,rfl⟩
theorem RpA.ofInts:∀{ds:List D} {vs:List V} {A:List Addr} {ns:List Int},RpA K C H ds vs A→Dl.intsOf ds=some ns→vs=ns.map V.int
 | [],_,_,ns,r,h=>by
  simp only [Dl.intsOf,Option.some.injEq] at h
  rw [r.1,← h]
  rfl
 | d::ds,_,_,ns,r,h=>by
  obtain ⟨x,l,B,B',e1,e2,e3,e4⟩:=r
  cases d<;>simp only [Dl.intsOf] at h<;>try cases h
  obtain ⟨ms,h1,h2⟩:=Option.map_eq_some_iff.mp h
  rw [e1,e2.1,RpA.ofInts e3 h1,← h2]
  rfl
mutual
noncomputable def toPy:D→PyData
 | .non=>.none
 | .bl b=>.bool b
 | .int i=>.int i
 | .str x=>.str x
 | .lst ds=>.list (Zcx ds)
 | .tup ds=>.tuple (Zcx ds)
 | .scr _=>.none
 | .rng _ _=>.none
 | .exc _ _=>.none
 | .obj _ _ _=>.none
 | .dct _ _=>.none
 | .dtt _ _=>.none
noncomputable def Zcx:List D→List PyData
 | []=>[]
 | d::ds=>toPy d::Zcx ds
end
mutual
theorem Rp.dn:∀{d:D} {v:V} {A:List Addr} {n:Nat},Dl.dep d≤n→n<100→Rp K C H d v A→Dn K H v (toPy d)∧(toPy d).canLay0=true∧(toPy d).depth=Dl.dep d
 | .non,_,_,_,_,_,r=>by rw [r.1];exact ⟨.non,rfl,rfl⟩
 | .bl _,_,_,_,_,_,r=>by rw [r.1];exact ⟨.bl _,rfl,rfl⟩
 | .int _,_,_,_,_,_,r=>by rw [r.1];exact ⟨.int _,rfl,rfl⟩
 | .str _,_,_,_,_,_,r=>by rw [r.1];exact ⟨.str _,by simpa [toPy,PyData.canLay0] using r.2.1,by simp [toPy,PyData.depth,Dl.dep]⟩
 | .lst ds,_,_,n,h,hn,r=>by
  obtain ⟨a,xs,B,e1,e2,e3,e4⟩:=r
  simp only [Dl.dep] at h
  obtain ⟨q1,q2,q3⟩:=RpA.dn (n:=n) (by omega) hn e3
  rw [e1]
  exact ⟨.lst (SqL.of e2) q1,by simpa [toPy,PyData.canLay0] using q2,by simp [toPy,PyData.depth,Dl.dep,q3]⟩
 | .tup ds,_,_,n,h,hn,r=>by
  obtain ⟨a,xs,e1,e2,e3⟩:=r
  simp only [Dl.dep] at h
  obtain ⟨q1,q2,q3⟩:=RpA.dn (n:=n) (by omega) hn e3
  rw [e1]
  exact ⟨.tup (SqT.of e2) q1,by simpa [toPy,PyData.canLay0] using q2,by simp [toPy,PyData.depth,Dl.dep,q3]⟩
 | .scr _,_,_,n,h,hn,_=>by simp only [Dl.dep] at h;omega
 | .rng _ _,_,_,n,h,hn,_=>by simp only [Dl.dep] at h;omega
 | .exc _ _,_,_,n,h,hn,_=>by simp only [Dl.dep] at h;omega
 | .obj _ _ _,_,_,n,h,hn,_=>by simp only [Dl.dep] at h;omega
 | .dct _ _,_,_,n,h,hn,_=>by simp only [Dl.dep] at h;omega
 | .dtt _ _,_,_,n,h,hn,_=>by simp only [Dl.dep] at h;omega
theorem RpA.dn:∀{ds:List D} {vs:List V} {A:List Addr} {n:Nat},Dl.Zfl ds≤n→n<100→RpA K C H ds vs A→DnA K H vs (Zcx ds)∧PyData.canLayAll0 (Zcx ds)=true∧PyData.depthAll (Zcx ds)=Dl.Zfl ds
 | [],_,_,_,_,_,r=>by rw [r.1];exact ⟨.nil,rfl,rfl⟩
 | d::ds,_,_,n,h,hn,r=>by
  obtain ⟨x,l,B,B',e1,e2,e3,e4⟩:=r
  simp only [Dl.Zfl] at h
  obtain ⟨q1,q2,q3⟩:=Rp.dn (n:=n) (by omega) hn e2
  obtain ⟨p1,p2,p3⟩:=RpA.dn (n:=n) (by omega) hn e3
  rw [e1]
  exact ⟨.cons q1 p1,by simp [Zcx,PyData.canLayAll0,q2,p2],by simp [Zcx,PyData.depthAll,Dl.Zfl,q3,p3]⟩
end
mutual
theorem Zqj:∀{d e:D},Dl.dep d<100→Dl.dep e<100→PyData.eqv (toPy d) (toPy e)=Dl.eqv d e
 | .non,e,_,h=>by cases e<;>first | rfl | exact absurd h (lt_irrefl 100)
 | .bl _,e,_,h=>by cases e<;>first | rfl | exact absurd h (lt_irrefl 100)
 | .int _,e,_,h=>by cases e<;>first | rfl | exact absurd h (lt_irrefl 100)
 | .str _,e,_,h=>by cases e<;>first | rfl | exact absurd h (lt_irrefl 100)
 | .lst ds,e,h1,h=>by
  cases e with
  | lst es=>exact Zoy (Nat.lt_of_succ_lt h1) (Nat.lt_of_succ_lt h)
  | _=>rfl
 | .tup ds,e,h1,h=>by
  cases e with
  | tup es=>exact Zoy (Nat.lt_of_succ_lt h1) (Nat.lt_of_succ_lt h)
  | _=>rfl
 | .scr _,_,h,_=>absurd h (lt_irrefl 100)
 | .rng _ _,_,h,_=>absurd h (lt_irrefl 100)
 | .exc _ _,_,h,_=>absurd h (lt_irrefl 100)
 | .obj _ _ _,_,h,_=>absurd h (lt_irrefl 100)
 | .dct _ _,_,h,_=>absurd h (lt_irrefl 100)
 | .dtt _ _,_,h,_=>absurd h (lt_irrefl 100)
theorem Zoy:∀{d e:List D},Dl.Zfl d<100→Dl.Zfl e<100→PyData.eqvAll (Zcx d) (Zcx e)=Dl.Xfu d e
 | [],[],_,_=>rfl
 | [],_::_,_,_=>rfl
 | _::_,[],_,_=>rfl
 | d::ds,e::es,h1,h=>by
  have a1:Dl.dep d<100∧Dl.Zfl ds<100:=Nat.max_lt.mp h1
  have a2:Dl.dep e<100∧Dl.Zfl es<100:=Nat.max_lt.mp h
  show (PyData.eqv (toPy d) (toPy e)&&PyData.eqvAll (Zcx ds) (Zcx es))=(Dl.eqv d e&&Dl.Xfu ds es)
  rw [Zqj a1.1 a2.1,Zoy a1.2 a2.2]
end
end
noncomputable abbrev Yq:=Dl.Env
section
variable (K:Frag)(C:String→Addr)
structure Zy (H0 Hb H:Hp)(Γ Δ:List Nat)(σ:St)(ρ:Yq)(A:Nat→List Addr):Prop where
 s0:Xx H0 Hb
 same:Xx Hb H
 len:σ.length=ρ.length
 rep:∀i d,ρ[i]?=some (some d)→∃v,σ[i]?=some (some v)∧Rp K C H d v (A i)
 nil:∀i,(∀d,ρ[i]?≠some (some d))→A i=[]
 loc:∀i∈Γ,∀a∈A i,H0 a=none
 top:∀i∈Γ,∀a r,A i=a::r→Hb a=none∧a∉r∧∀j,j≠i→a∉A j
 deep:∀i∈Δ,(A i).Nodup∧(∀j,j≠i→∀a∈A i,a∉A j)∧∀a∈A i,Hb a=none
def InS (A:Nat→List Addr)(S:List (Nat×Bool))(a:Addr):Prop:=∃p∈S,if p.2=true then a∈(A p.1).tail else a∈A p.1
def Res (m:Nat)(S:List (Nat×Bool))(H:Hp)(A:Nat→List Addr)(d:D)(v:V)(H':Hp):Prop:=
 ∃B,Rp K C H' d v B∧(∀a∈B,H a=none∨InS A S a)∧(m=1→∀a r,B=a::r→H a=none∧a∉r)∧(m=2→B.Nodup)
def ResA (m:Nat)(S:List (Nat×Bool))(H:Hp)(A:Nat→List Addr)(ds:List D)(vs:List V)(H':Hp):Prop:=
 ∃B,RpA K C H' ds vs B∧(∀a∈B,H a=none∨InS A S a)∧(m=2→B.Nodup)
def EC (E:XK)(c:String)(x:Option Int)(H:Hp):Prop:=∀dx,FOk H c x dx→E (.ref (C c)) dx H
def Yi {α:Type}(r:R α)(ok:α→Prop)(er:String→Option Int→Prop):Prop:=match r with
 | .ok a=>ok a
 | .err c x=>er c x
 | .bad=>False
def EOk (E:XK)(Γ Δ:List Nat)(m:Nat)(S:List (Nat×Bool))(t:TE)(f:FE):Prop:=∀(H0 Hb H:Hp) (σ:St) (ρ:Yq) (A:Nat→List Addr) (Q:VK),Zy K C H0 Hb H Γ Δ σ ρ A→
 Yi (f ρ) (fun d=>∀v H',Xx H H'→Res K C m S H A d v H'→Q v H') (fun c x=>∀H',Xx H H'→EC C E c x H')→t σ H Q
def AOk (E:XK)(Γ Δ:List Nat)(m:Nat)(S:List (Nat×Bool))(t:TA)(f:FA):Prop:=∀(H0 Hb H:Hp) (σ:St) (ρ:Yq) (A:Nat→List Addr) (Q:List V→Hp→Prop),Zy K C H0 Hb H Γ Δ σ ρ A→
 Yi (f ρ) (fun d=>∀v H',Xx H H'→ResA K C m S H A d v H'→Q v H') (fun c x=>∀H',Xx H H'→EC C E c x H')→t σ H Q
def TOk (E:XK)(Γ Δ:List Nat)(t:TT)(f:FT):Prop:=∀(H0 Hb H:Hp) (σ:St) (ρ:Yq) (A:Nat→List Addr) (Q:Bool→Hp→Prop),Zy K C H0 Hb H Γ Δ σ ρ A→
 Yi (f ρ) (fun b=>∀H',Xx H H'→Q b H') (fun c x=>∀H',Xx H H'→EC C E c x H')→t σ H Q
def OOk (E:XK)(Γ Δ:List Nat)(t:TO)(f:FO):Prop:=∀(H0 Hb H:Hp) (σ:St) (ρ:Yq) (A:Nat→List Addr) (Q:Option Int→Hp→Prop),Zy K C H0 Hb H Γ Δ σ ρ A→
 Yi (f ρ) (fun b=>∀H',Xx H H'→Q b H') (fun c x=>∀H',Xx H H'→EC C E c x H')→t σ H Q
def Zne (E:XK)(mr:Nat)(Γl Δl Γ' Δ':List Nat)(H0 Hb:Hp)(D:Ends)(r:R Fl):Prop:=Yi r (fun fl=>match fl with
    | .nx ρ'=>∀σ' H' A',Zy K C H0 Hb H' Γ' Δ' σ' ρ' A'→D.nx σ' H'
    | .ret d=>∀v H',Xx H0 H'→Res K C mr [] H0 (fun _=>[]) d v H'→D.rt v H'
    | .brk ρ'=>∀σ' H' A',Zy K C H0 Hb H' Γl Δl σ' ρ' A'→D.bk σ' H'
    | .cnt ρ'=>∀σ' H' A',Zy K C H0 Hb H' Γl Δl σ' ρ' A'→D.ct σ' H')
  (fun c x=>∀H',Xx H0 H'→EC C E c x H')
def SOk (E:XK)(mr:Nat)(Γl Δl Γ Δ Γ' Δ':List Nat)(t:TS)(f:FS):Prop:=∀(H0 Hb H:Hp) (σ:St) (ρ:Yq) (A:Nat→List Addr) (D:Ends),Zy K C H0 Hb H Γ Δ σ ρ A→
 Zne K C E mr Γl Δl Γ' Δ' H0 Hb D (f ρ)→t D σ H
end
section
variable {K:Frag}{C:String→Addr}{E:XK}{Γ Δ Γ' Δ' Γ1 Δ1 Γl Δl:List Nat}{m m1 m2 mr:Nat}{S S1 S2:List (Nat×Bool)}
theorem Zy.mono {H0 Hb H H':Hp}{σ:St}{ρ:Yq}{A:Nat→List Addr}(h:Zy K C H0 Hb H Γ Δ σ ρ A)(g:Xx H H'):Zy K C H0 Hb H' Γ Δ σ ρ A:=
 ⟨h.s0,h.same.trans g,h.len,fun i d e=>let ⟨v,q1,q2⟩:=h.rep i d e;⟨v,q1,q2.same g⟩,h.nil,h.loc,h.top,h.deep⟩
theorem Zy.weak {H0 Hb H:Hp}{σ:St}{ρ:Yq}{A:Nat→List Addr}(h:Zy K C H0 Hb H Γ Δ σ ρ A)(h1:∀i∈Γ',i∈Γ)(h2:∀i∈Δ',i∈Δ):Zy K C H0 Hb H Γ' Δ' σ ρ A:=
 ⟨h.s0,h.same,h.len,h.rep,h.nil,fun i hi=>h.loc i (h1 i hi),fun i hi=>h.top i (h1 i hi),fun i hi=>h.deep i (h2 i hi)⟩
theorem Zy.is {H0 Hb H:Hp}{σ:St}{ρ:Yq}{A:Nat→List Addr}(h:Zy K C H0 Hb H Γ Δ σ ρ A){j:Nat}{a:Addr}(ha:a∈A j):∃o,H a=some o∧IsM o:=by
 by_cases q:∃d,ρ[j]?=some (some d)
 ·obtain ⟨d,q⟩:=q
  obtain ⟨v,_,r⟩:=h.rep j d q
  exact r.isl a ha
 ·rw [h.nil j fun d e=>q ⟨d,e⟩] at ha
  cases ha
theorem Zy.ne {H0 Hb H:Hp}{σ:St}{ρ:Yq}{A:Nat→List Addr}(h:Zy K C H0 Hb H Γ Δ σ ρ A){j:Nat}{a:Addr}(ha:a∈A j)(hn:H a=none):False:=by
 obtain ⟨xs,q,_⟩:=h.is ha
 rw [q] at hn
 cases hn
theorem InS.mem {A:Nat→List Addr}{a:Addr}(h:InS A S a):∃p∈S,a∈A p.1:=by
 obtain ⟨p,hp,q⟩:=h
 refine ⟨p,hp,?_⟩
 split at q
 ·exact List.mem_of_mem_tail q
 ·exact q
theorem InS.mono {A:Nat→List Addr}{a:Addr}(h:InS A S1 a)(hs:∀p∈S1,p∈S2):InS A S2 a:=let ⟨p,hp,q⟩:=h;⟨p,hs p hp,q⟩
theorem Yi.imp {α:Type}{r:R α}{ok ok':α→Prop}{er er':String→Option Int→Prop}(h:Yi r ok er)(h1:∀a,ok a→ok' a)(h2:∀c x,er c x→er' c x):Yi r ok' er':=by
 cases r with
 | ok a=>exact h1 a h
 | err c x=>exact h2 c x h
 | bad=>exact h
theorem Yi.bind {α β:Type}{r:R α}{g:α→R β}{ok:β→Prop}{er:String→Option Int→Prop}(h:Yi (r.bind g) ok er):Yi r (fun a=>Yi (g a) ok er) er:=by
 cases r with
 | ok a=>exact h
 | err c x=>exact h
 | bad=>exact h
theorem Res.flat {H H':Hp}{A:Nat→List Addr}{d:D}{v:V}(r:Rp K C H' d v []):Res K C m S H A d v H':=⟨[],r,fun _ h=>(nomatch h),fun _ _ _ e=>(nomatch e),fun _=>nodup_nil⟩
theorem Xef {d:D}{v:V}(h:∀H,Rp K C H d v []):EOk K C E Γ Δ 2 [] (tC v) (Dl.fC d):=fun _ _ H _ _ _ _ _ p=>p v H (Xx.refl _) (Res.flat (h H))
theorem Xkl {i:Nat}{ρ:Yq}{ok:D→Prop}{er:String→Option Int→Prop}(h:Yi (Dl.fV i ρ) ok er):∃d,ρ[i]?=some (some d)∧ok d:=by
 unfold Dl.fV at h
 split at h
 ·rename_i d e
  exact ⟨d,e,h⟩
 ·exact h.elim
theorem eok_v {i:Nat}:EOk K C E Γ Δ 0 [(i,false)] (Zme i) (Dl.fV i):=fun H0 Hb H σ ρ A Q I p=>by
 obtain ⟨d,e,p⟩:=Xkl p
 obtain ⟨v,e1,r⟩:=I.rep i d e
 exact ⟨v,e1,p v H (Xx.refl _) ⟨A i,r,fun a ha=>.inr ⟨(i,false),.head _,ha⟩,(fun z=>nomatch z),(fun z=>nomatch z)⟩⟩
theorem Xtm {i:Nat}(hi:i∈Δ):EOk K C E Γ Δ 2 [(i,false)] (Zme i) (Dl.fV i):=fun H0 Hb H σ ρ A Q I p=>by
 obtain ⟨d,e,p⟩:=Xkl p
 obtain ⟨v,e1,r⟩:=I.rep i d e
 exact ⟨v,e1,p v H (Xx.refl _) ⟨A i,r,fun a ha=>.inr ⟨(i,false),.head _,ha⟩,(fun z=>nomatch z),fun _=>(I.deep i hi).1⟩⟩
theorem Xer {t:TE}{f:FE}(h:EOk K C E Γ Δ m S t f):EOk K C E Γ Δ 2 [] t (Dl.f1 Dl.Ye f):=fun H0 Hb H σ ρ A Q I p =>
  h H0 Hb H σ ρ A Q I (p.bind.imp (fun d q v H' g r=>by
    unfold Dl.Ye at q
    split at q
    · rename_i hf
      obtain ⟨B,r1,_⟩:=r
      have e:=r1.flat hf
      subst e
      exact q v H' g (Res.flat r1)
    · exact q.elim) fun _ _ q=>q)
theorem Res.later {H0 H1 H2 H3:Hp}{A:Nat→List Addr}{d:D}{v:V}(g1:Xx H0 H1)(g2:Xx H2 H3)(r:Res K C m S H1 A d v H2):Res K C m S H0 A d v H3:=by
 obtain ⟨B,r1,r2,r3,r4⟩:=r
 exact ⟨B,r1.same g2,fun a ha=>(r2 a ha).imp (fun h=>g1.free h) id,fun hm a l e=>⟨g1.free (r3 hm a l e).1,(r3 hm a l e).2⟩,r4⟩
theorem Res.new {H H':Hp}{A:Nat→List Addr}{d:D}{v:V}{B:List Addr}(r:Rp K C H' d v B)(h1:B.Nodup)(h2:∀a∈B,H a=none):Res K C m S H A d v H':=
 ⟨B,r,fun a ha=>.inl (h2 a ha),fun _ a l e=>by subst e;exact ⟨h2 a (.head _),(List.nodup_cons.mp h1).1⟩,fun _=>h1⟩
theorem Zem {α:Type}{o:Option α}{ok:α→Prop}{er:String→Option Int→Prop}(h:Yi (Dl.oR o) ok er):∃a,o=some a∧ok a:=by
 cases o with
 | none=>exact h.elim
 | some a=>exact ⟨a,rfl,h⟩
def GOk (K:Frag)(C:String→Addr)(r:R2)(g:D→D→Option D):Prop:=
 ∀(H:Hp) (x y d:D) (vx vy:V) (Bx By:List Addr) (Q:VK),Rp K C H x vx Bx→Rp K C H y vy By→g x y=some d→(∀v H' B,Xx H H'→Rp K C H' d v B→B.Nodup→(∀a∈B,H a=none)→Q v H')→r vx vy H Q
def GAk (K:Frag)(C:String→Addr)(r:List V→Hp→VK→Prop)(g:List D→Option D):Prop:=
 ∀(H:Hp) (xs:List D) (d:D) (vs:List V) (Bx:List Addr) (Q:VK),RpA K C H xs vs Bx→g xs=some d→(∀v H' B,Xx H H'→Rp K C H' d v B→B.Nodup→(∀a∈B,H a=none)→Q v H')→r vs H Q
theorem Zvq {r:R2}{g:D→D→Option D}{ta tb:TE}{fa fb:FE}(hg:GOk K C r g)(ha:EOk K C E Γ Δ m1 S1 ta fa)(hb:EOk K C E Γ Δ m2 S2 tb fb):EOk K C E Γ Δ 2 [] (tOp r ta tb) (Dl.f2 g fa fb):=
  fun H0 Hb H σ ρ A Q I p=>ha H0 Hb H σ ρ A _ I (p.bind.imp (fun x q vx H1 g1 r1=>hb H0 Hb H1 σ ρ A _ (I.mono g1) (q.bind.imp (fun y q vy H2 g2 r2=>by
    obtain ⟨d,e,q⟩:=Zem q
    obtain ⟨Bx,r1,_⟩:=r1
    obtain ⟨By,r2,_⟩:=r2
    exact hg H2 x y d vx vy Bx By Q (r1.same g2) r2 e fun v H' B g3 r3 h1 h2=>q v H' (g1.trans (g2.trans g3)) (Res.new r3 h1 fun a ha=>(g1.trans g2).free (h2 a ha))) fun c x q H' g'=>q H' (g1.trans g'))) fun c x q H' g'=>q H' g')
theorem Xqk {r:V→Hp→VK→Prop}{g:D→Option D}{ta:TE}{fa:FE}(hg:∀(H:Hp) (x d:D) (vx:V) (Bx:List Addr) (Q:VK),Rp K C H x vx Bx→g x=some d→(∀v H' B,Xx H H'→Rp K C H' d v B→B.Nodup→(∀a∈B,H a=none)→Q v H')→r vx H Q)
    (ha:EOk K C E Γ Δ m1 S1 ta fa):EOk K C E Γ Δ 2 [] (tUn r ta) (Dl.f1 g fa):=
  fun H0 Hb H σ ρ A Q I p=>ha H0 Hb H σ ρ A _ I (p.bind.imp (fun x q vx H1 g1 r1=>by
    obtain ⟨d,e,q⟩:=Zem q
    obtain ⟨Bx,r1,_⟩:=r1
    exact hg H1 x d vx Bx Q r1 e fun v H' B g3 r3 h1 h2=>q v H' (g1.trans g3) (Res.new r3 h1 fun a ha=>g1.free (h2 a ha))) fun c x q H' g'=>q H' g')
theorem Jm {α:Type}{d:α}{P:Prop}(e:(none:Option α)=some d):P:=nomatch e
theorem Zva {F:List D→Option D}(hn:F []=none)(hc:∀x y r,F (x::y::r)=none):∀{ds:List D} {d:D},F ds=some d→∃x,ds=[x]
 | [],_,e=>Jm (hn.symm.trans e)
 | [x],_,_=>⟨x,rfl⟩
 | x::y::r,_,e=>Jm ((hc x y r).symm.trans e)
theorem Zyo {ds:List D}{y d:D}(e:Dl.gIx (.lst ds) y=some d):∃i,y=.int i∧atI ds i=some d:=by
 cases y with
 | int i=>exact ⟨i,rfl,e⟩
 | _=>exact Jm e
theorem Xli {ds:List D}{y d:D}(e:Dl.gIx (.tup ds) y=some d):∃i,y=.int i∧atI ds i=some d:=by
 cases y with
 | int i=>exact ⟨i,rfl,e⟩
 | _=>exact Jm e
theorem Xng {ns:List Int}{y d:D}(e:Dl.gIx (.scr ns) y=some d):∃i,y=.int i∧(atI ns i).map D.int=some d:=by
 cases y with
 | int i=>exact ⟨i,rfl,e⟩
 | _=>exact Jm e
theorem Xlb {z:Str}{y d:D}(e:Dl.gIx (.str z) y=some d):∃i,y=.int i∧z.length≤Dl.lim∧(atI z.cps.toList i).map (fun c=>D.str ⟨#[c]⟩)=some d:=by
 cases y with
 | int i =>
  have e':(if z.length≤Dl.lim then ((Dl.atD z.cps.toList i).map fun c=>D.str ⟨#[c]⟩) else none)=some d:=e
  by_cases h:z.length≤Dl.lim
  ·rw [if_pos h] at e'
   exact ⟨i,rfl,h,e'⟩
  ·rw [if_neg h] at e'
   exact Jm e'
 | _=>exact Jm e
theorem Xog {x y d:D}(e:Dl.gIx x y=some d):∃i,y=.int i∧((∃ds,x=.lst ds∧atI ds i=some d)∨(∃ds,x=.tup ds∧atI ds i=some d)∨(∃ns,x=.scr ns∧(atI ns i).map D.int=some d)∨∃z,x=.str z∧z.length≤Dl.lim∧(atI z.cps.toList i).map (fun c=>D.str ⟨#[c]⟩)=some d):=by
 cases x with
 | lst ds=>exact (Zyo e).imp fun _ h=>⟨h.1,.inl ⟨ds,rfl,h.2⟩⟩
 | tup ds=>exact (Xli e).imp fun _ h=>⟨h.1,.inr (.inl ⟨ds,rfl,h.2⟩)⟩
 | scr ns=>exact (Xng e).imp fun _ h=>⟨h.1,.inr (.inr (.inl ⟨ns,rfl,h.2⟩))⟩
 | str z=>exact (Xlb e).imp fun _ h=>⟨h.1,.inr (.inr (.inr ⟨z,rfl,h.2⟩))⟩
 | _=>exact Jm e
theorem Zrh {α β:Type}{ds:List α}{xs:List β}{i:Int}{d:α}{v:β}{j:Nat}(hl:xs.length=ds.length)(e:atI ds i=some d)(h1:seqIndex? i ds.length=some j)(hv:xs[j]?=some v):atI xs i=some v:=by
 unfold atI at e ⊢
 rw [hl]
 cases hx:ixN ds.length i with
 | none=>rw [hx] at e;cases e
 | some k =>
  obtain ⟨z1,_⟩:=Zxz hx
  rw [h1] at z1
  cases z1
  exact hv
theorem Xqf {H:Hp}{x y d:D}{vx vy:V}{Bx By:List Addr}{Q:VK}(rx:Rp K C H x vx Bx)(ry:Rp K C H y vy By)(e:Dl.gIx x y=some d)(q:∀v B,Rp K C H d v B→(∀a∈B,a∈Bx)→((∃ds,x=.lst ds)→∀a∈B,a∈Bx.tail)→Q v H):rIx K vx vy H Q:=by
 obtain ⟨i,rfl,h⟩:=Xog e
 cases ry.1
 rcases h with ⟨ds,rfl,e'⟩ | ⟨ds,rfl,e'⟩ | ⟨ns,rfl,e'⟩ | ⟨z,rfl,hz,e'⟩
 ·obtain ⟨a,xs,B,rfl,e2,e3,rfl⟩:=rx
  obtain ⟨j,h1,h2,_⟩:=Zcl e'
  obtain ⟨v,B',q1,q2,q3⟩:=e3.get h2
  exact Xgb (SqL.of e2) (v:=v) (Zrh e3.len e' h1 q1) (q v B' q2 (fun a ha=>.tail _ (q3 a ha)) fun _ a ha=>q3 a ha)
 ·obtain ⟨a,xs,rfl,e2,e3⟩:=rx
  obtain ⟨j,h1,h2,_⟩:=Zcl e'
  obtain ⟨v,B',q1,q2,q3⟩:=e3.get h2
  exact Xpw (SqT.of e2) (v:=v) (Zrh e3.len e' h1 q1) (q v B' q2 q3 fun z=>by obtain ⟨_,z⟩:=z;cases z)
 ·obtain ⟨a,rfl,e2,rfl⟩:=rx
  obtain ⟨n,h1,rfl⟩:=Option.map_eq_some_iff.mp e'
  obtain ⟨j,h2,h3,_⟩:=Zcl h1
  exact .inl ⟨a,ns.map V.int,i,.int n,rfl,rfl,e2.sq,Zrh (length_map _) h1 h2 (by rw [getElem?_map,h3];rfl),q (.int n) [] ⟨rfl,rfl⟩ (fun _ h=>(nomatch h)) fun _ _ h=>(nomatch h)⟩
 ·obtain ⟨rfl,e2,rfl⟩:=rx
  obtain ⟨c,h1,rfl⟩:=Option.map_eq_some_iff.mp e'
  refine .inr (.inr ⟨z,i,c,rfl,rfl,le_trans hz (by decide),h1,q _ [] ⟨rfl,?_,rfl⟩ (fun _ h=>(nomatch h)) fun _ _ h=>(nomatch h)⟩)
  obtain ⟨j,_,h3,_⟩:=Zcl h1
  have hm:c∈z.cps:=Array.mem_toList_iff.mp (mem_of_getElem? h3)
  have ho:z.cps.all (·<0x110000)=true:=e2
  have:=(Array.all_eq_true_iff_forall_mem.mp ho) c hm
  unfold PyData.strOk
  simpa using this
theorem Xrx {ta tb:TE}{fa fb:FE}(ha:EOk K C E Γ Δ m1 S1 ta fa)(hb:EOk K C E Γ Δ m2 S2 tb fb):EOk K C E Γ Δ 0 S1 (tOp (rIx K) ta tb) (Dl.f2 Dl.gIx fa fb):=
  fun H0 Hb H σ ρ A Q I p=>ha H0 Hb H σ ρ A _ I (p.bind.imp (fun x q vx H1 g1 r1=>hb H0 Hb H1 σ ρ A _ (I.mono g1) (q.bind.imp (fun y q vy H2 g2 r2=>by
    obtain ⟨d,e,q⟩:=Zem q
    obtain ⟨Bx,r1,r1',_⟩:=r1
    obtain ⟨By,r2,_⟩:=r2
    exact Xqf (r1.same g2) r2 e fun v B r3 h _=>q v H2 (g1.trans g2) ⟨B,r3,fun a ha=>r1' a (h a ha),(fun z=>nomatch z),(fun z=>nomatch z)⟩) fun c x q H' g'=>q H' (g1.trans g'))) fun c x q H' g'=>q H' g')
noncomputable def Xir (x y:D):Option D:=match x with
 | .lst _=>Dl.gIx x y
 | _=>none
end
section
variable {K:Frag}{C:String→Addr}{E:XK}{Γ Δ:List Nat}{m m1 m2 m3 mr:Nat}{S S1 S2 S3:List (Nat×Bool)}{H:Hp}{Q:VK}
theorem sameNew {H:Hp}{p:Addr}(h:H p=none)(o:HO):Xx H (upd H p o):=fun b u q=>by rw [Yd (Jb q h)];exact q
noncomputable abbrev Out (K:Frag)(C:String→Addr)(H:Hp)(d:D)(Q:VK):Prop:=∀v H' B,Xx H H'→Rp K C H' d v B→B.Nodup→(∀a∈B,H a=none)→Q v H'
theorem Out.flat {d:D}{v:V}(q:Out K C H d Q)(r:Rp K C H d v []):Q v H:=q v H [] (Xx.refl _) r nodup_nil (fun _ h=>nomatch h)
theorem Out.lst {ds:List D}{vs:List V}{p:Addr}(q:Out K C H (.lst ds) Q)(r:RpA K C H ds vs [])(hp:H p=none):Q (.ref p) (upd H p (.lst vs)):=
 q _ _ [p] (sameNew hp _) ⟨p,vs,[],rfl,Ja,r.same (sameNew hp _),rfl⟩ (by simp) (fun a ha=>by rw [List.mem_singleton.mp ha];exact hp)
theorem Zcu {n:Nat}(h:n≤Dl.lim):n≤sizeLine:=le_trans h (by decide)
theorem Zgt {n:Nat}(h:n<Dl.lim):n<sizeLine:=lt_of_lt_of_le h (by decide)
theorem Zvo {x y:Str}(h1:PyData.strOk x=true)(h2:PyData.strOk y=true):PyData.strOk (x++y)=true:=by
 unfold PyData.strOk at *
 show (x.cps++y.cps).all _=true
 rw [Array.all_append,h1,h2]
 rfl
theorem RpA.nil:RpA K C H [] [] []:=⟨rfl,rfl⟩
theorem RpA.flat' {ds:List D}{vs:List V}{A:List Addr}(h:Dl.Xw ds=true)(r:RpA K C H ds vs A):RpA K C H ds vs []:=by
 have e:=RpA.flat h r
 subst e
 exact r
theorem RpA.rep {ds:List D}{vs:List V}(r:RpA K C H ds vs []):∀n,RpA K C H (List.replicate n ds).flatten (List.replicate n vs).flatten []
 | 0=>RpA.nil
 | n+1=>by
  rw [replicate_succ,replicate_succ,flatten_cons,flatten_cons]
  exact r.app (RpA.rep r n)
theorem Zv:GOk K C Xbi Dl.Jp:=by
 intro H x y d vx vy Bx By Q rx ry e q
 unfold Dl.Jp at e
 split at e
 ·cases e
  obtain ⟨rfl,_⟩:=rx
  obtain ⟨rfl,_⟩:=ry
  exact Xoq (Out.flat q ⟨rfl,rfl⟩)
 ·split at e
  ·rename_i hz
   cases e
   obtain ⟨rfl,h1,_⟩:=rx
   obtain ⟨rfl,h2,_⟩:=ry
   exact .inr (.inl ⟨_,_,rfl,rfl,Zcu hz,Out.flat q ⟨rfl,Zvo h1 h2,rfl⟩⟩)
  ·cases e
 ·split at e
  ·rename_i hz
   cases e
   obtain ⟨a,xs,B,rfl,e2,e3,_⟩:=rx
   obtain ⟨a',xs',B',rfl,e2',e3',_⟩:=ry
   obtain ⟨hz,f1,f2⟩:=hz
   refine Xtd e2 e2' (by rw [e3.len,e3'.len];exact Zcu hz) fun p hp=>?_
   exact Out.lst q ((e3.flat' f1).app (e3'.flat' f2)) hp
  ·cases e
 ·cases e
theorem Zrj {g:Int→Int→D}{gv:Int→Int→V}{f:D→D→Option D}(hf:∀x y d,f x y=some d→∃i j,x=.int i∧y=.int j∧d=g i j)(hr:∀H i j,Rp K C H (g i j) (gv i j) []):GOk K C (rI0 gv) f:=by
 intro H x y d vx vy Bx By Q rx ry e q
 obtain ⟨i,j,rfl,rfl,rfl⟩:=hf x y d e
 obtain ⟨rfl,_⟩:=rx
 obtain ⟨rfl,_⟩:=ry
 exact rd_I0 (Out.flat q (hr H i j))
theorem Xlq {Cd:Int→Int→Prop}{g:Int→Int→D}{gv:Int→Int→V}{f:D→D→Option D}(hf:∀x y d,f x y=some d→∃i j,x=.int i∧y=.int j∧d=g i j∧Cd i j)(hr:∀H i j,Rp K C H (g i j) (gv i j) []):GOk K C (rI Cd gv) f:=by
 intro H x y d vx vy Bx By Q rx ry e q
 obtain ⟨i,j,rfl,rfl,rfl,hc⟩:=hf x y d e
 obtain ⟨rfl,_⟩:=rx
 obtain ⟨rfl,_⟩:=ry
 exact rd_I hc (Out.flat q (hr H i j))
theorem rpI {i:Int}:Rp K C H (.int i) (.int i) []:=⟨rfl,rfl⟩
theorem rpB {i:Bool}:Rp K C H (.bl i) (.bl i) []:=⟨rfl,rfl⟩
theorem Zbu:GOk K C (rI0 fun i j=>.int (i - j)) Dl.Zgm:=Zrj (fun x y d e=>by unfold Dl.Zgm at e;split at e<;>cases e;exact ⟨_,_,rfl,rfl,rfl⟩) fun _ _ _=>rpI
theorem Zje:GOk K C (rI0 fun i j=>.bl (decide (i<j))) Dl.gLt:=Zrj (fun x y d e=>by unfold Dl.gLt at e;split at e<;>cases e;exact ⟨_,_,rfl,rfl,rfl⟩) fun _ _ _=>rpB
theorem Xgr:GOk K C (rI0 fun i j=>.bl (decide (i≤j))) Dl.gLe:=Zrj (fun x y d e=>by unfold Dl.gLe at e;split at e<;>cases e;exact ⟨_,_,rfl,rfl,rfl⟩) fun _ _ _=>rpB
theorem Zgb:GOk K C (rI0 fun i j=>.bl (decide (j<i))) Dl.gGt:=Zrj (fun x y d e=>by unfold Dl.gGt at e;split at e<;>cases e;exact ⟨_,_,rfl,rfl,rfl⟩) fun _ _ _=>rpB
theorem Js:GOk K C (rI (fun _ j=>0<j) fun i j=>.int (i % j)) Dl.Zjb:=Xlq (fun x y d e=>by
  unfold Dl.Zjb at e
  split at e
  · split at e
    · rename_i h;cases e;exact ⟨_,_,rfl,rfl,rfl,h⟩
    · cases e
  · cases e) fun _ _ _=>rpI
theorem Zpf:GOk K C (rI Xrm fun i j=>.int (i / j)) Dl.Xmc:=Xlq (fun x y d e=>by
  unfold Dl.Xmc at e
  split at e
  · split at e
    · rename_i h;cases e;exact ⟨_,_,rfl,rfl,rfl,h⟩
    · cases e
  · cases e) fun _ _ _=>rpI
theorem Zbx:GOk K C (rI CPow fun i j=>.int (i ^ j.toNat)) Dl.Zjn:=Xlq (fun x y d e=>by
  unfold Dl.Zjn at e
  split at e
  · split at e
    · rename_i h;cases e;exact ⟨_,_,rfl,rfl,rfl,h⟩
    · cases e
  · cases e) fun _ _ _=>rpI
theorem Zxu {i j:Int}(h:(Dl.short i||Dl.short j)=true):Xnr i j:=by
 unfold Dl.short at h
 simp only [Bool.or_eq_true,Bool.and_eq_true,decide_eq_true_eq] at h
 exact h
theorem Ym:GOk K C Xdd Dl.Zck:=by
 intro H x y d vx vy Bx By Q rx ry e q
 unfold Dl.Zck at e
 split at e
 ·split at e
  ·rename_i h
   cases e
   obtain ⟨rfl,_⟩:=rx
   obtain ⟨rfl,_⟩:=ry
   exact Xqo (Zxu h) (Out.flat q rpI)
  ·cases e
 ·split at e
  ·rename_i h
   cases e
   obtain ⟨a,xs,B,rfl,e2,e3,_⟩:=rx
   obtain ⟨rfl,_⟩:=ry
   obtain ⟨h1,h2,h3,h4⟩:=h
   refine Xry e2 (by omega) (by omega) (by rw [e3.len];exact Zcu h2) fun p hp=>?_
   exact Out.lst q ((e3.flat' h4).rep _) hp
  ·cases e
 ·cases e
theorem Zex {d:D}{v:V}{A:List Addr}(h:Dl.dep d≤20)(r:Rp K C H d v A):Dn K H v (toPy d)∧SeqAt.shaped (toPy d)=true:=by
 obtain ⟨q1,q2,q3⟩:=r.dn h (by decide)
 refine ⟨q1,?_⟩
 unfold SeqAt.shaped
 rw [q2,q3]
 simp only [Bool.true_and,decide_eq_true_eq]
 omega
theorem Zam:GOk K C (Zlh K) Dl.gEq:=by
 intro H x y d vx vy Bx By Q rx ry e q
 unfold Dl.gEq at e
 split at e
 ·rename_i h
  cases e
  obtain ⟨a1,a2⟩:=Zex h.1 rx
  obtain ⟨b1,b2⟩:=Zex h.2 ry
  refine .inr ⟨_,_,a1,b1,a2,b2,?_⟩
  rw [Zqj (by omega) (by omega)]
  exact Out.flat q rpB
 ·cases e
theorem Zpu:GOk K C (Xno K) Dl.gNe:=by
 intro H x y d vx vy Bx By Q rx ry e q
 unfold Dl.gNe at e
 split at e
 ·rename_i h
  cases e
  obtain ⟨a1,a2⟩:=Zex h.1 rx
  obtain ⟨b1,b2⟩:=Zex h.2 ry
  refine .inr ⟨_,_,a1,b1,a2,b2,?_⟩
  rw [Zqj (by omega) (by omega)]
  exact Out.flat q rpB
 ·cases e
theorem Zul {x:D}(hx:Dl.dep x<100):∀{ys:List D},Dl.Zfl ys<100→((Zcx ys).any fun z=>PyData.eqv z (toPy x))=ys.any fun y=>Dl.eqv y x
 | [],_=>rfl
 | y::ys,h=>by
  simp only [Dl.Zfl] at h
  simp only [Zcx,any_cons]
  rw [Zqj (by omega) hx,Zul hx (by omega)]
theorem Xhf:GOk K C (Zzj K false) Dl.gIn:=by
 intro H x y d vx vy Bx By Q rx ry e q
 unfold Dl.gIn at e
 split at e
 ·split at e
  ·rename_i h
   cases e
   obtain ⟨a1,a2,a3⟩:=rx.dn h.1 (by decide)
   obtain ⟨b1,b2,b3⟩:=ry.dn (n:=21) (by simp only [Dl.dep];omega) (by decide)
   refine ⟨_,_,b1,a1,by simpa [toPy,PyData.canLay0] using b2,a2,by omega,?_⟩
   simp only [Bool.false_eq_true,if_false]
   rw [Zul (by omega) (by omega)]
   exact Out.flat q rpB
  ·cases e
 ·cases e
theorem Zeq:GOk K C (Zzj K true) Dl.Zcr:=by
 intro H x y d vx vy Bx By Q rx ry e q
 unfold Dl.Zcr at e
 split at e
 ·split at e
  ·rename_i h
   cases e
   obtain ⟨a1,a2,a3⟩:=rx.dn h.1 (by decide)
   obtain ⟨b1,b2,b3⟩:=ry.dn (n:=21) (by simp only [Dl.dep];omega) (by decide)
   refine ⟨_,_,b1,a1,by simpa [toPy,PyData.canLay0] using b2,a2,by omega,?_⟩
   simp only [if_true]
   rw [Zul (by omega) (by omega)]
   exact Out.flat q rpB
  ·cases e
 ·cases e
theorem Xas {x:D}{v:V}{B:List Addr}(r:Rp K C H x v B):decide (v=.non)=Dl.Ziz x:=by
 cases x
 ·rw [r.1];rfl
 ·rw [r.1];rfl
 ·rw [r.1];rfl
 ·rw [r.1];rfl
 ·obtain ⟨a,xs,B,rfl,_⟩:=r;rfl
 ·obtain ⟨a,xs,rfl,_⟩:=r;rfl
 ·obtain ⟨a,rfl,_⟩:=r;rfl
 ·obtain ⟨a,rfl,_⟩:=r;rfl
 ·obtain ⟨a,dx,rfl,_⟩:=r;rfl
 ·obtain ⟨a,dx,xs,B,rfl,_⟩:=r;rfl
 ·obtain ⟨a,xs,B,rfl,_⟩:=r;rfl
 ·obtain ⟨a,xs,B,rfl,_⟩:=r;rfl
theorem Xos:GOk K C (rIsA false) Dl.gIs:=by
 intro H x y d vx vy Bx By Q rx ry e q
 unfold Dl.gIs at e
 split at e
 ·cases e
  refine .inl ⟨ry.1,?_⟩
  simp only [Bool.false_eq_true,if_false]
  rw [Xas rx]
  exact Out.flat q rpB
 ·split at e
  ·cases e
   obtain ⟨rfl,_⟩:=rx
   obtain ⟨rfl,_⟩:=ry
   exact .inr ⟨_,_,rfl,rfl,by simp only [Bool.false_eq_true,if_false];exact Out.flat q rpB⟩
  ·cases e
 ·cases e
theorem Xin:AOk K C E Γ Δ 2 [] Zlw Dl.Zt:=fun _ _ H _ _ _ _ _ p=>p [] H (Xx.refl _) ⟨[],RpA.nil,(fun _ h=>nomatch h),fun _=>nodup_nil⟩
theorem InS.left {A:Nat→List Addr}{a:Addr}(h:InS A S1 a):InS A (S1++S2) a:=h.mono fun _ hp=>mem_append_left _ hp
theorem InS.right {A:Nat→List Addr}{a:Addr}(h:InS A S2 a):InS A (S1++S2) a:=h.mono fun _ hp=>mem_append_right _ hp
theorem Xdo {te:TE}{t:TA}{fe:FE}{f:FA}(he:EOk K C E Γ Δ m1 S1 te fe)(ha:AOk K C E Γ Δ m2 S2 t f):AOk K C E Γ Δ 0 (S1++S2) (Zbk te t) (Dl.Zc fe f):=
  fun H0 Hb H σ ρ A Q I p=>he H0 Hb H σ ρ A _ I (p.bind.imp (fun x q vx H1 g1 r1=>ha H0 Hb H1 σ ρ A _ (I.mono g1) (q.bind.imp (fun ys q vs H2 g2 r2=>by
    obtain ⟨Bx,r1,r1',_⟩:=r1
    obtain ⟨By,r2,r2',_⟩:=r2
    exact q _ H2 (g1.trans g2) ⟨Bx++By,⟨vx,vs,Bx,By,rfl,r1.same g2,r2,rfl⟩,fun a h=>(List.mem_append.mp h).elim (fun h=>(r1' a h).imp id InS.left) (fun h=>(r2' a h).imp (fun h=>g1.free h) InS.right),(fun z=>nomatch z)⟩)
    fun c x q H' g'=>q H' (g1.trans g'))) fun c x q H' g'=>q H' g')
theorem Zxf {te:TE}{t:TA}{fe:FE}{f:FA}(he:EOk K C E Γ Δ 2 S1 te fe)(ha:AOk K C E Γ Δ 2 S2 t f)(h1:∀p∈S1,p.1∈Δ:=by decide)(h2:∀p∈S1,∀q∈S2,p.1≠q.1:=by decide):AOk K C E Γ Δ 2 (S1++S2) (Zbk te t) (Dl.Zc fe f):=
  fun H0 Hb H σ ρ A Q I p=>he H0 Hb H σ ρ A _ I (p.bind.imp (fun x q vx H1 g1 r1=>ha H0 Hb H1 σ ρ A _ (I.mono g1) (q.bind.imp (fun ys q vs H2 g2 r2=>by
    obtain ⟨Bx,r1,r1',_,n1⟩:=r1
    obtain ⟨By,r2,r2',n2⟩:=r2
    refine q _ H2 (g1.trans g2) ⟨Bx++By,⟨vx,vs,Bx,By,rfl,r1.same g2,r2,rfl⟩,fun a h=>(List.mem_append.mp h).elim (fun h=>(r1' a h).imp id InS.left) (fun h=>(r2' a h).imp (fun h=>g1.free h) InS.right),fun _=>?_⟩
    refine List.nodup_append.mpr ⟨n1 rfl,n2 rfl,fun a ha b hb e=>?_⟩
    subst e
    rcases r2' a hb with z | z
    · obtain ⟨xs,w,_⟩:=r1.isl a ha
      rw [w] at z
      cases z
    · obtain ⟨p2,hp2,z⟩:=z.mem
      rcases r1' a ha with w | w
      · exact I.ne z w
      · obtain ⟨p1,hp1,w⟩:=w.mem
        exact (I.deep p1.1 (h1 p1 hp1)).2.1 p2.1 (fun e=>h2 p1 hp1 p2 hp2 e.symm) a w z)
    fun c x q H' g'=>q H' (g1.trans g'))) fun c x q H' g'=>q H' g')
theorem Xnh {t:TA}{f:FA}(ha:AOk K C E Γ Δ 2 S t f):EOk K C E Γ Δ 2 S (Xnw t) (Dl.fA Dl.Zae f):=
  fun H0 Hb H σ ρ A Q I p=>ha H0 Hb H σ ρ A _ I (p.bind.imp (fun ds q vs H1 g1 r1=>by
    obtain ⟨d,e,q⟩:=Zem q
    unfold Dl.Zae at e
    split at e
    · rename_i hz
      cases e
      obtain ⟨B,r1,r1',n1⟩:=r1
      refine ⟨by rw [r1.len];exact Zcu hz,fun p hp=>?_⟩
      have g2:=sameNew hp (.lst vs)
      refine q _ _ (g1.trans g2) ⟨p::B,⟨p,vs,B,rfl,Ja,r1.same g2,rfl⟩,fun a ha=>?_,(fun z=>nomatch z),fun _=>List.nodup_cons.mpr ⟨fun h=>?_,n1 rfl⟩⟩
      · rcases List.mem_cons.mp ha with z | z
        · rw [z];exact .inl (g1.free hp)
        · exact r1' a z
      · obtain ⟨xs,w,_⟩:=r1.isl p h
        rw [w] at hp
        cases hp
    · cases e) fun c x q H' g'=>q H' g')
theorem Xdp {t:TA}{f:FA}(ha:AOk K C E Γ Δ m S t f):EOk K C E Γ Δ 1 S (Xnw t) (Dl.fA Dl.Zae f):=
  fun H0 Hb H σ ρ A Q I p=>ha H0 Hb H σ ρ A _ I (p.bind.imp (fun ds q vs H1 g1 r1=>by
    obtain ⟨d,e,q⟩:=Zem q
    unfold Dl.Zae at e
    split at e
    · rename_i hz
      cases e
      obtain ⟨B,r1,r1',n1⟩:=r1
      refine ⟨by rw [r1.len];exact Zcu hz,fun p hp=>?_⟩
      have g2:=sameNew hp (.lst vs)
      refine q _ _ (g1.trans g2) ⟨p::B,⟨p,vs,B,rfl,Ja,r1.same g2,rfl⟩,fun a ha=>?_,fun _ a r e=>?_,(fun z=>nomatch z)⟩
      · rcases List.mem_cons.mp ha with z | z
        · rw [z];exact .inl (g1.free hp)
        · exact r1' a z
      · cases e
        refine ⟨g1.free hp,fun h=>?_⟩
        obtain ⟨xs,w,_⟩:=r1.isl p h
        rw [w] at hp
        cases hp
    · cases e) fun c x q H' g'=>q H' g')
theorem Xlo (hm:m=0∨m=2){t:TA}{f:FA}(ha:AOk K C E Γ Δ m S t f):EOk K C E Γ Δ m S (tTup t) (Dl.fA Dl.Zhb f):=
  fun H0 Hb H σ ρ A Q I p=>ha H0 Hb H σ ρ A _ I (p.bind.imp (fun ds q vs H1 g1 r1=>by
    obtain ⟨d,e,q⟩:=Zem q
    unfold Dl.Zhb at e
    split at e
    · rename_i hz
      cases e
      obtain ⟨B,r1,r1',n1⟩:=r1
      refine ⟨by rw [r1.len];exact Zcu hz,fun p hp=>?_⟩
      have g2:=sameNew hp (.tup vs)
      exact q _ _ (g1.trans g2) ⟨B,⟨p,vs,rfl,Ja,r1.same g2⟩,r1',(fun z=>by omega),n1⟩
    · cases e) fun c x q H' g'=>q H' g')
theorem Xhg {r:List V→Hp→VK→Prop}{g:List D→Option D}{t:TA}{f:FA}(hg:GAk K C r g)(ha:AOk K C E Γ Δ m S t f):EOk K C E Γ Δ 2 [] (tCB r t) (Dl.fA g f):=
  fun H0 Hb H σ ρ A Q I p=>ha H0 Hb H σ ρ A _ I (p.bind.imp (fun ds q vs H1 g1 r1=>by
    obtain ⟨d,e,q⟩:=Zem q
    obtain ⟨B,r1,_⟩:=r1
    exact hg H1 ds d vs B Q r1 e fun v H' B' g2 r2 h1 h2=>q v H' (g1.trans g2) (Res.new r2 h1 fun a ha=>g1.free (h2 a ha))) fun c x q H' g'=>q H' g')
theorem RpA.one' {d:D}{vs:List V}{A:List Addr}(r:RpA K C H [d] vs A):∃v,vs=[v]∧Rp K C H d v A:=by
 obtain ⟨x,l,B,B',e1,e2,e3,e4⟩:=r
 obtain ⟨e5,e6⟩:=e3
 subst e1 e4 e5 e6
 rw [append_nil]
 exact ⟨x,rfl,e2⟩
theorem RpA.two' {d e:D}{vs:List V}{A:List Addr}(r:RpA K C H [d,e] vs A):∃v w B B',vs=[v,w]∧Rp K C H d v B∧Rp K C H e w B':=by
 obtain ⟨x,l,B,B',e1,e2,e3,e4⟩:=r
 obtain ⟨w,e5,e6⟩:=e3.one'
 subst e1 e5
 exact ⟨x,w,B,B',rfl,e2,e6⟩
theorem Yw:GAk K C (Zba K) Dl.Zcc:=by
 intro H xs d vs B Q r e q
 obtain ⟨x,rfl⟩:=Zva (F:=Dl.Zcc) rfl (fun x _ _=>by cases x<;>rfl) e
 obtain ⟨v,rfl,r1⟩:=r.one'
 cases x with
 | lst xs =>
  cases (show some (D.int xs.length)=some d from e)
  obtain ⟨a,ys,B,rfl,e2,e3,_⟩:=r1
  refine Zwh (SqL.of e2) ?_
  rw [e3.len]
  exact Out.flat q rpI
 | tup xs =>
  cases (show some (D.int xs.length)=some d from e)
  obtain ⟨a,ys,rfl,e2,e3⟩:=r1
  refine Xly (SqT.of e2) ?_
  rw [e3.len]
  exact Out.flat q rpI
 | scr xs =>
  cases (show some (D.int xs.length)=some d from e)
  obtain ⟨a,rfl,e2,_⟩:=r1
  refine Zwh e2.sq ?_
  rw [length_map]
  exact Out.flat q rpI
 | str z =>
  have e:(if z.length≤Dl.lim then some (D.int z.length) else none)=some d:=e
  by_cases hz:z.length≤Dl.lim
  ·rw [if_pos hz] at e
   cases e
   obtain ⟨rfl,_⟩:=r1
   exact Xlk (Zcu hz) (Out.flat q rpI)
  ·rw [if_neg hz] at e
   exact Jm e
 | _=>exact Jm e
theorem Zys:GAk K C (Xqr K) Dl.Xjx:=by
 intro H xs d vs B Q r e q
 obtain ⟨x,rfl⟩:=Zva (F:=Dl.Xjx) rfl (fun x _ _=>by cases x<;>rfl) e
 obtain ⟨v,rfl,r1⟩:=r.one'
 cases x with
 | lst xs =>
  obtain ⟨ns,h1,h2⟩:=Option.bind_eq_some_iff.mp e
  cases h2
  obtain ⟨a,ys,B,rfl,e2,e3,_⟩:=r1
  have h:=e3.ofInts h1
  subst h
  exact Xrz (SqL.of e2) (Out.flat q rpI)
 | _=>exact Jm e
theorem Zuj (x:Int):∀(r:List Int),(r.foldl max x=x∨r.foldl max x∈r)∧x≤r.foldl max x∧∀y∈r,y≤r.foldl max x:=by
 intro r
 induction r generalizing x with
 | nil=>simp
 | cons y r ih =>
  obtain ⟨h1,h2,h3⟩:=ih (max x y)
  rw [foldl_cons]
  refine ⟨?_,by omega,fun z hz=>?_⟩
  ·rcases h1 with h | h
   ·rw [h]
    by_cases hxy:x≤y
    ·right;rw [Int.max_eq_right hxy];exact .head _
    ·left;omega
   ·right;exact .tail _ h
  ·rcases List.mem_cons.mp hz with e | e
   ·omega
   ·exact h3 z e
theorem Zyp {ns:List Int}(h:ns≠[]):Dl.Xdy ns∈ns∧∀n∈ns,n≤Dl.Xdy ns:=by
 cases ns with
 | nil=>exact absurd rfl h
 | cons x r =>
  obtain ⟨h1,h2,h3⟩:=Zuj x r
  show r.foldl max x∈x::r∧∀n∈x::r,n≤r.foldl max x
  refine ⟨?_,fun n hn=>?_⟩
  ·rcases h1 with e | e
   ·rw [e];exact .head _
   ·exact .tail _ e
  ·rcases List.mem_cons.mp hn with e | e
   ·omega
   ·exact h3 n e
theorem Xhl:GAk K C (Zxy K) Dl.Xsz:=by
 intro H xs d vs B Q r e q
 unfold Dl.Xsz at e
 split at e
 ·cases e
  obtain ⟨v,w,B,B',rfl,r1,r2⟩:=r.two'
  obtain ⟨rfl,_⟩:=r1
  obtain ⟨rfl,_⟩:=r2
  exact Xkh (Out.flat q rpI)
 ·obtain ⟨ns,h1,h2⟩:=Option.bind_eq_some_iff.mp e
  split at h2
  ·cases h2
  ·rename_i hne
   cases h2
   obtain ⟨v,rfl,r1⟩:=r.one'
   obtain ⟨a,ys,B,rfl,e2,e3,_⟩:=r1
   have h:=e3.ofInts h1
   subst h
   obtain ⟨s1,s2⟩:=Zyp hne
   refine Xmy (SqL.of e2) hne fun mm h1 h2=>?_
   have e:mm=Dl.Xdy ns:=Int.le_antisymm (s2 mm h1) (h2 _ s1)
   rw [e]
   exact Out.flat q rpI
 ·cases e
def Xdm:List V→Hp→VK→Prop:=fun xs H Q=>∃i j,xs=[.int i,.int j]∧Q (.int (if j<i then j else i)) H
theorem Zlu {X:Cx}(hc:X.calm=true):Zaf X (.builtin "min") Xdm:=Zuf hc
theorem Zyv:GAk K C Xdm Dl.Xnm:=by
 intro H xs d vs B Q r e q
 unfold Dl.Xnm at e
 split at e
 ·cases e
  obtain ⟨v,w,B,B',rfl,r1,r2⟩:=r.two'
  obtain ⟨rfl,_⟩:=r1
  obtain ⟨rfl,_⟩:=r2
  exact ⟨_,_,rfl,Out.flat q rpI⟩
 ·cases e
theorem RpA.rng {lo:Int}{n:Nat}:RpA K C H (Dl.Zgc lo n) (Zoo lo n) []:=by
 unfold Dl.Zgc Zoo
 generalize List.range n=l
 induction l with
 | nil=>exact RpA.nil
 | cons k l ih=>exact ⟨_,_,[],[],rfl,rpI,ih,rfl⟩
theorem Yj:GAk K C (Zbo K) Dl.Jt:=by
 intro H xs d vs B Q r e q
 obtain ⟨x,rfl⟩:=Zva (F:=Dl.Jt) rfl (fun x _ _=>by cases x<;>rfl) e
 obtain ⟨v,rfl,r1⟩:=r.one'
 cases x with
 | lst xs =>
  have e:(if Dl.Xw xs then some (D.lst xs) else none)=some d:=e
  split at e
  ·rename_i hf
   cases e
   obtain ⟨a,ys,B,rfl,e2,e3,_⟩:=r1
   exact Xbw (SqL.of e2) fun l hl=>Out.lst q (e3.flat' hf) hl
  ·exact Jm e
 | tup xs =>
  have e:(if Dl.Xw xs then some (D.lst xs) else none)=some d:=e
  split at e
  ·rename_i hf
   cases e
   obtain ⟨a,ys,rfl,e2,e3⟩:=r1
   exact .inl ⟨a,ys,rfl,.inr (SqT.of e2),fun l hl=>Out.lst q (e3.flat' hf) hl⟩
  ·exact Jm e
 | rng i j =>
  have e:(if -1000000000≤i∧i≤1000000000∧-1000000000≤j∧j≤1000000000∧(j - i).toNat≤Dl.lim then some (D.lst (Dl.Zgc i (j - i).toNat)) else none)=some d:=e
  split at e
  ·rename_i hf
   cases e
   obtain ⟨a,rfl,e2,_⟩:=r1
   obtain ⟨h1,h2,h3,h4,h5⟩:=hf
   exact Xci e2 (by omega) (by omega) (by omega) (by omega) h5 fun l hl=>Out.lst q RpA.rng hl
  ·exact Jm e
 | _=>exact Jm e
theorem Xet:OOk K C E Γ Δ Zko Dl.Zwd:=fun _ _ H _ _ _ _ _ p=>p H (Xx.refl _)
theorem Xar {t:TE}{f:FE}(h:EOk K C E Γ Δ m S t f):OOk K C E Γ Δ (Zzy t) (Dl.Zpn f):=fun H0 Hb H σ ρ A Q I p=>h H0 Hb H σ ρ A _ I (p.bind.imp (fun d q v H' g r=>by
  obtain ⟨B,r,_⟩:=r
  cases d with
  | int i =>
    obtain ⟨rfl,_⟩:=r
    exact ⟨i,rfl,q H' g⟩
  | _=>exact q.elim) fun c x q H' g'=>q H' g')
theorem Zsk (n d:Nat)(o:Option Int):Dl.Xnn n d o=HT.sIx n d o:=by
 cases o with
 | none=>rfl
 | some v =>
  have h:=HT.clip_eq v n d
  show (if v<0 then (max (v+(n:Int)) 0).toNat else min v.toNat n)=_
  by_cases hv:v<0
  ·rw [if_pos hv] at h ⊢
   omega
  ·rw [if_neg hv] at h ⊢
   omega
theorem RpA.cut {ds:List D}{vs:List V}{A:List Addr}(h:Dl.Xw ds=true)(r:RpA K C H ds vs A)(lo hi:Option Int):RpA K C H (Dl.cut ds lo hi) (Xez vs lo hi) []:=by
 unfold Dl.cut Xez
 rw [Zsk,Zsk,r.len]
 exact (r.flatDrop h _).flatTake (Zsy h _) _
theorem Xds (ns:List Int)(lo hi:Option Int):Xez (ns.map V.int) lo hi=(Dl.cut ns lo hi).map V.int:=by
 unfold Dl.cut Xez
 rw [Zsk,Zsk,length_map,map_take,map_drop]
theorem Xol {ta:TE}{tl th:TO}{fa:FE}{fl fh:FO}(ha:EOk K C E Γ Δ m S ta fa)(hl:OOk K C E Γ Δ tl fl)(hh:OOk K C E Γ Δ th fh):EOk K C E Γ Δ 2 [] (tSl (rSlL K) ta tl th) (Dl.fSl Dl.gSl fa fl fh):=
  fun H0 Hb H σ ρ A Q I p=>ha H0 Hb H σ ρ A _ I (p.bind.imp (fun x q vx H1 g1 r1=>hl H0 Hb H1 σ ρ A _ (I.mono g1) (q.bind.imp (fun lo q H2 g2=>hh H0 Hb H2 σ ρ A _ (I.mono (g1.trans g2)) (q.bind.imp (fun hi q H3 g3=>by
    obtain ⟨d,e,q⟩:=Zem q
    obtain ⟨B,r1,_⟩:=r1
    have r1:=r1.same (g2.trans g3)
    have g13:=g1.trans (g2.trans g3)
    have out:Out K C H3 d Q:=fun v H' B g4 r h1 h2=>q v H' (g13.trans g4) (Res.new r h1 fun a ha=>g13.free (h2 a ha))
    unfold Dl.gSl at e
    split at e
    · split at e
      · rename_i hf
        cases e
        obtain ⟨a,ys,B,rfl,e2,e3,_⟩:=r1
        exact Xgt (SqL.of e2) fun p hp=>Out.lst out (e3.cut hf _ _) hp
      · cases e
    · cases e
      obtain ⟨a,rfl,e2,_⟩:=r1
      refine Xgt e2.sq fun p hp=>?_
      rw [Xds]
      exact Out.lst out RpA.ints hp
    · cases e) fun c x q H' g'=>q H' ((g1.trans g2).trans g'))) fun c x q H' g'=>q H' (g1.trans g'))) fun c x q H' g'=>q H' g')
theorem Xau {ta:TE}{fa:FE}(ha:EOk K C E Γ Δ m1 S1 ta fa):EOk K C E Γ Δ 2 [] (Xab K ta) (Dl.f1 Dl.Zgp fa):=
  fun H0 Hb H σ ρ A Q I p=>ha H0 Hb H σ ρ A _ I (p.bind.imp (fun x q vx H1 g1 r1=>by
    obtain ⟨d,e,q⟩:=Zem q
    obtain ⟨Bx,r1,_⟩:=r1
    have out:Out K C H1 d Q:=fun v H' B g4 r h1 h2=>q v H' (g1.trans g4) (Res.new r h1 fun a ha=>g1.free (h2 a ha))
    unfold Dl.Zgp at e
    split at e
    · split at e
      · rename_i hf
        cases e
        obtain ⟨a,ys,B,rfl,e2,e3,_⟩:=r1
        exact ⟨a,ys,rfl,SqL.of e2,fun p hp=>Out.lst out (RpA.flatRev hf e3) hp⟩
      · cases e
    · cases e) fun c x q H' g'=>q H' g')
end
section
variable {K:Frag}{C:String→Addr}{E:XK}{Γ Δ Γ' Δ' Γ1 Δ1 Γl Δl:List Nat}{m m1 m2 m3 mr:Nat}{S S1 S2 S3:List (Nat×Bool)}{H:Hp}{Q:VK}
theorem Xgg {t:TE}{f:FE}(h:EOk K C E Γ Δ m S t f):∀(H0 Hb H:Hp) (σ:St) (ρ:Yq) (A:Nat→List Addr) (Q:Bool→Hp→Prop),Zy K C H0 Hb H Γ Δ σ ρ A→
    Yi (Dl.cE f ρ) (fun b=>∀H',Xx H H'→Q b H') (fun c x=>∀H',Xx H H'→EC C E c x H')→t σ H fun x H'=>∃k,x=.bl k∧Q k H':=fun H0 Hb H σ ρ A Q I p=>h H0 Hb H σ ρ A _ I (p.bind.imp (fun d q v H' g r=>by
  obtain ⟨B,r,_⟩:=r
  cases d with
  | bl b =>
    obtain ⟨rfl,_⟩:=r
    exact ⟨b,rfl,q H' g⟩
  | _=>exact q.elim) fun c x q H' g'=>q H' g')
theorem Xch {t:TE}{f:FE}(h:EOk K C E Γ Δ m S t f):TOk K C E Γ Δ (Xes t) (Dl.cE f):=Xgg h
theorem tok_B {t:TE}{f:FE}(h:EOk K C E Γ Δ m S t f):TOk K C E Γ Δ (tB t) (Dl.cE f):=Xgg h
theorem Xnc {t:TT}{f:FT}(h:TOk K C E Γ Δ t f):TOk K C E Γ Δ (tNot t) (Dl.Zwi f):=fun H0 Hb H σ ρ A Q I p=>h H0 Hb H σ ρ A _ I (p.bind.imp (fun b q H' g=>q H' g) fun c x q H' g'=>q H' g')
theorem Xtq {t u:TT}{f g:FT}(h:TOk K C E Γ Δ t f)(h':TOk K C E Γ Δ u g):TOk K C E Γ Δ (tOr t u) (Dl.cOr f g):=fun H0 Hb H σ ρ A Q I p=>h H0 Hb H σ ρ A _ I (p.bind.imp (fun b q H' g'=>by
  cases b with
  | false=>exact h' H0 Hb H' σ ρ A Q (I.mono g') (Yi.imp q (fun b q H2 g2=>q H2 (g'.trans g2)) fun c x q H2 g2=>q H2 (g'.trans g2))
  | true=>exact q H' g') fun c x q H' g'=>q H' g')
theorem Xkz:TOk K C E Γ Δ tYes Dl.Ztz:=fun _ _ H _ _ _ _ _ p=>p H (Xx.refl _)
theorem EOk.run {t:TE}{f:FE}(h:EOk K C E Γ Δ m S t f){H0 Hb H H1:Hp}{σ:St}{ρ:Yq}{A:Nat→List Addr}{Q:VK}(I:Zy K C H0 Hb H Γ Δ σ ρ A)(g:Xx H H1)
  (p:Yi (f ρ) (fun d=>∀v H',Xx H H'→Res K C m S H A d v H'→Q v H') (fun c x=>∀H',Xx H H'→EC C E c x H')):t σ H1 Q:=
 h H0 Hb H1 σ ρ A Q (I.mono g) (p.imp (fun d q v H2 g2 r=>q v H2 (g.trans g2) (r.later g (Xx.refl _))) fun c x q H2 g2=>q H2 (g.trans g2))
theorem Xhx {ta tb:TE}{fa fb:FE}(ha:EOk K C E Γ Δ m1 S1 ta fa)(hb:EOk K C E Γ Δ m S tb fb):EOk K C E Γ Δ m S (Xbl ta tb) (Dl.fAnd fa fb):=fun H0 Hb H σ ρ A Q I p=>ha H0 Hb H σ ρ A _ I (p.bind.imp (fun d q v H' g r=>by
  obtain ⟨B,r,_⟩:=r
  cases d with
  | bl b =>
    obtain ⟨rfl,_⟩:=r
    refine ⟨b,rfl,?_⟩
    cases b with
    | true=>exact hb.run I g q
    | false=>exact q _ H' g (Res.flat rpB)
  | _=>exact q.elim) fun c x q H' g'=>q H' g')
theorem Xjp {ta:TE}{fa:FE}(ha:EOk K C E Γ Δ m1 S1 ta fa):EOk K C E Γ Δ 2 [] (Xai ta) (Dl.f1 Dl.gNot fa):=fun H0 Hb H σ ρ A Q I p=>ha H0 Hb H σ ρ A _ I (p.bind.imp (fun d q v H' g r=>by
  obtain ⟨B,r,_⟩:=r
  cases d with
  | bl b =>
    obtain ⟨rfl,_⟩:=r
    exact ⟨b,rfl,q _ H' g (Res.flat rpB)⟩
  | _=>exact q.elim) fun c x q H' g'=>q H' g')
noncomputable def spD (K:Frag)(C:String→Addr)(n mr:Nat)(F:List D→R D):Sp:=fun vs H Q E=>∃ds B,ds.length=n∧RpA K C H ds vs B∧
 Yi (F ds) (fun d=>∀v H',Xx H H'→Res K C mr [] H (fun _=>[]) d v H'→Q v H') (fun c x=>∀H',Xx H H'→EC C E c x H')
theorem InS.none {A:Nat→List Addr}{a:Addr}(h:InS A [] a):False:=by
 obtain ⟨p,hp,_⟩:=h
 cases hp
theorem Res.reA {H H':Hp}{A A':Nat→List Addr}{d:D}{v:V}(r:Res K C m [] H A d v H'):Res K C m S H A' d v H':=by
 obtain ⟨B,r1,r2,r3,r4⟩:=r
 exact ⟨B,r1,fun a ha=>(r2 a ha).imp id fun h=>h.none.elim,r3,r4⟩
theorem Xdi {n:Nat}{F:List D→R D}{t:TA}{f:FA}(ha:AOk K C E Γ Δ m S t f)(hn:∀ρ ds,f ρ=.ok ds→ds.length=n):EOk K C E Γ Δ mr [] (Zsz (spD K C n mr F) [] E t) (Dl.Xb F f):=
  fun H0 Hb H σ ρ A Q I p=>Xmh (ha H0 Hb H σ ρ A _ I (by
    have p':=p.bind
    cases e:f ρ with
    | bad=>rw [e] at p';exact p'
    | err c x=>rw [e] at p';exact p'
    | ok ds =>
      rw [e] at p'
      intro vs H1 g1 r1
      obtain ⟨B,r1,_⟩:=r1
      exact ⟨ds,B,hn ρ ds e,r1,Yi.imp p' (fun d q v H' g2 r=>q v H' (g1.trans g2) ((r.later g1 (Xx.refl _)).reA)) fun c x q H' g'=>q H' (g1.trans g')⟩))
theorem Xip (ρ:Yq)(ds:List D)(h:Dl.Zt ρ=.ok ds):ds.length=0:=by cases h;rfl
theorem Zrr {n:Nat}{fe:FE}{f:FA}(hf:∀ρ ds,f ρ=.ok ds→ds.length=n)(ρ:Yq)(ds:List D)(h:Dl.Zc fe f ρ=.ok ds):ds.length=n+1:=by
 unfold Dl.Zc at h
 cases e:fe ρ with
 | ok x =>
  rw [e] at h
  cases e':f ρ with
  | ok xs =>
   rw [e'] at h
   cases h
   rw [length_cons,hf ρ xs e']
  | err c x=>rw [e'] at h;cases h
  | bad=>rw [e'] at h;cases h
 | err c x=>rw [e] at h;cases h
 | bad=>rw [e] at h;cases h
def Goes (K:Frag)(C:String→Addr)(J:It)(ds:List D)(Hb:Hp):Prop:=∀H2,Xx Hb H2→(∀i,i<ds.length→J.go i H2)∧(∀i,ds.length≤i→J.stop i H2)∧
 ∀i x H3,i<ds.length→J.yld i H2 x H3→Xx H2 H3∧∃d B,ds[i]?=some d∧Rp K C H3 d x B∧∀a∈B,Hb a≠none
def IOk (K:Frag)(C:String→Addr)(E:XK)(Γ Δ:List Nat)(S:List (Nat×Bool))(wi:TI)(f:FI):Prop:=∀(H0 Hb H:Hp) (σ:St) (ρ:Yq) (A:Nat→List Addr) (Rr:It→Hp→Prop),Zy K C H0 Hb H Γ Δ σ ρ A→
  Yi (f ρ) (fun ds=>∀J H' W,Xx H H'→(∀a∈W,(∃o,H' a=some o∧IsM o)∧(H a=none∨InS A S a))→ds.length≤Dl.lim→
    (∀Hc,Agree W H' Hc→Goes K C J ds Hc)→Rr J H') (fun c x=>∀H',Xx H H'→EC C E c x H')→wi σ H Rr
theorem Zku {J:It}{ds:List D}{vs:List V}{B:List Addr}{Hc:Hp}(r:RpA K C Hc ds vs B)(h:∀H2,Xx Hc H2→(∀i,i<vs.length→J.go i H2)∧(∀i,vs.length≤i→J.stop i H2)∧∀i x H3,J.yld i H2 x H3→H3=H2∧(i<vs.length→vs[i]?=some x)):Goes K C J ds Hc:=fun H2 g=>by
 obtain ⟨h1,h2,h3⟩:=h H2 g
 have hl:=r.len
 refine ⟨fun i hi=>h1 i (by omega),fun i hi=>h2 i (by omega),fun i x H3 hi y=>?_⟩
 obtain ⟨e,y2⟩:=h3 i x H3 y
 subst e
 obtain ⟨d,Bd,q1,q2,q3⟩:=r.get' (y2 (by omega))
 refine ⟨Xx.refl _,d,Bd,q1,q2.same g,fun a ha z=>?_⟩
 obtain ⟨xs,e,_⟩:=q2.isl a ha
 rw [e] at z
 cases z
theorem Zls {a:Addr}{ds:List D}{vs:List V}{B:List Addr}{Hc:Hp}(r:RpA K C Hc ds vs B)(h:∀H2,Xx Hc H2→SqL K H2 a vs):Goes K C (Itl K a) ds Hc:=Zku r fun H2 g=>by
 have q:=h H2 g
 exact ⟨fun i hi=>⟨vs,vs[i],q,by simp [hi]⟩,fun i hi=>⟨vs,q,hi⟩,fun i x H3 y=>⟨y.1,fun _=>y.2 vs q⟩⟩
theorem Zqi {lo:Int}{n:Nat}{Hc:Hp}:Goes K C (Itr lo n) (Dl.Zgc lo n) Hc:=Zku (vs:=Zoo lo n) RpA.rng fun H2 _=>by
 have hl:(Zoo lo n).length=n:=by simp [Zoo]
 refine ⟨fun i hi=>by rw [hl] at hi;exact hi,fun i hi=>by rw [hl] at hi;exact hi,fun i x H3 y=>⟨y.1,fun hi=>?_⟩⟩
 rw [hl] at hi
 rw [y.2]
 simp [Zoo,hi]
theorem FzL.keep {a:Addr}{xs:List V}{H Hb:Hp}(h:FzL K H a xs)(hk:∀b o,H b=some o→¬IsM o→Hb b=some o):FzL K Hb a xs:=by
 rcases h with ⟨o,h⟩ | h
 ·exact .inl ⟨o,hk a _ h (fun z=>by cases z)⟩
 ·exact .inr h
theorem FzL.same {a:Addr}{xs:List V}{H Hb:Hp}(h:FzL K H a xs)(g:Xx H Hb):FzL K Hb a xs:=h.keep fun b o q _=>g b o q
theorem Xdf {t:TE}{f:FE}(h:EOk K C E Γ Δ m S t f):IOk K C E Γ Δ S (Xbo K t) (Dl.Jj f):=fun H0 Hb H σ ρ A Rr I p=>h H0 Hb H σ ρ A _ I (p.bind.imp (fun d q v H' g r=>by
  obtain ⟨B,r,r',_⟩:=r
  cases d with
  | lst ds =>
    obtain ⟨a,xs,B',rfl,e2,e3,e4⟩:=r
    subst e4
    simp only at q
    split at q
    · rename_i hl
      refine ⟨a,rfl,⟨xs,SqL.of e2⟩,q _ H' (a::B') g (fun b hb=>?_) hl fun Hc h1=>Zls (e3.agree h1 fun b hb=>.tail _ hb) fun H2 g2=>SqL.of (g2 _ _ ((h1.1 a (.head _)).trans e2))⟩
      rcases List.mem_cons.mp hb with z | z
      · rw [z]
        exact ⟨⟨_,e2,.lst⟩,r' a (.head _)⟩
      · exact ⟨e3.isl b z,r' b (.tail _ z)⟩
    · exact q.elim
  | scr ns =>
    obtain ⟨a,rfl,e2,_⟩:=r
    simp only at q
    split at q
    · rename_i hl
      exact ⟨a,rfl,⟨_,e2.sq⟩,q _ H' [] g (fun b hb=>nomatch hb) (by rw [length_map];exact hl) fun Hc h2=>Zls RpA.ints fun H2 g2=>((e2.keep h2.2).same g2).sq⟩
    · exact q.elim
  | _=>exact q.elim) fun c x q H' g'=>q H' g')
theorem Zrc (lo:Int)(n:Nat):(Dl.Zgc lo n).length=n:=by simp [Dl.Zgc]
theorem Xad {t:TA}{f:FA}(h:AOk K C E Γ Δ m S t f):IOk K C E Γ Δ [] (Xfg t) (Dl.Zlk f):=fun H0 Hb H σ ρ A Rr I p=>h H0 Hb H σ ρ A _ I (p.bind.imp (fun ds q vs H' g r=>by
  obtain ⟨B,r,_⟩:=r
  split at q
  · split at q
    · rename_i hl
      obtain ⟨v,rfl,r1⟩:=r.one'
      obtain ⟨rfl,_⟩:=r1
      exact ⟨_,rfl,by omega,by omega,q _ H' [] g (fun b hb=>nomatch hb) (by rw [Zrc];show _≤1000000;omega) fun Hc _=>Zqi⟩
    · exact q.elim
  · exact q.elim) fun c x q H' g'=>q H' g')
theorem Xec {t:TA}{f:FA}(h:AOk K C E Γ Δ m S t f):IOk K C E Γ Δ [] (Xfi t) (Dl.Zxw f):=fun H0 Hb H σ ρ A Rr I p=>h H0 Hb H σ ρ A _ I (p.bind.imp (fun ds q vs H' g r=>by
  obtain ⟨B,r,_⟩:=r
  split at q
  · split at q
    · rename_i hl
      obtain ⟨v,w,B,B',rfl,r1,r2⟩:=r.two'
      obtain ⟨rfl,_⟩:=r1
      obtain ⟨rfl,_⟩:=r2
      obtain ⟨h1,h2,h3,h4,h5⟩:=hl
      exact ⟨_,_,rfl,⟨by omega,by omega,by omega,by omega⟩,q _ H' [] g (fun b hb=>nomatch hb) (by rw [Zrc];exact h5) fun Hc _=>Zqi⟩
    · exact q.elim
  · exact q.elim) fun c x q H' g'=>q H' g')
theorem Xcz {J:It}{ds:List D}{Hc H:Hp}{Dd:Addr}{k:Nat}{g:TG}{tc:TT}{te:TE}{σ:St}{Rr:Hp→Prop}(go:Goes K C J ds Hc)(Pv:Nat→Hp→Prop)(h0:Pv 0 (upd H Dd (.lst [])))(hb:∀i H,Pv i H→Xx Hc H)
    (hs:∀i d x B H H3,ds[i]?=some d→Pv i H→Xx H H3→Rp K C H3 d x B→(∀a∈B,Hc a≠none)→∀os:St,os.length=k→g x (σ++os) H3 fun σ' Hg=>(∃os',os'.length=k∧σ'=σ++os')∧tc σ' Hg fun b H2=>if b=true then te σ' H2 fun v H3=>∃ys,H3 Dd=some (.lst ys)∧ys.length<sizeLine∧Pv (i+1) (upd H3 Dd (.lst (ys++[v]))) else Pv (i+1) H2)
    (hd:∀H,Pv ds.length H→Rr H) :
    ∃W:Nat→Nat→Hp→Prop,(∃m,W 0 m (upd H Dd (.lst [])))∧∀i m H,W i m H→
      (J.stop i H∧Rr H)∨(J.go i H∧∃N:Hp→Prop,(∀H',N H'→∃m',m'<m∧W (i+1) m' H')∧∀x H',J.yld i H x H'→∀os:St,os.length=k→g x (σ++os) H' fun σ' Hg=>(∃os',os'.length=k∧σ'=σ++os')∧tc σ' Hg fun b H2 =>
        if b=true then te σ' H2 fun v H3=>∃ys,H3 Dd=some (.lst ys)∧ys.length<sizeLine∧N (upd H3 Dd (.lst (ys++[v])))
        else N H2):=by
  refine ⟨fun i m H=>m=ds.length - i∧i≤ds.length∧Pv i H,⟨ds.length,by simp,zero_le _,h0⟩,?_⟩
  rintro i m H1 ⟨rfl,hi,p⟩
  obtain ⟨g1,g2,g3⟩:=go H1 (hb i H1 p)
  by_cases hlt:i<ds.length
  · refine .inr ⟨g1 i hlt,Pv (i+1),fun H' p'=>⟨ds.length - (i+1),by omega,rfl,hlt,p'⟩,fun x H' y=>?_⟩
    obtain ⟨e,d,B,y1,y2,y3⟩:=g3 i x H' hlt y
    exact hs i d x B H1 H' y1 p e y2 y3
  · have e:i=ds.length:=by omega
    subst e
    exact .inl ⟨g2 _ (le_refl _),hd H1 p⟩
theorem Xle {J:It}{ds:List D}{Hc H:Hp}{g:TG}{tb:TS}{Dd:Ends}{σ:St}(go:Goes K C J ds Hc)(Pv:Nat→St→Hp→Prop)(h0:Pv 0 σ H)(hb:∀i σ H,Pv i σ H→Xx Hc H)
  (hs:∀i d x B σ H H3,ds[i]?=some d→Pv i σ H→Xx H H3→Rp K C H3 d x B→(∀a∈B,Hc a≠none)→g x σ H3 fun σ2 H2=>tb {Dd with nx:=Pv (i+1),ct:=Pv (i+1),bk:=Dd.nx} σ2 H2) (hd:∀σ H,Pv ds.length σ H→Dd.nx σ H) :
  ∃W:Nat→Nat→St→Hp→Prop,(∃m,W 0 m σ H)∧∀i m σ H,W i m σ H→
   (J.stop i H∧Dd.nx σ H)∨(J.go i H∧∃N:St→Hp→Prop,(∀σ' H',N σ' H'→∃m',m'<m∧W (i+1) m' σ' H')∧∀x H',J.yld i H x H'→g x σ H' fun σ2 H2=>tb {Dd with nx:=N,ct:=N,bk:=Dd.nx} σ2 H2):=by
 refine ⟨fun i m σ H=>m=ds.length - i∧i≤ds.length∧Pv i σ H,⟨ds.length,by simp,zero_le _,h0⟩,?_⟩
 rintro i m σ H1 ⟨rfl,hi,p⟩
 obtain ⟨g1,g2,g3⟩:=go H1 (hb i σ H1 p)
 by_cases hlt:i<ds.length
 ·refine .inr ⟨g1 i hlt,Pv (i+1),fun σ' H' p'=>⟨ds.length - (i+1),by omega,rfl,hlt,p'⟩,fun x H' y=>?_⟩
  obtain ⟨e,d,B,y1,y2,y3⟩:=g3 i x H' hlt y
  exact hs i d x B σ H1 H' y1 p e y2 y3
 ·have e:i=ds.length:=by omega
  subst e
  exact .inl ⟨g2 _ (le_refl _),hd σ H1 p⟩
theorem Zy.more {H0 Hb H:Hp}{σ:St}{ρ:Yq}{A:Nat→List Addr}(I:Zy K C H0 Hb H Γ Δ σ ρ A)(os:St):Zy K C H H H [] [] (σ++os) (ρ++List.replicate os.length none) A:=by
 refine ⟨Xx.refl _,Xx.refl _,by rw [length_append,length_append,I.len,length_replicate],fun i e h=>?_,fun i h=>?_,(fun _ h=>nomatch h),(fun _ h=>nomatch h),(fun _ h=>nomatch h)⟩
 ·by_cases hi:i<ρ.length
  ·rw [getElem?_append_left hi] at h
   obtain ⟨w,q1,q2⟩:=I.rep i e h
   refine ⟨w,?_,q2⟩
   rw [getElem?_append_left (by rw [I.len];exact hi)]
   exact q1
  ·rw [getElem?_append_right (by omega)] at h
   have hm:=mem_of_getElem? h
   rw [List.mem_replicate] at hm
   exact absurd hm.2 (by intro z;cases z)
 ·refine I.nil i fun e h'=>h e ?_
  rw [getElem?_append_left (List.getElem?_eq_some_iff.mp h').1]
  exact h'
def NOk (K:Frag)(C:String→Addr)(n k:Nat)(g:TG)(b:FB):Prop:=∀(H:Hp) (σ os:St) (ρ:Yq) (A:Nat→List Addr) (d:D) (v:V) (B:List Addr) (Rr:St→Hp→Prop),σ.length=n→os.length=k→Zy K C H H H [] [] (σ++os) ρ A→Rp K C H d v B→
 Yi (b d ρ) (fun ρ'=>∀os' A',os'.length=k→Zy K C H H H [] [] (σ++os') ρ' A'→Rr (σ++os') H) (fun _ _=>False)→g v (σ++os) H Rr
def NsOk (K:Frag)(C:String→Addr)(n k:Nat)(g:TGs)(b:List D→Yq→R Yq):Prop:=∀(H:Hp) (σ os:St) (ρ:Yq) (A:Nat→List Addr) (d:List D) (v:List V) (B:List Addr) (Rr:St→Hp→Prop),σ.length=n→os.length=k→Zy K C H H H [] [] (σ++os) ρ A→RpA K C H d v B→
 Yi (b d ρ) (fun ρ'=>∀os' A',os'.length=k→Zy K C H H H [] [] (σ++os') ρ' A'→Rr (σ++os') H) (fun _ _=>False)→g v (σ++os) H Rr
theorem Ztr (k:Nat)(b:FB)(c:FT)(e:FE)(ρ:Yq)(xs:List D){i:Nat}{x:D}(h:xs[i]?=some x):Dl.Zeo k b c e ρ (xs.drop i)=(b x (ρ++List.replicate k none)).calm.bind fun ρ1=>(c ρ1).bind fun t=>if t then (e ρ1).bind fun y=>(Dl.Zeo k b c e ρ (xs.drop (i+1))).bind fun ys=>.ok (y::ys) else Dl.Zeo k b c e ρ (xs.drop (i+1)):=by
 obtain ⟨hi,rfl⟩:=List.getElem?_eq_some_iff.mp h
 rw [drop_eq_getElem_cons hi]
 rfl
theorem Zin {α:Type}{r:R α}{ok:α→Prop}{er:String→Option Int→Prop}(h:Yi r.calm ok er):Yi r ok (fun _ _=>False):=by
 cases r with
 | ok a=>exact h
 | err c x=>exact h
 | bad=>exact h
theorem get_set {α:Type}{l:List α}{i j:Nat}{x y:α}(h:(l.set i x)[j]?=some y):(j=i∧i<l.length∧y=x)∨(j≠i∧l[j]?=some y):=by
 by_cases e:i=j
 ·subst e
  rw [List.getElem?_set_self'] at h
  by_cases hi:i<l.length
  ·rw [getElem?_eq_getElem hi] at h
   simp at h
   exact .inl ⟨rfl,hi,h.symm⟩
  ·rw [List.getElem?_eq_none (by omega)] at h
   cases h
 ·rw [getElem?_set_ne e] at h
  exact .inr ⟨fun z=>e z.symm,h⟩
theorem Zy.put {H0 Hb H:Hp}{σ:St}{ρ:Yq}{A:Nat→List Addr}{i:Nat}{d:D}{v:V}{B:List Addr}(I:Zy K C H0 Hb H Γ Δ σ ρ A)(r:Rp K C H d v B)
  (h1:∀j∈Γ',j≠i→j∈Γ∧∀a l,A j=a::l→a∉B)
  (h2:i∈Γ'→(∀a∈B,H0 a=none)∧∀a l,B=a::l→Hb a=none∧a∉l∧∀j,j≠i→a∉A j)
  (h3:∀j∈Δ',j≠i→j∈Δ∧∀a∈A j,a∉B)
  (h4:i∈Δ'→B.Nodup∧(∀j,j≠i→∀a∈B,a∉A j)∧∀a∈B,Hb a=none):∃A',Zy K C H0 Hb H Γ' Δ' (σ.set i (some v)) (ρ.set i (some d)) A'∧∀j a,a∈A' j→a∈B∨a∈A j:=by
 by_cases hi:i<ρ.length
 ·refine ⟨fun j=>if j=i then B else A j,⟨I.s0,I.same,by rw [length_set,length_set,I.len],fun j e h=>?_,fun j h=>?_,fun j hj a ha=>?_,fun j hj a l e=>?_,fun j hj=>?_⟩,fun j a ha=>?_⟩
  ·rcases get_set h with ⟨e1,_,e2⟩ | ⟨e1,e2⟩
   ·subst e1
    cases e2
    refine ⟨v,?_,by rw [if_pos rfl];exact r⟩
    rw [getElem?_set_self (by rw [I.len];exact hi)]
   ·obtain ⟨w,q1,q2⟩:=I.rep j e e2
    refine ⟨w,?_,by rw [if_neg e1];exact q2⟩
    rw [getElem?_set_ne (fun z=>e1 z.symm)]
    exact q1
  ·by_cases e:j=i
   ·subst e
    exact absurd (getElem?_set_self hi) (h d)
   ·rw [if_neg e]
    refine I.nil j fun x hx=>h x ?_
    rw [getElem?_set_ne (fun z=>e z.symm)]
    exact hx
  ·by_cases e:j=i
   ·subst e
    rw [if_pos rfl] at ha
    exact (h2 hj).1 a ha
   ·rw [if_neg e] at ha
    exact I.loc j (h1 j hj e).1 a ha
  ·by_cases e':j=i
   ·subst e'
    rw [if_pos rfl] at e
    obtain ⟨q0,q1,q2⟩:=(h2 hj).2 a l e
    refine ⟨q0,q1,fun k hk=>?_⟩
    rw [if_neg hk]
    exact q2 k hk
   ·rw [if_neg e'] at e
    obtain ⟨q0,q⟩:=h1 j hj e'
    obtain ⟨q3,q1,q2⟩:=I.top j q0 a l e
    refine ⟨q3,q1,fun k hk=>?_⟩
    by_cases ek:k=i
    ·rw [if_pos ek];exact q a l e
    ·rw [if_neg ek];exact q2 k hk
  ·by_cases e:j=i
   ·subst e
    rw [if_pos rfl]
    obtain ⟨q1,q2,q3⟩:=h4 hj
    refine ⟨q1,fun k hk a ha=>?_,q3⟩
    rw [if_neg hk]
    exact q2 k hk a ha
   ·rw [if_neg e]
    obtain ⟨q0,q⟩:=h3 j hj e
    obtain ⟨q1,q2,q3⟩:=I.deep j q0
    refine ⟨q1,fun k hk a ha=>?_,q3⟩
    by_cases ek:k=i
    ·rw [if_pos ek];exact q a ha
    ·rw [if_neg ek];exact q2 k hk a ha
  ·have ha:a∈(if j=i then B else A j):=ha
   by_cases e:j=i
   ·rw [if_pos e] at ha;exact .inl ha
   ·rw [if_neg e] at ha;exact .inr ha
 ·have e1:ρ.set i (some d)=ρ:=List.set_eq_of_length_le (by omega)
  have e2:σ.set i (some v)=σ:=List.set_eq_of_length_le (by rw [I.len];omega)
  have e3:A i=[]:=I.nil i fun x h=>by
   have:=(List.getElem?_eq_some_iff.mp h).1
   omega
  refine ⟨A,?_,fun j a ha=>.inr ha⟩
  rw [e1,e2]
  refine ⟨I.s0,I.same,I.len,I.rep,I.nil,fun j hj a ha=>?_,fun j hj a l e=>?_,fun j hj=>?_⟩
  ·by_cases e:j=i
   ·subst e;rw [e3] at ha;cases ha
   ·exact I.loc j (h1 j hj e).1 a ha
  ·by_cases e':j=i
   ·subst e';rw [e3] at e;cases e
   ·exact I.top j (h1 j hj e').1 a l e
  ·by_cases e:j=i
   ·subst e
    rw [e3]
    exact ⟨nodup_nil,fun _ _ _ h=>(nomatch h),fun _ h=>(nomatch h)⟩
   ·exact I.deep j (h3 j hj e).1
theorem Zy.writeO {H0 Hb H:Hp}{σ:St}{ρ:Yq}{A:Nat→List Addr}{i:Nat}{es:List D}{ys:List V}{o':HO}{d':D}{B':List Addr}{a:Addr}{l:List Addr}(I:Zy K C H0 Hb H Γ Δ σ ρ A)(hi:i∈Γ)(hA:A i=a::l)(hl:i<ρ.length)(hs:σ[i]?=some (some (.ref a)))
  (mk:∀H',H' a=some o'→RpA K C H' es ys B'→Rp K C H' d' (.ref a) (a::B')) (r:RpA K C H es ys B') (hn:∀b∈B',H0 b=none) (ha:a∉B')
  (h1:∀j∈Γ',j≠i→j∈Γ∧∀b l,A j=b::l→b∉B')
  (h2:∀j∈Δ',j≠i→j∈Δ∧∀b∈A j,b∉B')
  (h3:i∈Δ'→B'.Nodup∧(∀j,j≠i→∀b∈B',b∉A j)∧∀b∈B',Hb b=none):∃A',Zy K C H0 Hb (upd H a o') Γ' Δ' σ (ρ.set i (some d')) A':=by
 obtain ⟨xs,hxs,hm⟩:=I.is (j:=i) (a:=a) (by rw [hA];exact .head _)
 have hne:∀j,j≠i→a∉A j:=(I.top i hi a l hA).2.2
 have hb0:Hb a=none:=(I.top i hi a l hA).1
 have h0:H0 a=none:=I.loc i hi a (by rw [hA];exact .head _)
 have ext:Ext (fun b=>b=a) H (upd H a o'):=fun b o h=>by
  by_cases e:b=a
  ·subst e
   rw [hxs] at h
   cases h
   exact .inr ⟨rfl,hm⟩
  ·rw [Yd e]
   exact .inl h
 refine ⟨fun j=>if j=i then a::B' else A j,I.s0,fun b o h=>?_,by rw [length_set,I.len],fun j e h=>?_,fun j h=>?_,fun j hj b hb=>?_,fun j hj b l' e=>?_,fun j hj=>?_⟩
 ·rw [Yd (Jb h hb0)]
  exact I.same b o h
 ·rcases get_set h with ⟨e1,_,e2⟩ | ⟨e1,e2⟩
  ·subst e1
   cases e2
   refine ⟨.ref a,hs,?_⟩
   rw [if_pos rfl]
   exact mk _ Ja (r.ext ext (fun b hb h=>ha (by rw [h] at hb;exact hb)))
  ·obtain ⟨w,q1,q2⟩:=I.rep j e e2
   refine ⟨w,q1,?_⟩
   rw [if_neg e1]
   exact q2.ext ext fun b hb h=>hne j e1 (by rw [h] at hb;exact hb)
 ·by_cases e:j=i
  ·subst e
   exact absurd (getElem?_set_self hl) (h _)
  ·rw [if_neg e]
   refine I.nil j fun x hx=>h x ?_
   rw [getElem?_set_ne (fun z=>e z.symm)]
   exact hx
 ·by_cases e:j=i
  ·subst e
   rw [if_pos rfl] at hb
   rcases List.mem_cons.mp hb with z | z
   ·rw [z];exact h0
   ·exact hn b z
  ·rw [if_neg e] at hb
   exact I.loc j (h1 j hj e).1 b hb
 ·by_cases e':j=i
  ·subst e'
   rw [if_pos rfl] at e
   cases e
   refine ⟨hb0,ha,fun k hk=>?_⟩
   rw [if_neg hk]
   exact hne k hk
  ·rw [if_neg e'] at e
   obtain ⟨q0,q⟩:=h1 j hj e'
   obtain ⟨q3,q1,q2⟩:=I.top j q0 b l' e
   refine ⟨q3,q1,fun k hk=>?_⟩
   by_cases ek:k=i
   ·rw [if_pos ek]
    intro z
    rcases List.mem_cons.mp z with z | z
    ·exact hne j e' (by rw [e,z];exact .head _)
    ·exact q b l' e z
   ·rw [if_neg ek];exact q2 k hk
 ·by_cases e:j=i
  ·subst e
   rw [if_pos rfl]
   obtain ⟨q1,q2,q3⟩:=h3 hj
   refine ⟨List.nodup_cons.mpr ⟨ha,q1⟩,fun k hk b hb=>?_,fun b hb=>?_⟩
   ·rw [if_neg hk]
    rcases List.mem_cons.mp hb with z | z
    ·rw [z];exact hne k hk
    ·exact q2 k hk b z
   ·rcases List.mem_cons.mp hb with z | z
    ·rw [z];exact hb0
    ·exact q3 b z
  ·rw [if_neg e]
   obtain ⟨q0,q⟩:=h2 j hj e
   obtain ⟨q1,q2,q3⟩:=I.deep j q0
   refine ⟨q1,fun k hk b hb=>?_,q3⟩
   by_cases ek:k=i
   ·rw [if_pos ek]
    intro z
    rcases List.mem_cons.mp z with z | z
    ·exact hne j e (by rw [← z];exact hb)
    ·exact q b hb z
   ·rw [if_neg ek];exact q2 k hk b hb
theorem Zy.write {H0 Hb H:Hp}{σ:St}{ρ:Yq}{A:Nat→List Addr}{i:Nat}{es:List D}{ys:List V}{B':List Addr}{a:Addr}{l:List Addr}(I:Zy K C H0 Hb H Γ Δ σ ρ A)(hi:i∈Γ)(hA:A i=a::l)(hl:i<ρ.length)(hs:σ[i]?=some (some (.ref a)))
  (r:RpA K C H es ys B') (hn:∀b∈B',H0 b=none) (ha:a∉B')
  (h1:∀j∈Γ',j≠i→j∈Γ∧∀b l,A j=b::l→b∉B')
  (h2:∀j∈Δ',j≠i→j∈Δ∧∀b∈A j,b∉B')
  (h3:i∈Δ'→B'.Nodup∧(∀j,j≠i→∀b∈B',b∉A j)∧∀b∈B',Hb b=none):∃A',Zy K C H0 Hb (upd H a (.lst ys)) Γ' Δ' σ (ρ.set i (some (.lst es))) A':=I.writeO hi hA hl hs (fun _ q1 q2=>⟨a,_,_,rfl,q1,q2,rfl⟩) r hn ha h1 h2 h3
theorem Zzp {n k:Nat}(i:Nat)(h1:n≤i)(h2:i<n+k):NOk K C n k (Zdh i) (Dl.Xe i):=fun H σ os ρ A d v B Rr hσ hos I r p=>by
 have e:(σ++os).set i (some v)=σ++os.set (i - n) (some v):=by rw [← hσ,set_append_right _ _ (by omega)]
 obtain ⟨A',I',_⟩:=I.put (Γ':=[]) (Δ':=[]) (i:=i) r (fun _ h=>nomatch h) (fun h=>nomatch h) (fun _ h=>nomatch h) (fun h=>nomatch h)
 show Rr ((σ++os).set i (some v)) H
 rw [e] at I' ⊢
 exact p _ A' (by rw [length_set];exact hos) I'
theorem Zrs {n k:Nat}{g:TG}{wi:TI}{tc:TT}{te:TE}{fi:FI}{fb:FB}{fc:FT}{fe:FE}(hi:IOk K C E Γ Δ S wi fi)(hg:NOk K C n k g fb)(hc:TOk K C E0 [] [] tc fc)(he:EOk K C E0 [] [] 2 [] te fe):EOk K C E Γ Δ 2 [] (Zis k g wi tc te) (Dl.Zcg n k fi fb fc fe):=fun H0 Hb H σ ρ A Q I p=>by
  unfold Dl.Zcg at p
  split at p
  · rename_i hn
    refine hi H0 Hb H σ ρ A _ I (p.bind.imp (fun ds q J H1 W g1 hW hlen hJ Dd hD=>?_) fun c x q H' g'=>q H' g')
    have I1:=I.mono g1
    have go:Goes K C J ds H1:=hJ H1 ⟨fun _ _=>rfl,fun b o h _=>h⟩
    have q':=Zin q.bind
    refine Xcz go (fun i H2=>Xx H1 H2∧∃(us:List D) (ys:List V) (B':List Addr),H2 Dd=some (.lst ys)∧us.length≤i∧RpA K C H2 us ys B'∧B'.Nodup∧Dd∉B'∧(∀a∈B',H1 a=none)∧
      Yi (Dl.Zeo k fb fc fe ρ (ds.drop i)) (fun zs=>∀v H',Xx H H'→Res K C 2 [] H A (.lst (us++zs)) v H'→Q v H') (fun _ _=>False)) ⟨sameNew hD _,[],[],[],Ja,le_refl _,RpA.nil,nodup_nil,(fun h=>nomatch h),(fun _ h=>nomatch h),q'⟩ (fun _ _ h=>h.1) ?_ ?_
    · rintro i x v Bx H2a H2 hx ⟨g2a,us,ys,B',hD2,hul,ru,nd,hDB,hnew,pq⟩ g2b rx _ os hos
      have g2:=g2a.trans g2b
      have hil:=(List.getElem?_eq_some_iff.mp hx).1
      rw [Ztr _ _ _ _ _ _ hx] at pq
      have I2:=(I1.mono g2).more os
      have pq':=Zin pq.bind
      rw [← hos] at pq'
      refine hg H2 σ os _ A x v Bx _ (by rw [I.len,hn]) hos I2 rx (pq'.imp (fun ρ1 pq os1 A1 ho1 I3=>⟨⟨os1,ho1,rfl⟩,?_⟩) fun _ _ z=>z)
      refine hc H2 H2 H2 _ _ _ _ I3 (pq.bind.imp (fun b pq H3 g3=>?_) fun _ _ z=>z.elim)
      have hD2':=g2b _ _ hD2
      have ru':=ru.same g2b
      cases b with
      | false =>
        simp only [Bool.false_eq_true,if_false] at pq ⊢
        rw [hos] at pq
        exact ⟨g2.trans g3,us,ys,B',g3 _ _ hD2',by omega,ru'.same g3,nd,hDB,hnew,pq⟩
      | true =>
        simp only [if_true] at pq ⊢
        refine he H2 H2 H3 _ _ _ _ (I3.mono g3) (pq.bind.imp (fun y pq w H4 g4 r4=>?_) fun _ _ z=>z.elim)
        rw [hos] at pq
        obtain ⟨By,ry,hy1,_,hy2⟩:=r4
        have g24:=g3.trans g4
        have hD4:=g24 _ _ hD2'
        have hnewy:∀a∈By,H3 a=none:=fun a ha=>(hy1 a ha).elim id fun z=>z.none.elim
        have hDy:Dd∉By:=fun h=>by
          have z:=hnewy Dd h
          rw [g3 _ _ hD2'] at z
          cases z
        have ext:Ext (fun a=>a=Dd) H4 (upd H4 Dd (.lst (ys++[w]))):=fun b o h=>by
          by_cases e:b=Dd
          · subst e
            rw [hD4] at h
            cases h
            exact .inr ⟨rfl,.lst⟩
          · rw [Yd e]
            exact .inl h
        have hDB':Dd∉B'++By:=fun h=>(List.mem_append.mp h).elim hDB hDy
        refine ⟨ys,hD4,?_,?_,us++[y],ys++[w],B'++By,Ja,by rw [length_append];simp;omega,?_,?_,hDB',?_,?_⟩
        · rw [ru.len]
          exact Zgt (by omega)
        · intro b o h
          have hb:b≠Dd:=Jb h hD
          rw [Yd hb]
          exact (g2.trans g24) b o h
        · exact ((ru'.same g24).app (RpA.one ry)).ext ext fun a ha h=>hDB' (by rw [h] at ha;exact ha)
        · refine List.nodup_append.mpr ⟨nd,hy2 rfl,fun a ha b hb e=>?_⟩
          subst e
          obtain ⟨xs,z,_⟩:=(ru'.same g3).isl a ha
          rw [hnewy a hb] at z
          cases z
        · intro a ha
          rcases List.mem_append.mp ha with h | h
          · exact hnew a h
          · exact (g2.trans g3).free (hnewy a h)
        · exact pq.bind.imp (fun zs pq v H' g' r=>by
            rw [append_assoc] at r
            exact pq v H' g' r) fun _ _ z=>z
    · rintro H2 ⟨g2,us,ys,B',hD2,hul,ru,nd,hDB,hnew,pq⟩
      rw [List.drop_length] at pq
      have pq:∀v H',Xx H H'→Res K C 2 [] H A (.lst (us++[])) v H'→Q v H':=pq
      rw [append_nil] at pq
      refine pq _ H2 (g1.trans g2) ⟨Dd::B',⟨Dd,ys,B',rfl,hD2,ru,rfl⟩,fun a ha=>.inl ?_,(fun z=>nomatch z),fun _=>List.nodup_cons.mpr ⟨hDB,nd⟩⟩
      rcases List.mem_cons.mp ha with h | h
      · rw [h];exact g1.free hD
      · exact g1.free (hnew a h)
  · exact p.elim
end
section
variable {K:Frag}{C:String→Addr}{E:XK}{Γ Δ Γ' Δ' Γ1 Δ1 Γl Δl Γk Δk:List Nat}{m m1 m2 m3 mr:Nat}{S S1 S2 S3:List (Nat×Bool)}{H:Hp}{Q:VK}
theorem Zne.weak {H0 Hb:Hp}{D:Ends}{r:R Fl}(h:Zne K C E mr Γl Δl Γ' Δ' H0 Hb D r)(h1:∀i∈Γ',i∈Γ1)(h2:∀i∈Δ',i∈Δ1):Zne K C E mr Γl Δl Γ1 Δ1 H0 Hb D r:=by
 unfold Zne at *
 refine Yi.imp h (fun fl q=>?_) fun _ _ q=>q
 cases fl with
 | nx ρ'=>exact fun σ' H' A' I=>q σ' H' A' (I.weak h1 h2)
 | ret d=>exact q
 | brk ρ'=>exact q
 | cnt ρ'=>exact q
theorem Zzm {t:TS}{f:FS}(h:SOk K C E mr Γl Δl Γ Δ Γ1 Δ1 t f)(h1:∀i∈Γ',i∈Γ1:=by decide)(h2:∀i∈Δ',i∈Δ1:=by decide):SOk K C E mr Γl Δl Γ Δ Γ' Δ' t f:=fun H0 Hb H σ ρ A D I p =>
 h H0 Hb H σ ρ A D I (p.weak h1 h2)
theorem Xoo:SOk K C E mr Γl Δl Γ Δ Γ Δ Xdz Dl.sNx:=fun _ _ H σ _ A _ I p=>p σ H A I
theorem Zye:SOk K C E mr Γl Δl Γ Δ Γ' Δ' Zsl Dl.Zhq:=fun _ _ _ _ _ _ _ _ p=>p.elim
theorem Xmn {t u:TS}{f g:FS}(h1:SOk K C E mr Γl Δl Γ Δ Γ1 Δ1 t f)(h2:SOk K C E mr Γl Δl Γ1 Δ1 Γ' Δ' u g):SOk K C E mr Γl Δl Γ Δ Γ' Δ' (tSeq t u) (Dl.Xt f g):=fun H0 Hb H σ ρ A D I p =>
  h1 H0 Hb H σ ρ A _ I (Yi.imp (Yi.bind p) (fun fl q=>by
    cases fl with
    | nx ρ'=>exact fun σ' H' A' I'=>h2 H0 Hb H' σ' ρ' A' D I' q
    | ret d=>exact q
    | brk ρ'=>exact q
    | cnt ρ'=>exact q) fun _ _ q=>q)
theorem Xx.from0 {H0 Hb H H':Hp}{σ:St}{ρ:Yq}{A:Nat→List Addr}(I:Zy K C H0 Hb H Γ Δ σ ρ A)(g:Xx H H'):Xx H0 H':=I.s0.trans (I.same.trans g)
theorem Zy.top_out {H0 Hb H:Hp}{σ:St}{ρ:Yq}{A:Nat→List Addr}(I:Zy K C H0 Hb H Γ Δ σ ρ A){j:Nat}(hj:j∈Γ)(hS:(j,false)∉S){a:Addr}{l:List Addr}(e:A j=a::l):¬InS A S a:=fun h=>by
 obtain ⟨q0,q1,q2⟩:=I.top j hj a l e
 obtain ⟨p,hp,q⟩:=h
 split at q
 ·by_cases ep:p.1=j
  ·rw [ep,e] at q
   exact q1 q
  ·exact q2 p.1 ep (List.mem_of_mem_tail q)
 ·rename_i hf
  by_cases ep:p.1=j
  ·refine hS ?_
   have:p=(j,false):=by
    obtain ⟨p1,p2⟩:=p
    simp at ep hf
    rw [ep,hf]
   rw [← this]
   exact hp
  ·exact q2 p.1 ep q
theorem Zy.deep_out {H0 Hb H:Hp}{σ:St}{ρ:Yq}{A:Nat→List Addr}(I:Zy K C H0 Hb H Γ Δ σ ρ A){j:Nat}(hj:j∈Δ)(hS:∀p∈S,p.1≠j){a:Addr}(e:a∈A j):¬InS A S a:=fun h=>by
 obtain ⟨p,hp,q⟩:=h.mem
 exact (I.deep j hj).2.1 p.1 (hS p hp) a e q
theorem Zrv {i:Nat}{te:TE}{fe:FE}(he:EOk K C E Γ Δ 2 [] te fe)(h1:∀j∈Γ',j=i∨j∈Γ:=by decide)(h2:∀j∈Δ',j=i∨j∈Δ:=by decide):SOk K C E mr Γl Δl Γ Δ Γ' Δ' (Zth te (Zdh i)) (Dl.Yt i fe):=fun H0 Hb H σ ρ A D I p =>
  he H0 Hb H σ ρ A _ I (Yi.imp (Yi.bind p) (fun d q v H1 g1 r=>by
    obtain ⟨B,r1,r2,r3,r4⟩:=r
    have hn:∀a∈B,H a=none:=fun a ha=>(r2 a ha).elim id fun z=>z.none.elim
    have nd:=r4 rfl
    obtain ⟨A',I',_⟩:=(I.mono g1).put (Γ':=Γ') (Δ':=Δ') (i:=i) r1 (fun j hj e=>⟨(h1 j hj).elim (fun z=>absurd z e) id,fun a l e' ha=>I.ne (j:=j) (by rw [e'];exact .head _) (hn a ha)⟩)
      (fun _=>⟨fun a ha=>I.s0.free (I.same.free (hn a ha)),fun a l e=>by subst e;exact ⟨I.same.free (hn a (.head _)),(List.nodup_cons.mp nd).1,fun j _ h=>I.ne h (hn a (.head _))⟩⟩)
      (fun j hj e=>⟨(h2 j hj).elim (fun z=>absurd z e) id,fun a ha hB=>I.ne ha (hn a hB)⟩)
      (fun _=>⟨nd,fun j _ a ha h=>I.ne h (hn a ha),fun a ha=>I.same.free (hn a ha)⟩)
    exact q _ H1 A' I') fun c x q H' g'=>q H' (Xx.from0 I g'))
theorem Xbv {te:TE}{fe:FE}(he:EOk K C E Γ Δ 2 S te fe)(h0:∀p∈S,p.1∈Δ:=by decide):SOk K C E 2 Γl Δl Γ Δ Γ' Δ' (tRet te) (Dl.Zal fe):=fun H0 Hb H σ ρ A D I p =>
  he H0 Hb H σ ρ A _ I (Yi.imp (Yi.bind p) (fun d q v H1 g1 r=>by
    obtain ⟨B,r1,r2,r3,r4⟩:=r
    refine q v H1 (Xx.from0 I g1) ⟨B,r1,fun a ha=>.inl ((r2 a ha).elim (fun z=>I.s0.free (I.same.free z)) fun z=>?_),(fun z=>nomatch z),r4⟩
    obtain ⟨p,hp,z⟩:=z.mem
    exact I.s0.free ((I.deep p.1 (h0 p hp)).2.2 a z)) fun c x q H' g'=>q H' (Xx.from0 I g'))
theorem Xrr {tc:TT}{t u:TS}{fc:FT}{f g:FS}(hc:TOk K C E Γ Δ tc fc)(h1:SOk K C E mr Γl Δl Γ Δ Γ' Δ' t f)(h2:SOk K C E mr Γl Δl Γ Δ Γ' Δ' u g):SOk K C E mr Γl Δl Γ Δ Γ' Δ' (tIfS tc t u) (Dl.sIf fc f g):=fun H0 Hb H σ ρ A D I p =>
  hc H0 Hb H σ ρ A _ I (Yi.imp (Yi.bind p) (fun b q H1 g1=>by
    cases b with
    | true=>exact h1 H0 Hb H1 σ ρ A D (I.mono g1) q
    | false=>exact h2 H0 Hb H1 σ ρ A D (I.mono g1) q) fun c x q H' g'=>q H' (Xx.from0 I g'))
theorem Zzw {H0 Hb H:Hp}{σ:St}{ρ:Yq}{A:Nat→List Addr}{i:Nat}{ds:List D}(I:Zy K C H0 Hb H Γ Δ σ ρ A)(e:ρ[i]?=some (some (.lst ds))):∃a xs l,σ[i]?=some (some (.ref a))∧H a=some (.lst xs)∧RpA K C H ds xs l∧A i=a::l∧i<ρ.length:=by
 obtain ⟨v,q1,a,xs,l,rfl,q3,q4,q5⟩:=I.rep i _ e
 exact ⟨a,xs,l,q1,q3,q4,q5,(List.getElem?_eq_some_iff.mp e).1⟩
theorem Xdh {i:Nat}{te:TE}{fe:FE}(hi:i∈Γ:=by decide)(he:EOk K C E Γ Δ 2 [] te fe):SOk K C E mr Γl Δl Γ Δ Γ Δ (Znn (tBM K "list" Zdy (Zme i) (Zbk te Zlw))) (Dl.Zlg i fe):=fun H0 Hb H σ ρ A D I p=>by
  unfold Dl.Zlg at p
  split at p
  · rename_i ds e
    obtain ⟨a,xs,l,s1,h1,r1,hA,hl⟩:=Zzw I e
    refine ⟨.ref a,s1,.inl ⟨rfl,xs,SqL.of h1⟩,he H0 Hb H σ ρ A _ I (Yi.imp (Yi.bind p) (fun d q v H1 g1 r=>?_) fun c x q H' g'=>q H' (Xx.from0 I g'))⟩
    split at q
    · rename_i hz
      obtain ⟨B,r2,r3,_,r4⟩:=r
      have hn:∀a∈B,H a=none:=fun a ha=>(r3 a ha).elim id fun z=>z.none.elim
      have h1':=g1 _ _ h1
      show Zdy (.ref a) [v] H1 fun _ H3=>D.nx σ H3
      refine Xow h1' (by rw [r1.len];exact Zgt hz) ?_
      obtain ⟨tb,ta,tt⟩:=I.top i hi a l hA
      have I1:=I.mono g1
      have haB:a∉B:=fun z=>by
        have:=hn a z
        rw [h1] at this
        cases this
      have w1:∀b∈l++B,H0 b=none:=fun b hb=>by
        rcases List.mem_append.mp hb with z | z
        · exact I.loc i hi b (by rw [hA];exact .tail _ z)
        · exact I.s0.free (I.same.free (hn b z))
      have w2:∀j∈Γ,j≠i→j∈Γ∧∀b l',A j=b::l'→b∉l++B:=fun j hj e=>⟨hj,fun b l' e' z=>by
        rcases List.mem_append.mp z with z | z
        · exact (I.top j hj b l' e').2.2 i (fun w=>e w.symm) (by rw [hA];exact .tail _ z)
        · exact I.ne (j:=j) (by rw [e'];exact .head _) (hn b z)⟩
      have w3:∀j∈Δ,j≠i→j∈Δ∧∀b∈A j,b∉l++B:=fun j hj e=>⟨hj,fun b hb z=>by
        rcases List.mem_append.mp z with z | z
        · exact (I.deep j hj).2.1 i (fun w=>e w.symm) b hb (by rw [hA];exact .tail _ z)
        · exact I.ne hb (hn b z)⟩
      have w4:i∈Δ→(l++B).Nodup∧(∀j,j≠i→∀b∈l++B,b∉A j)∧∀b∈l++B,Hb b=none:=fun hd=>by
        obtain ⟨d1,d2,d3⟩:=I.deep i hd
        rw [hA] at d1 d2 d3
        refine ⟨List.nodup_append.mpr ⟨(List.nodup_cons.mp d1).2,r4 rfl,fun x hx y hy e=>?_⟩,fun j hj b hb=>?_,fun b hb=>?_⟩
        · subst e
          exact I.ne (j:=i) (by rw [hA];exact .tail _ hx) (hn x hy)
        · rcases List.mem_append.mp hb with z | z
          · exact d2 j hj b (.tail _ z)
          · exact fun w=>I.ne w (hn b z)
        · rcases List.mem_append.mp hb with z | z
          · exact d3 b (.tail _ z)
          · exact I.same.free (hn b z)
      obtain ⟨A',I'⟩:=I1.write (Γ':=Γ) (Δ':=Δ) hi hA hl s1 ((r1.same g1).app (RpA.one r2)) w1 (fun z=>(List.mem_append.mp z).elim ta haB) w2 w3 w4
      exact q _ _ A' I'
    · exact q.elim
  · exact p.elim
def BOk (K:Frag)(C:String→Addr)(Γ Δ:List Nat)(g:TG)(b:FB):Prop:=∀(H0 Hb H:Hp) (σ:St) (ρ:Yq) (A:Nat→List Addr) (d:D) (v:V) (B:List Addr) (Rr:St→Hp→Prop),Zy K C H0 Hb H Γ Δ σ ρ A→Rp K C H d v B→(∀a∈B,Hb a≠none)→
 Yi (b d ρ) (fun ρ'=>∀σ' A',Zy K C H0 Hb H Γ Δ σ' ρ' A'→Rr σ' H) (fun _ _=>False)→g v σ H Rr
def Xsu (K:Frag)(C:String→Addr)(Γ Δ:List Nat)(g:TGs)(b:List D→Yq→R Yq):Prop:=∀(H0 Hb H:Hp) (σ:St) (ρ:Yq) (A:Nat→List Addr) (d:List D) (v:List V) (B:List Addr) (Rr:St→Hp→Prop),Zy K C H0 Hb H Γ Δ σ ρ A→RpA K C H d v B→(∀a∈B,Hb a≠none)→
 Yi (b d ρ) (fun ρ'=>∀σ' A',Zy K C H0 Hb H Γ Δ σ' ρ' A'→Rr σ' H) (fun _ _=>False)→g v σ H Rr
theorem Xcp {i:Nat}(h1:i∉Γ:=by decide)(h2:i∉Δ:=by decide):BOk K C Γ Δ (Zdh i) (Dl.Xe i):=fun H0 Hb H σ ρ A d v B Rr I r hB p=>by
 obtain ⟨A',I',_⟩:=I.put (Γ':=Γ) (Δ':=Δ) (i:=i) r (fun j hj e=>⟨hj,fun a l e' ha=>hB a ha (I.top j hj a l e').1⟩) (fun hj=>absurd hj h1) (fun j hj e=>⟨hj,fun a ha hb=>hB a hb ((I.deep j hj).2.2 a ha)⟩) (fun hj=>absurd hj h2)
 exact p _ A' I'
theorem Xml:Xsu K C Γ Δ Xnl Dl.Zzk:=fun H0 Hb H σ ρ A d v B Rr I r hB p=>by
 cases d with
 | nil=>exact ⟨r.1,p _ A I⟩
 | cons _ _=>exact p.elim
theorem Xdt {g:TG}{gs:TGs}{b:FB}{bs:List D→Yq→R Yq}(h1:BOk K C Γ Δ g b)(h2:Xsu K C Γ Δ gs bs):Xsu K C Γ Δ (Ztj g gs) (Dl.Zeu b bs):=fun H0 Hb H σ ρ A d v B Rr I r hB p=>by
 cases d with
 | nil=>exact p.elim
 | cons d ds =>
  obtain ⟨x,l,B1,B2,e1,e2,e3,e4⟩:=r
  subst e1 e4
  refine ⟨x,l,rfl,h1 H0 Hb H σ ρ A d x B1 _ I e2 (fun a ha=>hB a (mem_append_left _ ha)) (Yi.imp (Yi.bind p) (fun ρ1 q σ1 A1 I1=>?_) fun _ _ z=>z)⟩
  exact h2 H0 Hb H σ1 ρ1 A1 ds l B2 Rr I1 e3 (fun a ha=>hB a (mem_append_right _ ha)) q
theorem Xjz {gs:TGs}{bs:List D→Yq→R Yq}{n:Nat}(hn:∀ds ρ ρ',bs ds ρ=.ok ρ'→ds.length=n)(h:Xsu K C Γ Δ gs bs):BOk K C Γ Δ (Zhb K n gs) (Dl.Xac bs):=fun H0 Hb H σ ρ A d v B Rr I r hB p=>by
 cases d with
 | tup ds =>
  obtain ⟨a,xs,rfl,e2,e3⟩:=r
  have hl:xs.length=n:=by
   rw [e3.len]
   have p':Yi (bs ds ρ) (fun ρ'=>∀σ' A',Zy K C H0 Hb H Γ Δ σ' ρ' A'→Rr σ' H) (fun _ _=>False):=p
   cases e:bs ds ρ with
   | ok ρ'=>exact hn ds ρ ρ' e
   | err _ _=>rw [e] at p';exact p'.elim
   | bad=>rw [e] at p';exact p'.elim
  exact ⟨a,xs,rfl,SqT.of e2,hl,h H0 Hb H σ ρ A ds xs B Rr I e3 hB p⟩
 | _=>exact p.elim
theorem Xfo (ds:List D)(ρ ρ':Yq)(h:Dl.Zzk ds ρ=.ok ρ'):ds.length=0:=by
 cases ds with
 | nil=>rfl
 | cons _ _=>cases h
theorem Zzc {n:Nat}{b:FB}{bs:List D→Yq→R Yq}(hb:∀ds ρ ρ',bs ds ρ=.ok ρ'→ds.length=n)(ds:List D)(ρ ρ':Yq)(h:Dl.Zeu b bs ds ρ=.ok ρ'):ds.length=n+1:=by
 cases ds with
 | nil=>cases h
 | cons d ds =>
  have h:((b d ρ).bind fun ρ'=>bs ds ρ')=.ok ρ':=h
  cases e:b d ρ with
  | ok ρ1 =>
   rw [e] at h
   rw [length_cons,hb ds ρ1 ρ' h]
  | err _ _=>rw [e] at h;cases h
  | bad=>rw [e] at h;cases h
noncomputable def ownAt (A:Nat→List Addr)(Γ Δ:List Nat):List Addr:=Γ.flatMap (fun i=>(A i).take 1)++Δ.flatMap A
theorem Zkb {A:Nat→List Addr}{a:Addr}(h:a∈ownAt A Γ Δ):(∃i∈Γ,∃l,A i=a::l)∨∃i∈Δ,a∈A i:=by
 rcases List.mem_append.mp h with h | h
 ·obtain ⟨i,hi,h⟩:=List.mem_flatMap.mp h
  left
  refine ⟨i,hi,?_⟩
  cases e:A i with
  | nil=>rw [e] at h;cases h
  | cons b l =>
   rw [e] at h
   simp only [List.take_succ_cons,take_zero,List.mem_singleton] at h
   rw [h]
   exact ⟨l,rfl⟩
 ·obtain ⟨i,hi,h⟩:=List.mem_flatMap.mp h
  exact .inr ⟨i,hi,h⟩
theorem Xib {A:Nat→List Addr}{i:Nat}(hi:i∈Γ){a:Addr}{l:List Addr}(e:A i=a::l):a∈ownAt A Γ Δ:=mem_append_left _ (List.mem_flatMap.mpr ⟨i,hi,by rw [e];simp⟩)
theorem Xav {A:Nat→List Addr}{i:Nat}(hi:i∈Δ){a:Addr}(h:a∈A i):a∈ownAt A Γ Δ:=mem_append_right _ (List.mem_flatMap.mpr ⟨i,hi,h⟩)
theorem Ztt (b:FB)(s:FS)(xs:List D){i:Nat}{x:D}(h:xs[i]?=some x)(ρ:Yq):Dl.Zbr b s (xs.drop i) ρ=(b x ρ).calm.bind fun ρ1=>(s ρ1).bind fun fl=>match fl with
  | .nx ρ2=>Dl.Zbr b s (xs.drop (i+1)) ρ2
  | .cnt ρ2=>Dl.Zbr b s (xs.drop (i+1)) ρ2
  | .brk ρ2=>.ok (.nx ρ2)
  | .ret d=>.ok (.ret d):=by
 obtain ⟨hi,rfl⟩:=List.getElem?_eq_some_iff.mp h
 rw [drop_eq_getElem_cons hi]
 rfl
theorem Xku {wi:TI}{g:TG}{tb:TS}{fi:FI}{fb:FB}{fs:FS}(hi:IOk K C E Γ Δ S wi fi)(hb:BOk K C Γl Δl g fb)(hs:SOk K C E mr Γl Δl Γl Δl Γl Δl tb fs)
    (h1:∀i∈Γl,i∈Γ:=by decide) (h2:∀i∈Δl,i∈Δ:=by decide) (h3:∀p∈S,p.1∉Γl∧p.1∉Δl:=by decide):SOk K C E mr Γk Δk Γ Δ Γl Δl (tFor wi g tb) (Dl.Ziv fi fb fs):=fun H0 Hb H σ ρ A D I p=>by
  refine hi H0 Hb H σ ρ A _ I (Yi.imp (Yi.bind p) (fun ds q J H1 W g1 hW hlen hJ=>?_) fun c x q H' g'=>q H' (Xx.from0 I g'))
  have I1:=(I.mono g1).weak h1 h2
  have hlst:∀a∈ownAt A Γl Δl,∃o,H1 a=some o∧IsM o:=fun a ha=>by
    rcases Zkb ha with ⟨i,_,l,e⟩ | ⟨i,_,e⟩
    · exact I1.is (j:=i) (by rw [e];exact .head _)
    · exact I1.is e
  have hbn:∀a∈ownAt A Γl Δl,Hb a=none:=fun a ha=>by
    rcases Zkb ha with ⟨i,hi,l,e⟩ | ⟨i,hi,e⟩
    · exact (I1.top i hi a l e).1
    · exact (I1.deep i hi).2.2 a e
  have hout:∀a∈W,a∉ownAt A Γl Δl:=fun a ha ho=>by
    rcases (hW a ha).2 with z | z
    · rcases Zkb ho with ⟨i,hi,l,e⟩ | ⟨i,hi,e⟩
      · exact I.ne (j:=i) (by rw [e];exact .head _) z
      · exact I.ne e z
    · rcases Zkb ho with ⟨i,hi,l,e⟩ | ⟨i,hi,e⟩
      · exact I1.top_out hi (fun h=>(h3 _ h).1 hi) e z
      · exact I1.deep_out hi (fun p hp e'=>(h3 p hp).2 (by rw [e'];exact hi)) e z
  let Hc:Hp:=fun b=>if b∈ownAt A Γl Δl then none else H1 b
  have c1:Xx Hc H1:=fun b o h=>by
    show H1 b=some o
    have h:(if b∈ownAt A Γl Δl then none else H1 b)=some o:=h
    split at h
    · cases h
    · exact h
  have c2:Xx Hb Hc:=fun b o h=>by
    show (if b∈ownAt A Γl Δl then none else H1 b)=some o
    rw [if_neg fun ho=>by rw [hbn b ho] at h;cases h]
    exact I1.same b o h
  have c3:∀a,a∉ownAt A Γl Δl→Hc a=H1 a:=fun a ha=>if_neg ha
  have c4:∀a∈ownAt A Γl Δl,Hc a=none:=fun a ha=>if_pos ha
  have I2:Zy K C H0 Hc H1 Γl Δl σ ρ A:=⟨I1.s0.trans c2,c1,I1.len,I1.rep,I1.nil,I1.loc,fun i hi a l e=>⟨c4 a (Xib hi e),(I1.top i hi a l e).2⟩,fun i hi=>⟨(I1.deep i hi).1,(I1.deep i hi).2.1,fun a ha=>c4 a (Xav hi ha)⟩⟩
  have back:∀{σ':St} {ρ':Yq} {H':Hp} {A':Nat→List Addr},Zy K C H0 Hc H' Γl Δl σ' ρ' A'→Zy K C H0 Hb H' Γl Δl σ' ρ' A':=fun I' =>
    ⟨I1.s0,c2.trans I'.same,I'.len,I'.rep,I'.nil,I'.loc,fun i hi a l e=>⟨c2.free (I'.top i hi a l e).1,(I'.top i hi a l e).2⟩,fun i hi=>⟨(I'.deep i hi).1,(I'.deep i hi).2.1,fun a ha=>c2.free ((I'.deep i hi).2.2 a ha)⟩⟩
  have go:Goes K C J ds Hc:=hJ Hc ⟨fun a ha=>c3 a (hout a ha),fun b o h hn=>(c3 b fun ho=>by
    obtain ⟨xs,e,hm⟩:=hlst b ho
    rw [e] at h
    cases h
    exact hn hm).trans h⟩
  refine Xle go (fun k σ' H'=>∃ρ' A',Zy K C H0 Hc H' Γl Δl σ' ρ' A'∧Zne K C E mr Γk Δk Γl Δl H0 Hb D (Dl.Zbr fb fs (ds.drop k) ρ')) ⟨ρ,A,I2,q⟩ (fun _ _ _ ⟨_,_,I',_⟩=>I'.same) ?_ ?_
  · rintro k d x Bx σ' Ha H' hd ⟨ρ',A',Ia,pq⟩ ga rx hBx
    have I':=Ia.mono ga
    rw [Ztt _ _ _ hd] at pq
    have pq':=Zin (Yi.bind pq)
    refine hb H0 Hc H' σ' ρ' A' d x Bx _ I' rx hBx (Yi.imp pq' (fun ρ1 pq σ1 A1 I1'=>?_) fun _ _ z=>z)
    refine hs H0 Hc H' σ1 ρ1 A1 _ I1' (Yi.imp (Yi.bind pq) (fun fl pq=>?_) fun _ _ z=>z)
    cases fl with
    | nx ρ2=>exact fun σ2 H2 A2 I2'=>⟨ρ2,A2,I2',pq⟩
    | cnt ρ2=>exact fun σ2 H2 A2 I2'=>⟨ρ2,A2,I2',pq⟩
    | brk ρ2=>exact fun σ2 H2 A2 I2'=>pq σ2 H2 A2 (back I2')
    | ret d=>exact pq
  · rintro σ' H' ⟨ρ',A',I',pq⟩
    rw [List.drop_length] at pq
    exact pq σ' H' A' (back I')
theorem Zwq {n:Nat}{tc:TT}{tb:TS}{fc:FT}{fs:FS}(hc:TOk K C E Γ Δ tc fc)(hs:SOk K C E mr Γ Δ Γ Δ Γ Δ tb fs):SOk K C E mr Γk Δk Γ Δ Γ Δ (Zsn tc tb) (Dl.Zlx n fc fs):=fun H0 Hb H σ ρ A D I p=>by
 refine ⟨fun k σ' H'=>∃ρ' A',Zy K C H0 Hb H' Γ Δ σ' ρ' A'∧Zne K C E mr Γk Δk Γ Δ H0 Hb D (Dl.Zbp fc fs k ρ'),⟨n,ρ,A,I,p⟩,?_⟩
 rintro k σ' H' ⟨ρ',A',I',pq⟩
 cases k with
 | zero=>exact pq.elim
 | succ k =>
  refine hc H0 Hb H' σ' ρ' A' _ I' (Yi.imp (Yi.bind pq) (fun b pq H1 g1=>?_) fun c x q H' g'=>q H' (Xx.from0 I' g'))
  cases b with
  | false =>
   simp only [Bool.false_eq_true,if_false] at pq ⊢
   exact pq σ' H1 A' (I'.mono g1)
  | true =>
   simp only [if_true] at pq ⊢
   refine ⟨fun σ2 H2=>∃ρ2 A2,Zy K C H0 Hb H2 Γ Δ σ2 ρ2 A2∧Zne K C E mr Γk Δk Γ Δ H0 Hb D (Dl.Zbp fc fs k ρ2),fun σ2 H2 h=>⟨k,Nat.lt_succ_self k,h⟩,?_⟩
   refine hs H0 Hb H1 σ' ρ' A' _ (I'.mono g1) (Yi.imp (Yi.bind pq) (fun fl pq=>?_) fun _ _ z=>z)
   cases fl with
   | nx ρ2=>exact fun σ2 H2 A2 I2'=>⟨ρ2,A2,I2',pq⟩
   | cnt ρ2=>exact fun σ2 H2 A2 I2'=>⟨ρ2,A2,I2',pq⟩
   | brk ρ2=>exact fun σ2 H2 A2 I2'=>pq σ2 H2 A2 I2'
   | ret d=>exact pq
theorem Zur {N:Nat}{ds:List D}{vs:List V}{B:List Addr}{H:Hp}(r:RpA K C H ds vs B):∃A,Zy K C H H H [] [] (vs.map some++List.replicate (N - vs.length) none) (ds.map some++List.replicate (N - ds.length) none) A:=by
 have hl:=r.len
 have key:∀{ds:List D} {vs:List V} {B:List Addr},RpA K C H ds vs B→∃A:Nat→List Addr,(∀(i:Nat) d,ds[i]?=some d→∃v,vs[i]?=some v∧Rp K C H d v (A i))∧∀i,ds.length≤i→A i=[]:=by
  intro ds
  induction ds with
  | nil=>intro vs B r;exact ⟨fun _=>[],fun i d h=>by simp at h,fun _ _=>rfl⟩
  | cons d ds ih =>
   intro vs B r
   obtain ⟨x,l,B1,B2,e1,e2,e3,e4⟩:=r
   obtain ⟨A,h1,h2⟩:=ih e3
   subst e1
   refine ⟨fun i=>match i with | 0=>B1 | i+1=>A i,fun i d' h=>?_,fun i h=>?_⟩
   ·cases i with
    | zero=>simp at h;subst h;exact ⟨x,rfl,e2⟩
    | succ i=>simp at h;obtain ⟨v,q1,q2⟩:=h1 i d' h;exact ⟨v,by simpa using q1,q2⟩
   ·cases i with
    | zero=>simp at h
    | succ i=>exact h2 i (by simpa using h)
 obtain ⟨A,h1,h2⟩:=key r
 refine ⟨A,Xx.refl _,Xx.refl _,by simp [hl],fun i d h=>?_,fun i h=>?_,(fun _ h=>nomatch h),(fun _ h=>nomatch h),(fun _ h=>nomatch h)⟩
 ·by_cases hi:i<ds.length
  ·rw [getElem?_append_left (by simpa using hi),getElem?_map] at h
   obtain ⟨d',hd,e⟩:=Option.map_eq_some_iff.mp h
   cases e
   obtain ⟨v,q1,q2⟩:=h1 i d hd
   refine ⟨v,?_,q2⟩
   rw [getElem?_append_left (by simp [hl,hi]),getElem?_map,q1]
   rfl
  ·rw [getElem?_append_right (by simpa using hi)] at h
   have:=mem_of_getElem? h
   rw [List.mem_replicate] at this
   exact absurd this.2 (by intro z;cases z)
 ·by_cases hi:i<ds.length
  ·exact absurd (by rw [getElem?_append_left (by simpa using hi),getElem?_map,getElem?_eq_getElem hi];rfl) (h ds[i])
  ·exact h2 i (by omega)
theorem Xei {N:Nat}{t:TS}{f:FS}{E:XK}{ds:List D}{vs:List V}{B:List Addr}{H:Hp}{Q:VK}(h:SOk K C E mr [] [] [] [] Γ' Δ' t f)(r:RpA K C H ds vs B)
  (p:Yi (Dl.run N f ds) (fun d=>∀v H',Xx H H'→Res K C mr [] H (fun _=>[]) d v H'→Q v H') (fun c x=>∀H',Xx H H'→EC C E c x H')) :
  t {nx:=fun _ H'=>Q .non H',rt:=Q} (vs.map some++List.replicate (N - vs.length) none) H:=by
 obtain ⟨A,I⟩:=Zur (N:=N) r
 refine h H H H _ _ A _ I (Yi.imp (Yi.bind p) (fun fl q=>?_) fun _ _ q=>q)
 cases fl with
 | nx ρ'=>exact fun σ' H' A' I'=>q _ H' I'.same (Res.flat ⟨rfl,rfl⟩)
 | ret d=>exact q
 | brk _=>exact q.elim
 | cnt _=>exact q.elim
end
structure JE (X:Cx)(C:String→Addr)(E:XK)(Γ Δ:List Nat)(m:Nat)(S:List (Nat×Bool))(e:Expr)(t:TE)(f:FE):Prop where
 q:QE X e t
 o:EOk X.K C E Γ Δ m S t f
structure JT (X:Cx)(C:String→Addr)(E:XK)(Γ Δ:List Nat)(e:Expr)(t:TT)(f:FT):Prop where
 q:QT X e t
 o:TOk X.K C E Γ Δ t f
structure JW (X:Cx)(C:String→Addr)(E:XK)(Γ Δ:List Nat)(e:Expr)(t:TT)(f:FT):Prop where
 q:QW X e t
 o:TOk X.K C E Γ Δ t f
structure JA (X:Cx)(C:String→Addr)(E:XK)(Γ Δ:List Nat)(m:Nat)(S:List (Nat×Bool))(e:List Expr)(n:Nat)(t:TA)(f:FA):Prop where
 q:QA X e t
 o:AOk X.K C E Γ Δ m S t f
 n:∀ρ ds,f ρ=.ok ds→ds.length=n
structure JO (X:Cx)(C:String→Addr)(E:XK)(Γ Δ:List Nat)(e:Option Expr)(t:TO)(f:FO):Prop where
 q:QO X e t
 o:OOk X.K C E Γ Δ t f
structure JI (X:Cx)(C:String→Addr)(E:XK)(Γ Δ:List Nat)(S:List (Nat×Bool))(tg e:Expr)(t:TI)(f:FI):Prop where
 q:QI X tg e t
 o:IOk X.K C E Γ Δ S t f
structure JG (X:Cx)(C:String→Addr)(Γ Δ:List Nat)(e:Expr)(t:TG)(f:FB):Prop where
 q:QG X e t
 o:BOk X.K C Γ Δ t f
structure JGs (X:Cx)(C:String→Addr)(Γ Δ:List Nat)(es:List Expr)(n:Nat)(t:TGs)(f:List D→Yq→R Yq):Prop where
 q:QGs X es t
 o:Xsu X.K C Γ Δ t f
 n:∀ds ρ ρ',f ds ρ=.ok ρ'→ds.length=n
structure JS (X:Cx)(C:String→Addr)(E:XK)(mr:Nat)(Γl Δl Γ Δ Γ' Δ':List Nat)(s:Stmt)(t:TS)(f:FS):Prop where
 q:QS X s t
 o:SOk X.K C E mr Γl Δl Γ Δ Γ' Δ' t f
structure JSs (X:Cx)(C:String→Addr)(E:XK)(mr:Nat)(Γl Δl Γ Δ Γ' Δ':List Nat)(s:List Stmt)(t:TS)(f:FS):Prop where
 q:QSs X s t
 o:SOk X.K C E mr Γl Δl Γ Δ Γ' Δ' t f
structure JIf (X:Cx)(C:String→Addr)(E:XK)(Γ Δ:List Nat)(e:List Expr)(t:TT)(f:FT):Prop where
 q:QIf X e t
 o:TOk X.K C E Γ Δ t f
section
variable {X:Cx}{C:String→Addr}{E:XK}{Γ Δ Γ' Δ' Γ1 Δ1 Γl Δl Γk Δk:List Nat}{m m1 m2 m3 mr:Nat}{S S1 S2 S3:List (Nat×Bool)}{a b c e st o tg iter:Expr}{es rest:List Expr}{ta tb tc te ts:TE}{fa fb fc fe fs:FE}{t:TA}{f:FA}{pos p p2 apos cpos:Pos}{n:Nat}
theorem Ze {i:Int}{j:Nat}:JE X C E Γ Δ 2 [] (.Constant (.int i) j pos) (tC (.int i)) (Dl.fC (.int i)):=⟨Xqn,Xef fun _=>rpI⟩
theorem Zgn {i:Bool}{j:Nat}:JE X C E Γ Δ 2 [] (.Constant (.bool i) j pos) (tC (.bl i)) (Dl.fC (.bl i)):=⟨qe_bl,Xef fun _=>rpB⟩
theorem Zza {j:Nat}:JE X C E Γ Δ 2 [] (.Constant .none j pos) (tC .non) (Dl.fC .non):=⟨Xoj,Xef fun _=>⟨rfl,rfl⟩⟩
theorem Zak {x:Str}{j:Nat}(h:PyData.strOk x=true:=by decide +kernel):JE X C E Γ Δ 2 [] (.Constant (.str x) j pos) (tC (.str x)) (Dl.fC (.str x)):=⟨Xpg,Xef fun _=>⟨rfl,h,rfl⟩⟩
theorem Zj (i:Nat){x:Str}(hN:X.N[i]?=some x:=by rfl)(hv:autoParam (Vis X.env.scope x) aT3._auto_1)(hd:(x==("__debug__":Str))=false:=by decide)
  (hcd:(x==("__classdict__":Str))=false:=by decide):JE X C E Γ Δ 0 [(i,false)] (.Name x pos) (Zme i) (Dl.fV i):=⟨qv i hN hv hd hcd,eok_v⟩
theorem Zol (i:Nat){x:Str}(hi:i∈Δ:=by decide)(hN:X.N[i]?=some x:=by rfl)(hv:autoParam (Vis X.env.scope x) aT3._auto_1)(hd:(x==("__debug__":Str))=false:=by decide)
  (hcd:(x==("__classdict__":Str))=false:=by decide):JE X C E Γ Δ 2 [(i,false)] (.Name x pos) (Zme i) (Dl.fV i):=⟨qv i hN hv hd hcd,Xtm hi⟩
theorem Xm (h:JE X C E Γ Δ m S e te fe):JE X C E Γ Δ 2 [] e te (Dl.f1 Dl.Ye fe):=⟨h.q,Xer h.o⟩
theorem Zr {op:Operator}{r:R2}{g:D→D→Option D}(ho:OpR X (binaryOp op) r)(hg:GOk X.K C r g)(ha:JE X C E Γ Δ m1 S1 a ta fa)(hb:JE X C E Γ Δ m2 S2 b tb fb):JE X C E Γ Δ 2 [] (.BinOp a op b pos) (tOp r ta tb) (Dl.f2 g fa fb):=⟨qe_op ho ha.q hb.q,Zvq hg ha.o hb.o⟩
theorem Zft (ha:JE X C E Γ Δ m1 S1 a ta fa):JE X C E Γ Δ 2 [] (.UnaryOp .USub a pos) (tUn (rU fun i=>.int (-i)) ta) (Dl.f1 Dl.Zqk fa):=⟨qe_un Xqg ha.q,Xqk (fun H x d vx Bx Q r e q=>by
  unfold Dl.Zqk at e
  split at e
  · cases e
    obtain ⟨rfl,_⟩:=r
    exact rd_U (Out.flat q rpI)
  · cases e) ha.o⟩
theorem Zjv {op:CmpOp}{r:R2}{g:D→D→Option D}(ho:OpR X (compareOp op) r)(hg:GOk X.K C r g)(ha:JE X C E Γ Δ m1 S1 a ta fa)(hb:JE X C E Γ Δ m2 S2 b tb fb)(hm:behindInMarks op b=false):JE X C E Γ Δ 2 [] (.Compare a [op] [b] pos) (tOp r ta tb) (Dl.f2 g fa fb):=⟨Xkb ho ha.q hb.q hm,Zvq hg ha.o hb.o⟩
theorem Xo {op:CmpOp}{r:R2}{g:D→D→Option D}(ho:OpR X (compareOp op) r)(hg:GOk X.K C r g)(ha:JE X C E Γ Δ m1 S1 a ta fa)(hb:JE X C E Γ Δ m2 S2 b tb fb)(hm:behindInMarks op b=false):JT X C E Γ Δ (.Compare a [op] [b] pos) (Xes (tOp r ta tb)) (Dl.cE (Dl.f2 g fa fb)):=⟨Xij ho ha.q hb.q hm,Xch (Zvq hg ha.o hb.o)⟩
theorem Xsj {op:BoolOp}(h:JE X C E Γ Δ m S a ta fa):JE X C E Γ Δ m S (.BoolOp op [a] pos) ta fa:=⟨Xpv h.q,h.o⟩
theorem Xtp (ha:JE X C E Γ Δ m1 S1 a ta fa)(hb:JE X C E Γ Δ m S (.BoolOp .And (b::rest) pos) tb fb):JE X C E Γ Δ m S (.BoolOp .And (a::b::rest) pos) (Xbl ta tb) (Dl.fAnd fa fb):=⟨Xqp ha.q hb.q,Xhx ha.o hb.o⟩
theorem Xny (ha:JE X C E Γ Δ m1 S1 a ta fa):JE X C E Γ Δ 2 [] (.UnaryOp .Not a pos) (Xai ta) (Dl.f1 Dl.gNot fa):=⟨Xtb ha.q,Xjp ha.o⟩
theorem Zfa (h:JE X C E Γ Δ m S e te fe)(he:∀whole,isTrue e X.env whole=(do let v ← whole;standAt e.pos;holding [v] (truthy v)):=by intro _;rfl):JT X C E Γ Δ e (tB te) (Dl.cE fe):=⟨Xsg h.q he,tok_B h.o⟩
theorem Zhc {tA:TT}{fA:FT}(ha:JT X C E Γ Δ a tA fA):JT X C E Γ Δ (.UnaryOp .Not a pos) (tNot tA) (Dl.Zwi fA):=⟨Xsc ha.q,Xnc ha.o⟩
theorem Zep {tA:TT}{fA:FT}(ha:JT X C E Γ Δ a tA fA):JW X C E Γ Δ (.BoolOp .Or [a] pos) tA fA:=⟨Xqu ha.q,ha.o⟩
theorem Zii {tA tB':TT}{fA fB:FT}(ha:JT X C E Γ Δ a tA fA)(hb:JW X C E Γ Δ (.BoolOp .Or (b::rest) pos) tB' fB):JW X C E Γ Δ (.BoolOp .Or (a::b::rest) pos) (tOr tA tB') (Dl.cOr fA fB):=⟨qw_or ha.q hb.q,Xtq ha.o hb.o⟩
theorem Xak {tA:TT}{fA:FT}(h:JW X C E Γ Δ a tA fA):JT X C E Γ Δ a tA fA:=⟨qt_w h.q,h.o⟩
theorem Zh:JA X C E Γ Δ 2 [] [] 0 Zlw Dl.Zt:=⟨Zhk,Xin,Xip⟩
theorem Zb (ha:JE X C E Γ Δ m1 S1 e te fe)(hr:JA X C E Γ Δ m2 S2 es n t f)(hs:starEach (e::es) X.env=(false,eval e X.env)::starEach es X.env):JA X C E Γ Δ 0 (S1++S2) (e::es) (n+1) (Zbk te t) (Dl.Zc fe f):=⟨Zbz ha.q hr.q hs,Xdo ha.o hr.o,Zrr hr.n⟩
theorem Zi (ha:JE X C E Γ Δ 2 [] e te fe)(hr:JA X C E Γ Δ 2 [] es n t f)(hs:starEach (e::es) X.env=(false,eval e X.env)::starEach es X.env):JA X C E Γ Δ 2 [] (e::es) (n+1) (Zbk te t) (Dl.Zc fe f):=
 ⟨Zbz ha.q hr.q hs,Zxf (S1:=[]) (S2:=[]) ha.o hr.o (fun _ h=>nomatch h) (fun _ h=>nomatch h),Zrr hr.n⟩
theorem Zgj {x1:Nat}(h:JA X C E Γ Δ 2 S es n t f):JE X C E Γ Δ 2 S (.Tuple es x1 pos) (tTup t) (Dl.fA Dl.Zhb f):=⟨Xqq h.q,Xlo (.inr rfl) h.o⟩
theorem Yl (h:JA X C E Γ Δ 2 S es n t f):JE X C E Γ Δ 2 S (.List es pos) (Xnw t) (Dl.fA Dl.Zae f):=⟨Xfj h.q,Xnh h.o⟩
theorem Zov (h:JA X C E Γ Δ m S es n t f):JE X C E Γ Δ 1 S (.List es pos) (Xnw t) (Dl.fA Dl.Zae f):=⟨Xfj h.q,Xdp h.o⟩
theorem Zx (K:Frag)(ha:JE X C E Γ Δ m1 S1 a ta fa)(hb:JE X C E Γ Δ m2 S2 b tb fb)(hs:Zag b)(hK:X.K=K:=by rfl):JE X C E Γ Δ 0 S1 (.Subscript a b pos) (tOp (rIx K) ta tb) (Dl.f2 Dl.gIx fa fb):=by
 subst hK
 exact ⟨Xbb Zri ha.q hb.q hs,Xrx ha.o hb.o⟩
theorem Xje:JO X C E Γ Δ none Zko Dl.Zwd:=⟨Xht,Xet⟩
theorem Zpd (h:JE X C E Γ Δ m S e te fe):JO X C E Γ Δ (some e) (Zzy te) (Dl.Zpn fe):=⟨Xjs h.q,Xar h.o⟩
theorem Xqv (K:Frag){lo hi:Option Expr}{tl th:TO}{fl fh:FO}(he:JE X C E Γ Δ m S e te fe)(hl:JO X C E Γ Δ lo tl fl)(hu:JO X C E Γ Δ hi th fh)(hK:X.K=K:=by rfl):JE X C E Γ Δ 2 [] (.Subscript e (.Slice lo hi none p2) pos) (tSl (rSlL K) te tl th) (Dl.fSl Dl.gSl fe fl fh):=by
 subst hK
 exact ⟨Xff Xni he.q hl.q hu.q,Xol he.o hl.o hu.o⟩
theorem Zp {K:Frag}{CX:CXT}{k:Nat}{ps:List Str}{F:List D→R D}{x:Str}(Df:Def X.prog X.w X.K X.mg X.base CX k x ps (spD K C n mr F))(hr:Ziw k X.A)(hg:Gl X x)(hx:Zjr CX X E)
  (ha:JA X C E Γ Δ m S (e::es) n t f) (hdb:(x==("__debug__":Str))=false:=by decide) (he:starEach (e::es) X.env=(false,eval e X.env)::starEach es X.env:=by rfl) (hpl:(backTo pos (starEach es X.env)).any (·.1)=false:=by rfl) (hK:X.K=K:=by rfl) :
  JE X C E Γ Δ mr [] (.Call (.Name x p) (e::es) [] pos) (Zsz (spD K C n mr F) [] E t) (Dl.Xb F f):=by
 subst hK
 exact ⟨Xcn Df hr hg hx ha.q hdb he hpl,Xdi ha.o ha.n⟩
theorem Xn {x:Str}{id:String}{r:List V→Hp→VK→Prop}{g:List D→Option D}(hc:Zaf X (.builtin id) r)(hgk:GAk X.K C r g)(hg:Gl X x)(hm:X.mg x=none)(hv:bootBuiltins x=some (.builtin id))(ha:JA X C E Γ Δ m S (e::es) n t f)(hn:x≠"__name__":=by decide)(hdb:(x==("__debug__":Str))=false:=by decide)
  (he:starEach (e::es) X.env=(false,eval e X.env)::starEach es X.env:=by rfl) (hpl:(backTo pos (starEach es X.env)).any (·.1)=false:=by rfl):JE X C E Γ Δ 2 [] (.Call (.Name x p) (e::es) [] pos) (tCB r t) (Dl.fA g f):=⟨Zgz hc hg hm hv ha.q hn hdb he hpl,Xhg hgk ha.o⟩
theorem Xu {x:Str}{T:String}{r:List V→Hp→VK→Prop}{g:List D→Option D}(hc:Zaf X (.type T) r)(hgk:GAk X.K C r g)(hg:Gl X x)(hm:X.mg x=none)(hv:bootBuiltins x=some (.type T))(ha:JA X C E Γ Δ m S (e::es) n t f)(hn:x≠"__name__":=by decide)(hdb:(x==("__debug__":Str))=false:=by decide)
  (he:starEach (e::es) X.env=(false,eval e X.env)::starEach es X.env:=by rfl) (hpl:(backTo pos (starEach es X.env)).any (·.1)=false:=by rfl):JE X C E Γ Δ 2 [] (.Call (.Name x p) (e::es) [] pos) (tCB r t) (Dl.fA g f):=⟨Zvp hc hg hm hv ha.q hn hdb he hpl,Xhg hgk ha.o⟩
theorem Zki (K:Frag)(hg:Gl X "list")(hm:X.mg "list"=none)(hg':Gl X "reversed")(hm':X.mg "reversed"=none)(he:JE X C E Γ Δ m S e te fe)(hs2:starEach [e] X.env=(false,eval e X.env)::starEach [] X.env)(hc:X.calm=true:=by rfl)(hK:X.K=K:=by rfl) :
  JE X C E Γ Δ 2 [] (.Call (.Name "list" p) [.Call (.Name "reversed" p2) [e] [] apos] [] cpos) (Xab K te) (Dl.f1 Dl.Zgp fe):=by
 subst hK
 exact ⟨Xkg hg hm hg' hm' he.q hs2 hc,Xau he.o⟩
theorem Yr (h:JE X C E Γ Δ m S e te fe):JI X C E Γ Δ S tg e (Xbo X.K te) (Dl.Jj fe):=⟨Xhk h.q,Xdf h.o⟩
theorem Zkc (hg:Gl X "range")(hm:X.mg "range"=none)(ha:JA X C E Γ Δ m S [a] n t f)(hs:starEach [a] X.env=[(false,eval a X.env)]:=by rfl):JI X C E Γ Δ [] tg (.Call (.Name "range" p) [a] [] pos) (Xfg t) (Dl.Zlk f):=⟨Zwe hg hm ha.q hs,Xad ha.o⟩
theorem Xkd (hg:Gl X "range")(hm:X.mg "range"=none)(ha:JA X C E Γ Δ m S [a,b] n t f)(hs:starEach [a,b] X.env=[(false,eval a X.env),(false,eval b X.env)]:=by rfl)(hs2:starEach [b] X.env=[(false,eval b X.env)]:=by rfl):JI X C E Γ Δ [] tg (.Call (.Name "range" p) [a,b] [] pos) (Xfi t) (Dl.Zxw f):=⟨Zyf hg hm ha.q hs hs2,Xec ha.o⟩
theorem Yp {i:Nat}{x:Str}(h1:i∉Γ:=by decide)(h2:i∉Δ:=by decide)(hN:X.N.Nodup)(hi:X.N[i]?=some x)(hx:Loc X.env.scope x)(hf:autoParam (X.fn x=true∨X.env.scope.names.lookup x=some .local) aT0._auto_1):JG X C Γ Δ (.Name x pos) (Zdh i) (Dl.Xe i):=⟨Zon hN hi hx hf,Xcp h1 h2⟩
theorem Xjl:JGs X C Γ Δ [] 0 Xnl Dl.Zzk:=⟨Zwp,Xml,Xfo⟩
theorem Zsb {tt:TG}{u:TGs}{fb:FB}{fu:List D→Yq→R Yq}(h1:JG X C Γ Δ e tt fb)(h2:JGs X C Γ Δ es n u fu)(hs:(assignEach (e::es) X.env).map (·.2)=assign e X.env::(assignEach es X.env).map (·.2):=by rfl):JGs X C Γ Δ (e::es) (n+1) (Ztj tt u) (Dl.Zeu fb fu):=⟨Zrt h1.q h2.q hs,Xdt h1.o h2.o,Zzc h2.n⟩
theorem Xsm {k:Nat}{u:TGs}{fu:List D→Yq→R Yq}(hc:X.calm=true)(h:JGs X C Γ Δ es n u fu)(hn:(assignEach es X.env).length=n:=by rfl)(hst:(assignEach es X.env).findIdx? (·.1)=none:=by rfl):JG X C Γ Δ (.Tuple es k pos) (Zhb X.K n u) (Dl.Xac fu):=⟨Xfx hc h.q hn hst,Xjz h.n h.o⟩
theorem Zkm:JIf X C E Γ Δ [] tYes Dl.Ztz:=⟨Xkm,Xkz⟩
theorem Zof {tA:TT}{fA:FT}(h:JT X C E Γ Δ c tA fA):JIf X C E Γ Δ [c] tA fA:=⟨Xmt h.q,h.o⟩
structure JB (X:Cx)(C:String→Addr)(n k:Nat)(e:Expr)(t:TG)(f:FB):Prop where
 q:QG X e t
 o:NOk X.K C n k t f
structure JBs (X:Cx)(C:String→Addr)(n k:Nat)(es:List Expr)(l:Nat)(t:TGs)(f:List D→Yq→R Yq):Prop where
 q:QGs X es t
 o:NsOk X.K C n k t f
 n:∀ds ρ ρ',f ds ρ=.ok ρ'→ds.length=l
theorem Zec {k:Nat}(i:Nat){x:Str}(hN:X.N.Nodup:=by decide +kernel)(hi:X.N[i]?=some x:=by rfl)(hx:Loc X.env.scope x:=by exact .inl rfl)(hf:X.fn x=true∨X.env.scope.names.lookup x=some .local:=by exact .inr rfl)(h1:n≤i:=by decide)(h2:i<n+k:=by decide):JB X C n k (.Name x pos) (Zdh i) (Dl.Xe i):=⟨Zon hN hi hx hf,Zzp i h1 h2⟩
theorem Zif {elt:Expr}{ifs:List Expr}{sc:Scope}{wi:TI}{tc:TT}{gg:TG}{fi:FI}{fc:FT}{fg:FB}(esc:Scope)(N N2 xs:List Str)(B:Xfv sc esc xs N N2)(hi:JI X C E Γ Δ S tg iter wi fi)(hg:∀cl C' s0 H0 fp,JB (X.blkN N2 xs sc cl C' s0 H0 fp) C n xs.length tg gg fg)(ht:∀cl C' s0 H0 fp,JIf (X.blkN N2 xs sc cl C' s0 H0 fp) C E0 [] [] ifs tc fc)(he:∀cl C' s0 H0 fp,JE (X.blkN N2 xs sc cl C' s0 H0 fp) C E0 [] [] 2 [] elt te fe)
  (hesc:X.env.scope=esc:=by rfl) (hN:X.N=N:=by rfl) (hc:X.calm=true:=by rfl) (hs:∀v,foldedSetIterable iter X.env v=pure v:=by intro _;rfl):JE X C E Γ Δ 2 [] (.ListComp elt [⟨tg,iter,ifs,0⟩] sc pos) (Zis xs.length gg wi tc te) (Dl.Zcg n xs.length fi fg fc fe):=
 ⟨Xbp esc N N2 xs B hi.q (fun cl C' s0 H0 fp=>(hg cl C' s0 H0 fp).q) (fun cl C' s0 H0 fp=>(ht cl C' s0 H0 fp).q) (fun cl C' s0 H0 fp=>(he cl C' s0 H0 fp).q) hesc hN hc hs,Zrs hi.o (hg [] 0 X.s₀ X.H₀ []).o (ht [] 0 X.s₀ X.H₀ []).o (he [] 0 X.s₀ X.H₀ []).o⟩
variable {s1:Stmt}{ss body other:List Stmt}{u v:TS}{g h:FS}{pos':Pos}
theorem Xq:JSs X C E mr Γl Δl Γ Δ Γ Δ [] Xdz Dl.sNx:=⟨Xjy,Xoo⟩
theorem Zg (Γ1 Δ1:List Nat)(h1:JS X C E mr Γl Δl Γ Δ Γ1 Δ1 s1 u g)(h2:JSs X C E mr Γl Δl Γ1 Δ1 Γ' Δ' ss v h):JSs X C E mr Γl Δl Γ Δ Γ' Δ' (s1::ss) (tSeq u v) (Dl.Xt g h):=⟨Xfa h1.q h2.q,Xmn h1.o h2.o⟩
theorem Zk (h1:JS X C E mr Γl Δl Γ Δ Γ' Δ' s1 u g):JSs X C E mr Γl Δl Γ Δ Γ' Δ' [s1] u g:=⟨Xkq h1.q,h1.o⟩
theorem Zbw (Γ1 Δ1:List Nat)(h:JSs X C E mr Γl Δl Γ Δ Γ1 Δ1 ss u g)(h1:∀i∈Γ',i∈Γ1:=by decide)(h2:∀i∈Δ',i∈Δ1:=by decide):JSs X C E mr Γl Δl Γ Δ Γ' Δ' ss u g:=⟨h.q,Zzm h.o h1 h2⟩
theorem Zgy:JS X C E mr Γl Δl Γ Δ Γ' Δ' s1 Zsl Dl.Zhq:=⟨Xaw,Zye⟩
theorem Xc (he:JE X C E Γ Δ 2 S e te fe)(h0:∀p∈S,p.1∈Δ:=by decide):JS X C E 2 Γl Δl Γ Δ Γ' Δ' (.Return (some e) pos) (tRet te) (Dl.Zal fe):=⟨Xox he.q,Xbv he.o h0⟩
theorem Jo {tA:TT}{fA:FT}(hc:JT X C E Γ Δ c tA fA)(ha:JSs X C E mr Γl Δl Γ Δ Γ' Δ' body u g)(hb:JSs X C E mr Γl Δl Γ Δ Γ' Δ' other v h):JS X C E mr Γl Δl Γ Δ Γ' Δ' (.If c body other pos) (tIfS tA u v) (Dl.sIf fA g h):=⟨qs_if hc.q ha.q hb.q,Xrr hc.o ha.o hb.o⟩
theorem Zu {i:Nat}{x:Str}(hN:X.N.Nodup)(hi:X.N[i]?=some x)(hx:Loc X.env.scope x)(he:JE X C E Γ Δ 2 [] e te fe)(hs:swapsWith e (some (.Name x pos')) pos.line X.env=pure false:=by rfl)(hf:autoParam (X.fn x=true∨X.env.scope.names.lookup x=some .local) aT0._auto_1)
  (h1:∀j∈Γ',j=i∨j∈Γ:=by decide) (h2:∀j∈Δ',j=i∨j∈Δ:=by decide):JS X C E mr Γl Δl Γ Δ Γ' Δ' (.Assign [.Name x pos'] e pos) (Zth te (Zdh i)) (Dl.Yt i fe):=⟨Xqt hN hi hx he.q hs hf,Zrv he.o h1 h2⟩
theorem Zxj {elt:Expr}{y:Str}{py spos:Pos}{ifs:List Expr}{sc:Scope}{wi:TI}{tc:TT}{gg:TG}{fi:FI}{fc:FT}{fg:FB}{i:Nat}(esc:Scope)(N N2 xs:List Str)(B:Xfv sc esc xs N N2)(hy:N[i]?=some y)(hl:esc.names.lookup y=some .local)(hi:JI X C E Γ Δ S tg iter wi fi)(hg:∀cl C' s0 H0 fp,JB (X.blkN N2 xs sc cl C' s0 H0 fp) C n xs.length tg gg fg)(ht:∀cl C' s0 H0 fp,JIf (X.blkN N2 xs sc cl C' s0 H0 fp) C E0 [] [] ifs tc fc)(he:∀cl C' s0 H0 fp,JE (X.blkN N2 xs sc cl C' s0 H0 fp) C E0 [] [] 2 [] elt te fe)
  (hesc:X.env.scope=esc:=by rfl) (hN:X.N=N:=by rfl) (hc:X.calm=true:=by rfl) (hsw:swapsWith (.ListComp elt [⟨tg,iter,ifs,0⟩] sc pos) (some (.Name y py)) spos.line X.env=pure true:=by rfl) (hs:∀v,foldedSetIterable iter X.env v=pure v:=by intro _;rfl)
  (h1:∀j∈Γ',j=i∨j∈Γ:=by decide) (h2:∀j∈Δ',j=i∨j∈Δ:=by decide):JS X C E mr Γl Δl Γ Δ Γ' Δ' (.Assign [.Name y py] (.ListComp elt [⟨tg,iter,ifs,0⟩] sc pos) spos) (Zth (Zis xs.length gg wi tc te) (Zdh i)) (Dl.Yt i (Dl.Zcg n xs.length fi fg fc fe)):=
 ⟨Xdq esc N N2 xs B hy hl hi.q (fun cl C' s0 H0 fp=>(hg cl C' s0 H0 fp).q) (fun cl C' s0 H0 fp=>(ht cl C' s0 H0 fp).q) (fun cl C' s0 H0 fp=>(he cl C' s0 H0 fp).q) hesc hN hc hsw hs,Zrv (Zrs hi.o (hg [] 0 X.s₀ X.H₀ []).o (ht [] 0 X.s₀ X.H₀ []).o (he [] 0 X.s₀ X.H₀ []).o) h1 h2⟩
theorem Zcn {i:Nat}{x:Str}(hi:i∈Γ:=by decide)(hN:X.N[i]?=some x:=by rfl)(hv:autoParam (Vis X.env.scope x) aT3._auto_1)(hd:(x==("__debug__":Str))=false:=by decide)(hcd:(x==("__classdict__":Str))=false:=by decide)
  (he:JE X C E Γ Δ 2 [] e te fe) (hse:starEach [e] X.env=(false,eval e X.env)::starEach [] X.env)
  (hbase:attributeBase (.Name x p) "append" X.env (eval (.Name x p) X.env)=eval (.Name x p) X.env:=by rfl)
  (hfew:((backTo cpos (starEach [e] X.env)).all (fun x=>!x.1)&&(backToKw cpos (keywordEach [] X.env)).all (fun x=>x.1.isSome)&&decide (([e]:List Expr).length+([]:List Keyword).length+(if ([]:List Keyword).isEmpty then 0 else 1)<30))=true:=by rfl)
  (hline:(apos.endLine==cpos.line)=true:=by rfl) (hplain:(backTo cpos (starEach ([]:List Expr) X.env)).any (·.1)=false:=by rfl) (hsw:swapsWith (.Call (.Attribute (.Name x p) "append" apos) [e] [] cpos) none pos.line X.env=pure false:=by rfl) :
  JS X C E mr Γl Δl Γ Δ Γ Δ (.Expr (.Call (.Attribute (.Name x p) "append" apos) [e] [] cpos) pos) (Znn (tBM X.K "list" Zdy (Zme i) (Zbk te Zlw))) (Dl.Zlg i fe):=
 ⟨Zny (Xia PySem.F.plainAttrs_list PySem.F.slot_list_append PySem.F.type_list_append Zia (qv i hN hv hd hcd) (Zbz he.q Zhk hse) hbase hfew hline hse hplain) hsw,Xdh hi he.o⟩
theorem Jv {wi:TI}{tt:TG}{fi:FI}{fb:FB}(Γl Δl:List Nat)(hp:PassesOwn (model X.prog X.w) X.A X.env X.xe)(hc:X.calm=true)(hi:JI X C E Γ Δ S tg iter wi fi)(hg:JG X C Γl Δl tg tt fb)(hb:JSs X C E mr Γl Δl Γl Δl Γl Δl body u g)(hs:∀x,foldedSetIterable iter X.env x=pure x:=by intro _;rfl)
  (h1:∀i∈Γl,i∈Γ:=by decide) (h2:∀i∈Δl,i∈Δ:=by decide) (h3:∀p∈S,p.1∉Γl∧p.1∉Δl:=by decide):JS X C E mr Γk Δk Γ Δ Γl Δl (.For tg iter body [] pos) (tFor wi tt u) (Dl.Ziv fi fb g):=⟨Xrc hp hc hi.q hg.q hb.q hs,Xku hi.o hg.o hb.o h1 h2 h3⟩
theorem Zqm {tA:TT}{fA:FT}(k:Nat)(hp:PassesOwn (model X.prog X.w) X.A X.env X.xe)(hc:JT X C E Γ Δ c tA fA)(hb:JSs X C E mr Γ Δ Γ Δ Γ Δ body u g):JS X C E mr Γk Δk Γ Δ Γ Δ (.While c body [] pos) (Zsn tA u) (Dl.Zlx k fA g):=⟨Xae hp hc.q hb.q,Zwq hc.o hb.o⟩
end
theorem Fun.okC {P:Program}{w:World}{K:Frag}{C:String→Addr}{mg:Str→Option Value}{base:Heap}{x qual:Str}{st:Stmt}{f:Addr}{fd:FuncData}{N ps:List Str}{k n mr:Nat}{Γ' Δ':List Nat}{g:FS}(F:Fun K x qual st f fd)(S:Zz N ps (Zn st))(hn:ps.length=n)
    (hbody:∀(cdv:Value) (A:Around) (outer:List Env) (s:Shared) (H:Hp) (E:XK),Ziw k (A.deeper (envOfC qual (Zn st) s.heap.objs.size f cdv))→
      ∃t,JSs (Xge CX0 P w K mg base N qual (Zn st) f cdv A outer s H E).nox C E0 mr [] [] [] [] Γ' Δ' (Zcm st) t g):Zao P w K mg base CX0 (k+1) f fd ps (spD K C n mr fun ds=>(Dl.run N.length g ds).calm):=
  F.okQ S (fun vs H Q E h=>by
    obtain ⟨ds,B,h1,h2,_⟩:=h
    rw [h2.len,h1,hn]) fun cdv A outer s H vs Q E hr h=>by
    obtain ⟨ds,B,h1,h2,h3⟩:=h
    obtain ⟨t,ht⟩:=hbody cdv A outer s H E hr
    exact ⟨t,ht.q,Xei (K:=K) ht.o h2 (Yi.imp (Zin h3) (fun _ q=>q) fun _ _ z=>z.elim)⟩
section
variable {K:Frag}{C:String→Addr}{E:XK}{Γ Δ Γ' Δ' Γ1 Δ1 Γl Δl Γk Δk:List Nat}{m m1 m2 m3 mr:Nat}{S S1 S2 S3:List (Nat×Bool)}{H:Hp}{Q:VK}
def Kit (c:String):Prop:=∀(K:Frag) (d:D) (b:Bool),Dl.Zqz c d=some (.bl b)→kitOne K (.type (Dl.Xha d)) (.type c)=some b
theorem Xiq:Kit "int":=fun K d b h=>by cases d<;>cases h<;>rfl
theorem Xfh:Kit "bool":=fun K d b h=>by cases d<;>cases h<;>rfl
theorem Xih:Kit "str":=fun K d b h=>by cases d<;>cases h<;>rfl
theorem Xbr:Kit "list":=fun K d b h=>by cases d<;>cases h<;>rfl
theorem kit_tuple:Kit "tuple":=fun K d b h=>by cases d<;>cases h<;>rfl
theorem Xlj {c:String}(hk:Kit c){ta:TE}{fa:FE}(ha:EOk K C E Γ Δ m S ta fa):EOk K C E Γ Δ 2 [] (tCB (Xns K) (Zbk ta (Zbk (tC (.ty c)) Zlw))) (Dl.f1 (Dl.Zqz c) fa):=fun H0 Hb H σ ρ A Q I p =>
  ha H0 Hb H σ ρ A _ I (p.bind.imp (fun x q v H1 g1 r=>by
    obtain ⟨d,e,q⟩:=Zem q
    obtain ⟨B,r,_⟩:=r
    have out:∀b t,d=.bl b→TyOf K H1 v t→t=.type (Dl.Xha x)→Xns K [v,.ty c] H1 Q:=fun b t ed ty et=>by
      subst ed et
      exact Xto ty (hk K x b e) (q _ H1 g1 (Res.flat rpB))
    show Xns K [v,.ty c] H1 Q
    cases x with
    | non=>cases e;exact out _ _ rfl (by rw [r.1];exact .non) rfl
    | bl b=>cases e;exact out _ _ rfl (by rw [r.1];exact .bl _) rfl
    | int i=>cases e;exact out _ _ rfl (by rw [r.1];exact .int _) rfl
    | str z=>cases e;exact out _ _ rfl (by rw [r.1];exact .str _) rfl
    | lst ds =>
      cases e
      obtain ⟨a,xs,B,rfl,e2,_⟩:=r
      exact out _ _ rfl (.lst e2) rfl
    | tup ds =>
      cases e
      obtain ⟨a,xs,rfl,e2,_⟩:=r
      exact out _ _ rfl (.tup e2) rfl
    | scr _=>cases e
    | rng _ _=>cases e
    | exc _ _=>cases e
    | obj _ _ _=>cases e
    | dct _ _=>cases e
    | dtt _ _=>cases e) fun c x q H' g'=>q H' g')
theorem Xll {i:Nat}{f:Int→Int→Int}{g:D→D→Option D}(hg:∀x y d,g x y=some d→∃i j,x=.int i∧y=.int j∧d=.int (f i j)){te:TE}{fe:FE}(he:EOk K C E Γ Δ m S te fe)(h1:∀j∈Γ',j=i∨j∈Γ:=by decide)(h2:∀j∈Δ',j=i∨j∈Δ:=by decide) :
  SOk K C E mr Γl Δl Γ Δ Γ' Δ' (tAug i te (ipI f)) (Dl.Xfy i g fe):=fun H0 Hb H σ ρ A D I p=>by
 unfold Dl.Xfy at p
 split at p
 ·rename_i x e
  obtain ⟨v,e1,r⟩:=I.rep i x e
  refine ⟨v,e1,he H0 Hb H σ ρ A _ I (Yi.imp (Yi.bind p) (fun y q w H1 g1 r1=>?_) fun c x q H' g'=>q H' (Xx.from0 I g'))⟩
  obtain ⟨z,ez,q⟩:=Zem (Yi.bind q)
  obtain ⟨B,r1,_⟩:=r1
  obtain ⟨k,l,rfl,rfl,rfl⟩:=hg x y z ez
  obtain ⟨rfl,_⟩:=r
  obtain ⟨rfl,_⟩:=r1
  obtain ⟨A',I',_⟩:=(I.mono g1).put (Γ':=Γ') (Δ':=Δ') (i:=i) (d:=.int (f k l)) (v:=.int (f k l)) (B:=[]) rpI (fun j hj e=>⟨(h1 j hj).elim (fun z=>absurd z e) id,fun _ _ _ z=>nomatch z⟩)
   (fun _=>⟨(fun _ z=>nomatch z),(fun _ _ z=>nomatch z)⟩) (fun j hj e=>⟨(h2 j hj).elim (fun z=>absurd z e) id,fun _ _ z=>nomatch z⟩) (fun _=>⟨nodup_nil,(fun _ _ _ z=>nomatch z),(fun _ z=>nomatch z)⟩)
  exact ⟨k,l,rfl,rfl,q _ H1 A' I'⟩
 ·exact p.elim
theorem Zzg:∀x y d,Dl.Zgm x y=some d→∃i j,x=.int i∧y=.int j∧d=.int (i - j):=fun x y d e=>by unfold Dl.Zgm at e;split at e<;>cases e;exact ⟨_,_,rfl,rfl,rfl⟩
def BsN (K:Frag)(C:String→Addr)(Γ Δ Γ' Δ':List Nat)(g:TGs)(b:List D→Yq→R Yq):Prop:=∀(H0 Hb H:Hp) (σ:St) (ρ:Yq) (A:Nat→List Addr) (d:List D) (v:List V) (B:List Addr) (Rr:St→Hp→Prop),Zy K C H0 Hb H Γ Δ σ ρ A→RpA K C H d v B→B.Nodup→(∀a∈B,Hb a=none∧∀j,a∉A j)→
 Yi (b d ρ) (fun ρ'=>∀σ' A',Zy K C H0 Hb H Γ' Δ' σ' ρ' A'→Rr σ' H) (fun _ _=>False)→g v σ H Rr
theorem Xkr (h1:∀i∈Γ',i∈Γ)(h2:∀i∈Δ',i∈Δ):BsN K C Γ Δ Γ' Δ' Xnl Dl.Zzk:=fun H0 Hb H σ ρ A d v B Rr I r _ _ p=>by
 cases d with
 | nil=>exact ⟨r.1,p _ A (I.weak h1 h2)⟩
 | cons _ _=>exact p.elim
theorem Xan {i:Nat}{gs:TGs}{bs:List D→Yq→R Yq}(h2:BsN K C (i::Γ) (i::Δ) Γ' Δ' gs bs):BsN K C Γ Δ Γ' Δ' (Ztj (Zdh i) gs) (Dl.Zeu (Dl.Xe i) bs):=fun H0 Hb H σ ρ A d v B Rr I r nd hB p=>by
  cases d with
  | nil=>exact p.elim
  | cons d ds =>
    obtain ⟨x,l,B1,B2,e1,e2,e3,e4⟩:=r
    subst e1 e4
    obtain ⟨n1,n2,n3⟩:=List.nodup_append.mp nd
    have hB1:∀a∈B1,Hb a=none∧∀j,a∉A j:=fun a ha=>hB a (mem_append_left _ ha)
    obtain ⟨A',I',hA'⟩:=I.put (Γ':=i::Γ) (Δ':=i::Δ) (i:=i) e2
      (fun j hj e=>⟨(List.mem_cons.mp hj).elim (fun z=>absurd z e) id,fun a l' e' ha=>(hB1 a ha).2 j (by rw [e'];exact .head _)⟩)
      (fun _=>⟨fun a ha=>I.s0.free (hB1 a ha).1,fun a l' e=>by
        subst e
        exact ⟨(hB1 a (.head _)).1,(List.nodup_cons.mp n1).1,fun j _=>(hB1 a (.head _)).2 j⟩⟩)
      (fun j hj e=>⟨(List.mem_cons.mp hj).elim (fun z=>absurd z e) id,fun a ha hb=>(hB1 a hb).2 j ha⟩)
      (fun _=>⟨n1,fun j _ a ha=>(hB1 a ha).2 j,fun a ha=>(hB1 a ha).1⟩)
    exact ⟨x,l,rfl,h2 H0 Hb H _ _ A' ds l B2 Rr I' e3 n2 (fun a ha=>⟨(hB a (mem_append_right _ ha)).1,fun j h=>(hA' j a h).elim (fun z=>n3 a z a ha rfl) fun z=>(hB a (mem_append_right _ ha)).2 j z⟩) p⟩
theorem Zst {te:TE}{gs:TGs}{fe:FE}{bs:List D→Yq→R Yq}{n:Nat}(hn:∀ds ρ ρ',bs ds ρ=.ok ρ'→ds.length=n)(he:EOk K C E Γ Δ 2 [] te fe)(hb:BsN K C Γ Δ Γ' Δ' gs bs):SOk K C E mr Γl Δl Γ Δ Γ' Δ' (Zth te (Zhb K n gs)) (Dl.Xmm fe (Dl.Xac bs)):=fun H0 Hb H σ ρ A D I p=>by
 refine he H0 Hb H σ ρ A _ I (Yi.imp (Yi.bind p) (fun d q v H1 g1 r=>?_) fun c x q H' g'=>q H' (Xx.from0 I g'))
 obtain ⟨B,r1,r2,_,r4⟩:=r
 have hn':∀a∈B,H a=none:=fun a ha=>(r2 a ha).elim id fun z=>z.none.elim
 have q':=Zin (Yi.bind q)
 cases d with
 | tup ds =>
  obtain ⟨a,xs,rfl,e2,e3⟩:=r1
  have q'':Yi (bs ds ρ) (fun ρ'=>∀σ' H' A',Zy K C H0 Hb H' Γ' Δ' σ' ρ' A'→D.nx σ' H') (fun _ _=>False):=q'
  have hl:xs.length=n:=by
   rw [e3.len]
   cases e:bs ds ρ with
   | ok ρ'=>exact hn ds ρ ρ' e
   | err _ _=>rw [e] at q'';exact q''.elim
   | bad=>rw [e] at q'';exact q''.elim
  exact ⟨a,xs,rfl,SqT.of e2,hl,hb H0 Hb H1 σ ρ A ds xs B D.nx (I.mono g1) e3 (r4 rfl) (fun a ha=>⟨I.same.free (hn' a ha),fun j z=>I.ne z (hn' a ha)⟩) (Yi.imp q'' (fun ρ' q σ' A' I'=>q σ' H1 A' I') fun _ _ z=>z)⟩
 | _=>exact q'.elim
end
section
variable {X:Cx}{C:String→Addr}{E:XK}{Γ Δ Γ' Δ' Γ1 Δ1 Γl Δl Γk Δk:List Nat}{m m1 m2 m3 mr:Nat}{S S1 S2 S3:List (Nat×Bool)}{a b c e st o tg iter:Expr}{es rest:List Expr}{ta tb tc te ts:TE}{fa fb fc fe fs:FE}{t:TA}{f:FA}{pos p p2 apos cpos pos':Pos}{n:Nat}
theorem Znr (K:Frag){T:String}{ty:Str}(hk:Kit T)(hg:Gl X "isinstance")(hm:X.mg "isinstance"=none)(hgt:Gl X ty)(hmt:X.mg ty=none)(hvt:bootBuiltins ty=some (.type T))(ha:JE X C E Γ Δ m S e te fe)(hse:starEach (e::[.Name ty p2]) X.env=(false,eval e X.env)::starEach [.Name ty p2] X.env)
  (hn:ty≠"__name__":=by decide) (hd:(ty==("__debug__":Str))=false:=by decide) (hpl:(backTo pos (starEach [.Name ty p2] X.env)).any (·.1)=false:=by rfl) (hK:X.K=K:=by rfl) :
  JE X C E Γ Δ 2 [] (.Call (.Name "isinstance" p) [e,.Name ty p2] [] pos) (tCB (Xns K) (Zbk te (Zbk (tC (.ty T)) Zlw))) (Dl.f1 (Dl.Zqz T) fe):=by
 subst hK
 exact ⟨Zgz Znv hg hm PyProof.Rows.boot_isinstance (Zbz ha.q (Zbz (Xju (v:=.ty T) hgt hmt hvt rfl hn hd) Zhk Za) hse) (by decide) (by decide) hse hpl,Xlj hk ha.o⟩
theorem Xfk {i:Nat}{x:Str}{op:Operator}{ff:Int→Int→Int}{g:D→D→Option D}(hg:∀x y d,g x y=some d→∃i j,x=.int i∧y=.int j∧d=.int (ff i j))(ho:PIp X op (ipI ff))(hN:X.N.Nodup)(hi:X.N[i]?=some x)(hx:Loc X.env.scope x)(he:JE X C E Γ Δ m S e te fe)
  (hf:autoParam (X.fn x=true∨X.env.scope.names.lookup x=some .local) aT0._auto_1) (h1:∀j∈Γ',j=i∨j∈Γ:=by decide) (h2:∀j∈Δ',j=i∨j∈Δ:=by decide):JS X C E mr Γl Δl Γ Δ Γ' Δ' (.AugAssign (.Name x pos') op e pos) (tAug i te (ipI ff)) (Dl.Xfy i g fe):=⟨Xqe hN hi hx he.q ho hf,Xll hg he.o h1 h2⟩
structure JN (X:Cx)(C:String→Addr)(Γ Δ Γ' Δ':List Nat)(es:List Expr)(n:Nat)(t:TGs)(f:List D→Yq→R Yq):Prop where
 q:QGs X es t
 o:BsN X.K C Γ Δ Γ' Δ' t f
 n:∀ds ρ ρ',f ds ρ=.ok ρ'→ds.length=n
theorem Xgx (h1:∀i∈Γ',i∈Γ:=by decide)(h2:∀i∈Δ',i∈Δ:=by decide):JN X C Γ Δ Γ' Δ' [] 0 Xnl Dl.Zzk:=⟨Zwp,Xkr h1 h2,Xfo⟩
theorem Zkx {i:Nat}{x:Str}{u:TGs}{fu:List D→Yq→R Yq}(hN:X.N.Nodup)(hi:X.N[i]?=some x)(hx:Loc X.env.scope x)(h2:JN X C (i::Γ) (i::Δ) Γ' Δ' es n u fu)(hf:autoParam (X.fn x=true∨X.env.scope.names.lookup x=some .local) aT0._auto_1)
  (hs:(assignEach (.Name x p::es) X.env).map (·.2)=assign (.Name x p) X.env::(assignEach es X.env).map (·.2):=by rfl):JN X C Γ Δ Γ' Δ' (.Name x p::es) (n+1) (Ztj (Zdh i) u) (Dl.Zeu (Dl.Xe i) fu):=⟨Zrt (Zon hN hi hx hf) h2.q hs,Xan h2.o,Zzc h2.n⟩
theorem Zmi {k:Nat}{u:TGs}{fu:List D→Yq→R Yq}(hc:X.calm=true)(he:JE X C E Γ Δ 2 [] e te fe)(hb:JN X C Γ Δ Γ' Δ' es n u fu)(hn:(assignEach es X.env).length=n:=by rfl)(hst:(assignEach es X.env).findIdx? (·.1)=none:=by rfl)
  (hs:swapsWithSole [.Tuple es k p] e pos.line X.env=pure false:=by rfl) (hw:swappedStores [.Tuple es k p] e X.env=pure none:=by rfl) (h1:(assignEach [.Tuple es k p] X.env).map (·.2)=[assign (.Tuple es k p) X.env]:=by rfl) :
  JS X C E mr Γl Δl Γ Δ Γ' Δ' (.Assign [.Tuple es k p] e pos) (Zth te (Zhb X.K n u)) (Dl.Xmm fe (Dl.Xac fu)):=⟨Xhd he.q (Xfx hc hb.q hn hst) hs hw h1,Zst hb.n he.o hb.o⟩
end
section
variable {K:Frag}{C:String→Addr}{E:XK}{Γ Δ Γ' Δ' Γ1 Δ1 Γl Δl Γk Δk:List Nat}{m m1 m2 m3 mr:Nat}{S S1 S2 S3:List (Nat×Bool)}{H:Hp}{Q:VK}
end
section
variable {X:Cx}{C:String→Addr}{E:XK}{Γ Δ Γ' Δ' Γ1 Δ1 Γl Δl Γk Δk:List Nat}{m m1 m2 m3 mr:Nat}{S S1 S2 S3:List (Nat×Bool)}{a b c e st o tg iter:Expr}{es rest:List Expr}{ta tb tc te ts:TE}{fa fb fc fe fs:FE}{t:TA}{f:FA}{pos p p2 apos cpos pos':Pos}{n:Nat}
end
section
variable {K:Frag}{C:String→Addr}{E:XK}{Γ Δ Γ' Δ' Γ1 Δ1 Γl Δl Γk Δk:List Nat}{m m1 m2 m3 mr:Nat}{S S1 S2 S3:List (Nat×Bool)}{H:Hp}{Q:VK}
def JOk (K:Frag)(C:String→Addr)(E:XK)(Γ Δ:List Nat)(t:TJ)(f:FA):Prop:=∀(H0 Hb H:Hp) (σ:St) (ρ:Yq) (A:Nat→List Addr) (Q:Hp→Prop),Zy K C H0 Hb H Γ Δ σ ρ A→
 Yi (f ρ) (fun _=>∀H',Xx H H'→Q H') (fun c x=>∀H',Xx H H'→EC C E c x H')→t σ H Q
end
section
variable {X:Cx}{C:String→Addr}{E:XK}{Γ Δ Γ' Δ' Γ1 Δ1 Γl Δl Γk Δk:List Nat}{m n mr:Nat}{S:List (Nat×Bool)}{e:Expr}{es:List Expr}{t:TA}{f:FA}{np cpos pos hpos:Pos}
end
section
variable {K:Frag}{C:String→Addr}{E:XK}{Γ Δ Γ' Δ' Γ1 Δ1 Γl Δl Γk Δk:List Nat}{m m1 m2 m3 mr:Nat}{S S1 S2 S3:List (Nat×Bool)}{H:Hp}{Q:VK}
end
section
variable {X:Cx}{C:String→Addr}{E:XK}{Γ Δ Γ' Δ' Γ1 Δ1 Γl Δl Γk Δk:List Nat}{m m1 m2 m3 mr:Nat}{S S1 S2 S3:List (Nat×Bool)}{a b c e st o tg iter:Expr}{es rest:List Expr}{ta tb tc te ts:TE}{fa fb fc fe fs:FE}{t:TA}{f:FA}{pos p p2 apos cpos pos':Pos}{n:Nat}{body:List Stmt}{u:TS}{g:FS}
end
structure ClsIn (K:Frag)(C:Addr):Prop where
 ty:typeIn K (.ref C)=some (.type "type")
 cl:∃c,clsIn K C=some c
 se:subIn K (.ref C) (.ref C)=some true
section
variable {K:Frag}{C:String→Addr}{E:XK}{Γ Δ Γ' Δ' Γ1 Δ1 Γl Δl Γk Δk:List Nat}{m m1 m2 m3 mr:Nat}{S S1 S2 S3:List (Nat×Bool)}{H:Hp}{Q:VK}
end
structure JJ (X:Cx)(C:String→Addr)(E:XK)(Γ Δ:List Nat)(es:List Expr)(t:TJ)(f:FA):Prop where
 q:QJ X es t
 o:JOk X.K C E Γ Δ t f
section
variable {X:Cx}{C:String→Addr}{E:XK}{Γ Δ Γ' Δ' Γ1 Δ1 Γl Δl Γk Δk:List Nat}{m m1 m2 m3 mr:Nat}{S S1 S2 S3:List (Nat×Bool)}{a b c e st o tg iter:Expr}{es rest:List Expr}{ta tb tc te ts:TE}{fa fb fc fe fs:FE}{t:TA}{f:FA}{pos p p2 apos cpos pos' np jp:Pos}{n:Nat}{body:List Stmt}{s:Stmt}{u:TS}{g:FS}{tj:TJ}
end
section
variable {K:Frag}{C:String→Addr}{E:XK}{Γ Δ Γ' Δ' Γ1 Δ1 Γl Δl Γk Δk:List Nat}{m m1 m2 m3 mr:Nat}{S S1 S2 S3:List (Nat×Bool)}{H:Hp}{Q:VK}
end
section
variable {X:Cx}{C:String→Addr}{E:XK}{Γ Δ Γ' Δ' Γ1 Δ1 Γl Δl Γk Δk:List Nat}{m m1 m2 m3 mr:Nat}{S S1 S2 S3:List (Nat×Bool)}{a b c e st o tg iter:Expr}{es rest:List Expr}{ta tb tc te ts:TE}{fa fb fc fe fs:FE}{t:TA}{f:FA}{pos p p2 apos cpos pos' np jp:Pos}{n:Nat}{tj:TJ}
end
section
variable {K:Frag}{C:String→Addr}{E:XK}{Γ Δ Γ' Δ' Γ1 Δ1 Γl Δl Γk Δk:List Nat}{m m1 m2 m3 mr:Nat}{S S1 S2 S3:List (Nat×Bool)}{H:Hp}{Q:VK}
end
section
variable {X:Cx}{C:String→Addr}{E:XK}{Γ Δ:List Nat}{m:Nat}{S:List (Nat×Bool)}{e:Expr}{es:List Expr}{te:TE}{fe:FE}{f:FA}{pos:Pos}{tj:TJ}
end
section
variable {K:Frag}{C:String→Addr}{E:XK}{Γ Δ Γ' Δ' Γ1 Δ1 Γl Δl Γk Δk:List Nat}{m m1 m2 m3 mr:Nat}{S S1 S2 S3:List (Nat×Bool)}{H:Hp}{Q:VK}
end
section
variable {X:Cx}{C:String→Addr}{E:XK}{Γ Δ Γ' Δ' Γ1 Δ1 Γl Δl Γk Δk:List Nat}{mr:Nat}{np pos hpos:Pos}
end
section
variable {K:Frag}{C:String→Addr}{E:XK}{Γ Δ Γ' Δ' Γ1 Δ1 Γl Δl Γk Δk:List Nat}{m m1 m2 m3 mr:Nat}{S S1 S2 S3:List (Nat×Bool)}{H:Hp}{Q:VK}
end
section
variable {X:Cx}{C:String→Addr}{E:XK}{Γ Δ Γ' Δ' Γ1 Δ1 Γl Δl Γk Δk:List Nat}{m m1 m2 m3 mr:Nat}{S S1 S2 S3:List (Nat×Bool)}{a b c e st o tg iter:Expr}{es rest:List Expr}{ta tb tc te ts:TE}{fa fb fc fe fs:FE}{pos p p2 apos cpos pos':Pos}
variable {pins:List (Addr×Obj)}{σ:St}{H:Hp}{s:Shared}{h':Heap}
end
section
variable {X:Cx}{a b e:Expr}{ta tb te:TE}{elts:List Expr}{x1:Nat}{tpos p pos:Pos}{tg:Expr}
variable {K:Frag}{C:String→Addr}{E:XK}{Γ Δ Γ' Δ':List Nat}{m m1 m2:Nat}{S S1 S2:List (Nat×Bool)}{H:Hp}
end
section
variable {X:Cx}{C:String→Addr}{E:XK}{Γ Δ Γ' Δ':List Nat}{m m1 m2:Nat}{S S1 S2:List (Nat×Bool)}{a b e:Expr}{ta tb te:TE}{fa fb fe:FE}{elts:List Expr}{x1:Nat}{tpos p pos:Pos}{tg:Expr}
end
section
variable {K:Frag}{C:String→Addr}{E:XK}{Γ Δ Γ' Δ' Γ1 Δ1 Γl Δl Γk Δk:List Nat}{m m1 m2 m3 mr:Nat}{S S1 S2 S3:List (Nat×Bool)}{H:Hp}{Q:VK}
variable {X:Cx}{kx e:Expr}{tk te:TE}{p p2 pos:Pos}{x:Str}{i:Nat}
end
section
variable {X:Cx}{C:String→Addr}{E:XK}{Γ Δ Γ' Δ' Γ1 Δ1 Γl Δl Γk Δk:List Nat}{m m1 m2 m3 mr:Nat}{S S1 S2 S3:List (Nat×Bool)}{a b c e st o tg iter:Expr}{es rest:List Expr}{ta tb tc te ts tk:TE}{fa fb fc fe fs fk:FE}{t:TA}{f:FA}{pos p p2 apos cpos pos' bpos:Pos}{n:Nat}
end
section
variable {X:Cx}{e:Expr}{te:TE}{p pos cp kp:Pos}{k:Nat}
variable {K:Frag}{C:String→Addr}{E:XK}{Γ Δ Γ' Δ' Γ1 Δ1 Γl Δl Γk Δk:List Nat}{m m1 m2 m3 mr:Nat}{S S1 S2 S3:List (Nat×Bool)}{H:Hp}{Q:VK}
end
section
variable {X:Cx}{C:String→Addr}{E:XK}{Γ Δ Γ' Δ' Γ1 Δ1 Γl Δl Γk Δk:List Nat}{m m1 m2 m3 mr:Nat}{S S1 S2 S3:List (Nat×Bool)}{a b c e st o tg iter:Expr}{es rest:List Expr}{ta tb tc te ts:TE}{fa fb fc fe fs:FE}{pos p p2 apos cpos pos' cp kp:Pos}{k:Nat}
variable {pins:List (Addr×Obj)}{σ:St}{H:Hp}{s:Shared}
end
section
variable {X:Cx}{C:String→Addr}{E:XK}{Γ Δ Γ' Δ' Γk Δk:List Nat}{m mr:Nat}{S:List (Nat×Bool)}{c tg iter:Expr}{body:List Stmt}{u:TS}{g:FS}{pos:Pos}
end
section
variable {K:Frag}{C:String→Addr}{E:XK}{Γ Δ Γ' Δ' Γ1 Δ1 Γl Δl:List Nat}{m m1 m2 mr:Nat}{S S1 S2:List (Nat×Bool)}{H:Hp}
end
section
variable {X:Cx}{C:String→Addr}{E:XK}{Γ Δ Γ' Δ' Γl Δl:List Nat}{m mr:Nat}{a b:Expr}{t:TA}{f:FA}{p p1 p2 pos pt2:Pos}{x y:Str}{i j k k2:Nat}
end
section
variable {K:Frag}{C:String→Addr}{E:XK}{Γ Δ Γ' Δ' Γ1 Δ1 Γl Δl Γk Δk:List Nat}{m m1 m2 m3 mr:Nat}{S S1 S2 S3:List (Nat×Bool)}{H:Hp}{Q:VK}
theorem RpA.one_of:∀{ds:List D} {vs:List V} {B:List Addr} {j:Nat} {d:D},RpA K C H ds vs B→ds[j]?=some d→∃B1 Bj B2 v,B=B1++(Bj++B2)∧vs[j]?=some v∧Rp K C H d v Bj∧
    ∀(W:Addr→Prop) H2 d' Bj',Ext W H H2→(∀a∈B1++B2,¬W a)→Rp K C H2 d' v Bj'→RpA K C H2 (ds.set j d') vs (B1++(Bj'++B2))
  | [],_,_,_,_,_,h=>by simp at h
  | d0::ds,_,_,0,d,r,h=>by
    obtain ⟨x,l,B,B',e1,e2,e3,e4⟩:=r
    simp only [List.getElem?_cons_zero,Option.some.injEq] at h
    subst h e1 e4
    exact ⟨[],B,B',x,rfl,rfl,e2,fun W H2 d' Bj' he hn r'=>⟨x,l,Bj',B',rfl,r',e3.ext he fun a ha=>hn a ha,rfl⟩⟩
  | d0::ds,_,_,j+1,d,r,h=>by
    obtain ⟨x,l,B,B',e1,e2,e3,e4⟩:=r
    simp only [List.getElem?_cons_succ] at h
    obtain ⟨B1,Bj,B2,v,q1,q2,q3,q4⟩:=RpA.one_of e3 h
    subst e1 e4 q1
    refine ⟨B++B1,Bj,B2,v,by rw [append_assoc],by simpa using q2,q3,fun W H2 d' Bj' he hn r'=>?_⟩
    exact ⟨x,l,B,B1++(Bj'++B2),rfl,e2.ext he fun a ha=>hn a (by simp [ha]),q4 W H2 d' Bj' he (fun a ha=>hn a (by
      rcases List.mem_append.mp ha with z | z
      · simp [z]
      · simp [z])) r',by rw [append_assoc]⟩
noncomputable def AtP (K:Frag)(H:Hp):V→List Int→Addr→Prop
 | v,[],b=>v=.ref b
 | v,n::r,b=>∃p xs u,v=.ref p∧(H p=some (.lst xs)∨H p=some (.tup xs))∧atI xs n=some u∧AtP K H u r b
theorem Xft {α:Type}{xs:List α}{n:Int}{j:Nat}{u:α}(hj:Dl.ixD xs.length n=some j)(hu:xs[j]?=some u):atI xs n=some u:=by
 show Dl.atD xs n=some u
 unfold Dl.atD
 rw [hj]
 exact hu
theorem Rp.path {f:List D→Option (List D)}:∀{path:List Int} {d d':D} {v:V} {A:List Addr},Rp K C H d v A→A.Nodup→Dl.Zgk f path d=some d'→
    ∃b ys ds es l A1 A2,AtP K H v path b∧H b=some (.lst ys)∧RpA K C H ds ys l∧f ds=some es∧A=A1++(b::l++A2)∧
      ∀H2 zs l',(∀a o,a≠b→H a=some o→H2 a=some o)→H2 b=some (.lst zs)→RpA K C H2 es zs l'→Rp K C H2 d' v (A1++(b::l'++A2))
  | [],d,d',v,A,r,nd,h=>by
    cases d with
    | lst ds =>
      obtain ⟨es,h1,h2⟩:=Option.map_eq_some_iff.mp (show (f ds).map D.lst=some d' from h)
      subst h2
      obtain ⟨a,xs,B,rfl,e2,e3,rfl⟩:=r
      exact ⟨a,xs,ds,es,B,[],[],rfl,e2,e3,h1,by simp,fun H2 zs l' hk hb r'=>⟨a,zs,l',rfl,hb,r',by simp⟩⟩
    | _=>cases h
  | n::path,d,d',v,A,r,nd,h=>by
    cases d with
    | lst xs =>
      obtain ⟨j,hj,h⟩:=Option.bind_eq_some_iff.mp (show (Dl.ixD xs.length n).bind (fun j=>xs[j]?.bind fun d=>(Dl.Zgk f path d).map fun d'=>D.lst (xs.set j d'))=some d' from h)
      obtain ⟨d0,hd,h⟩:=Option.bind_eq_some_iff.mp h
      obtain ⟨d1,hu,h2⟩:=Option.map_eq_some_iff.mp h
      subst h2
      obtain ⟨a,vs,B,rfl,e2,e3,rfl⟩:=r
      have hl:=e3.len
      obtain ⟨nda,ndB⟩:=List.nodup_cons.mp nd
      obtain ⟨B1,Bj,B2,w,rfl,hw,rw,up⟩:=e3.one_of hd
      have ndj:Bj.Nodup:=(List.nodup_append.mp (List.nodup_append.mp ndB).2.1).1
      obtain ⟨b,ys,ds,es,l,A1,A2,p1,p2,p3,p4,rfl,p6⟩:=Rp.path rw ndj hu
      refine ⟨b,ys,ds,es,l,a::(B1++A1),A2++B2,⟨a,vs,w,rfl,.inl e2,Xft (by rw [hl];exact hj) hw,p1⟩,p2,p3,p4,by simp,fun H2 zs l' hk hb r'=>?_⟩
      have hba:a≠b:=by rintro rfl;exact nda (by simp)
      have r2:=up (fun c=>c=b) H2 d1 _ (fun c o ho=>by
        by_cases e:c=b
        · subst e
          rw [p2] at ho
          cases ho
          exact .inr ⟨rfl,.lst⟩
        · exact .inl (hk c o e ho)) (fun c hc e=>by
          subst e
          have q1:=(List.nodup_append.mp ndB)
          have q2:=(List.nodup_append.mp q1.2.1)
          rcases List.mem_append.mp hc with z | z
          · exact q1.2.2 c z c (by simp) rfl
          · exact q2.2.2 c (by simp) c z rfl) (p6 H2 zs l' hk hb r')
      exact ⟨a,vs,_,rfl,hk a _ hba e2,r2,by simp⟩
    | tup xs =>
      obtain ⟨j,hj,h⟩:=Option.bind_eq_some_iff.mp (show (Dl.ixD xs.length n).bind (fun j=>xs[j]?.bind fun d=>(Dl.Zgk f path d).map fun d'=>D.tup (xs.set j d'))=some d' from h)
      obtain ⟨d0,hd,h⟩:=Option.bind_eq_some_iff.mp h
      obtain ⟨d1,hu,h2⟩:=Option.map_eq_some_iff.mp h
      subst h2
      obtain ⟨a,vs,rfl,e2,e3⟩:=r
      have hl:=e3.len
      obtain ⟨B1,Bj,B2,w,rfl,hw,rw,up⟩:=e3.one_of hd
      have ndj:Bj.Nodup:=(List.nodup_append.mp (List.nodup_append.mp nd).2.1).1
      obtain ⟨b,ys,ds,es,l,A1,A2,p1,p2,p3,p4,rfl,p6⟩:=Rp.path rw ndj hu
      refine ⟨b,ys,ds,es,l,B1++A1,A2++B2,⟨a,vs,w,rfl,.inr e2,Xft (by rw [hl];exact hj) hw,p1⟩,p2,p3,p4,by simp,fun H2 zs l' hk hb r'=>?_⟩
      have hba:a≠b:=by rintro rfl;rw [e2] at p2;cases p2
      have r2:=up (fun c=>c=b) H2 d1 _ (fun c o ho=>by
        by_cases e:c=b
        · subst e
          rw [p2] at ho
          cases ho
          exact .inr ⟨rfl,.lst⟩
        · exact .inl (hk c o e ho)) (fun c hc e=>by
          subst e
          have q1:=(List.nodup_append.mp nd)
          have q2:=(List.nodup_append.mp q1.2.1)
          rcases List.mem_append.mp hc with z | z
          · exact q1.2.2 c z c (by simp) rfl
          · exact q2.2.2 c (by simp) c z rfl) (p6 H2 zs l' hk hb r')
      exact ⟨a,vs,rfl,hk a _ hba e2,by simpa using r2⟩
    | _=>cases h
theorem AtP.same {H H':Hp}(g:Xx H H'):∀{path:List Int} {v:V} {b:Addr},AtP K H v path b→AtP K H' v path b
 | [],_,_,h=>h
 | n::r,v,b,h=>by
  obtain ⟨p,xs,u,e,hq,ha,h⟩:=h
  exact ⟨p,xs,u,e,hq.imp (fun q=>g _ _ q) (fun q=>g _ _ q),ha,AtP.same g h⟩
theorem Zy.deepWrite {H0 Hb H:Hp}{σ:St}{ρ:Yq}{A:Nat→List Addr}{i:Nat}{d':D}{v:V}{b:Addr}{zs:List V}{A':List Addr}(I:Zy K C H0 Hb H Γ Δ σ ρ A)(hi:i∈Δ)(hl:i<ρ.length)(hs:σ[i]?=some (some v))(hb:b∈A i)
  (r:Rp K C (upd H b (.lst zs)) d' v A') (nd:A'.Nodup) (hA:∀a∈A',a∈A i∨(Hb a=Option.none∧∀j,a∉A j)) :
  Zy K C H0 Hb (upd H b (.lst zs)) Γ Δ σ (ρ.set i (some d')) (fun j=>if j=i then A' else A j):=by
 obtain ⟨d1,d2,d3⟩:=I.deep i hi
 obtain ⟨xs,hxs,hm⟩:=I.is hb
 have hA2:∀a∈A',Hb a=Option.none∧∀j,j≠i→a∉A j:=fun a ha=>(hA a ha).elim (fun z=>⟨d3 a z,fun j hj=>d2 j hj a z⟩) fun z=>⟨z.1,fun j _=>z.2 j⟩
 have ext:Ext (fun c=>c=b) H (upd H b (.lst zs)):=fun c o h=>by
  by_cases e:c=b
  ·subst e
   rw [hxs] at h
   cases h
   exact .inr ⟨rfl,hm⟩
  ·rw [Yd e]
   exact .inl h
 refine ⟨I.s0,fun c o h=>?_,by rw [length_set,I.len],fun j e h=>?_,fun j h=>?_,fun j hj c hc=>?_,fun j hj c l' e=>?_,fun j hj=>?_⟩
 ·rw [Yd (Jb h (d3 b hb))]
  exact I.same c o h
 ·rcases get_set h with ⟨e1,_,e2⟩ | ⟨e1,e2⟩
  ·subst e1
   cases e2
   exact ⟨v,hs,by rw [if_pos rfl];exact r⟩
  ·obtain ⟨w,q1,q2⟩:=I.rep j e e2
   refine ⟨w,q1,?_⟩
   rw [if_neg e1]
   exact q2.ext ext fun c hc z=>by subst z;exact d2 j e1 c hb hc
 ·by_cases e:j=i
  ·subst e
   exact absurd (getElem?_set_self hl) (h d')
  ·rw [if_neg e]
   exact I.nil j fun x hx=>h x (by rw [getElem?_set_ne (fun z=>e z.symm)];exact hx)
 ·by_cases e:j=i
  ·subst e
   rw [if_pos rfl] at hc
   exact I.s0.free (hA2 c hc).1
  ·rw [if_neg e] at hc
   exact I.loc j hj c hc
 ·by_cases e':j=i
  ·subst e'
   rw [if_pos rfl] at e
   subst e
   refine ⟨(hA2 c (.head _)).1,(List.nodup_cons.mp nd).1,fun k hk=>?_⟩
   rw [if_neg hk]
   exact (hA2 c (.head _)).2 k hk
  ·rw [if_neg e'] at e
   obtain ⟨t1,t2,t3⟩:=I.top j hj c l' e
   refine ⟨t1,t2,fun k hk=>?_⟩
   by_cases ek:k=i
   ·subst ek
    rw [if_pos rfl]
    exact fun z=>(hA2 c z).2 j (fun w=>hk w.symm) (by rw [e];exact .head _)
   ·rw [if_neg ek]
    exact t3 k hk
 ·by_cases e':j=i
  ·subst e'
   simp only [if_true]
   refine ⟨nd,fun k hk a ha=>?_,fun a ha=>(hA2 a ha).1⟩
   rw [if_neg hk]
   exact (hA2 a ha).2 k hk
  ·simp only [if_neg e']
   obtain ⟨t1,t2,t3⟩:=I.deep j hj
   refine ⟨t1,fun k hk a ha=>?_,t3⟩
   by_cases ek:k=i
   ·subst ek
    rw [if_pos rfl]
    exact fun z=>(hA2 a z).2 j (fun w=>hk w.symm) ha
   ·rw [if_neg ek]
    exact t2 k hk a ha
theorem Zy.pathApp {H0 Hb H:Hp}{σ:St}{ρ:Yq}{A:Nat→List Addr}{i:Nat}{d d' e:D}{path:List Int}(I:Zy K C H0 Hb H Γ Δ σ ρ A)(hi:i∈Δ)(hd:ρ[i]?=some (some d))(hu:Dl.Zgk (Dl.Zua e) path d=some d') :
  ∃v b ys,σ[i]?=some (some v)∧AtP K H v path b∧H b=some (.lst ys)∧ys.length<sizeLine∧∀H2 w B,Xx H H2→Rp K C H2 e w B→B.Nodup→(∀a∈B,Hb a=Option.none∧∀j,a∉A j)→
   ∃A',Zy K C H0 Hb (upd H2 b (.lst (ys++[w]))) Γ Δ σ (ρ.set i (some d')) A'∧∀j,j≠i→A' j=A j:=by
 obtain ⟨v,hs,r⟩:=I.rep i d hd
 obtain ⟨d1,d2,d3⟩:=I.deep i hi
 obtain ⟨b,ys,ds,es,l,A1,A2,p1,p2,p3,p4,p5,p6⟩:=r.path d1 hu
 unfold Dl.Zua at p4
 split at p4
 ·rename_i hz
  cases p4
  have hbA:b∈A i:=by rw [p5];simp
  refine ⟨v,b,ys,hs,p1,p2,by rw [p3.len];exact Zgt hz,fun H2 w B g re nB hB=>?_⟩
  have hbB:b∉B:=fun z=>(hB b z).2 i hbA
  have I2:=I.mono g
  have p2':=g _ _ p2
  have r3:RpA K C (upd H2 b (.lst (ys++[w]))) (ds++[e]) (ys++[w]) (l++B):=by
   have ext:Ext (fun c=>c=b) H2 (upd H2 b (.lst (ys++[w]))):=fun c o h=>by
    by_cases e:c=b
    ·subst e
     rw [p2'] at h
     cases h
     exact .inr ⟨rfl,.lst⟩
    ·rw [Yd e]
     exact .inl h
   have hbl:b∉l:=by
    rw [p5] at d1
    have:=(List.nodup_append.mp d1).2.1
    rw [cons_append] at this
    exact fun z=>(List.nodup_cons.mp this).1 (mem_append_left _ z)
   exact ((p3.same g).ext ext fun a ha z=>hbl (by rw [← z];exact ha)).app (RpA.one (re.ext ext fun a ha z=>hbB (by rw [← z];exact ha)))
  have r4:=p6 (upd H2 b (.lst (ys++[w]))) (ys++[w]) (l++B) (fun a o ha h=>by rw [Yd ha];exact g _ _ h) Ja r3
  have hsub:∀a∈A1++(b::(l++B)++A2),a∈A i∨(Hb a=Option.none∧∀j,a∉A j):=fun a ha=>by
   rw [p5]
   simp only [List.mem_append,mem_cons] at ha ⊢
   rcases ha with z | (z | z | z) | z
   ·exact .inl (.inl z)
   ·exact .inl (.inr (.inl (.inl z)))
   ·exact .inl (.inr (.inl (.inr z)))
   ·exact .inr (hB a z)
   ·exact .inl (.inr (.inr z))
  have nd:(A1++(b::(l++B)++A2)).Nodup:=by
   have pm:(A1++(b::(l++B)++A2)).Perm (A i++B):=by
    rw [p5]
    simp only [cons_append,append_assoc]
    refine List.Perm.append_left _ (List.Perm.cons _ (List.Perm.append_left _ ?_))
    exact perm_append_comm
   refine pm.nodup_iff.mpr (List.nodup_append.mpr ⟨d1,nB,fun x hx y hy e=>?_⟩)
   subst e
   exact (hB x hy).2 i hx
  exact ⟨_,I2.deepWrite hi (List.getElem?_eq_some_iff.mp hd).1 hs hbA r4 nd hsub,fun j hj=>if_neg hj⟩
 ·cases p4
theorem Xhc {H:Hp}{v:V}{n:Int}{path:List Int}{b:Addr}{Q:VK}(h:AtP K H v (n::path) b)(q:∀u,AtP K H u path b→Q u H):rIx K v (.int n) H Q:=by
 obtain ⟨p,xs,u,rfl,hq,ha,h⟩:=h
 rcases hq with hq | hq
 ·exact .inl ⟨p,xs,n,u,rfl,rfl,SqL.of hq,ha,q u h⟩
 ·exact .inr (.inl ⟨p,xs,n,u,rfl,rfl,SqT.of hq,ha,q u h⟩)
theorem Res.new' {H1 H2:Hp}{H0 Hb H:Hp}{σ:St}{ρ:Yq}{A A2:Nat→List Addr}{e:D}{w:V}(I:Zy K C H0 Hb H Γ Δ σ ρ A)(g:Xx H H1)(r:Res K C 2 [] H1 A2 e w H2):∃B,Rp K C H2 e w B∧B.Nodup∧∀a∈B,Hb a=Option.none∧∀j,a∉A j:=by
 obtain ⟨B,r1,r2,_,r4⟩:=r
 have hn:∀a∈B,H a=Option.none:=fun a ha=>g.free ((r2 a ha).elim id fun z=>z.none.elim)
 exact ⟨B,r1,r4 rfl,fun a ha=>⟨I.same.free (hn a ha),fun j z=>I.ne z (hn a ha)⟩⟩
theorem Xcl {i:Nat}{ks:FA}{fe:FE}{ρ:Yq}{ok:Fl→Prop}{er:String→Option Int→Prop}(p:Yi (Dl.Zpm i ks fe ρ) ok er):∃d zs path e d',ρ[i]?=some (some d)∧ks ρ=.ok zs∧Dl.intsOf zs=some path∧fe ρ=.ok e∧Dl.Zgk (Dl.Zua e) path d=some d'∧ok (.nx (ρ.set i (some d'))):=by
  unfold Dl.Zpm at p
  split at p
  · rename_i d ed
    cases ek:ks ρ with
    | bad=>rw [ek] at p;exact p.elim
    | err c x=>rw [ek] at p;exact p.elim
    | ok zs =>
      rw [ek] at p
      have p:Yi (match Dl.intsOf zs with
        | some path=>(fe ρ).calm.bind fun v=>match Dl.Zgk (Dl.Zua v) path d with
          | some d'=>.ok (Fl.nx (ρ.set i (some d')))
          | none=>.bad
        | none=>.bad) _ _:=p
      split at p
      · rename_i path ep
        cases ef:fe ρ with
        | bad=>rw [ef] at p;exact p.elim
        | err c x=>rw [ef] at p;exact p.elim
        | ok e =>
          rw [ef] at p
          have p:Yi (match Dl.Zgk (Dl.Zua e) path d with
            | some d'=>.ok (Fl.nx (ρ.set i (some d')))
            | none=>.bad) _ _:=p
          split at p
          · rename_i d' eu
            exact ⟨d,zs,path,e,d',ed,rfl,ep,rfl,eu,p⟩
          · exact p.elim
      · exact p.elim
  · exact p.elim
theorem Xdu {a:FE}{r:FA}{ρ:Yq}{zs:List D}(h:Dl.Zc a r ρ=.ok zs):∃x xs,zs=x::xs∧a ρ=.ok x∧r ρ=.ok xs:=by
 unfold Dl.Zc at h
 cases e:a ρ with
 | bad=>rw [e] at h;cases h
 | err c x=>rw [e] at h;cases h
 | ok x =>
  rw [e] at h
  cases e2:r ρ with
  | bad=>rw [e2] at h;cases h
  | err c x=>rw [e2] at h;cases h
  | ok xs =>
   rw [e2] at h
   cases h
   exact ⟨x,xs,rfl,rfl,rfl⟩
theorem Zvj {i:Nat}{tk te:TE}{fk fe:FE}(hi:i∈Δ:=by decide)(hk:EOk K C E Γ Δ m1 S1 tk fk)(he:EOk K C E Γ Δ 2 [] te fe) :
  SOk K C E mr Γl Δl Γ Δ Γ Δ (Znn (tBM K "list" Zdy (tOp (rIx K) (Zme i) tk) (Zbk te Zlw))) (Dl.Zpm i (Dl.Zc fk Dl.Zt) fe):=fun H0 Hb H σ ρ A D I p=>by
 obtain ⟨d,zs,path,e,d',ed,ek0,ep,ef,eu,q⟩:=Xcl p
 obtain ⟨y,r,rfl,ek,er⟩:=Xdu ek0
 cases er
 have en:∃n,y=.int n∧path=[n]:=by
  cases y<;>simp only [Dl.intsOf] at ep<;>try cases ep
  exact ⟨_,rfl,rfl⟩
 obtain ⟨n,rfl,rfl⟩:=en
 obtain ⟨v,b,ys,hs,hat,hb,hz,up⟩:=I.pathApp hi ed eu
 refine ⟨v,hs,hk H0 Hb H σ ρ A _ I ?_⟩
 rw [ek]
 intro w H1 g1 ry
 obtain ⟨By,ry,_⟩:=ry
 obtain ⟨rfl,_⟩:=ry
 refine Xhc (hat.same g1) fun u hu=>?_
 have hu:u=.ref b:=hu
 subst hu
 refine ⟨.inl ⟨rfl,ys,SqL.of (g1 _ _ hb)⟩,he H0 Hb H1 σ ρ A _ (I.mono g1) ?_⟩
 rw [ef]
 intro w2 H2 g2 re
 obtain ⟨B,re,nB,hB⟩:=Res.new' I g1 re
 obtain ⟨A',I',_⟩:=up H2 w2 B (g1.trans g2) re nB hB
 exact ⟨b,ys,w2,rfl,rfl,g2 _ _ (g1 _ _ hb),hz,q σ _ A' I'⟩
end
section
variable {X:Cx}{C:String→Addr}{E:XK}{Γ Δ Γ' Δ' Γ1 Δ1 Γl Δl Γk Δk:List Nat}{m m1 m2 m3 mr:Nat}{S S1 S2 S3:List (Nat×Bool)}{a b c e st o tg iter kx lx:Expr}{es rest:List Expr}{ta tb tc te ts tk tl:TE}{fa fb fc fe fs fk fl:FE}{pos p p1 p2 apos cpos pos':Pos}{n:Nat}
theorem Xeo {i:Nat}{x:Str}(hk:JE X C E Γ Δ m1 S1 kx tk fk)(hs:Zag kx)(he:JE X C E Γ Δ 2 [] e te fe)(hse:starEach [e] X.env=(false,eval e X.env)::starEach [] X.env)(hi:i∈Δ:=by decide)(hN:X.N[i]?=some x:=by rfl)(hv:autoParam (Vis X.env.scope x) aT3._auto_1)(hd:(x==("__debug__":Str))=false:=by decide)(hcd:(x==("__classdict__":Str))=false:=by decide)
  (hbase:attributeBase (.Subscript (.Name x p) kx p1) "append" X.env (eval (.Subscript (.Name x p) kx p1) X.env)=eval (.Subscript (.Name x p) kx p1) X.env:=by rfl)
  (hfew:((backTo cpos (starEach [e] X.env)).all (fun x=>!x.1)&&(backToKw cpos (keywordEach [] X.env)).all (fun x=>x.1.isSome)&&decide (([e]:List Expr).length+([]:List Keyword).length+(if ([]:List Keyword).isEmpty then 0 else 1)<30))=true:=by rfl)
  (hline:(apos.endLine==cpos.line)=true:=by rfl) (hplain:(backTo cpos (starEach ([]:List Expr) X.env)).any (·.1)=false:=by rfl) (hsw:swapsWith (.Call (.Attribute (.Subscript (.Name x p) kx p1) "append" apos) [e] [] cpos) none pos.line X.env=pure false:=by rfl) :
  JS X C E mr Γl Δl Γ Δ Γ Δ (.Expr (.Call (.Attribute (.Subscript (.Name x p) kx p1) "append" apos) [e] [] cpos) pos) (Znn (tBM X.K "list" Zdy (tOp (rIx X.K) (Zme i) tk) (Zbk te Zlw))) (Dl.Zpm i (Dl.Zc fk Dl.Zt) fe):=
 ⟨Zny (Xia PySem.F.plainAttrs_list PySem.F.slot_list_append PySem.F.type_list_append Zia (Xbb Zri (qv i hN hv hd hcd) hk.q hs) (Zbz he.q Zhk hse) hbase hfew hline hse hplain) hsw,Zvj hi hk.o he.o⟩
end
section
variable {K:Frag}{C:String→Addr}{E:XK}{Γ Δ Γ' Δ' Γ1 Δ1 Γl Δl Γk Δk:List Nat}{m m1 m2 m3 mr:Nat}{H:Hp}{Q:VK}
end
section
variable {X:Cx}{C:String→Addr}{E:XK}{Γ Δ Γ' Δ' Γl Δl:List Nat}{mr:Nat}{pos p p2 apos cpos:Pos}
end
section
variable {prog:Program}{w:World}{A:Around}{E:Value→Shared→Prop}{s:Shared}{a₀:Array Keyed}
variable {X:Cx}
variable {K:Frag}{C:String→Addr}
end
section
variable {K:Frag}{C:String→Addr}{E:XK}{Γ Δ Γ' Δ' Γl Δl:List Nat}{m mr:Nat}{S:List (Nat×Bool)}
end
section
variable {X:Cx}{C:String→Addr}{E:XK}{Γ Δ Γ' Δ' Γl Δl:List Nat}{m mr:Nat}{S:List (Nat×Bool)}{e:Expr}{te:TE}{fe:FE}{p p1 p2 pos:Pos}{x y:Str}{i j k:Nat}
end
noncomputable def Itd (lo:Int)(n:Nat):It:=⟨fun i _=>i<n,fun i H x H'=>H'=H∧x=.int (lo - i),fun i _=>n≤i⟩
theorem Zwx {P:Program}{w:World}{K:Frag}{tg:Expr}(it:Addr)(lo:Int)(n:Nat):Turn P w K tg (Itd lo n) [it] it (fun i h=>IsRangeIter h it (lo+(i:Nat)*(-1)) ((n:Int) - (i:Nat)) (-1)) where
 mem:=List.mem_singleton.mpr rfl
 obj:=fun i h st b hb=>by
  rw [List.mem_singleton.mp hb]
  refine ⟨_,st,fun v z=>?_⟩
  have q:Data.fields _=Data.cell v:=z
  cases q
 keep:=fun i h h' st k=>k it (List.mem_singleton.mpr rfl) _ st
 item:=by
  rintro X rfl rfl rfl hc i pins s σ H E I hf st hg
  obtain ⟨f0,f1,f2,f3,f4,f5⟩:=hf it (List.mem_singleton.mpr rfl)
  refine (Walks.range (prog:=X.prog) (w:=X.w) (I.ok.hd hc) it lo (-1) n).item i s _ _ hg st fun v h' tk hv st' kk=>?_
  obtain ⟨t,rfl⟩:=hv
  have J:Inv X pins σ H {s with heap:=h',toks:=tk}:=I.turned (fun b o hb e=>kk b o (fun z=>hb (List.mem_singleton.mp z)) e) f0 f1 f3 f4 f5
  refine ⟨_,rfl,Xbz (s:={s with heap:=h',toks:=tk}) (n:="range_iterator") st' rfl rfl (by decide) ⟨.int (lo - i),H,J,⟨t,?_⟩,⟨rfl,rfl⟩,st',fun b hb=>(hf b hb).1⟩⟩
  rw [show lo - (i:Int)=lo+(i:Int)*(-1) by omega]
 done:=by
  rintro X rfl rfl rfl hc i pins s σ H E I hf st hg
  obtain ⟨f0,f1,f2,f3,f4,f5⟩:=hf it (List.mem_singleton.mpr rfl)
  have hle:(n:Int) - (i:Nat)≤0:=by
   have q:n≤i:=hg
   omega
  exact wpAny_pyNext_range_end (I.ok.hd hc) st hle fun h' eb=>⟨rfl,I.turned (t':=s.toks) (fun b o hb e=>eb b o hb e) f0 f1 f3 f4 f5⟩
 self:=fun _ _ _ _ _ st h=>wpAny_pyIter_rangeiter st h
theorem rangeSize_down (a b:Int):Builtin.Range.rangeSize a b (-1)=(((a - b).toNat:Nat):Int):=by
 unfold Builtin.Range.rangeSize
 rw [if_neg (by decide)]
 split
 ·rw [show (-(-1):Int)=1 from rfl,Int.ediv_one]
  omega
 ·omega
theorem fitsLong {a:Int}(h1:-(2 ^ 62)≤a)(h2:a<2 ^ 62):Builtin.Range.rangeFitsLong a=true:=by
 unfold Builtin.Range.rangeFitsLong
 rw [Bool.and_eq_true,decide_eq_true_eq,decide_eq_true_eq]
 omega
theorem small_down {a b:Int}(h1:-(2 ^ 60)≤a)(h2:a<2 ^ 60)(h3:-(2 ^ 60)≤b)(h4:b<2 ^ 60):Builtin.Range.small a b (-1)=true:=by
 unfold Builtin.Range.small
 rw [rangeSize_down,fitsLong (by omega) (by omega),fitsLong (by omega) (by omega),fitsLong (a:=-1) (by omega) (by omega),fitsLong (by omega) (by omega),if_neg (by decide),fitsLong (by omega) (by omega)]
 simp
section
variable {X:Cx}{tg:Expr}
theorem Xln {pins:List (Addr×Obj)}{σ:St}{H:Hp}{s:Shared}{R:It→Hp→Prop}{E:Value→Shared→Prop}{hi lo:Int}{t u v:Tok}{tk:Nat}(I:Inv X pins σ H s)(h1:-(2 ^ 60)≤hi)(h2:hi<2 ^ 60)(h3:-(2 ^ 60)≤lo)(h4:lo<2 ^ 60)
  (q:R (Itd hi (hi - lo).toNat) H):wpAny (model X.prog X.w) X.A (pyIter (.ref s.heap.objs.size)) (PIE X pins σ tg R) E {s with heap:=s.heap.push {cls:=.type "range",data:=.fields #[.int hi t,.int lo u,.int (-1) v]},toks:=tk}:=by
 refine wpAny_pyIter_range (IsRange.new ..) (small_down h1 h2 h3 h4) ?_
 have J:Inv X pins σ H {s with heap:=s.heap.push {cls:=.type "range",data:=.fields #[.int hi t,.int lo u,.int (-1) v]},toks:=tk}:=I.kept fun b o e=>get?_push_of_some _ e
 refine ⟨_,[(s.heap.push {cls:=.type "range",data:=.fields #[.int hi t,.int lo u,.int (-1) v]}).objs.size],_,_,H,rfl,J.kept (t':=tk) fun b o e=>get?_push_of_some _ e,Zwx _ hi (hi - lo).toNat,?_,fun b hb=>?_,q⟩
 ·show IsRangeIter _ _ (hi+((0:Nat):Int)*(-1)) ((((hi - lo).toNat:Nat):Int) - ((0:Nat):Int)) (-1)
  rw [show hi+((0:Nat):Int)*(-1)=hi by simp,show ((((hi - lo).toNat:Nat):Int) - ((0:Nat):Int))=Builtin.Range.rangeSize hi lo (-1) by rw [rangeSize_down];simp]
  exact get?_push_size _ rfl
 ·rw [List.mem_singleton.mp hb]
  exact J.fpOk (le_refl _) (J.hok.fresh (le_refl _))
noncomputable def Xid (ta:TA):TI:=fun σ H R=>ta σ H fun vs H1=>∃i j:Int,vs=[.int i,.int j,.int (-1)]∧(-(2 ^ 60)≤i∧i<2 ^ 60∧-(2 ^ 60)≤j∧j<2 ^ 60)∧R (Itd i (i - j).toNat) H1
theorem Zwg {a b c:Expr}{ta:TA}{p pos:Pos}(hg:Gl X "range")(hm:X.mg "range"=none)(ha:PA X [a,b,c] ta)(hs:starEach [a,b,c] X.env=[(false,eval a X.env),(false,eval b X.env),(false,eval c X.env)]:=by rfl)(hs2:starEach [b,c] X.env=[(false,eval b X.env),(false,eval c X.env)]:=by rfl) :
  PI X tg (.Call (.Name "range" p) [a,b,c] [] pos) (Xid ta):=by
 intro pins s σ H R I h
 refine Call_ (Zee I hg hm boot_range (PyProof.Rows.callWith_type1 (thn (ha pos pins s σ H _ I h) fun us s1 ⟨vs,H1,I1,r1,q1⟩=>?_) (by rw [hs,hs2]) (by rw [hs2];rfl)))
 obtain ⟨i,j,e,⟨q1,q2,q3,q4⟩,q⟩:=q1
 subst e
 cases r1 with
 | cons r rr =>
  cases rr with
  | cons r' rr =>
   cases rr with
   | cons r'' rr =>
    cases rr
    obtain ⟨t,rfl⟩:=r
    obtain ⟨t',rfl⟩:=r'
    obtain ⟨t'',rfl⟩:=r''
    exact call_range_3 (by decide) (Xln I1 q1 q2 q3 q4 q) (.inl (PyProof.noPylong_small (by decide)))
variable {K:Frag}{C:String→Addr}{E:XK}{Γ Δ:List Nat}{m:Nat}{S:List (Nat×Bool)}{H:Hp}
theorem Zxi {lo:Int}{n:Nat}{Hc:Hp}:Goes K C (Itd lo n) ((Dl.Zfs lo n).map D.int) Hc:=Zku (vs:=(Dl.Zfs lo n).map V.int) RpA.ints fun H2 _=>by
 have hl:((Dl.Zfs lo n).map V.int).length=n:=by simp [Dl.Zfs]
 refine ⟨fun i hi=>by rw [hl] at hi;exact hi,fun i hi=>by rw [hl] at hi;exact hi,fun i x H3 y=>⟨y.1,fun hi=>?_⟩⟩
 rw [hl] at hi
 rw [y.2]
 simp [Dl.Zfs,hi]
theorem RpA.three' {d e f:D}{vs:List V}{A:List Addr}(r:RpA K C H [d,e,f] vs A):∃v w x B B' B'',vs=[v,w,x]∧Rp K C H d v B∧Rp K C H e w B'∧Rp K C H f x B'':=by
 obtain ⟨v,l,B,B',rfl,r1,r2,_⟩:=r
 obtain ⟨w,x,B1,B2,rfl,r3,r4⟩:=RpA.two' r2
 exact ⟨v,w,x,B,B1,B2,rfl,r1,r3,r4⟩
theorem Xfe {t:TA}{f:FA}(h:AOk K C E Γ Δ m S t f):IOk K C E Γ Δ [] (Xid t) (Dl.Zyt f):=fun H0 Hb H σ ρ A Rr I p=>h H0 Hb H σ ρ A _ I (p.bind.imp (fun ds q vs H' g r=>by
  obtain ⟨B,r,_⟩:=r
  split at q
  · split at q
    · rename_i hl
      obtain ⟨v,w,x,B,B',B'',rfl,r1,r2,r3⟩:=RpA.three' r
      obtain ⟨rfl,_⟩:=r1
      obtain ⟨rfl,_⟩:=r2
      obtain ⟨rfl,_⟩:=r3
      obtain ⟨rfl,h1,h2,h3,h4,h5⟩:=hl
      exact ⟨_,_,rfl,⟨by omega,by omega,by omega,by omega⟩,q _ H' [] g (fun b hb=>nomatch hb) (by rw [length_map,Dl.Zfs,length_map,List.length_range];exact h5) fun Hc _=>Zxi⟩
    · exact q.elim
  · exact q.elim) fun c x q H' g'=>q H' g')
end
section
variable {X:Cx}{C:String→Addr}{E:XK}{Γ Δ:List Nat}{m n:Nat}{S:List (Nat×Bool)}{tg a b c:Expr}{t:TA}{f:FA}{p pos:Pos}
theorem Xji (hg:Gl X "range")(hm:X.mg "range"=none)(ha:JA X C E Γ Δ m S [a,b,c] n t f)(hs:starEach [a,b,c] X.env=[(false,eval a X.env),(false,eval b X.env),(false,eval c X.env)]:=by rfl)(hs2:starEach [b,c] X.env=[(false,eval b X.env),(false,eval c X.env)]:=by rfl):JI X C E Γ Δ [] tg (.Call (.Name "range" p) [a,b,c] [] pos) (Xid t) (Dl.Zyt f):=⟨⟨Zwg hg hm ha.q.out hs hs2⟩,Xfe ha.o⟩
end
section
variable {K:Frag}{C:String→Addr}
end
end L2
namespace L2
open PySem PySem.Spec PyProof.Rows
open Dl (D R FE FT FA FO FS FI FB Fl FM FMT)
section
variable {K:Frag}{C:String→Addr}{E:XK}{Γ Δ Γ' Δ' Γ1 Δ1 Γl Δl:List Nat}{m m1 m2 mr n:Nat}{S S1 S2:List (Nat×Bool)}{H:Hp}
def MOk (K:Frag)(C:String→Addr)(E:XK)(Γ Δ:List Nat)(t:TE)(f:FM):Prop:=∀(H0 Hb H:Hp) (σ:St) (ρ:Yq) (A:Nat→List Addr) (Q:VK),Zy K C H0 Hb H Γ Δ σ ρ A→
 Yi (f ρ) (fun p=>∀v H' A' B,Zy K C H0 Hb H' Γ Δ σ p.2 A'→Rp K C H' p.1 v B→B.Nodup→(∀a∈B,Hb a=none∧∀j,a∉A' j)→Q v H') (fun c x=>∀H',Xx H0 H'→EC C E c x H')→t σ H Q
def MTOk (K:Frag)(C:String→Addr)(E:XK)(Γ Δ:List Nat)(t:TT)(f:FMT):Prop:=∀(H0 Hb H:Hp) (σ:St) (ρ:Yq) (A:Nat→List Addr) (Q:Bool→Hp→Prop),Zy K C H0 Hb H Γ Δ σ ρ A→
 Yi (f ρ) (fun p=>∀H' A',Zy K C H0 Hb H' Γ Δ σ p.2 A'→Q p.1 H') (fun c x=>∀H',Xx H0 H'→EC C E c x H')→t σ H Q
def SOkP (K:Frag)(C:String→Addr)(E:XK)(Γ Δ Γ' Δ':List Nat)(t:TS)(f:FS):Prop:=∀(H0 Hb H:Hp) (σ:St) (ρ:Yq) (A:Nat→List Addr) (D:Ends),Zy K C H0 Hb H Γ Δ σ ρ A→
  Yi (f ρ) (fun fl=>match fl with
    | .nx ρ'=>∀σ' H' A',σ'[0]?=σ[0]?→Zy K C H0 Hb H' Γ' Δ' σ' ρ' A'→D.nx σ' H'
    | _=>False) (fun c x=>∀H',Xx H0 H'→EC C E c x H')→t D σ H
def MBOk (K:Frag)(C:String→Addr)(E:XK)(Γ Δ:List Nat)(t:TS)(G:FM):Prop:=∀(H0 Hb H:Hp) (σ:St) (ρ:Yq) (A:Nat→List Addr) (D:Ends) (Q:VK),Zy K C H0 Hb H Γ Δ σ ρ A→D.rt=Q→(D.nx=fun _ H'=>Q .non H')→
 Yi (G ρ) (fun p=>∀v H' σ' A' B,σ'[0]?=σ[0]?→Zy K C H0 Hb H' [0] [0] σ' p.2 A'→Rp K C H' p.1 v B→B.Nodup→(∀a∈B,Hb a=none∧∀j,a∉A' j)→Q v H') (fun c x=>∀H',Xx H0 H'→EC C E c x H')→t D σ H
end
structure JM (X:Cx)(C:String→Addr)(E:XK)(Γ Δ:List Nat)(e:Expr)(t:TE)(f:FM):Prop where
 q:QE X e t
 o:MOk X.K C E Γ Δ t f
structure JMT (X:Cx)(C:String→Addr)(E:XK)(Γ Δ:List Nat)(e:Expr)(t:TT)(f:FMT):Prop where
 q:QT X e t
 o:MTOk X.K C E Γ Δ t f
structure JMW (X:Cx)(C:String→Addr)(E:XK)(Γ Δ:List Nat)(e:Expr)(t:TT)(f:FMT):Prop where
 q:QW X e t
 o:MTOk X.K C E Γ Δ t f
structure JP (X:Cx)(C:String→Addr)(E:XK)(Γ Δ Γ' Δ':List Nat)(s:Stmt)(t:TS)(f:FS):Prop where
 q:QS X s t
 o:SOkP X.K C E Γ Δ Γ' Δ' t f
structure JMB (X:Cx)(C:String→Addr)(E:XK)(Γ Δ:List Nat)(s:List Stmt)(t:TS)(f:FM):Prop where
 q:QSs X s t
 o:MBOk X.K C E Γ Δ t f
structure MDef (P:Program)(w:World)(K:Frag)(mg:Str→Option Value)(base:Heap)(CX:CXT)(k:Nat)(C:Addr)(x:Str)(ps:List Str)(sp:Sp):Prop where
 ex:∃f fd,Meth K C x f∧Binds K fd ps []∧Zao P w K mg base CX k f fd ps sp
structure MkDef (P:Program)(w:World)(K:Frag)(mg:Str→Option Value)(base:Heap)(CX:CXT)(k:Nat)(C:Addr)(ps:List Str)(sp:Sp):Prop where
 ex:∃f fd,Mk K C f∧Binds K fd ps []∧Zao P w K mg base CX k f fd ps sp
section
variable {X:Cx}{C:String→Addr}{E:XK}{Γ Δ Γ' Δ' Γ1 Δ1 Γl Δl:List Nat}{m m1 m2 mr n:Nat}{S S1 S2:List (Nat×Bool)}{a b e o:Expr}{es rest:List Expr}{te:TE}{fe:FE}{t:TA}{fa:FA}{pos p p2 apos cpos:Pos}{c:String}{f md x:Str}{CX:CXT}{k:Nat}{ps:List Str}{s:Stmt}{ss:List Stmt}{tm:TE}{fm:FM}{u:TS}{g:FS}
end
section
variable {K:Frag}{C:String→Addr}{E:XK}{Γ Δ Γ' Δ' Γ1 Δ1 Γl Δl:List Nat}{m m1 m2 mr n:Nat}{S S1 S2:List (Nat×Bool)}{H:Hp}
end
section
variable {X:Cx}{C:String→Addr}{E:XK}{Γ Δ Γ' Δ' Γl Δl:List Nat}{m1 m2 n:Nat}{S2:List (Nat×Bool)}{a b e:Expr}{es:List Expr}{ta tb:TE}{fa fb:FE}{t:TA}{ff:FA}{pos p p2 cpos:Pos}{x y:Str}{CX:CXT}{k:Nat}{ps:List Str}
end
theorem allN0 {P:List Value→Prop}(h:P []):∀us:List Value,us.length=0→P us
 | [],_=>h
theorem Xbe {P:List Value→Prop}(h:∀a0,P [a0])(us:List Value)(hl:us.length=1):P us:=by
 cases us with
 | nil=>exact absurd hl (by decide)
 | cons a us=>exact allN0 (P:=fun z=>P (a::z)) (h a) us (Nat.succ.inj hl)
theorem Zfd {P:List Value→Prop}(h:∀a0 a1,P [a0,a1])(us:List Value)(hl:us.length=2):P us:=by
 cases us with
 | nil=>exact absurd hl (by decide)
 | cons a us=>exact Xbe (P:=fun z=>P (a::z)) (h a) us (Nat.succ.inj hl)
theorem Ziy {P:List Value→Prop}(h:∀a0 a1 a2,P [a0,a1,a2])(us:List Value)(hl:us.length=3):P us:=by
 cases us with
 | nil=>exact absurd hl (by decide)
 | cons a us=>exact Zfd (P:=fun z=>P (a::z)) (h a) us (Nat.succ.inj hl)
theorem Zoh {P:List Value→Prop}(h:∀a0 a1 a2 a3,P [a0,a1,a2,a3])(us:List Value)(hl:us.length=4):P us:=by
 cases us with
 | nil=>exact absurd hl (by decide)
 | cons a us=>exact Ziy (P:=fun z=>P (a::z)) (h a) us (Nat.succ.inj hl)
theorem allN5 {P:List Value→Prop}(h:∀a0 a1 a2 a3 a4,P [a0,a1,a2,a3,a4])(us:List Value)(hl:us.length=5):P us:=by
 cases us with
 | nil=>exact absurd hl (by decide)
 | cons a us=>exact Zoh (P:=fun z=>P (a::z)) (h a) us (Nat.succ.inj hl)
theorem Xbu {q:Program}{loose:List Str}{XP:(Str→Option Value)→Heap→Prop}{K:Params→Frag}{as:List Addr}{n t:Nat}{r:PySem.W.RowW}{d:DefRec}{kwd:List (Str×Expr)}{run:Value→List Value→Sem Value}
  (e:∀P,as=(K P).map (·.1)) (W:PySem.W.WalkO q loose XP (PySem.W.InK K) r d kwd run):PySem.W.WalkX q loose XP (PySem.W.X.obsZ as) (PySem.W.X.valZ K n t) r d kwd run:=
 fun w s₀ s₁ mg mb G y a o pm cd doc dV kV ho hd hcd hD hmg hg args vals as' L hpre hlay hrd hwl hlo =>
  W w s₀ s₁ mg mb G (PySem.W.InK.keeps w _ _ (PySem.W.X.z_facts e y).2.1 (PySem.W.Laid.keeps L)) a o pm cd doc dV kV ho hd hcd hD hmg hg args vals as' hpre hlay hrd hwl hlo
end L2
namespace L2
open PySem PySem.Spec PyProof.Rows
open Dl (D R FE FT FA FO FS FI FB Fl)
section
variable {K:Frag}{C:String→Addr}{E:XK}{Γ Δ Γ' Δ' Γl Δl:List Nat}{mr:Nat}
end
section
variable {X:Cx}{C:String→Addr}{E:XK}{Γ Δ Γl Δl:List Nat}{m2 mr n k:Nat}{S2:List (Nat×Bool)}{es:List Expr}{t:TA}{ff:FA}{pos p p2 p3 cpos:Pos}{x y:Str}{CX:CXT}{ps:List Str}
end
end L2
namespace L2
open PySem PySem.Spec PyProof.Rows
noncomputable def Xtn (K:Frag)(C:Addr)(bmB:List Value)(newId:String)(fI:Addr):Bool:=match K.lookup C with
  | some ⟨.type "type",_,.cls cd,sl⟩=>(match cd.mro,sl.toList with
    | .ref C'::bm,[_,_,_,_,some (.builtin n),_]=>C'==C&&n==newId&&!cd.hasDel&&cd.hasDict&&PySem.W.tailIn K bmB bm&&PySem.W.nsOkIn K cd.ns&&nsIn K cd.ns "__init__"==some (some (.ref fI))
    | _,_=>false)
  | _=>false
section
variable {prog:Program}{w:World}{A:Around}{E:Value→Shared→Prop}{h:Heap}{g:Array GenState}{d:Drawn}{t:Nat}{os:OsState}
variable {nm q:Str}{C N:Addr}{bs bm bmB:List Value}{hdct:Bool}{sn:List Str}{sub:List Value}{ab:Bool}{col:Option Bool}{dd:Option Addr}{k0 k1 k2 k3 k5:Option Value}{B newId initId:String}
end
section
variable {prog:Program}{w:World}{A:Around}{E:Value→Shared→Prop}{s:Shared}{env:Env}
variable {nm q:Str}{C N:Addr}{bs bm bmB:List Value}{hdct:Bool}{sn:List Str}{sub:List Value}{ab:Bool}{col:Option Bool}{dd:Option Addr}{k0 k1 k2 k3 k5:Option Value}{B newId initId:String}
end
end L2
namespace L2
open PySem PySem.Spec PyProof.Rows
open PySem.W (Looks)
open Builtin Builtin.ObjectAttr
section
variable {prog:Program}{w:World}{A:Around}{E:Value→Shared→Prop}{h:Heap}{g:Array GenState}{d:Drawn}{t:Nat}{os:OsState}
variable {nm q:Str}{C N x:Addr}{bs bm bmB:List Value}{sn:List Str}{sub:List Value}{ab:Bool}{col:Option Bool}{dd:Option Addr}{k0 k1 k2 k3 k5:Option Value}{B newId sa owner:String}
 {name:Str} {v:Value} {fs:Array Value} {sl:Array (Option Value)}
end
end L2
namespace L2
open PySem PySem.Spec PyProof.Rows
open PySem.W (Looks)
section
variable {prog:Program}{w:World}{A:Around}{E:Value→Shared→Prop}{h:Heap}{g:Array GenState}{d:Drawn}{t:Nat}{os:OsState}
variable {nm q:Str}{C N x:Addr}{bs bm bmB:List Value}{hdct:Bool}{sn:List Str}{sub:List Value}{ab:Bool}{col:Option Bool}{dd:Option Addr}{k0 k1 k2 k3 k5:Option Value}{B newId initId:String}
end
section
variable {prog:Program}{w:World}{A:Around}{E:Value→Shared→Prop}{h:Heap}{g:Array GenState}{d:Drawn}{t:Nat}{os:OsState}{a C dx:Addr}{o:Obj}{vs:Array Value}{mA:Str→Option Value}{v:Value}{name:Str}
end
end L2
namespace L2
open PySem PySem.Spec PyProof.Rows
open Dl (D R FE FT FA FO FS FI FB Fl)
structure ErrF (K:Frag)(C:Addr)(nm:Str)(fI:Addr):Prop where
 exc:Xtn K C bmV "ValueError.__new__" fI=true
 sa:findIn K (.ref C) "__setattr__"=some (some (.builtin "object.__setattr__"))
 nf:findIn K (.ref C) nm=some none
 hd:PySem.W.hasDictIn K C=true
noncomputable def exA (e C:Addr)(dx:Option Addr):HO:=.ext fun h=>∃t sl,h.get? e=some {cls:=.ref C,dict:=dx,data:=.fields #[.ref t,.none,.none,.none,.bool false,.none],slots:=sl}
section
variable {X:Cx}{pins:List (Addr×Obj)}{σ:St}{H:Hp}{s:Shared}
end
structure BaseI (K:Frag)(B:Addr):Prop where
 sp:specialIn K (.ref B) "__getattribute__"=some (some (.builtin "type.__getattribute__"))
 rd:PySem.W.readsIn K B (.type "type")=true
 fc:PySem.W.findCls K (.ref B) (.type "type") "__init__"=some (.val (.builtin "ValueError.__init__"))
section
variable {X:Cx}{e o value:Expr}{es:List Expr}{t:TA}{ta tv:TE}{pos pos' apos np:Pos}{b f:Str}{B:Addr}
end
noncomputable def Xoy (K:Frag)(nm:Str):Sp:=fun vs H Q _=>∃e C i fI,vs=[.ref e,.int i]∧H e=some (exA e C none)∧ErrF K C nm fI∧i.natAbs.log2<1920∧∀d,H d=none→Q .non (upd (upd H d (.xd [(nm,.int i)])) e (exA e C (some d)))
section
variable {P:Program}{w:World}{K:Frag}{mg:Str→Option Value}{base:Heap}
structure IDef (P:Program)(w:World)(K:Frag)(mg:Str→Option Value)(base:Heap)(C:Addr)(nm:Str):Prop where
 ex:∃fI fd ps,ErrF K C nm fI∧typeIn K (.ref fI)=some (.type "function")∧ps.length=2∧Binds K fd ps []∧Zao P w K mg base CX0 1 fI fd ps (Xoy K nm)
variable {C:String→Addr}{E:XK}{Γ Δ Γ' Δ' Γl Δl:List Nat}{m mr:Nat}{S:List (Nat×Bool)}
end
section
variable {X:Cx}{C:String→Addr}{E:XK}{Γ Δ Γ' Δ' Γl Δl:List Nat}{m mr:Nat}{S:List (Nat×Bool)}{e:Expr}{te:TE}{fe:FE}{np cpos pos:Pos}
end
def Zxp (i j:Int):Prop:=i.natAbs<2 ^ 4000∧j.natAbs<2 ^ 4000
theorem Zxp.ok {i j:Int}(h:Zxp i j):IntMulOk i j:=PySem.IntMulOk.of_le (PySem.intBits_le_iff.mpr h.1) (PySem.intBits_le_iff.mpr h.2) (by decide)
section
variable {X:Cx}
theorem Xmi:OpR X (binaryOp .Mult) (rI Zxp fun i j=>.int (i*j)):=opI fun _ _ _ _ _ _ _ hc q=>mul_int q hc.ok
end
theorem Xhh {x y d:D}(e:Dl.Zta x y=some d):∃i j,x=.int i∧y=.int j∧Zxp i j∧d=.int (i*j):=by
 unfold Dl.Zta at e
 split at e
 ·split at e
  ·rename_i h
   cases e
   exact ⟨_,_,rfl,rfl,h,rfl⟩
  ·cases e
 ·cases e
section
variable {K:Frag}{C:String→Addr}{E:XK}{Γ Δ Γ' Δ' Γl Δl:List Nat}{m mr:Nat}{S:List (Nat×Bool)}
theorem Xbf:GOk K C (rI Zxp fun i j=>.int (i*j)) Dl.Zta:=by
 intro H x y d vx vy Bx By Q rx ry e q
 obtain ⟨i,j,rfl,rfl,hc,rfl⟩:=Xhh e
 obtain ⟨rfl,_⟩:=rx
 obtain ⟨rfl,_⟩:=ry
 exact ⟨i,j,rfl,rfl,hc,Out.flat q rpI⟩
end
section
variable {X:Cx}{C:String→Addr}{E:XK}{Γ Δ Γ' Δ' Γl Δl:List Nat}{m m1 m2 mr:Nat}{S S1 S2:List (Nat×Bool)}{a b e:Expr}{ta tb te:TE}{fa fb fe:FE}{pos pos':Pos}
end
section
variable {K:Frag}{C:String→Addr}{E:XK}{Γ Δ Γ' Δ' Γk Δk:List Nat}{mr:Nat}{S:List (Nat×Bool)}
end
section
variable {X:Cx}{C:String→Addr}{E:XK}{Γ Δ Γk Δk:List Nat}{mr:Nat}{S:List (Nat×Bool)}{c iter:Expr}{ret:List Stmt}{u:TS}{g:FS}{pos p ip:Pos}{x:Str}{k:Nat}
end
structure Clz where
 c:Value
 i:Option Nat
 th:TS
noncomputable def tClz (K:Frag)(N:Nat)(D:Ends)(e:Addr)(cls:Value)(dx:Option Addr)(H':Hp):List Clz→Prop
  | []=>False
  | z::r=>∃b,exmOne K cls z.c=some b∧if b=true then (match z.i with
      | some i=>∀σ':St,σ'.length=N→z.th {nx:=fun _ H2=>D.nx (List.replicate N none) H2,rt:=D.rt,bk:=fun _ H2=>D.bk (List.replicate N none) H2,ct:=fun _ H2=>D.ct (List.replicate N none) H2} (σ'.set i (some (.ref e))) (upd H' e (exO e cls dx))
      | none=>∀σ':St,σ'.length=N→z.th D σ' H')
    else tClz K N D e cls dx H' r
inductive PClz (X:Cx):List ExceptHandler→List Clz→Prop
 | nil:PClz X [] []
 | named {c n:Str} {np hpos:Pos} {C:Addr} {b₀:Stmt} {suite:List Stmt} {i:Nat} {th:TS} {hs:List ExceptHandler} {zs:List Clz} (hm:X.mg c=some (.ref C)) (hg:Gl X c) (hdb:(c==("__debug__":Str))=false) (hi:X.N[i]?=some n) (hl:X.env.scope.names.lookup n=some .local)
   (hh:∀e:Addr,PSs (X.hand e) (b₀::suite) th) (hr:PClz X hs zs):PClz X (.ExceptHandler (some (.Name c np)) (some n) (b₀::suite) hpos::hs) (⟨.ref C,some i,th⟩::zs)
 | plain {c:Str} {np hpos:Pos} {C:Addr} {b₀:Stmt} {suite:List Stmt} {th:TS} {hs:List ExceptHandler} {zs:List Clz} (hm:X.mg c=some (.ref C)) (hg:Gl X c) (hdb:(c==("__debug__":Str))=false)
   (hh:∀e:Addr,PSs (X.hand e) (b₀::suite) th) (hr:PClz X hs zs):PClz X (.ExceptHandler (some (.Name c np)) none (b₀::suite) hpos::hs) (⟨.ref C,none,th⟩::zs)
section
variable {K:Frag}{C:String→Addr}{E:XK}{Γ Δ Γ1 Δ1 Γl Δl:List Nat}{mr:Nat}
inductive OClz (K:Frag)(C:String→Addr)(N mr:Nat)(Γl Δl Γ1 Δ1:List Nat):List Clz→List (List (String×Bool)×Option Nat×FS)→Prop
 | nil:OClz K C N mr Γl Δl Γ1 Δ1 [] []
 | named {c:Addr} {i:Nat} {th:TS} {fh:FS} {tb:List (String×Bool)} {Γ2 Δ2:List Nat} {Eh:XK} {zs:List Clz} {ds:List (List (String×Bool)×Option Nat×FS)} (ht:∀p∈tb,exmOne K (.ref (C p.1)) (.ref c)=some p.2) (hi:i<N) (hh:SOk K C Eh mr [] [] [] [] Γ2 Δ2 th fh)
   (hr:OClz K C N mr Γl Δl Γ1 Δ1 zs ds):OClz K C N mr Γl Δl Γ1 Δ1 (⟨.ref c,some i,th⟩::zs) ((tb,some i,fh)::ds)
 | plain {c:Addr} {th:TS} {fh:FS} {tb:List (String×Bool)} {Eh:XK} {zs:List Clz} {ds:List (List (String×Bool)×Option Nat×FS)} (ht:∀p∈tb,exmOne K (.ref (C p.1)) (.ref c)=some p.2) (hh:SOk K C Eh mr Γl Δl [] [] Γ1 Δ1 th fh)
   (hr:OClz K C N mr Γl Δl Γ1 Δ1 zs ds):OClz K C N mr Γl Δl Γ1 Δ1 (⟨.ref c,none,th⟩::zs) ((tb,none,fh)::ds)
end
inductive JClz (X:Cx)(C:String→Addr)(mr:Nat)(Γl Δl Γ1 Δ1:List Nat):List ExceptHandler→List Clz→List (List (String×Bool)×Option Nat×FS)→Prop
 | mk {hs:List ExceptHandler} {zs:List Clz} {ds:List (List (String×Bool)×Option Nat×FS)} (p:PClz X hs zs) (o:OClz X.K C X.N.length mr Γl Δl Γ1 Δ1 zs ds):JClz X C mr Γl Δl Γ1 Δ1 hs zs ds
section
variable {X:Cx}{C:String→Addr}{E:XK}{Γ Δ Γ1 Δ1 Γl Δl:List Nat}{mr:Nat}{np hpos pos:Pos}{hs:List ExceptHandler}{zs:List Clz}{ds:List (List (String×Bool)×Option Nat×FS)}{b₀:Stmt}{suite:List Stmt}{th:TS}{fh:FS}
end
section
variable {X:Cx}{C:String→Addr}{E:XK}{Γ Δ Γl Δl:List Nat}{mr:Nat}{e:Expr}{te:TE}{fe:FE}{pos p apos cpos:Pos}
def Xhr:V→V→V→Hp→(Hp→Prop)→Prop:=fun o i v H Q=>∃a H4,o=.ref a∧Xnp H a i v H4∧Q H4
theorem set_dict (hu:X.A.units+64<cLine):PSet X Xhr:=by
 intro pins s σ H o i v ov iv u Q I ro ri rv h
 obtain ⟨a,H4,rfl,g,q⟩:=h
 cases (show ov=Value.ref a from ro)
 exact Zzb (by omega) I g ri rv fun s4 I4=>⟨H4,I4,q⟩
end
section
variable {K:Frag}{C:String→Addr}{E:XK}{Γ Δ Γl Δl:List Nat}{m m1 m2 mr:Nat}{S S1 S2:List (Nat×Bool)}{H:Hp}
theorem Xjc {x:D}{k:Int ⊕ Str}{v:V}{B:List Addr}(e:Dl.keyD x=some k)(r:Rp K C H x v B):v=kV k:=by
 cases x with
 | int i=>cases e;exact r.1
 | str z=>cases e;exact r.1
 | _=>cases e
theorem RpA.snoc0 {d:D}{v:V}(r:Rp K C H d v []):∀{ds:List D} {xs:List V},RpA K C H ds xs []→RpA K C H (ds++[d]) (xs++[v]) []
 | [],xs,q=>by
  rw [q.1]
  exact ⟨v,[],[],[],rfl,r,RpA.nil,rfl⟩
 | x::ds,xs,q=>by
  obtain ⟨y,l,B,B',e1,e2,e3,e4⟩:=q
  obtain ⟨rfl,rfl⟩:=List.append_eq_nil_iff.mp e4.symm
  subst e1
  exact ⟨y,_,[],[],rfl,e2,RpA.snoc0 r e3,rfl⟩
end
section
variable {X:Cx}{C:String→Addr}{E:XK}{Γ Δ Γ' Δ' Γl Δl:List Nat}{m m1 m2 mr:Nat}{S S1 S2:List (Nat×Bool)}{a b e tg:Expr}{ta tb te:TE}{fa fb fe:FE}{p p2 pos:Pos}
noncomputable abbrev TX:=Str→St→Hp→VK→Prop
def PX (X:Cx)(es:List Expr)(t:TX):Prop:=
 ∀(out:Str) (pins:List (Addr×Obj)) (s:Shared) (σ:St) (H:Hp) (Q:VK),Inv X pins σ H s→out.length+2000*es.length≤sizeLine→t out σ H Q→
  wpAny (model X.prog X.w) X.A (joinParts out (evalEach es X.env)) (EP X pins σ Q) X.xe s
end
theorem Xlc {a b:Str}(h:a.cps.toList=b.cps.toList):a=b:=by
 cases a
 cases b
 congr 1
 exact Array.toList_inj.mp h
section
variable {K:Frag}{C:String→Addr}{E:XK}{Γ Δ:List Nat}{m m1 m2:Nat}{S S1 S2:List (Nat×Bool)}{H:Hp}
theorem one_of {y:Str}{c:Nat}(h:y.cps.toList=[c]):y=⟨#[c]⟩:=Xlc (by rw [h])
noncomputable def joinL (c:Nat):List (List Nat)→List Nat
 | []=>[]
 | [w]=>w
 | w::v::r=>w++32::c::32::joinL c (v::r)
def XOk (K:Frag)(C:String→Addr)(E:XK)(Γ Δ:List Nat)(t:TX)(f:FA):Prop:=∀(H0 Hb H:Hp) (σ:St) (ρ:Dl.Env) (A:Nat→List Addr) (Q:VK) (out:Str),PyData.strOk out=true→Zy K C H0 Hb H Γ Δ σ ρ A→
 Yi ((f ρ).bind fun xs=>Dl.oR (Dl.catO out xs)) (fun d=>∀v H',Xx H H'→Res K C 2 [] H A d v H'→Q v H') (fun c x=>∀H',Xx H H'→EC C E c x H')→t out σ H Q
end
structure JX (X:Cx)(C:String→Addr)(E:XK)(Γ Δ:List Nat)(es:List Expr)(t:TX)(f:FA):Prop where
 q:PX X es t
 o:XOk X.K C E Γ Δ t f
section
variable {X:Cx}{C:String→Addr}{E:XK}{Γ Δ:List Nat}{m m1 m2:Nat}{S S1 S2:List (Nat×Bool)}{a b e o:Expr}{es:List Expr}{ta tb te:TE}{tx:TX}{fa fb fe:FE}{f:FA}{pos p apos cpos:Pos}
end
section
variable {K:Frag}{C:String→Addr}{E:XK}{Γ Δ Γl Δl:List Nat}{m m1 m2 m3 mr:Nat}{S S1 S2 S3:List (Nat×Bool)}{H:Hp}
theorem Zrk:∀{ds:List D} {k:List (Int ⊕ Str)} {vs:List V} {B:List Addr},Dl.Zzo ds=some k→RpA K C H ds vs B→vs=k.map kV
 | [],k,vs,B,e,r=>by
  cases e
  exact r.1
 | d::ds,k,vs,B,e,r=>by
  obtain ⟨j,e1,e⟩:=Option.bind_eq_some_iff.mp (show ((Dl.keyD d).bind fun k=>(Dl.Zzo ds).bind fun ks=>some (k::ks))=some k from e)
  obtain ⟨js,e2,e⟩:=Option.bind_eq_some_iff.mp e
  cases e
  obtain ⟨x,l,B1,B2,rfl,h1,h2,_⟩:=r
  rw [Xjc e1 h1,Zrk e2 h2]
  rfl
theorem Zyw {y:D}{k:List (Int ⊕ Str)}{v:V}{B:List Addr}(e:Dl.keyT y=some k)(r:Rp K C H y v B):∃b,v=.ref b∧H b=some (.tup (k.map kV)):=by
 cases y with
 | tup ds =>
  obtain ⟨a,xs,rfl,h1,h2⟩:=r
  refine ⟨a,rfl,?_⟩
  rw [h1,Zrk e h2]
 | _=>cases e
theorem Zqu {k:List (Int ⊕ Str)}:∀{ks:List (List (Int ⊕ Str))} {xs:List V},ks.length=xs.length→((ks.zip xs).any fun kv=>decide (kv.1=k))=Dl.Zub ks k
 | [],_,_=>rfl
 | j::ks,[],h=>by cases h
 | j::ks,x::xs,h=>by
  have:=Zqu (k:=k) (ks:=ks) (xs:=xs) (by simpa using h)
  unfold Dl.Zub at *
  rw [zip_cons_cons,any_cons,any_cons,this]
theorem Zvr {k:List (Int ⊕ Str)}:∀{ks:List (List (Int ⊕ Str))} {ds:List D} {xs:List V},RpA K C H ds xs []→Dl.Xw ds=true→match Dl.tAt ks ds k with
  | some d=>∃v,Zry (ks.zip xs) k=some v∧Rp K C H d v []∧Dl.flat d=true
  | none=>Zry (ks.zip xs) k=none
 | [],ds,xs,_,_=>by cases ds<;>rfl
 | j::ks,[],xs,q,_=>by
  rw [q.1]
  rfl
 | j::ks,x::ds,xs,q,h=>by
  obtain ⟨y,l,B,B',e1,e2,e3,e4⟩:=q
  simp only [Dl.Xw,Bool.and_eq_true] at h
  subst e1
  have z:=e2.flat h.1
  subst z
  rw [Dl.tAt]
  by_cases e:j=k
  ·rw [if_pos e]
   exact ⟨y,Zgs e,e2,h.1⟩
  ·rw [if_neg e,zip_cons_cons,Zgv e]
   exact Zvr (e3.flat' h.2) h.2
theorem Xdj:EOk K C E Γ Δ 2 [] Zyg (Dl.fC (.dtt [] [])):=fun H0 Hb H σ ρ A Q I p q hp=>by
 refine p _ _ (sameNew hp _) ⟨[q],⟨q,[],[],rfl,Ja,rfl,RpA.nil,rfl⟩,fun a ha=>?_,fun z=>by omega,fun _=>List.nodup_cons.mpr ⟨(fun z=>nomatch z),nodup_nil⟩⟩
 have:a=q:=by simpa using ha
 subst this
 exact .inl hp
theorem Zqe {k:List (Int ⊕ Str)}{v:V}:∀{ks:List (List (Int ⊕ Str))} {xs:List V},ks.length=xs.length→(ks.zip xs).map (fun kv=>if kv.1=k then (kv.1,v) else kv)=ks.zip (List.zipWith (fun j x=>if j=k then v else x) ks xs)
 | [],_,_=>rfl
 | j::ks,[],h=>by cases h
 | j::ks,x::xs,h=>by
  have:=Zqe (k:=k) (v:=v) (ks:=ks) (xs:=xs) (by simpa using h)
  rw [zip_cons_cons,map_cons,this,List.zipWith_cons_cons,zip_cons_cons]
  congr 1
  by_cases e:j=k
  ·simp [e]
  ·simp [e]
theorem RpA.replT {k:List (Int ⊕ Str)}{d:D}{v:V}(r:Rp K C H d v []):∀{ks:List (List (Int ⊕ Str))} {ds:List D} {xs:List V},RpA K C H ds xs []→Dl.Xw ds=true→RpA K C H (List.zipWith (fun j x=>if j=k then d else x) ks ds) (List.zipWith (fun j x=>if j=k then v else x) ks xs) []
 | [],ds,xs,_,_=>by cases ds<;>cases xs<;>exact RpA.nil
 | j::ks,[],xs,q,_=>by
  rw [q.1]
  exact RpA.nil
 | j::ks,x::ds,xs,q,h=>by
  obtain ⟨y,l,B,B',e1,e2,e3,e4⟩:=q
  simp only [Dl.Xw,Bool.and_eq_true] at h
  subst e1
  have z:=e2.flat h.1
  subst z
  refine ⟨_,_,[],[],rfl,?_,RpA.replT r (e3.flat' h.2) h.2,rfl⟩
  show Rp K C H (if j=k then d else x) (if j=k then v else y) []
  by_cases e:j=k
  ·rw [if_pos e,if_pos e]
   exact r
  ·rw [if_neg e,if_neg e]
   exact e2
theorem Xcq {H0 Hb H:Hp}{σ:St}{ρ:Dl.Env}{A:Nat→List Addr}{i:Nat}{ks:List (List (Int ⊕ Str))}{ds:List D}(I:Zy K C H0 Hb H Γ Δ σ ρ A)(e:ρ[i]?=some (some (.dtt ks ds))):∃a xs l,σ[i]?=some (some (.ref a))∧H a=some (.dT (ks.zip xs))∧ks.length=ds.length∧RpA K C H ds xs l∧A i=a::l∧i<ρ.length:=by
 obtain ⟨v,h1,h2⟩:=I.rep i _ e
 obtain ⟨a,xs,B,rfl,h3,h4,h5,h6⟩:=h2
 exact ⟨a,xs,B,h1,h3,h4,h5,h6,(List.getElem?_eq_some_iff.mp e).1⟩
theorem Xbq {i:Nat}{te tk:TE}{fe fk:FE}(hi:i∈Γ:=by decide)(he:EOk K C E Γ Δ m1 S1 te fe)(hk:EOk K C E Γ Δ m2 S2 tk fk):SOk K C E mr Γl Δl Γ Δ Γ Δ (Zth te (Zgm (Zme i) tk Xhr)) (Dl.Zxl i fk fe):=fun H0 Hb H σ ρ A D I p=>by
 refine he H0 Hb H σ ρ A _ I (Yi.imp (Yi.bind p) (fun d q v H1 g1 r=>?_) fun c x q H' g'=>q H' (Xx.from0 I g'))
 have I1:=I.mono g1
 split at q
 ·rename_i ks ds e
  obtain ⟨a,xs,l,s1,h1,h2,r1,hA,hl⟩:=Xcq I1 e
  refine ⟨.ref a,s1,hk H0 Hb H1 σ ρ A _ I1 (Yi.imp (Yi.bind q) (fun z q w H2 g2 rz=>?_) fun c x q H' g'=>q H' (Xx.from0 I1 g'))⟩
  obtain ⟨Bz,rz,_⟩:=rz
  obtain ⟨B,rd,_⟩:=r
  split at q
  ·rename_i k hk
   split at q
   ·rename_i hf
    obtain ⟨b,rfl,hb⟩:=Zyw hk rz
    have zB:=rd.flat hf.1
    subst zB
    have hx:ks.length=xs.length:=by rw [h2,r1.len]
    have r2:=(r1.same g2).flat' hf.2.1
    have rd2:=rd.same g2
    have I2:=I1.mono g2
    refine ⟨a,_,rfl,Xnp.t (g2 _ _ h1) hb (Nat.lt_of_le_of_lt (by rw [List.length_zip];exact Nat.min_le_left _ _) (Zgt hf.2.2)),?_⟩
    unfold Dl.Xnv at q
    unfold putK
    rw [Zqu hx]
    split at q
    ·rename_i hh
     rw [if_pos hh,Zqe hx]
     obtain ⟨A',I'⟩:=I2.writeO (Γ':=Γ) (Δ':=Δ) (o':=.dT (ks.zip (List.zipWith (fun j x=>if j=k then v else x) ks xs))) (d':=.dtt ks (List.zipWith (fun j x=>if j=k then d else x) ks ds)) hi hA hl s1 (fun H' q1 q2=>⟨a,_,_,rfl,q1,by rw [List.length_zipWith,h2,Nat.min_self],q2,rfl⟩) (RpA.replT rd2 r2 hf.2.1) (fun _ z=>nomatch z) (fun z=>nomatch z) (fun j hj _=>⟨hj,fun _ _ _ z=>nomatch z⟩) (fun j hj _=>⟨hj,fun _ _ z=>nomatch z⟩) (fun _=>⟨nodup_nil,(fun _ _ _ z=>nomatch z),(fun _ z=>nomatch z)⟩)
     exact q _ _ A' I'
    ·rename_i hh
     rw [if_neg hh,show ks.zip xs++[(k,v)]=(ks++[k]).zip (xs++[v]) by rw [List.zip_append hx];rfl]
     obtain ⟨A',I'⟩:=I2.writeO (Γ':=Γ) (Δ':=Δ) (o':=.dT ((ks++[k]).zip (xs++[v]))) (d':=.dtt (ks++[k]) (ds++[d])) hi hA hl s1 (fun H' q1 q2=>⟨a,_,_,rfl,q1,by simp [h2],q2,rfl⟩) (RpA.snoc0 rd2 r2) (fun _ z=>nomatch z) (fun z=>nomatch z) (fun j hj _=>⟨hj,fun _ _ _ z=>nomatch z⟩) (fun j hj _=>⟨hj,fun _ _ z=>nomatch z⟩) (fun _=>⟨nodup_nil,(fun _ _ _ z=>nomatch z),(fun _ z=>nomatch z)⟩)
     exact q _ _ A' I'
   ·exact q.elim
  ·exact q.elim
 ·exact q.elim
theorem Xcj {td ty tx:TE}{fd fy fx:FE}(hd:EOk K C E Γ Δ m1 S1 td fd)(hy:EOk K C E Γ Δ m2 S2 ty fy)(hx:EOk K C E Γ Δ m3 S3 tx fx):EOk K C E Γ Δ 2 [] (Zxb td ty tx) (Dl.Zoi fd fy fx):=
  fun H0 Hb H σ ρ A Q I p=>hd H0 Hb H σ ρ A _ I (p.bind.imp (fun d q vd H1 g1 r1=>by
    obtain ⟨Bd,r1,_⟩:=r1
    cases d with
    | dtt ks ds =>
      obtain ⟨a,xs,B,rfl,h1,h2,h3,_⟩:=r1
      refine ⟨a,rfl,.inr ⟨_,.inl h1⟩,hy H0 Hb H1 σ ρ A _ (I.mono g1) (q.bind.imp (fun y q vy H2 g2 r2=>hx H0 Hb H2 σ ρ A _ ((I.mono g1).mono g2) (q.bind.imp (fun z q vz H3 g3 r3=>?_) fun c x q H' g'=>q H' (g1.trans (g2.trans g')))) fun c x q H' g'=>q H' (g1.trans g'))⟩
      obtain ⟨By,r2,_⟩:=r2
      obtain ⟨Bz,r3,_⟩:=r3
      split at q
      · rename_i k hk
        split at q
        · rename_i hf
          obtain ⟨b,rfl,hb⟩:=Zyw hk r2
          have hv:=Zvr (ks:=ks) (k:=k) ((h3.same (g2.trans g3)).flat' hf.1) hf.1
          have zB:=r3.flat hf.2
          subst zB
          refine ⟨_,Xsh.t ((g2.trans g3) _ _ h1) (g3 _ _ hb),?_⟩
          cases e:Dl.tAt ks ds k with
          | some d =>
            rw [e] at hv q
            obtain ⟨v,v1,v2,_⟩:=hv
            rw [v1]
            exact q v H3 (g1.trans (g2.trans g3)) (Res.flat v2)
          | none =>
            rw [e] at hv q
            rw [show Zry (ks.zip xs) k=none from hv]
            exact q vz H3 (g1.trans (g2.trans g3)) (Res.flat r3)
        · exact q.elim
      · exact q.elim
    | _=>exact q.elim) fun c x q H' g'=>q H' g')
end
section
variable {X:Cx}{C:String→Addr}{E:XK}{Γ Δ Γ' Δ' Γl Δl:List Nat}{m m1 m2 m3 mr:Nat}{S S1 S2 S3:List (Nat×Bool)}{a b c e o:Expr}{ta tb tc te:TE}{fa fb fc fe:FE}{p p2 pos apos cpos:Pos}
theorem Xmu:JE X C E Γ Δ 2 [] (.Dict [] [] pos) Zyg (Dl.fC (.dtt [] [])):=⟨⟨Xaz⟩,Xdj⟩
theorem Zor (ha:JE X C E Γ Δ m1 S1 a ta fa)(hb:JE X C E Γ Δ m2 S2 b tb fb)(hc:JE X C E Γ Δ m3 S3 c tc fc)(hu:X.A.units+64<cLine)(hbase:attributeBase a "get" X.env (eval a X.env)=eval a X.env:=by rfl)
  (hfew:((backTo cpos (starEach [b,c] X.env)).all (fun x=>!x.1)&&(backToKw cpos (keywordEach [] X.env)).all (fun x=>x.1.isSome)&&decide (([b,c]:List Expr).length+([]:List Keyword).length+(if ([]:List Keyword).isEmpty then 0 else 1)<30))=true:=by rfl)
  (hline:(apos.endLine==cpos.line)=true:=by rfl) (htr:backTo cpos (starEach [b,c] X.env)=[(false,eval b X.env),(false,eval c X.env)]:=by rfl):JE X C E Γ Δ 2 [] (.Call (.Attribute a "get" apos) [b,c] [] cpos) (Zxb ta tb tc) (Dl.Zoi fa fb fc):=
 ⟨⟨Xcg (by omega) ha.q.out hb.q.out hc.q.out ⟨hbase,hfew,hline,htr⟩⟩,Xcj ha.o hb.o hc.o⟩
theorem Xlf {i:Nat}{x:Str}{kx:Expr}{tk:TE}{fk:FE}(hi:i∈Γ:=by decide)(hN:X.N[i]?=some x:=by rfl)(hv:autoParam (Vis X.env.scope x) aT3._auto_1)(hd:(x==("__debug__":Str))=false:=by decide)(hcd:(x==("__classdict__":Str))=false:=by decide)
    (he:JE X C E Γ Δ m1 S1 e te fe) (hk:JE X C E Γ Δ m2 S2 kx tk fk) (hs:swapsWithSole [.Subscript (.Name x p) kx p2] e pos.line X.env=pure false:=by rfl) (hw:swappedStores [.Subscript (.Name x p) kx p2] e X.env=pure none:=by rfl) (h1:(assignEach [.Subscript (.Name x p) kx p2] X.env).map (·.2)=[assign (.Subscript (.Name x p) kx p2) X.env]:=by rfl)
    (hq:∀v,assign (.Subscript (.Name x p) kx p2) X.env v=(do
      let ov ← holding [v] (eval (.Name x p) X.env)
      let iv ← holding [v,ov] (eval kx X.env)
      standAt p2
      holding [v,ov,iv] (setItem ov iv v)
      release [v,ov,iv] []):=by intro _;rfl) (hu:X.A.units+64<cLine) :
    JS X C E mr Γl Δl Γ Δ Γ Δ (.Assign [.Subscript (.Name x p) kx p2] e pos) (Zth te (Zgm (Zme i) tk Xhr)) (Dl.Zxl i fk fe):=⟨Xhd he.q (Xsw (qv i hN hv hd hcd) hk.q (set_dict hu) hq) hs hw h1,Xbq hi he.o hk.o⟩
end
section
variable {K:Frag}{C:String→Addr}{E:XK}{Γ Δ:List Nat}
end
section
variable {X:Cx}{C:String→Addr}{E:XK}{mr:Nat}{Γ Δ Γ' Δ' Γl Δl:List Nat}{n:Nat}{pos:Pos}
end
end L2
namespace L2
open PySem PyProof.Rows
noncomputable def Zwn:Bool→Keyed→Array Keyed→Nat→Nat→Nat→StateT SortSt Sem (Option Nat):=sortPriv% PySem.Builtin.gallop
noncomputable def Xeu:Array Keyed→Array Keyed→StateT SortSt Sem (Array Keyed):=sortPriv% PySem.Builtin.mergeLo
noncomputable def Xap:Array Keyed→Array Keyed→StateT SortSt Sem (Array Keyed):=sortPriv% PySem.Builtin.mergeHi
noncomputable def Xig:Nat→StateT SortSt Sem Unit:=sortPriv% PySem.Builtin.setMinGallop
structure Ask (prog:Program)(w:World)(A:Around)(s:Shared)(κ:SortKind)(P:Keyed→Prop)(r:Keyed→Keyed→Bool):Prop where
 run:∀{x y:Keyed} {Q:Bool→Shared→Prop} {E:Value→Shared→Prop},P x→P y→Q (r x y) s→wpAny (model prog w) A (keyLt' κ x.1 y.1) Q E s
 tr:∀{x y z:Keyed},P x→P y→P z→r y x=false→r z y=false→r z x=false
 as:∀{x y:Keyed},P x→P y→r x y=true→r y x=false
noncomputable def bey (r:Keyed→Keyed→Bool)(left:Bool)(key x:Keyed):Bool:=if left=true then r x key else !r key x
section
variable {prog:Program}{w:World}{A:Around}{E:Value→Shared→Prop}{s:Shared}{κ:SortKind}{P:Keyed→Prop}{r:Keyed→Keyed→Bool}{st:SortSt}
theorem Zlq {x y:Keyed}{Q:Option Bool→SortSt→Prop}(K:Ask prog w A s κ P r)(hk:kindOf st=κ)(hx:P x)(hy:P y)(h:Q (some (r x y)) st):wpS (model prog w) A E s (lt' x y) Q st:=by
 rw [lt'_eq]
 refine wpS_bind (wpS_get ?_)
 rw [hk]
 exact wpS_bind (wpS_lift (wpAny_attempt (K.run hx hy ⟨rfl,wpS_pure h⟩)))
theorem Xh {arr:Array Keyed}{i:Nat}{x:Keyed}{Q:Keyed→SortSt→Prop}(e:arr[i]?=some x)(h:Q x st):wpS (model prog w) A E s (elem' arr i) Q st:=by
 rw [elem'_eq,e]
 exact wpS_pure h
theorem Zhm {arr:Array Keyed}{i:Nat}{x key:Keyed}{left:Bool}{Q:Option Bool→SortSt→Prop}(K:Ask prog w A s κ P r)(hk:kindOf st=κ)(e:arr[i]?=some x)(hx:P x)(hy:P key)(h:Q (some (bey r left key x)) st) :
    wpS (model prog w) A E s (do
      let z ← elem' arr i
      if left=true then lt' z key else do
        let b ← lt' key z
        pure (Option.map (fun b=>!b) b)) Q st:=by
  refine wpS_bind (Xh e ?_)
  unfold bey at h
  cases left with
  | true=>exact Zlq K hk hx hy h
  | false=>exact wpS_bind (Zlq K hk hy hx (wpS_pure h))
theorem Xel {left:Bool}{key x y:Keyed}(K:Ask prog w A s κ P r)(hk:P key)(hx:P x)(hy:P y)(hxy:r y x=false)(h:bey r left key y=true):bey r left key x=true:=by
 unfold bey at *
 cases left with
 | true =>
  simp only [if_true] at *
  cases e:r x key with
  | true=>rfl
  | false=>rw [K.tr hk hx hy e hxy] at h;cases h
 | false =>
  simp only [Bool.false_eq_true,if_false,Bool.not_eq_true'] at *
  exact K.tr hx hy hk hxy h
theorem Zty {left:Bool}{key:Keyed}{arr:Array Keyed}{base n hint:Nat}{at_:Nat→Keyed}{Q:Option Nat→SortSt→Prop}(K:Ask prog w A s κ P r)(hk:kindOf st=κ)(hkey:P key)(ha:∀i,i<n→arr[base+i]?=some (at_ i)∧P (at_ i))
    (hs:∀i j,i≤j→j<n→r (at_ j) (at_ i)=false) (hh:hint<n) (h:∀k,k≤n→(∀i,i<k→bey r left key (at_ i)=true)→(∀i,k≤i→i<n→bey r left key (at_ i)=false)→Q (some k) st) :
    wpS (model prog w) A E s (Zwn left key arr base n hint) Q st:=by
  have up:∀{i j},i≤j→j<n→bey r left key (at_ j)=true→bey r left key (at_ i)=true:=fun {i j} hij hj hb=>Xel K hkey (ha i (by omega)).2 (ha j hj).2 (hs i j hij hj) hb
  have dn:∀{i j},i≤j→j<n→bey r left key (at_ i)=false→bey r left key (at_ j)=false:=fun {i j} hij hj hb=>by
    cases e:bey r left key (at_ j) with
    | false=>rfl
    | true=>rw [up hij hj e] at hb;cases hb
  have fin:∀{f:Nat→Option (Option Nat)×Nat×Nat→StateT SortSt Sem (ForInStep (Option (Option Nat)×Nat×Nat))} {g:Option (Option Nat)×Nat×Nat→StateT SortSt Sem (Option Nat)},
      (∀(x lo hi:Nat) (Q':ForInStep (Option (Option Nat)×Nat×Nat)→SortSt→Prop),hi≤n→(lo≥hi→Q' (.done (none,lo,hi)) st)→(lo<hi→bey r left key (at_ (lo+(hi - lo) / 2))=true→Q' (.yield (none,lo+(hi - lo) / 2+1,hi)) st)→
        (lo<hi→bey r left key (at_ (lo+(hi - lo) / 2))=false→Q' (.yield (none,lo,lo+(hi - lo) / 2)) st)→wpS (model prog w) A E s (f x (none,lo,hi)) Q' st)→
      (∀lo hi,Q (some hi) st→wpS (model prog w) A E s (g (none,lo,hi)) Q st)→
      ∀lo hi,lo≤hi→hi≤n→(∀i,i<lo→bey r left key (at_ i)=true)→(∀i,hi≤i→i<n→bey r left key (at_ i)=false)→
      wpS (model prog w) A E s (forIn [:n] ((none,lo,hi):Option (Option Nat)×Nat×Nat) f >>= g) Q st:=fun {f g} hf hg lo hi hlh hhn hlo hhi=>by
    refine wpS_bind (wpS_mono (wpS_forRange
      (I:=fun x c st'=>st'=st∧∃lo hi,c=(none,lo,hi)∧lo≤hi∧hi≤n∧hi - lo≤n - x∧(∀i,i<lo→bey r left key (at_ i)=true)∧(∀i,hi≤i→i<n→bey r left key (at_ i)=false))
      (Q:=fun c st'=>st'=st∧∃lo hi,c=(none,lo,hi)∧hi≤lo∧hi≤n∧(∀i,i<lo→bey r left key (at_ i)=true)∧(∀i,hi≤i→i<n→bey r left key (at_ i)=false)) ?step ?fin ⟨rfl,lo,hi,rfl,hlh,hhn,by omega,hlo,hhi⟩) ?post)
    case post =>
      rintro c st' ⟨rfl,lo,hi,rfl,h1,h2,h3,h4⟩
      exact hg _ _ (h hi h2 (fun i hi'=>h3 i (by omega)) h4)
    case fin =>
      rintro c st' ⟨rfl,lo,hi,rfl,h1,h2,h3,h4,h5⟩
      exact ⟨rfl,lo,hi,rfl,by omega,h2,h4,h5⟩
    case step =>
      rintro x c st' _ hx ⟨rfl,lo,hi,rfl,h1,h2,h3,h4,h5⟩
      exact hf x lo hi _ h2 (fun hge=>⟨rfl,lo,hi,rfl,hge,h2,h4,h5⟩) (fun hl e=>⟨rfl,_,_,rfl,by omega,h2,by omega,fun i hi'=>up (j:=lo+(hi - lo) / 2) (by omega) (by omega) e,h5⟩)
        (fun hl e=>⟨rfl,_,_,rfl,by omega,by omega,by omega,h4,fun i h6 h7=>dn (i:=lo+(hi - lo) / 2) h6 h7 e⟩)
  obtain ⟨e1,e2⟩:=ha hint hh
  refine wpS_bind (Zhm (left:=left) K hk e1 e2 hkey ?_)
  dsimp only
  cases e:bey r left key (at_ hint) with
  | true =>
    rw [if_pos rfl]
    refine wpS_bind (wpS_mono (wpS_forRange
      (I:=fun x c st'=>st'=st∧∃la o,c=(none,la,o)∧x+1≤o∧la<o∧hint+la<n∧bey r left key (at_ (hint+la))=true)
      (Q:=fun c st'=>st'=st∧∃la o,c=(none,la,o)∧la<o∧hint+la<n∧bey r left key (at_ (hint+la))=true∧(n - hint≤o∨(hint+o<n∧bey r left key (at_ (hint+o))=false))) ?step ?fin ⟨rfl,0,1,rfl,by omega,by omega,by omega,e⟩) ?post)
    case post =>
      rintro c st' ⟨rfl,la,o,rfl,h1,h2,h3,h4⟩
      refine fin (fun x lo hi Q' hn q1 q2 q3=>by
        dsimp only
        by_cases hge:lo≥hi
        · rw [if_pos hge]
          exact wpS_pure (q1 hge)
        · rw [if_neg hge]
          obtain ⟨e3,e4⟩:=ha (lo+(hi - lo) / 2) (by omega)
          refine wpS_bind (Zhm K hk e3 e4 hkey ?_)
          dsimp only
          cases e5:bey r left key (at_ (lo+(hi - lo) / 2)) with
          | true =>
            rw [if_pos rfl]
            exact wpS_pure (q2 (by omega) e5)
          | false =>
            rw [if_neg Bool.false_ne_true]
            exact wpS_pure (q3 (by omega) e5)) (fun lo hi q=>wpS_pure q) (hint+la+1) (hint+min o (n - hint)) (by omega) (by omega) (fun i hi'=>up (j:=hint+la) (by omega) h2 h3) (fun i h6 h7=>?_)
      rcases h4 with h4 | ⟨h4,h5⟩
      · omega
      · exact dn (i:=hint+o) (by omega) h7 h5
    case fin =>
      rintro c st' ⟨rfl,la,o,rfl,h1,h2,h3,h4⟩
      exact ⟨rfl,la,o,rfl,h2,h3,h4,.inl (by omega)⟩
    case step =>
      rintro x c st' _ hx ⟨rfl,la,o,rfl,h1,h2,h3,h4⟩
      dsimp only
      by_cases hge:o≥n - hint
      · rw [if_pos hge]
        exact wpS_pure ⟨rfl,la,o,rfl,h2,h3,h4,.inl hge⟩
      · rw [if_neg hge]
        obtain ⟨e3,e4⟩:=ha (hint+o) (by omega)
        refine wpS_bind (Zhm K hk e3 e4 hkey ?_)
        dsimp only
        cases e5:bey r left key (at_ (hint+o)) with
        | true =>
          rw [if_neg (by decide)]
          exact wpS_pure ⟨rfl,_,_,rfl,by omega,by omega,by omega,e5⟩
        | false =>
          rw [if_pos (by decide)]
          exact wpS_pure ⟨rfl,la,o,rfl,h2,h3,h4,.inr ⟨by omega,e5⟩⟩
  | false =>
    rw [if_neg Bool.false_ne_true]
    refine wpS_bind (wpS_mono (wpS_forRange
      (I:=fun x c st'=>st'=st∧∃la o,c=(none,la,o)∧x+1≤o∧la<o∧la≤hint∧bey r left key (at_ (hint - la))=false)
      (Q:=fun c st'=>st'=st∧∃la o,c=(none,la,o)∧la<o∧la≤hint∧bey r left key (at_ (hint - la))=false∧(hint+1≤o∨(o≤hint∧bey r left key (at_ (hint - o))=true))) ?step ?fin ⟨rfl,0,1,rfl,by omega,by omega,by omega,e⟩) ?post)
    case post =>
      rintro c st' ⟨rfl,la,o,rfl,h1,h2,h3,h4⟩
      refine fin (fun x lo hi Q' hn q1 q2 q3=>by
        dsimp only
        by_cases hge:lo≥hi
        · rw [if_pos hge]
          exact wpS_pure (q1 hge)
        · rw [if_neg hge]
          obtain ⟨e3,e4⟩:=ha (lo+(hi - lo) / 2) (by omega)
          refine wpS_bind (Zhm K hk e3 e4 hkey ?_)
          dsimp only
          cases e5:bey r left key (at_ (lo+(hi - lo) / 2)) with
          | true =>
            rw [if_pos rfl]
            exact wpS_pure (q2 (by omega) e5)
          | false =>
            rw [if_neg Bool.false_ne_true]
            exact wpS_pure (q3 (by omega) e5)) (fun lo hi q=>wpS_pure q) (hint+1 - min o (hint+1)) (hint - la) (by omega) (by omega) (fun i hi'=>?_) (fun i h6 h7=>dn (i:=hint - la) (by omega) h7 h3)
      rcases h4 with h4 | ⟨h4,h5⟩
      · omega
      · exact up (j:=hint - o) (by omega) (by omega) h5
    case fin =>
      rintro c st' ⟨rfl,la,o,rfl,h1,h2,h3,h4⟩
      exact ⟨rfl,la,o,rfl,h2,h3,h4,.inl (by omega)⟩
    case step =>
      rintro x c st' _ hx ⟨rfl,la,o,rfl,h1,h2,h3,h4⟩
      dsimp only
      by_cases hge:o≥hint+1
      · rw [if_pos hge]
        exact wpS_pure ⟨rfl,la,o,rfl,h2,h3,h4,.inl hge⟩
      · rw [if_neg hge]
        obtain ⟨e3,e4⟩:=ha (hint - o) (by omega)
        refine wpS_bind (Zhm K hk e3 e4 hkey ?_)
        dsimp only
        cases e5:bey r left key (at_ (hint - o)) with
        | true =>
          rw [if_pos rfl]
          exact wpS_pure ⟨rfl,la,o,rfl,h2,h3,h4,.inr ⟨by omega,e5⟩⟩
        | false =>
          rw [if_neg Bool.false_ne_true]
          exact wpS_pure ⟨rfl,_,_,rfl,by omega,by omega,by omega,e5⟩
end
section
variable {r:Keyed→Keyed→Bool}
def Up (r:Keyed→Keyed→Bool)(l:List Keyed):Prop:=l.Pairwise fun x y=>r y x=false
structure MI (r:Keyed→Keyed→Bool)(a b out:List Keyed)(ia ib:Nat):Prop where
 pm:out.Perm (a.take ia++b.take ib)
 so:Up r out
 le:∀x∈out,∀y,(y∈a.drop ia∨y∈b.drop ib)→r y x=false
variable {a b out:List Keyed}{ia ib:Nat}{x:Keyed}
theorem take_snoc {l:List Keyed}{i:Nat}{x:Keyed}(e:l[i]?=some x):l.take (i+1)=l.take i++[x]:=by
 rw [List.take_add_one,e]
 rfl
theorem Zey {l:List Keyed}{i:Nat}{x:Keyed}(e:l[i]?=some x):l.drop i=x::l.drop (i+1):=by
 obtain ⟨h,rfl⟩:=List.getElem?_eq_some_iff.mp e
 exact drop_eq_getElem_cons h
theorem Up.drop {l:List Keyed}(h:Up r l)(i:Nat):Up r (l.drop i):=h.sublist (List.drop_sublist i l)
theorem MI.a1 (m:MI r a b out ia ib)(sa:Up r a)(e:a[ia]?=some x)(h:∀y∈b.drop ib,r y x=false):MI r a b (out++[x]) (ia+1) ib:=by
 have ed:=Zey e
 have sd:=sa.drop ia
 rw [ed] at sd
 refine ⟨?_,List.pairwise_append.mpr ⟨m.so,List.pairwise_singleton _ _,fun z hz y hy=>?_⟩,fun z hz y hy=>?_⟩
 ·rw [take_snoc e]
  refine (m.pm.append_right [x]).trans ?_
  rw [append_assoc,append_assoc]
  exact List.Perm.append_left _ perm_append_comm
 ·rw [List.mem_singleton.mp hy]
  exact m.le z hz x (.inl (by rw [ed];exact .head _))
 ·rcases List.mem_append.mp hz with hz | hz
  ·exact m.le z hz y (hy.imp (fun q=>by rw [ed];exact .tail _ q) id)
  ·rw [List.mem_singleton.mp hz]
   rcases hy with hy | hy
   ·exact (List.pairwise_cons.mp sd).1 y hy
   ·exact h y hy
theorem MI.swap (m:MI r a b out ia ib):MI r b a out ib ia:=⟨m.pm.trans perm_append_comm,m.so,fun x hx y hy=>m.le x hx y hy.symm⟩
theorem MI.b1 (m:MI r a b out ia ib)(sb:Up r b)(e:b[ib]?=some x)(h:∀y∈a.drop ia,r y x=false):MI r a b (out++[x]) ia (ib+1):=(m.swap.a1 sb e h).swap
theorem MI.ak (m:MI r a b out ia ib)(sa:Up r a):∀(k:Nat),ia+k≤a.length→(∀i,i<k→∀z,a[ia+i]?=some z→∀y∈b.drop ib,r y z=false)→MI r a b (out++(a.drop ia).take k) (ia+k) ib
 | 0,_,_=>by rw [take_zero,append_nil];exact m
 | k+1,hl,h=>by
  have ih:=m.ak sa k (by omega) fun i hi=>h i (by omega)
  have e:a[ia+k]?=some a[ia+k]:=getElem?_eq_getElem (by omega)
  have e2:(a.drop ia)[k]?=some a[ia+k]:=by rw [getElem?_drop];exact e
  rw [take_snoc e2,← append_assoc]
  exact ih.a1 sa e (h k (by omega) _ e)
theorem MI.bk (m:MI r a b out ia ib)(sb:Up r b)(k:Nat)(hl:ib+k≤b.length)(h:∀i,i<k→∀z,b[ib+i]?=some z→∀y∈a.drop ia,r y z=false):MI r a b (out++(b.drop ib).take k) ia (ib+k):=(m.swap.ak sb k hl h).swap
theorem MI.endA (m:MI r a b out ia ib)(sa:Up r a)(sb:Up r b)(h:∀x∈b.drop ib,∀y∈a.drop ia,r y x=false):(out++b.drop ib++a.drop ia).Perm (a++b)∧Up r (out++b.drop ib++a.drop ia):=by
 constructor
 ·have h1:(out++b.drop ib++a.drop ia).Perm (a.take ia++b.take ib++b.drop ib++a.drop ia):=(m.pm.append_right _).append_right _
  refine h1.trans ?_
  rw [append_assoc (a.take ia),take_append_drop,append_assoc]
  refine (List.Perm.append_left _ perm_append_comm).trans ?_
  rw [← append_assoc,take_append_drop]
 ·refine List.pairwise_append.mpr ⟨List.pairwise_append.mpr ⟨m.so,sb.drop ib,fun x hx y hy=>m.le x hx y (.inr hy)⟩,sa.drop ia,fun x hx y hy=>?_⟩
  rcases List.mem_append.mp hx with hx | hx
  ·exact m.le x hx y (.inl hy)
  ·exact h x hx y hy
theorem MI.endB (m:MI r a b out ia ib)(sa:Up r a)(sb:Up r b)(h:∀x∈a.drop ia,∀y∈b.drop ib,r y x=false):(out++a.drop ia++b.drop ib).Perm (a++b)∧Up r (out++a.drop ia++b.drop ib):=
 (m.swap.endA sb sa h).imp (fun q=>q.trans perm_append_comm) id
structure MJ (r:Keyed→Keyed→Bool)(a b out:List Keyed)(na nb:Nat):Prop where
 pm:out.Perm (a.drop na++b.drop nb)
 so:Up r out
 le:∀x∈out,∀y,(y∈a.take na∨y∈b.take nb)→r x y=false
theorem Up.take {l:List Keyed}(h:Up r l)(i:Nat):Up r (l.take i):=h.sublist (List.take_sublist i l)
theorem MJ.swap {na nb:Nat}(m:MJ r a b out na nb):MJ r b a out nb na:=⟨m.pm.trans perm_append_comm,m.so,fun x hx y hy=>m.le x hx y hy.symm⟩
theorem MJ.a1 {na nb:Nat}(m:MJ r a b out (na+1) nb)(sa:Up r a)(e:a[na]?=some x)(h:∀y∈b.take nb,r x y=false):MJ r a b (x::out) na nb:=by
 have et:=take_snoc e
 have st:=sa.take (na+1)
 rw [et] at st
 refine ⟨?_,List.pairwise_cons.mpr ⟨fun y hy=>m.le y hy x (.inl (by rw [et];exact mem_append_right _ (.head _))),m.so⟩,fun z hz y hy=>?_⟩
 ·rw [Zey e]
  exact m.pm.cons x
 ·rcases List.mem_cons.mp hz with rfl | hz
  ·rcases hy with hy | hy
   ·exact (List.pairwise_append.mp st).2.2 y hy z (.head _)
   ·exact h y hy
  ·exact m.le z hz y (hy.imp (fun q=>by rw [et];exact mem_append_left _ q) id)
theorem MJ.b1 {na nb:Nat}(m:MJ r a b out na (nb+1))(sb:Up r b)(e:b[nb]?=some x)(h:∀y∈a.take na,r x y=false):MJ r a b (x::out) na nb:=(m.swap.a1 sb e h).swap
theorem MJ.ak {na nb:Nat}(m:MJ r a b out na nb)(sa:Up r a)(hna:na≤a.length):∀(k:Nat),k≤na→(∀i,na - k≤i→i<na→∀z,a[i]?=some z→∀y∈b.take nb,r z y=false)→MJ r a b ((a.drop (na - k)).take k++out) (na - k) nb
 | 0,_,_=>by rw [take_zero];exact m
 | k+1,hl,h=>by
  have ih:=m.ak sa hna k (by omega) fun i hi=>h i (by omega)
  have e:a[na - (k+1)]?=some a[na - (k+1)]:=getElem?_eq_getElem (by omega)
  rw [Zey e,List.take_succ_cons,cons_append,show na - (k+1)+1=na - k by omega]
  rw [show na - k=na - (k+1)+1 by omega] at ih
  have:=ih.a1 sa e (h _ (le_refl _) (by omega) _ e)
  rw [show na - (k+1)+1=na - k by omega] at this
  exact this
theorem MJ.bk {na nb:Nat}(m:MJ r a b out na nb)(sb:Up r b)(hnb:nb≤b.length)(k:Nat)(hl:k≤nb)(h:∀i,nb - k≤i→i<nb→∀z,b[i]?=some z→∀y∈a.take na,r z y=false):MJ r a b ((b.drop (nb - k)).take k++out) na (nb - k):=(m.swap.ak sb hnb k hl h).swap
theorem MJ.endA {na nb:Nat}(m:MJ r a b out na nb)(sa:Up r a)(sb:Up r b)(h:∀x∈a.take na,∀y∈b.take nb,r y x=false):(a.take na++b.take nb++out).Perm (a++b)∧Up r (a.take na++b.take nb++out):=by
 constructor
 ·refine (m.pm.append_left _).trans ?_
  rw [append_assoc]
  refine (List.Perm.append_left _ (List.perm_append_comm_assoc _ _ _)).trans ?_
  rw [take_append_drop,← append_assoc,take_append_drop]
 ·refine List.pairwise_append.mpr ⟨List.pairwise_append.mpr ⟨sa.take na,sb.take nb,h⟩,m.so,fun x hx y hy=>?_⟩
  rcases List.mem_append.mp hx with hx | hx
  ·exact m.le y hy x (.inl hx)
  ·exact m.le y hy x (.inr hx)
theorem MJ.endB {na nb:Nat}(m:MJ r a b out na nb)(sa:Up r a)(sb:Up r b)(h:∀x∈b.take nb,∀y∈a.take na,r y x=false):(b.take nb++a.take na++out).Perm (a++b)∧Up r (b.take nb++a.take na++out):=
 (m.swap.endA sb sa h).imp (fun q=>q.trans perm_append_comm) id
end
structure SG (st st':SortSt):Prop where
 k:kindOf st'=kindOf st
 a:arrOf st'=arrOf st
 p:pendingOf st'=pendingOf st
 f:failedOf st'=failedOf st
theorem SG.refl (st:SortSt):SG st st:=⟨rfl,rfl,rfl,rfl⟩
theorem SG.trans {st st1 st2:SortSt}(g:SG st st1)(h:SG st1 st2):SG st st2:=⟨h.k.trans g.k,h.a.trans g.a,h.p.trans g.p,h.f.trans g.f⟩
theorem Zgx (a:Array Keyed)(i:Nat):(a.extract i a.size).toList=a.toList.drop i:=by
 rw [Array.toList_extract,List.extract_eq_take_drop]
 exact take_of_length_le (by simp)
theorem Zoc (a:Array Keyed)(i k:Nat):(a.extract i (i+k)).toList=(a.toList.drop i).take k:=by simp [List.extract_eq_take_drop]
section
variable {prog:Program}{w:World}{A:Around}{E:Value→Shared→Prop}{s:Shared}{κ:SortKind}{P:Keyed→Prop}{r:Keyed→Keyed→Bool}{st:SortSt}
theorem Ask.ir {x:Keyed}(K:Ask prog w A s κ P r)(hx:P x):r x x=false:=by
 cases e:r x x with
 | false=>rfl
 | true=>rw [K.as hx hx e] at e;cases e
theorem Zdf {g:Nat}{Q:Unit→SortSt→Prop}(h:∀st',SG st st'→Q () st'):wpS (model prog w) A E s (Xig g) Q st:=wpS_modify (h _ ⟨rfl,rfl,rfl,rfl⟩)
theorem Zky (K:Ask prog w A s κ P r){l:List Keyed}(hl:∀x∈l,P x)(h:Up r l){i j:Nat}{x y:Keyed}(hij:i≤j)(e1:l[i]?=some x)(e2:l[j]?=some y):r y x=false:=by
 obtain ⟨h1,rfl⟩:=List.getElem?_eq_some_iff.mp e1
 obtain ⟨h2,rfl⟩:=List.getElem?_eq_some_iff.mp e2
 rcases Nat.eq_or_lt_of_le hij with e | hlt
 ·subst e
  exact K.ir (hl _ (getElem_mem h1))
 ·exact List.pairwise_iff_getElem.mp h i j h1 h2 hlt
theorem Zfh {left:Bool}{key:Keyed}{a:Array Keyed}{base n hint:Nat}{Q:Option Nat→SortSt→Prop}(K:Ask prog w A s κ P r)(hk:kindOf st=κ)(hP:∀x∈a.toList,P x)(hkey:P key)(hb:base+n≤a.size)
  (hs:∀i j x y,i≤j→j<n→a.toList[base+i]?=some x→a.toList[base+j]?=some y→r y x=false) (hh:hint<n)
  (h:∀k,k≤n→(∀i x,i<k→a.toList[base+i]?=some x→bey r left key x=true)→(∀i x,k≤i→i<n→a.toList[base+i]?=some x→bey r left key x=false)→Q (some k) st):wpS (model prog w) A E s (Zwn left key a base n hint) Q st:=by
 have at_:∀i,i<n→a.toList[base+i]?=some (a.toList.getD (base+i) key):=fun i hi=>by
  have hl:base+i<a.toList.length:=by rw [length_toList];omega
  rw [getD_eq_getElem?_getD,getElem?_eq_getElem hl]
  rfl
 refine Zty (at_:=fun i=>a.toList.getD (base+i) key) K hk hkey (fun i hi=>⟨by rw [← getElem?_toList];exact at_ i hi,hP _ (mem_of_getElem? (at_ i hi))⟩) (fun i j hij hj=>hs i j _ _ hij hj (at_ i (by omega)) (at_ j hj)) hh fun k h1 h2 h3=>?_
 refine h k h1 (fun i x hi e=>?_) (fun i x h4 h5 e=>?_)
 ·have:=h2 i hi
  rw [at_ i (by omega)] at e
  cases e
  exact this
 ·have:=h3 i h4 h5
  rw [at_ i h5] at e
  cases e
  exact this
theorem Zvb (K:Ask prog w A s κ P r){l:List Keyed}(hl:∀x∈l,P x)(h:Up r l){i:Nat}{x y:Keyed}(e:l[i]?=some x)(hy:y∈l.drop i):r y x=false:=by
 obtain ⟨j,hj⟩:=List.mem_iff_getElem?.mp hy
 rw [getElem?_drop] at hj
 exact Zky K hl h (le_add_right _ _) e hj
theorem Xa {α:Type}{c:Prop}[Decidable c]{x y:StateT SortSt Sem α}{Q:α→SortSt→Prop}(h1:c→wpS (model prog w) A E s x Q st)(h2:¬c→wpS (model prog w) A E s y Q st):wpS (model prog w) A E s (if c then x else y) Q st:=by
 by_cases h:c
 ·rw [if_pos h]
  exact h1 h
 ·rw [if_neg h]
  exact h2 h
theorem Zng {m n:Nat}(h:¬(m==n)=true):m≠n:=fun z=>h (by rw [z];exact beq_self_eq_true _)
noncomputable def StQ {β:Type}(good:Array Keyed→Prop)(inv:Array Keyed→Nat→Nat→Prop):ForInStep (Option (Array Keyed)×Array Keyed×Nat×Nat×β)→Prop
 | .done (some res,_)=>good res
 | .done (none,out,ia,ib,_)=>inv out ia ib
 | .yield (some _,_)=>False
 | .yield (none,out,ia,ib,_)=>inv out ia ib
noncomputable def EndQ {β:Type}(good:Array Keyed→Prop)(inv:Array Keyed→Nat→Nat→Prop):Option (Array Keyed)×Array Keyed×Nat×Nat×β→Prop
 | (some res,_)=>good res
 | (none,out,ia,ib,_)=>inv out ia ib
theorem Zpj {a b:Array Keyed}{b0:Keyed}{Q:Array Keyed→SortSt→Prop}(K:Ask prog w A s κ P r)(hk:kindOf st=κ)(pa:∀x∈a.toList,P x)(pb:∀x∈b.toList,P x)(sa:Up r a.toList)(sb:Up r b.toList)(na:1≤a.size)(eb0:b[0]?=some b0)
  (h0:∀x∈a.toList,r x b0=false) (hl:∀x,a.toList[a.size - 1]?=some x→∀y∈b.toList,r x y=false)
  (h:∀out st',out.toList.Perm (a.toList++b.toList)→Up r out.toList→SG st st'→Q out st'):wpS (model prog w) A E s (Xeu a b) Q st:=by
 have la:=a.length_toList
 have lb:=b.length_toList
 have eb0':b.toList[0]?=some b0:=by rw [getElem?_toList];exact eb0
 have nb:1≤b.size:=(Array.getElem?_eq_some_iff.mp eb0).1
 let good:Array Keyed→Prop:=fun out=>out.toList.Perm (a.toList++b.toList)∧Up r out.toList
 let mi:Array Keyed→Nat→Nat→Prop:=fun out ia ib=>MI r a.toList b.toList out.toList ia ib
 have gB:∀{out ia ib},mi out ia ib→(a.size≤ia∨b.size≤ib)→good (out++a.extract ia a.size++b.extract ib b.size):=fun {out ia ib} m q=>by
  show (out++a.extract ia a.size++b.extract ib b.size).toList.Perm _∧Up r (out++a.extract ia a.size++b.extract ib b.size).toList
  rw [toList_append,toList_append,Zgx,Zgx]
  refine MI.endB m sa sb fun x hx y hy=>?_
  rcases q with q | q
  ·rw [drop_eq_nil_of_le (by omega)] at hx
   cases hx
  ·rw [drop_eq_nil_of_le (by omega)] at hy
   cases hy
 have gA:∀{out ia ib},mi out ia ib→ia+1=a.size→good (out++b.extract ib b.size++a.extract ia a.size):=fun {out ia ib} m q=>by
  show (out++b.extract ib b.size++a.extract ia a.size).toList.Perm _∧Up r (out++b.extract ib b.size++a.extract ia a.size).toList
  rw [toList_append,toList_append,Zgx,Zgx]
  have e:a.toList[ia]?=some a.toList[ia]:=getElem?_eq_getElem (by omega)
  refine MI.endA m sa sb fun x hx y hy=>?_
  rw [Zey e,drop_eq_nil_of_le (by omega)] at hy
  rw [List.mem_singleton.mp hy]
  exact hl _ (by rw [show a.size - 1=ia by omega];exact e) x (mem_of_mem_drop hx)
 have m0:mi #[b0] 0 1:=by
  refine ⟨?_,List.pairwise_singleton _ _,fun x hx y hy=>?_⟩
  ·rw [take_zero,List.nil_append,take_snoc eb0',take_zero]
   exact List.Perm.refl _
  ·have e:x=b0:=List.mem_singleton.mp hx
   subst e
   rcases hy with hy | hy
   ·exact h0 y hy
   ·obtain ⟨i,hi⟩:=List.mem_iff_getElem?.mp hy
    rw [getElem?_drop] at hi
    exact Zky K pb sb (zero_le _) eb0' hi
 have pushA:∀{out ia ib x},mi out ia ib→a.toList[ia]?=some x→(∀y∈b.toList.drop ib,r y x=false)→mi (out.push x) (ia+1) ib:=fun {out ia ib x} m e q=>by
  show MI r a.toList b.toList (out.push x).toList (ia+1) ib
  rw [toList_push]
  exact MI.a1 m sa e q
 have pushB:∀{out ia ib x},mi out ia ib→b.toList[ib]?=some x→(∀y∈a.toList.drop ia,r y x=false)→mi (out.push x) ia (ib+1):=fun {out ia ib x} m e q=>by
  show MI r a.toList b.toList (out.push x).toList ia (ib+1)
  rw [toList_push]
  exact MI.b1 m sb e q
 have atA:∀i,i<a.size→∃x,a.toList[i]?=some x∧a[i]?=some x∧P x:=fun i hi=>⟨a[i],by rw [getElem?_toList];exact Array.getElem?_eq_getElem hi,Array.getElem?_eq_getElem hi,pa _ (by simp)⟩
 have atB:∀i,i<b.size→∃x,b.toList[i]?=some x∧b[i]?=some x∧P x:=fun i hi=>⟨b[i],by rw [getElem?_toList];exact Array.getElem?_eq_getElem hi,Array.getElem?_eq_getElem hi,pb _ (by simp)⟩
 refine wpS_bind (wpS_lift (wpAny_rule ⟨rfl,?_⟩))
 refine wpS_bind (Xh eb0 ?_)
 extract_lets o0 i0 j0
 by_cases c1:(j0==b.size)=true
 ·rw [if_pos c1]
  have q:=gB m0 (.inr (by have:1=b.size:=eq_of_beq c1;omega))
  exact wpS_pure (h _ _ q.1 q.2 (SG.refl _))
 rw [if_neg c1]
 by_cases c2:(i0+1==a.size)=true
 ·rw [if_pos c2]
  have q:=gA m0 (show 0+1=a.size from eq_of_beq c2)
  exact wpS_pure (h _ _ q.1 q.2 (SG.refl _))
 rw [if_neg c2]
 have c1':¬1=b.size:=fun z=>c1 (by show (1==b.size)=true;rw [← z];rfl)
 have c2':¬1=a.size:=fun z=>c2 (by show (0+1==a.size)=true;rw [← z];rfl)
 refine wpS_bind (wpS_get ?_)
 let inv:Nat→Array Keyed→Nat→Nat→Prop:=fun n out ia ib=>mi out ia ib∧ia+1<a.size∧ib<b.size∧n≤ia+ib
 refine wpS_bind (wpS_mono (wpS_forRange (I:=fun x c st'=>SG st st'∧c.1=none∧inv (x+1) c.2.1 c.2.2.1 c.2.2.2.1) (Q:=fun c st'=>SG st st'∧EndQ good (fun _ _ _=>False) c) ?step ?fin ⟨SG.refl _,rfl,m0,by show 0+1<_;omega,by show 1<_;omega,by show 0+1≤0+1;omega⟩) ?post)
 case post =>
  rintro ⟨rr,out,ia,ib,g⟩ st' ⟨sg,q⟩
  cases rr with
  | none=>exact q.elim
  | some res=>exact wpS_pure (h _ _ q.1 q.2 sg)
 case fin =>
  rintro ⟨rr,out,ia,ib,g⟩ st' ⟨sg,e,m,q1,q2,q3⟩
  have e:rr=none:=e
  subst e
  exfalso
  have q1:ia+1<a.size:=q1
  have q2:ib<b.size:=q2
  have q3:max 0 (a.size+b.size)+1≤ia+ib:=q3
  omega
 case step =>
  rintro x ⟨rr,out,ia,ib,g⟩ st' _ hx ⟨sg,e,m,q1,q2,q3⟩
  have e:rr=none:=e
  subst e
  have m:mi out ia ib:=m
  have q1:ia+1<a.size:=q1
  have q2:ib<b.size:=q2
  have q3:x+1≤ia+ib:=q3
  refine wpS_bind (wpS_mono (wpS_forRange (I:=fun y c st''=>st''=st'∧c.1=none∧inv (x+1+y) c.2.1 c.2.2.1 c.2.2.2.1) (Q:=fun c st''=>st''=st'∧EndQ good (inv (x+2)) c) ?s1 ?f1 ⟨rfl,rfl,m,q1,q2,q3⟩) ?p1)
  case f1 =>
   rintro ⟨rr,out,ia,ib,g⟩ st'' ⟨e1,e,m,q1,q2,q3⟩
   have e:rr=none:=e
   subst e
   exact ⟨e1,m,q1,q2,le_trans (by omega) q3⟩
  case s1 =>
   rintro y ⟨rr,out,ia,ib,ac,bc⟩ st'' _ hy ⟨e1,e,m,q1,q2,q3⟩
   have e:rr=none:=e
   subst e e1
   have m:mi out ia ib:=m
   have q1:ia+1<a.size:=q1
   have q2:ib<b.size:=q2
   have q3:x+1+y≤ia+ib:=q3
   obtain ⟨xa,ea',ea,ha⟩:=atA ia (by omega)
   obtain ⟨xb,eb',eb,hb⟩:=atB ib q2
   refine wpS_bind (Xh eb ?_)
   refine wpS_bind (Xh ea ?_)
   refine wpS_bind (Zlq K (sg.k.trans hk) hb ha ?_)
   dsimp only
   cases er:r xb xa with
   | true =>
    have m':=pushB m eb' (fun z hz=>K.tr hb ha (pa z (mem_of_mem_drop hz)) (K.as hb ha er) (Zvb K pa sa ea' hz))
    rw [if_pos rfl]
    refine wpS_bind (Xh eb ?_)
    by_cases c3:(ib+1==b.size)=true
    ·rw [if_pos c3]
     exact wpS_pure ⟨rfl,gB m' (.inr (le_of_eq (eq_of_beq c3).symm))⟩
    ·rw [if_neg c3]
     have c3':ib+1<b.size:=by
      have:¬ib+1=b.size:=fun z=>c3 (by rw [z];exact beq_self_eq_true _)
      omega
     by_cases c4:bc+1≥g
     ·rw [if_pos c4]
      exact wpS_pure ⟨rfl,m',q1,c3',by show x+2≤ia+(ib+1);omega⟩
     ·rw [if_neg c4]
      exact wpS_pure ⟨rfl,rfl,m',q1,c3',by show x+1+(y+1)≤ia+(ib+1);omega⟩
   | false =>
    have m':=pushA m ea' (fun z hz=>K.tr ha hb (pb z (mem_of_mem_drop hz)) er (Zvb K pb sb eb' hz))
    rw [if_neg Bool.false_ne_true]
    refine wpS_bind (Xh ea ?_)
    by_cases c3:(ia+1+1==a.size)=true
    ·rw [if_pos c3]
     exact wpS_pure ⟨rfl,gA m' (eq_of_beq c3)⟩
    ·rw [if_neg c3]
     have c3':ia+1+1<a.size:=by
      have:¬ia+1+1=a.size:=fun z=>c3 (by rw [z];exact beq_self_eq_true _)
      omega
     by_cases c4:ac+1≥g
     ·rw [if_pos c4]
      exact wpS_pure ⟨rfl,m',c3',q2,by show x+2≤ia+1+ib;omega⟩
     ·rw [if_neg c4]
      exact wpS_pure ⟨rfl,rfl,m',c3',q2,by show x+1+(y+1)≤ia+1+ib;omega⟩
  case p1 =>
   rintro ⟨rr,out,ia,ib,ac,bc⟩ st'' ⟨e1,q⟩
   subst e1
   cases rr with
   | some res=>exact wpS_pure ⟨sg,q⟩
   | none =>
    obtain ⟨m,q1,q2,q3⟩:=(show inv (x+2) out ia ib from q)
    refine wpS_bind (wpS_lift (wpAny_rule ⟨rfl,?_⟩))
    refine wpS_bind (wpS_mono (wpS_forRange (I:=fun y c st3=>SG st st3∧c.1=none∧inv (x+2) c.2.1 c.2.2.1 c.2.2.2.1) (Q:=fun c st3=>SG st st3∧EndQ good (inv (x+2)) c) ?s2 ?f2 ⟨sg,rfl,m,q1,q2,q3⟩) ?p2)
    case f2 =>
     rintro ⟨rr,out,ia,ib,g⟩ st3 ⟨sg3,e,q⟩
     have e:rr=none:=e
     subst e
     exact ⟨sg3,q⟩
    case p2 =>
     rintro ⟨rr,out,ia,ib,g,ac,bc⟩ st3 ⟨sg3,q⟩
     cases rr with
     | some res=>exact wpS_pure ⟨sg3,q⟩
     | none=>exact wpS_bind (Zdf fun st4 sg4=>wpS_pure ⟨sg3.trans sg4,rfl,q⟩)
    case s2 =>
     rintro y ⟨rr,out,ia,ib,g,ac,bc⟩ st3 _ hy ⟨sg3,e,m,q1,q2,q3⟩
     have e:rr=none:=e
     subst e
     have m:mi out ia ib:=m
     have q1:ia+1<a.size:=q1
     have q2:ib<b.size:=q2
     have q3:x+2≤ia+ib:=q3
     obtain ⟨xb,eb',eb,hb⟩:=atB ib q2
     refine wpS_mono (Q:=fun rr st4=>SG st st4∧StQ good (inv (x+2)) rr) ?_ (fun rr st4 q=>?_)
     rotate_left
     ·cases rr with
      | done c =>
       obtain ⟨r0,c⟩:=c
       cases r0<;>exact q
      | yield c =>
       obtain ⟨r0,c⟩:=c
       cases r0 with
       | some _=>exact q.2.elim
       | none=>exact ⟨q.1,rfl,q.2⟩
     extract_lets v1 v2 v3 v4 v5 v6 v7 v8 v9 v10 v11 jb jp
     have hj:∀g',wpS (model prog w) A E s (jp () g') (fun rr st4=>SG st st4∧StQ good (inv (x+2)) rr) st3:=fun g'=>by
      refine wpS_bind (Zdf fun st4 sg4=>?_)
      refine wpS_bind (Xh eb ?_)
      refine wpS_bind (Zfh K ((sg3.trans sg4).k.trans hk) pa hb (base:=ia) (n:=a.size - ia) (by omega) (fun i j x y hij _ e1 e2=>Zky K pa sa (by omega) e1 e2) (by omega) fun k k1 k2 k3=>?_)
      dsimp -zeta -zetaHave only
      extract_lets ac2 jp2 o2 i2
      have hj2:∀out' ia',mi out' ia' ib→ia'+1<a.size→ia≤ia'→(∀y∈a.toList.drop ia',r y xb=false)→wpS (model prog w) A E s (jp2 () out' ia') (fun rr st4=>SG st st4∧StQ good (inv (x+2)) rr) st4:=fun out' ia' m' g1 g2 g3=>by
       have m2:=pushB m' eb' g3
       refine wpS_bind (Xh eb ?_)
       refine Xa (fun c5=>?_) (fun c5=>?_)
       ·exact wpS_pure ⟨sg3.trans sg4,gB m2 (.inr (le_of_eq (eq_of_beq c5).symm))⟩
       ·have c5':ib+1≠b.size:=Zng c5
        obtain ⟨xa,ea',ea,ha⟩:=atA ia' (by omega)
        refine wpS_bind (Xh ea ?_)
        refine wpS_bind (Zfh K ((sg3.trans sg4).k.trans hk) pb ha (base:=ib+1) (n:=b.size - (ib+1)) (by omega) (fun i j x y hij _ e1 e2=>Zky K pb sb (by omega) e1 e2) (by omega) fun k' k1' k2' k3'=>?_)
        dsimp -zeta -zetaHave only
        extract_lets bc2 i4 jp3 o3 i3
        have hj3:∀out'' ib'',mi out'' ia' ib''→ib''<b.size→ib+1≤ib''→(∀y∈b.toList.drop ib'',r y xa=false)→wpS (model prog w) A E s (jp3 () out'' ib'') (fun rr st4=>SG st st4∧StQ good (inv (x+2)) rr) st4:=fun out'' ib'' m'' f1 f2 f3=>by
         have m3:=pushA m'' ea' f3
         refine wpS_bind (Xh ea ?_)
         refine Xa (fun c6=>?_) (fun c6=>?_)
         ·exact wpS_pure ⟨sg3.trans sg4,gA m3 (eq_of_beq c6)⟩
         ·have c6':ia'+1+1≠a.size:=Zng c6
          have iv:inv (x+2) (out''.push xa) (ia'+1) ib'':=⟨m3,by omega,f1,by omega⟩
          exact Xa (fun _=>wpS_pure ⟨sg3.trans sg4,iv⟩) (fun _=>wpS_pure ⟨sg3.trans sg4,iv⟩)
        have rest:∀k0,k'≤k0→∀y∈b.toList.drop (ib+1+k0),r y xa=false:=fun k0 hk0 y hy=>by
         obtain ⟨j,hj⟩:=List.mem_iff_getElem?.mp hy
         rw [getElem?_drop] at hj
         have hjl:=(List.getElem?_eq_some_iff.mp hj).1
         have:=k3' (k0+j) y (by omega) (by omega) (by rw [← add_assoc];exact hj)
         exact this
        refine Xa (fun c6=>?_) (fun c6=>?_)
        ·have m3:mi (out'.push xb++b.extract (ib+1) (ib+1+k')) ia' (ib+1+k'):=by
          show MI r _ _ (out'.push xb++b.extract (ib+1) (ib+1+k')).toList ia' (ib+1+k')
          rw [toList_append,Zoc]
          refine MI.bk m2 sb k' (by omega) fun i hi z hz y hy=>?_
          have hb1:r z xa=true:=k2' i z hi hz
          have pz:=pb z (mem_of_getElem? hz)
          exact K.tr pz ha (pa y (mem_of_mem_drop hy)) (K.as pz ha hb1) (Zvb K pa sa ea' hy)
         refine Xa (fun c7=>?_) (fun c7=>?_)
         ·exact wpS_pure ⟨sg3.trans sg4,gB m3 (.inr (le_of_eq (eq_of_beq c7).symm))⟩
         ·have c7':ib+1+k'≠b.size:=Zng c7
          exact hj3 (out'.push xb++b.extract (ib+1) (ib+1+k')) (ib+1+k') m3 (by omega) (by omega) (rest k' (le_refl _))
        ·have:k'=0:=by omega
         exact hj3 (out'.push xb) (ib+1) m2 (by omega) (le_refl _) (fun y hy=>rest 0 (by omega) y hy)
      have rest:∀k0,k≤k0→∀y∈a.toList.drop (ia+k0),r y xb=false:=fun k0 hk0 y hy=>by
       obtain ⟨j,hj⟩:=List.mem_iff_getElem?.mp hy
       rw [getElem?_drop] at hj
       have hjl:=(List.getElem?_eq_some_iff.mp hj).1
       have q:bey r false xb y=false:=k3 (k0+j) y (by omega) (by omega) (by rw [← add_assoc];exact hj)
       have q:r xb y=true:=by simpa [bey] using q
       exact K.as hb (pa y (mem_of_getElem? hj)) q
      refine Xa (fun c6=>?_) (fun c6=>?_)
      ·have m3:mi (out++a.extract ia (ia+k)) (ia+k) ib:=by
        show MI r _ _ (out++a.extract ia (ia+k)).toList (ia+k) ib
        rw [toList_append,Zoc]
        refine MI.ak m sa k (by omega) fun i hi z hz y hy=>?_
        have q:bey r false xb z=true:=k2 i z hi hz
        have q:r xb z=false:=by simpa [bey] using q
        exact K.tr (pa z (mem_of_getElem? hz)) hb (pb y (mem_of_mem_drop hy)) q (Zvb K pb sb eb' hy)
       refine Xa (fun c7=>?_) (fun c7=>?_)
       ·exact wpS_pure ⟨sg3.trans sg4,gA m3 (eq_of_beq c7)⟩
       ·refine Xa (fun c8=>?_) (fun c8=>?_)
        ·exact wpS_pure ⟨sg3.trans sg4,gB m3 (.inl (le_of_eq (eq_of_beq c8).symm))⟩
        ·have c7':ia+k+1≠a.size:=Zng c7
         have c8':ia+k≠a.size:=Zng c8
         exact hj2 (out++a.extract ia (ia+k)) (ia+k) m3 (by omega) (by omega) (rest k (le_refl _))
      ·exact hj2 out ia m q1 (le_refl _) (fun y hy=>rest 0 (by omega) y hy)
     exact Xa (fun _=>hj _) (fun _=>hj _)
end
theorem Zgq (a:Array Keyed)(i:Nat):(a.extract 0 i).toList=a.toList.take i:=by simp [List.extract_eq_take_drop]
theorem Zyz (a:Array Keyed)(i j:Nat):(a.extract i j).toList=(a.toList.drop i).take (j - i):=by simp [List.extract_eq_take_drop]
section
variable {prog:Program}{w:World}{A:Around}{E:Value→Shared→Prop}{s:Shared}{κ:SortKind}{P:Keyed→Prop}{r:Keyed→Keyed→Bool}{st:SortSt}
theorem Zvf (K:Ask prog w A s κ P r){l:List Keyed}(hl:∀x∈l,P x)(h:Up r l){i:Nat}{x y:Keyed}(e:l[i]?=some x)(hy:y∈l.take (i+1)):r x y=false:=by
 obtain ⟨j,hj⟩:=List.mem_iff_getElem?.mp hy
 have hlt:=(List.getElem?_eq_some_iff.mp hj).1
 rw [length_take] at hlt
 rw [getElem?_take,if_pos (by omega)] at hj
 exact Zky K hl h (show j≤i by omega) hj e
theorem Zbt {l:List Keyed}{k:Nat}{y:Keyed}(hy:y∈l.take k):∃j,j<k∧l[j]?=some y:=by
 obtain ⟨j,hj⟩:=List.mem_iff_getElem?.mp hy
 have hlt:=(List.getElem?_eq_some_iff.mp hj).1
 rw [length_take] at hlt
 rw [getElem?_take,if_pos (by omega)] at hj
 exact ⟨j,by omega,hj⟩
noncomputable def StR {β:Type}(good:Array Keyed→Prop)(inv:Array Keyed→Nat→Nat→Prop):ForInStep (Option (Array Keyed)×Nat×Nat×Array Keyed×β)→Prop
 | .done (some res,_)=>good res
 | .done (none,na,nb,out,_)=>inv out na nb
 | .yield (some _,_)=>False
 | .yield (none,na,nb,out,_)=>inv out na nb
noncomputable def EndR {β:Type}(good:Array Keyed→Prop)(inv:Array Keyed→Nat→Nat→Prop):Option (Array Keyed)×Nat×Nat×Array Keyed×β→Prop
 | (some res,_)=>good res
 | (none,na,nb,out,_)=>inv out na nb
theorem Zpi {a b:Array Keyed}{b0 al:Keyed}{Q:Array Keyed→SortSt→Prop}(K:Ask prog w A s κ P r)(hk:kindOf st=κ)(pa:∀x∈a.toList,P x)(pb:∀x∈b.toList,P x)(sa:Up r a.toList)(sb:Up r b.toList)(na0:1≤a.size)(eb0:b[0]?=some b0)
  (h0:∀x∈a.toList,r x b0=false) (el:a[a.size - 1]?=some al) (hl:∀y∈b.toList,r al y=false)
  (h:∀out st',out.toList.Perm (a.toList++b.toList)→Up r out.toList→SG st st'→Q out st'):wpS (model prog w) A E s (Xap a b) Q st:=by
 have la:=a.length_toList
 have lb:=b.length_toList
 have eb0':b.toList[0]?=some b0:=by rw [getElem?_toList];exact eb0
 have el':a.toList[a.size - 1]?=some al:=by rw [getElem?_toList];exact el
 have nb0:1≤b.size:=(Array.getElem?_eq_some_iff.mp eb0).1
 let good:Array Keyed→Prop:=fun out=>out.toList.Perm (a.toList++b.toList)∧Up r out.toList
 let mj:Array Keyed→Nat→Nat→Prop:=fun out na nb=>MJ r a.toList b.toList out.toList.reverse na nb
 have gA:∀{out na nb},mj out na nb→(na=0∨nb=0)→good (a.extract 0 na++b.extract 0 nb++out.reverse):=fun {out na nb} m q=>by
  show (a.extract 0 na++b.extract 0 nb++out.reverse).toList.Perm _∧Up r (a.extract 0 na++b.extract 0 nb++out.reverse).toList
  rw [toList_append,toList_append,Zgq,Zgq,toList_reverse]
  refine MJ.endA m sa sb fun x hx y hy=>?_
  rcases q with q | q
  ·rw [q] at hx
   cases hx
  ·rw [q] at hy
   cases hy
 have gB:∀{out na nb},mj out na nb→nb=1→good (b.extract 0 nb++a.extract 0 na++out.reverse):=fun {out na nb} m q=>by
  show (b.extract 0 nb++a.extract 0 na++out.reverse).toList.Perm _∧Up r (b.extract 0 nb++a.extract 0 na++out.reverse).toList
  rw [toList_append,toList_append,Zgq,Zgq,toList_reverse]
  refine MJ.endB m sa sb fun x hx y hy=>?_
  rw [q,take_snoc eb0',take_zero] at hx
  rw [List.mem_singleton.mp hx]
  exact h0 y (mem_of_mem_take hy)
 have pushA:∀{out na nb x},mj out (na+1) nb→a.toList[na]?=some x→(∀y∈b.toList.take nb,r x y=false)→mj (out.push x) na nb:=fun {out na nb x} m e q=>by
  show MJ r a.toList b.toList (out.push x).toList.reverse na nb
  rw [toList_push,reverse_append]
  exact MJ.a1 m sa e q
 have pushB:∀{out na nb x},mj out na (nb+1)→b.toList[nb]?=some x→(∀y∈a.toList.take na,r x y=false)→mj (out.push x) na nb:=fun {out na nb x} m e q=>by
  show MJ r a.toList b.toList (out.push x).toList.reverse na nb
  rw [toList_push,reverse_append]
  exact MJ.b1 m sb e q
 have atA:∀i,i<a.size→∃x,a.toList[i]?=some x∧a[i]?=some x∧P x:=fun i hi=>⟨a[i],by rw [getElem?_toList];exact Array.getElem?_eq_getElem hi,Array.getElem?_eq_getElem hi,pa _ (by simp)⟩
 have atB:∀i,i<b.size→∃x,b.toList[i]?=some x∧b[i]?=some x∧P x:=fun i hi=>⟨b[i],by rw [getElem?_toList];exact Array.getElem?_eq_getElem hi,Array.getElem?_eq_getElem hi,pb _ (by simp)⟩
 have m0:mj #[al] (a.size - 1) b.size:=by
  have m:MJ r a.toList b.toList [] (a.size - 1+1) b.size:=⟨by rw [drop_eq_nil_of_le (by omega),drop_eq_nil_of_le (by omega)];exact List.Perm.refl _,List.Pairwise.nil,fun _ hx=>nomatch hx⟩
  exact pushA (out:=#[]) m el' fun y hy=>hl y (mem_of_mem_take hy)
 refine wpS_bind (wpS_lift (wpAny_rule ⟨rfl,?_⟩))
 refine wpS_bind (Xh el ?_)
 extract_lets o0
 refine Xa (fun c1=>?_) (fun c1=>?_)
 ·have q:=gA m0 (.inl (eq_of_beq c1))
  exact wpS_pure (h _ _ q.1 q.2 (SG.refl _))
 have c1':a.size - 1≠0:=Zng c1
 refine Xa (fun c2=>?_) (fun c2=>?_)
 ·have q:=gB m0 (eq_of_beq c2)
  exact wpS_pure (h _ _ q.1 q.2 (SG.refl _))
 have c2':b.size≠1:=Zng c2
 refine wpS_bind (wpS_get ?_)
 let inv:Nat→Array Keyed→Nat→Nat→Prop:=fun n out na nb=>mj out na nb∧1≤na∧2≤nb∧na+nb+n≤a.size+b.size∧na≤a.size∧nb≤b.size
 refine wpS_bind (wpS_mono (wpS_forRange (I:=fun x c st'=>SG st st'∧c.1=none∧inv (x+1) c.2.2.2.1 c.2.1 c.2.2.1) (Q:=fun c st'=>SG st st'∧EndR good (fun _ _ _=>False) c) ?step ?fin ⟨SG.refl _,rfl,m0,by show 1≤a.size - 1;omega,by show 2≤b.size;omega,by show a.size - 1+b.size+(0+1)≤a.size+b.size;omega,Nat.sub_le _ _,le_refl _⟩) ?post)
 case post =>
  rintro ⟨rr,na,nb,out,g⟩ st' ⟨sg,q⟩
  cases rr with
  | none=>exact q.elim
  | some res=>exact wpS_pure (h _ _ q.1 q.2 sg)
 case fin =>
  rintro ⟨rr,na,nb,out,g⟩ st' ⟨sg,e,m,q1,q2,q3,_⟩
  exfalso
  have q1:1≤na:=q1
  have q2:2≤nb:=q2
  have q3:na+nb+(max 0 (a.size+b.size)+1)≤a.size+b.size:=q3
  omega
 case step =>
  rintro x ⟨rr,na,nb,out,g⟩ st' _ hx ⟨sg,e,iv⟩
  have e:rr=none:=e
  subst e
  have iv:inv (x+1) out na nb:=iv
  refine wpS_bind (wpS_mono (wpS_forRange (I:=fun y c st''=>st''=st'∧c.1=none∧inv (x+1+y) c.2.2.2.1 c.2.1 c.2.2.1) (Q:=fun c st''=>st''=st'∧EndR good (inv (x+2)) c) ?s1 ?f1 ⟨rfl,rfl,iv⟩) ?p1)
  case f1 =>
   rintro ⟨rr,na,nb,out,g⟩ st'' ⟨e1,e,m,q1,q2,q3,q4,q5⟩
   have e:rr=none:=e
   subst e
   exact ⟨e1,m,q1,q2,le_trans (by have hx':x<a.size+b.size:=hx;show na+nb+(x+2)≤na+nb+(x+1+max 0 (a.size+b.size));omega) q3,q4,q5⟩
  case s1 =>
   rintro y ⟨rr,na,nb,out,ac,bc⟩ st'' _ hy ⟨e1,e,m,q1,q2,q3,q4,q5⟩
   have e:rr=none:=e
   subst e e1
   have m:mj out na nb:=m
   have q1:1≤na:=q1
   have q2:2≤nb:=q2
   have q3:na+nb+(x+1+y)≤a.size+b.size:=q3
   have q4:na≤a.size:=q4
   have q5:nb≤b.size:=q5
   obtain ⟨n1,rfl⟩:∃n1,na=n1+1:=⟨na - 1,by omega⟩
   obtain ⟨n2,rfl⟩:∃n2,nb=n2+1:=⟨nb - 1,by omega⟩
   obtain ⟨xa,ea',ea,ha⟩:=atA n1 (by omega)
   obtain ⟨xb,eb',eb,hb⟩:=atB n2 (by omega)
   refine wpS_bind (Xh eb ?_)
   refine wpS_bind (Xh ea ?_)
   refine wpS_bind (Zlq K (sg.k.trans hk) hb ha ?_)
   dsimp only
   cases er:r xb xa with
   | true =>
    have m':=pushA m ea' (fun z hz=>K.tr (pb z (mem_of_mem_take hz)) hb ha (Zvf K pb sb eb' hz) (K.as hb ha er))
    rw [if_pos rfl]
    refine wpS_bind (Xh ea ?_)
    refine Xa (fun c3=>?_) (fun c3=>?_)
    ·exact wpS_pure ⟨rfl,gA m' (.inl (eq_of_beq c3))⟩
    ·have c3':n1≠0:=Zng c3
     refine Xa (fun c4=>?_) (fun c4=>?_)
     ·exact wpS_pure ⟨rfl,m',by show 1≤n1;omega,q2,by show n1+(n2+1)+(x+2)≤_;omega,by show n1≤_;omega,q5⟩
     ·exact wpS_pure ⟨rfl,rfl,m',by show 1≤n1;omega,q2,by show n1+(n2+1)+(x+1+(y+1))≤_;omega,by show n1≤_;omega,q5⟩
   | false =>
    have m':=pushB m eb' (fun z hz=>K.tr (pa z (mem_of_mem_take hz)) ha hb (Zvf K pa sa ea' hz) er)
    rw [if_neg Bool.false_ne_true]
    refine wpS_bind (Xh eb ?_)
    refine Xa (fun c3=>?_) (fun c3=>?_)
    ·exact wpS_pure ⟨rfl,gB m' (eq_of_beq c3)⟩
    ·have c3':n2≠1:=Zng c3
     refine Xa (fun c4=>?_) (fun c4=>?_)
     ·exact wpS_pure ⟨rfl,m',q1,by show 2≤n2;omega,by show n1+1+n2+(x+2)≤_;omega,q4,by show n2≤_;omega⟩
     ·exact wpS_pure ⟨rfl,rfl,m',q1,by show 2≤n2;omega,by show n1+1+n2+(x+1+(y+1))≤_;omega,q4,by show n2≤_;omega⟩
  case p1 =>
   rintro ⟨rr,na,nb,out,ac,bc⟩ st'' ⟨e1,q⟩
   subst e1
   cases rr with
   | some res=>exact wpS_pure ⟨sg,q⟩
   | none =>
    have iv:=(show inv (x+2) out na nb from q)
    refine wpS_bind (wpS_lift (wpAny_rule ⟨rfl,?_⟩))
    refine wpS_bind (wpS_mono (wpS_forRange (I:=fun y c st3=>SG st st3∧c.1=none∧inv (x+2) c.2.2.2.1 c.2.1 c.2.2.1) (Q:=fun c st3=>SG st st3∧EndR good (inv (x+2)) c) ?s2 ?f2 ⟨sg,rfl,iv⟩) ?p2)
    case f2 =>
     rintro ⟨rr,na,nb,out,g⟩ st3 ⟨sg3,e,q⟩
     have e:rr=none:=e
     subst e
     exact ⟨sg3,q⟩
    case p2 =>
     rintro ⟨rr,na,nb,out,g,ac,bc⟩ st3 ⟨sg3,q⟩
     cases rr with
     | some res=>exact wpS_pure ⟨sg3,q⟩
     | none=>exact wpS_bind (Zdf fun st4 sg4=>wpS_pure ⟨sg3.trans sg4,rfl,q⟩)
    case s2 =>
     rintro y ⟨rr,na,nb,out,g,ac,bc⟩ st3 _ hy ⟨sg3,e,m,q1,q2,q3,q4,q5⟩
     have e:rr=none:=e
     subst e
     have m:mj out na nb:=m
     have q1:1≤na:=q1
     have q2:2≤nb:=q2
     have q3:na+nb+(x+2)≤a.size+b.size:=q3
     have q4:na≤a.size:=q4
     have q5:nb≤b.size:=q5
     obtain ⟨n2,rfl⟩:∃n2,nb=n2+1:=⟨nb - 1,by omega⟩
     obtain ⟨xb,eb',eb,hb⟩:=atB n2 (by omega)
     refine wpS_mono (Q:=fun rr st4=>SG st st4∧StR good (inv (x+2)) rr) ?_ (fun rr st4 q=>?_)
     rotate_left
     ·cases rr with
      | done c =>
       obtain ⟨r0,c⟩:=c
       cases r0<;>exact q
      | yield c =>
       obtain ⟨r0,c⟩:=c
       cases r0 with
       | some _=>exact q.2.elim
       | none=>exact ⟨q.1,rfl,q.2⟩
     extract_lets v1 v2 v3 v4 v5 v6 v7 v8 v9 v10 v11 jb jp
     have hj:∀g',wpS (model prog w) A E s (jp () g') (fun rr st4=>SG st st4∧StR good (inv (x+2)) rr) st3:=fun g'=>by
      refine wpS_bind (Zdf fun st4 sg4=>?_)
      have sg5:=sg3.trans sg4
      refine wpS_bind (Xh eb ?_)
      refine wpS_bind (Zfh K (sg5.k.trans hk) pa hb (base:=0) (n:=na) (by omega) (fun i j x y hij _ e1 e2=>Zky K pa sa (by omega) e1 e2) (by show na - 1<na;omega) fun k k1 k2 k3=>?_)
      dsimp -zeta -zetaHave only
      extract_lets kk ac2 jp2 o2 i2
      have lo:∀y∈a.toList.take k,r xb y=false:=fun y hy=>by
       obtain ⟨j,hj,e⟩:=Zbt hy
       have q:bey r false xb y=true:=k2 j y hj (by rw [zero_add];exact e)
       simpa [bey] using q
      have hj2:∀na' out',mj out' na' (n2+1)→1≤na'→na'≤na→(∀y∈a.toList.take na',r xb y=false)→wpS (model prog w) A E s (jp2 () na' out') (fun rr st4=>SG st st4∧StR good (inv (x+2)) rr) st4:=fun na' out' m' g1 g2 g3=>by
       have m2:=pushB m' eb' g3
       refine wpS_bind (Xh eb ?_)
       refine Xa (fun c5=>?_) (fun c5=>?_)
       ·exact wpS_pure ⟨sg5,gB m2 (eq_of_beq c5)⟩
       ·have c5':n2≠1:=Zng c5
        obtain ⟨n1,rfl⟩:∃n1,na'=n1+1:=⟨na' - 1,by omega⟩
        obtain ⟨xa,ea',ea,ha⟩:=atA n1 (by omega)
        refine wpS_bind (Xh ea ?_)
        refine wpS_bind (Zfh K (sg5.k.trans hk) pb ha (base:=0) (n:=n2) (by omega) (fun i j x y hij _ e1 e2=>Zky K pb sb (by omega) e1 e2) (by show n2 - 1<n2;omega) fun k' k1' k2' k3'=>?_)
        dsimp -zeta -zetaHave only
        extract_lets kk2 bc2 n4 jp3 o3 i3
        have lo':∀y∈b.toList.take k',r xa y=false:=fun y hy=>by
         obtain ⟨j,hj,e⟩:=Zbt hy
         have q:r y xa=true:=k2' j y hj (by rw [zero_add];exact e)
         exact K.as (pb y (mem_of_getElem? e)) ha q
        have hj3:∀nb'' out'',mj out'' (n1+1) nb''→2≤nb''→nb''≤n2→(∀y∈b.toList.take nb'',r xa y=false)→wpS (model prog w) A E s (jp3 () nb'' out'') (fun rr st4=>SG st st4∧StR good (inv (x+2)) rr) st4:=fun nb'' out'' m'' f1 f2 f3=>by
         have m3:=pushA m'' ea' f3
         refine wpS_bind (Xh ea ?_)
         refine Xa (fun c6=>?_) (fun c6=>?_)
         ·exact wpS_pure ⟨sg5,gA m3 (.inl (eq_of_beq c6))⟩
         ·have c6':n1≠0:=Zng c6
          have iv:inv (x+2) (out''.push xa) n1 nb'':=⟨m3,by omega,f1,by omega,by omega,by omega⟩
          exact Xa (fun _=>wpS_pure ⟨sg5,iv⟩) (fun _=>wpS_pure ⟨sg5,iv⟩)
        refine Xa (fun c6=>?_) (fun c6=>?_)
        ·have m3:mj (out'.push xb++(b.extract k' n2).reverse) (n1+1) k':=by
          show MJ r _ _ (out'.push xb++(b.extract k' n2).reverse).toList.reverse (n1+1) k'
          rw [toList_append,reverse_append,toList_reverse,List.reverse_reverse,Zyz]
          have:=MJ.bk m2 sb (by omega) (n2 - k') (by omega) fun i hi1 hi2 z hz y hy=>by
           have q:r z xa=false:=k3' i z (by omega) hi2 (by rw [zero_add];exact hz)
           exact K.tr (pa y (mem_of_mem_take hy)) ha (pb z (mem_of_getElem? hz)) (Zvf K pa sa ea' hy) q
          rw [show n2 - (n2 - k')=k' by omega] at this
          exact this
         refine Xa (fun c7=>?_) (fun c7=>?_)
         ·exact wpS_pure ⟨sg5,gB m3 (eq_of_beq c7)⟩
         ·refine Xa (fun c8=>?_) (fun c8=>?_)
          ·exact wpS_pure ⟨sg5,gA m3 (.inr (eq_of_beq c8))⟩
          ·have c7':k'≠1:=Zng c7
           have c8':k'≠0:=Zng c8
           exact hj3 k' (out'.push xb++(b.extract k' n2).reverse) m3 (by omega) k1' lo'
        ·have c6':¬n2 - k' > 0:=c6
         have e:k'=n2:=by omega
         subst e
         exact hj3 k' (out'.push xb) m2 (by omega) (le_refl _) lo'
      refine Xa (fun c6=>?_) (fun c6=>?_)
      ·have m3:mj (out++(a.extract k na).reverse) k (n2+1):=by
        show MJ r _ _ (out++(a.extract k na).reverse).toList.reverse k (n2+1)
        rw [toList_append,reverse_append,toList_reverse,List.reverse_reverse,Zyz]
        have:=MJ.ak m sa (by omega) (na - k) (by omega) fun i hi1 hi2 z hz y hy=>by
         have q:bey r false xb z=false:=k3 i z (by omega) hi2 (by rw [zero_add];exact hz)
         have q:r xb z=true:=by simpa [bey] using q
         have pz:=pa z (mem_of_getElem? hz)
         exact K.tr (pb y (mem_of_mem_take hy)) hb pz (Zvf K pb sb eb' hy) (K.as hb pz q)
        rw [show na - (na - k)=k by omega] at this
        exact this
       refine Xa (fun c7=>?_) (fun c7=>?_)
       ·exact wpS_pure ⟨sg5,gA m3 (.inl (eq_of_beq c7))⟩
       ·have c7':k≠0:=Zng c7
        exact hj2 k (out++(a.extract k na).reverse) m3 (by omega) k1 lo
      ·have c6':¬na - k > 0:=c6
       have e:k=na:=by omega
       subst e
       exact hj2 k out m q1 (le_refl _) lo
     exact Xa (fun _=>hj _) (fun _=>hj _)
end
section
variable {α:Type}
theorem seg_at {A X B:List α}{i:Nat}(hi:i<X.length):(A++X++B)[A.length+i]?=X[i]?:=by
 rw [append_assoc,getElem?_append_right (le_add_right _ _),Nat.add_sub_cancel_left,getElem?_append_left hi]
theorem Zqw:∀(M:List α) (a:Array α) (base k:Nat),base+k+M.length≤a.size→((M.zipIdx k).foldl (fun a p=>a.setIfInBounds (base+p.2) p.1) a).toList=a.toList.take (base+k)++M++a.toList.drop (base+k+M.length)
 | [],a,base,k,h=>by simp
 | x::M,a,base,k,h=>by
  rw [length_cons] at h
  have ih:=Zqw M (a.setIfInBounds (base+k) x) base (k+1) (by rw [Array.size_setIfInBounds];omega)
  have hl:base+k<a.toList.length:=by rw [length_toList];omega
  rw [List.zipIdx_cons,foldl_cons,ih,Array.toList_setIfInBounds,length_cons]
  rw [List.take_set,List.drop_set_of_lt (by omega),show base+(k+1)=base+k+1 by omega,List.take_add_one,getElem?_eq_getElem hl,show base+k+1+M.length=base+k+(M.length+1) by omega]
  have ht:(a.toList.take (base+k)).length=base+k:=List.length_take_of_le (le_of_lt hl)
  rw [set_append_right _ _ (le_of_eq ht),ht,sub_self]
  simp
variable {prog:Program}{w:World}{A:Around}{E:Value→Shared→Prop}{s:Shared}{κ:SortKind}{P:Keyed→Prop}{r:Keyed→Keyed→Bool}{st:SortSt}
theorem Xjq {x:SortSt}{Q:PUnit→SortSt→Prop}(h:Q ⟨⟩ x):wpS (model prog w) A E s (set x:StateT SortSt Sem PUnit) Q st:=by
 unfold wpS
 rw [StateT.run_set]
 exact wpAny_pure ⟨rfl,h⟩
theorem Zok {i sa na pw nb q:Nat}{L X Y B:List Keyed}{Q:Bool→SortSt→Prop}(K:Ask prog w A s κ P r)(hk:kindOf st=κ)(hf:failedOf st=none)(hp1:(pendingOf st)[i]?=some (sa,na,pw))(hp2:(pendingOf st)[i+1]?=some (sa+na,nb,q))
    (hl:(arrOf st).toList=L++X++Y++B) (lA:L.length=sa) (lX:X.length=na) (lY:Y.length=nb) (nX:1≤na) (nY:1≤nb) (hP:∀x∈(arrOf st).toList,P x) (uX:Up r X) (uY:Up r Y)
    (h:∀M st',M.Perm (X++Y)→Up r M→(arrOf st').toList=L++M++B→kindOf st'=κ→failedOf st'=none→pendingOf st'=((pendingOf st).setIfInBounds i (sa,na+nb,pw)).eraseIdxIfInBounds (i+1)→Q true st') :
    wpS (model prog w) A E s (mergeAt' i) Q st:=by
  have hsz:(arrOf st).size=sa+na+nb+B.length:=by
    rw [← length_toList,hl]
    simp only [length_append]
    omega
  have pX:∀x∈X,P x:=fun x hx=>hP x (by rw [hl];simp [hx])
  have pY:∀x∈Y,P x:=fun x hx=>hP x (by rw [hl];simp [hx])
  have eX:∀j,j<na→(arrOf st).toList[sa+j]?=X[j]?:=fun j hj=>by
    rw [hl,← lA,append_assoc]
    exact seg_at (by omega)
  have eY:∀j,j<nb→(arrOf st).toList[sa+na+j]?=Y[j]?:=fun j hj=>by
    have:=seg_at (A:=L++X) (X:=Y) (B:=B) (i:=j) (by omega)
    rw [length_append,lA,lX] at this
    rw [hl]
    exact this
  obtain ⟨y0,ey0⟩:∃y,Y[0]?=some y:=⟨Y[0],getElem?_eq_getElem (by omega)⟩
  obtain ⟨xl,exl⟩:∃x,X[na - 1]?=some x:=⟨X[na - 1],getElem?_eq_getElem (by omega)⟩
  have hy0:=pY _ (mem_of_getElem? ey0)
  have hxl:=pX _ (mem_of_getElem? exl)
  have ey0':(arrOf st)[sa+na]?=some y0:=by rw [← getElem?_toList];exact (eY 0 (by omega)).trans ey0
  refine wpS_bind (wpS_get ?_)
  simp only [hp1,hp2]
  refine wpS_bind (Xjq ?_)
  refine wpS_bind (Xh ey0' ?_)
  have hb1:sa+na≤(arrOf st).size:=by omega
  have hb2:sa+na+nb≤(arrOf st).size:=by omega
  refine wpS_bind (Zfh K hk hP hy0 (base:=sa) (n:=na) hb1 (fun i j x y hij hj e1 e2=>?_) (by omega) fun k k1 k2 k3=>?_)
  · rw [eX i (by omega)] at e1
    rw [eX j hj] at e2
    exact Zky K pX uX hij e1 e2
  have lo1:∀x∈X.take k,r y0 x=false:=fun x hx=>by
    obtain ⟨j,hj,e⟩:=Zbt hx
    have q:bey r false y0 x=true:=k2 j x hj (by rw [eX j (by omega)];exact e)
    simpa [bey] using q
  have hi1:∀x∈X.drop k,r x y0=false:=fun x hx=>by
    obtain ⟨j,hj⟩:=List.mem_iff_getElem?.mp hx
    rw [getElem?_drop] at hj
    have hjl:=(List.getElem?_eq_some_iff.mp hj).1
    have q:bey r false y0 x=false:=k3 (k+j) x (by omega) (by omega) (by rw [eX (k+j) (by omega)];exact hj)
    have q:r y0 x=true:=by simpa [bey] using q
    exact K.as hy0 (pX x (mem_of_getElem? hj)) q
  have geY:∀y∈Y,r y y0=false:=fun y hy=>Zvb K pY uY ey0 (by rw [drop_zero];exact hy)
  have leX:∀x∈X,r xl x=false:=fun x hx=>Zvf K pX uX exl (by rw [show na - 1+1=X.length by omega,List.take_length];exact hx)
  dsimp only
  refine Xa (fun c1=>?_) (fun c1=>?_)
  ·
    have c1':na - k=0:=eq_of_beq c1
    refine wpS_pure (h (X++Y) _ (List.Perm.refl _) (List.pairwise_append.mpr ⟨uX,uY,fun x hx y hy=>?_⟩) (by rw [← append_assoc];exact hl) hk hf rfl)
    exact K.tr (pX x hx) hy0 (pY y hy) (lo1 x (by rw [take_of_length_le (by omega)];exact hx)) (geY y hy)
  have c1':na - k≠0:=Zng c1
  have exl':(arrOf st)[sa+k+(na - k) - 1]?=some xl:=by
    rw [← getElem?_toList,show sa+k+(na - k) - 1=sa+(na - 1) by omega,eX (na - 1) (by omega)]
    exact exl
  refine wpS_bind (Xh exl' ?_)
  refine wpS_bind (Zfh K hk hP hxl (base:=sa+na) (n:=nb) hb2 (fun i j x y hij hj e1 e2=>?_) (by omega) fun m m1 m2 m3=>?_)
  · rw [eY i (by omega)] at e1
    rw [eY j hj] at e2
    exact Zky K pY uY hij e1 e2
  have lo2:∀y∈Y.take m,r xl y=false:=fun y hy=>by
    obtain ⟨j,hj,e⟩:=Zbt hy
    have q:r y xl=true:=m2 j y hj (by rw [eY j (by omega)];exact e)
    exact K.as (pY y (mem_of_getElem? e)) hxl q
  have hi2:∀y∈Y.drop m,r y xl=false:=fun y hy=>by
    obtain ⟨j,hj⟩:=List.mem_iff_getElem?.mp hy
    rw [getElem?_drop] at hj
    have hjl:=(List.getElem?_eq_some_iff.mp hj).1
    exact m3 (m+j) y (by omega) (by omega) (by rw [eY (m+j) (by omega)];exact hj)
  dsimp only
  refine Xa (fun c2=>?_) (fun c2=>?_)
  · have c2':m=0:=eq_of_beq c2
    refine wpS_pure (h (X++Y) _ (List.Perm.refl _) (List.pairwise_append.mpr ⟨uX,uY,fun x hx y hy=>?_⟩) (by rw [← append_assoc];exact hl) hk hf rfl)
    exact K.tr (pX x hx) hxl (pY y hy) (leX x hx) (hi2 y (by rw [c2',drop_zero];exact hy))
  have c2':m≠0:=Zng c2
  have tX:((arrOf st).extract (sa+k) (sa+na)).toList=X.drop k:=by
    rw [Zyz,hl,append_assoc,append_assoc,← lA,← List.drop_drop,List.drop_left,List.drop_append_of_le_length (by omega),List.take_append_of_le_length (by rw [length_drop];omega),take_of_length_le (by rw [length_drop];omega)]
  have tY:((arrOf st).extract (sa+na) (sa+na+m)).toList=Y.take m:=by
    rw [Zoc,hl,append_assoc (L++X),show sa+na=(L++X).length by rw [length_append];omega,List.drop_left,List.take_append_of_le_length (by omega)]
  have fin:∀(out:Array Keyed) (st':SortSt),out.toList.Perm (X.drop k++Y.take m)→Up r out.toList→kindOf st'=κ→failedOf st'=none→arrOf st'=arrOf st→pendingOf st'=((pendingOf st).setIfInBounds i (sa,na+nb,pw)).eraseIdxIfInBounds (i+1)→
      wpS (model prog w) A E s (do
        modify fun s=>setArr s (out.toList.zipIdx.foldl (fun a p=>a.setIfInBounds (sa+k+p.2) p.1) (arrOf s))
        pure (failedOf (← get)).isNone) Q st':=fun out st' hpm hup hk' hf' ha' hp'=>by
    have hol:out.toList.length=na - k+m:=by rw [hpm.length_eq,length_append,length_drop,length_take];omega
    refine wpS_bind (wpS_modify (wpS_bind (wpS_get (wpS_pure ?_))))
    show Q (failedOf st').isNone _
    rw [hf']
    refine h (X.take k++out.toList++Y.drop m) _ ?_ ?_ ?_ hk' hf' hp'
    · have h1:(X.take k++out.toList++Y.drop m).Perm (X.take k++(X.drop k++Y.take m)++Y.drop m):=(hpm.append_left _).append_right _
      refine h1.trans ?_
      rw [← append_assoc,take_append_drop,append_assoc,take_append_drop]
    · have mem:∀z∈out.toList,z∈X.drop k∨z∈Y.take m:=fun z hz=>List.mem_append.mp (hpm.mem_iff.mp hz)
      refine List.pairwise_append.mpr ⟨List.pairwise_append.mpr ⟨uX.take k,hup,fun x hx z hz=>?_⟩,uY.drop m,fun x hx y hy=>?_⟩
      · rcases mem z hz with q | q
        · exact (List.pairwise_append.mp (by rw [take_append_drop];exact uX:Up r (X.take k++X.drop k))).2.2 x hx z q
        · exact K.tr (pX x (mem_of_mem_take hx)) hy0 (pY z (mem_of_mem_take q)) (lo1 x hx) (geY z (mem_of_mem_take q))
      · rcases List.mem_append.mp hx with hx | hx
        · exact K.tr (pX x (mem_of_mem_take hx)) hxl (pY y (mem_of_mem_drop hy)) (leX x (mem_of_mem_take hx)) (hi2 y hy)
        · rcases mem x hx with q | q
          · exact K.tr (pX x (mem_of_mem_drop q)) hxl (pY y (mem_of_mem_drop hy)) (leX x (mem_of_mem_drop q)) (hi2 y hy)
          · exact (List.pairwise_append.mp (by rw [take_append_drop];exact uY:Up r (Y.take m++Y.drop m))).2.2 x q y hy
    · show ((out.toList.zipIdx 0).foldl (fun a p=>a.setIfInBounds (sa+k+p.2) p.1) (arrOf st')).toList=_
      rw [ha',Zqw _ _ _ _ (by rw [hol];omega),hol,add_zero,hl]
      have e1:(L++X++Y++B).take (sa+k)=L++X.take k:=by
        rw [append_assoc,append_assoc,← lA,List.take_append,take_of_length_le (le_add_right _ _),Nat.add_sub_cancel_left,List.take_append_of_le_length (by omega)]
      have e2:(L++X++Y++B).drop (sa+k+(na - k+m))=Y.drop m++B:=by
        rw [append_assoc (L++X),show sa+k+(na - k+m)=(L++X).length+m by rw [length_append];omega,← List.drop_drop,List.drop_left,List.drop_append_of_le_length (by omega)]
      rw [e1,e2]
      simp only [append_assoc]
  have p2:∀x∈((arrOf st).extract (sa+k) (sa+na)).toList,P x:=fun x hx=>pX x (mem_of_mem_drop (tX▸hx))
  have p3:∀x∈((arrOf st).extract (sa+na) (sa+na+m)).toList,P x:=fun x hx=>pY x (mem_of_mem_take (tY▸hx))
  have sz2:((arrOf st).extract (sa+k) (sa+na)).size=na - k:=by rw [← length_toList,tX,length_drop];omega
  have u2:Up r ((arrOf st).extract (sa+k) (sa+na)).toList:=by rw [tX];exact uX.drop k
  have u3:Up r ((arrOf st).extract (sa+na) (sa+na+m)).toList:=by rw [tY];exact uY.take m
  have g0:((arrOf st).extract (sa+na) (sa+na+m))[0]?=some y0:=by rw [← getElem?_toList,tY,getElem?_take,if_pos (by omega)];exact ey0
  have g1:∀x∈((arrOf st).extract (sa+k) (sa+na)).toList,r x y0=false:=fun x hx=>hi1 x (tX▸hx)
  have g2:((arrOf st).extract (sa+k) (sa+na)).toList[((arrOf st).extract (sa+k) (sa+na)).size - 1]?=some xl:=by rw [sz2,tX,getElem?_drop,show k+(na - k - 1)=na - 1 by omega];exact exl
  have g3:∀y∈((arrOf st).extract (sa+na) (sa+na+m)).toList,r xl y=false:=fun y hy=>lo2 y (tY▸hy)
  have fin':∀(out:Array Keyed) (st':SortSt),out.toList.Perm (((arrOf st).extract (sa+k) (sa+na)).toList++((arrOf st).extract (sa+na) (sa+na+m)).toList)→Up r out.toList→kindOf st'=κ→failedOf st'=none→arrOf st'=arrOf st→pendingOf st'=((pendingOf st).setIfInBounds i (sa,na+nb,pw)).eraseIdxIfInBounds (i+1)→_:=fun out st' q=>fin out st' (by rw [tX,tY] at q;exact q)
  refine Xa (fun c3=>?_) (fun c3=>?_)
  · exact wpS_bind (Zpj K hk p2 p3 u2 u3 (by rw [sz2];omega) g0 g1 (fun x hx=>by rw [g2] at hx;cases hx;exact g3) fun out st' h1 h2 sg=>fin' out st' h1 h2 (sg.k.trans hk) (sg.f.trans hf) sg.a sg.p)
  · exact wpS_bind (Zpi K hk p2 p3 u2 u3 (by rw [sz2];omega) g0 g1 (by rw [← getElem?_toList];exact g2) g3 fun out st' h1 h2 sg=>fin' out st' h1 h2 (sg.k.trans hk) (sg.f.trans hf) sg.a sg.p)
end
section
variable {prog:Program}{w:World}{A:Around}{E:Value→Shared→Prop}{s:Shared}{κ:SortKind}{P:Keyed→Prop}{r:Keyed→Keyed→Bool}{st:SortSt}
theorem Xby {i j:Nat}{x y:Keyed}{Q:Option Bool→SortSt→Prop}(K:Ask prog w A s κ P r)(hk:kindOf st=κ)(hi:(arrOf st)[i]?=some x)(hj:(arrOf st)[j]?=some y)(hx:P x)(hy:P y)(h:Q (some (r x y)) st):wpS (model prog w) A E s (ltAt' i j) Q st:=by
 rw [ltAt'_eq]
 exact wpS_bind (wpS_get (wpS_bind (Xh hi (wpS_bind (Xh hj (Zlq K hk hx hy h))))))
structure SC (κ:SortKind)(lo:Nat)(st st':SortSt):Prop where
 k:kindOf st'=κ
 f:failedOf st'=none
 p:pendingOf st'=pendingOf st
 m:(arrOf st').Perm (arrOf st)
 o:∀i,i<lo→(arrOf st')[i]?=(arrOf st)[i]?
theorem SC.size {lo:Nat}{st st':SortSt}(c:SC κ lo st st'):(arrOf st').size=(arrOf st).size:=c.m.size_eq
theorem SC.put {lo:Nat}{st st':SortSt}(c:SC κ lo st st'){a:Array Keyed}(hm:a.Perm (arrOf st'))(ho:∀i,i<lo→a[i]?=(arrOf st')[i]?):SC κ lo st (setArr st' a):=⟨c.k,c.f,c.p,hm.trans c.m,fun i hi=>(ho i hi).trans (c.o i hi)⟩
noncomputable def gx (d0:Keyed)(lo:Nat)(a:Array Keyed)(i:Nat):Keyed:=(a[lo+i]?).getD d0
theorem Xjk {d0:Keyed}{lo i:Nat}{a:Array Keyed}(h:lo+i<a.size):a[lo+i]?=some (gx d0 lo a i):=by
 unfold gx
 rw [Array.getElem?_eq_getElem h]
 rfl
theorem Zen {d0:Keyed}{lo i j:Nat}{a b:Array Keyed}(h:a[lo+i]?=b[lo+j]?):gx d0 lo a i=gx d0 lo b j:=by unfold gx;rw [h]
variable {d0:Keyed}{lo nrem:Nat}
theorem Zuc (hP:∀x∈(arrOf st).toList,P x){st':SortSt}(c:SC κ lo st st')(hn:lo+nrem≤(arrOf st).size){i:Nat}(hi:i<nrem):P (gx d0 lo (arrOf st') i):=by
 have e:=Xjk (d0:=d0) (a:=arrOf st') (lo:=lo) (i:=i) (by rw [c.size];omega)
 have hm:gx d0 lo (arrOf st') i∈(arrOf st').toList:=mem_of_getElem? (by rw [getElem?_toList];exact e)
 exact hP _ (c.m.toList.mem_iff.mp hm)
theorem Zmw (K:Ask prog w A s κ P r)(hP:∀x∈(arrOf st).toList,P x)(hn:lo+nrem≤(arrOf st).size){st':SortSt}(c:SC κ lo st st'){i j i' j':Nat}(hi:i<nrem)(hj:j<nrem)(ei:i'=lo+i)(ej:j'=lo+j){Q:Option Bool→SortSt→Prop}(h:Q (some (r (gx d0 lo (arrOf st') i) (gx d0 lo (arrOf st') j))) st'):wpS (model prog w) A E s (ltAt' i' j') Q st':=by
 subst ei ej
 exact Xby K c.k (Xjk (by rw [c.size];omega)) (Xjk (by rw [c.size];omega)) (Zuc hP c hn hi) (Zuc hP c hn hj) h
theorem Zvi {a:Array Keyed}{i j:Nat}(hj:lo+j≤a.size)(k:Nat):gx d0 lo (mirror a (lo+i) (lo+j) ((lo+j - (lo+i)) / 2)) k=if i≤k∧k<j then gx d0 lo a (i+j - 1 - k) else gx d0 lo a k:=by
 have e:=getElem?_mirror_all (i:=lo+i) hj (lo+k)
 by_cases c:i≤k∧k<j
 ·rw [if_pos c]
  rw [if_pos (by omega)] at e
  exact Zen (e.trans (by congr 1;omega))
 ·rw [if_neg c]
  rw [if_neg (by omega)] at e
  exact Zen e
theorem Zvh {a:Array Keyed}{i j:Nat}(hj:lo+j≤a.size)(k:Nat)(hk:k<lo):(mirror a (lo+i) (lo+j) ((lo+j - (lo+i)) / 2))[k]?=a[k]?:=by
 rw [getElem?_mirror_all (i:=lo+i) hj k,if_neg (by omega)]
def Zru (r:Keyed→Keyed→Bool)(g:Nat→Keyed)(n:Nat):Prop:=∀i j,i≤j→j<n→r (g j) (g i)=false
def Zit (r:Keyed→Keyed→Bool)(g:Nat→Keyed)(n:Nat):Prop:=∀i j,i≤j→j<n→r (g i) (g j)=false
def Eqv (r:Keyed→Keyed→Bool)(x y:Keyed):Prop:=r x y=false∧r y x=false
theorem Zru.snoc (K:Ask prog w A s κ P r){g:Nat→Keyed}{n:Nat}(hp:∀i,i<n+1→P (g i))(h1:1≤n)(h:Zru r g n)(q:r (g n) (g (n - 1))=false):Zru r g (n+1):=fun i j hij hj=>by
 by_cases e:j<n
 ·exact h i j hij e
 ·have ej:j=n:=by omega
  subst ej
  by_cases ei:i=j
  ·subst ei
   exact K.ir (hp i hj)
  ·exact K.tr (hp i (by omega)) (hp (j - 1) (by omega)) (hp j hj) (h i (j - 1) (by omega) (by omega)) q
theorem Zit.snoc (K:Ask prog w A s κ P r){g:Nat→Keyed}{n:Nat}(hp:∀i,i<n+1→P (g i))(h1:1≤n)(h:Zit r g n)(q:r (g (n - 1)) (g n)=false):Zit r g (n+1):=fun i j hij hj=>by
 by_cases e:j<n
 ·exact h i j hij e
 ·have ej:j=n:=by omega
  subst ej
  by_cases ei:i=j
  ·subst ei
   exact K.ir (hp i hj)
  ·exact K.tr (hp j hj) (hp (j - 1) (by omega)) (hp i (by omega)) q (h i (j - 1) (by omega) (by omega))
theorem Zit.eqv (K:Ask prog w A s κ P r){g g':Nat→Keyed}{n:Nat}(hp:∀i,i<n→P (g i))(hp':∀i,i<n→P (g' i))(h:Zit r g n)(q:∀i,i<n→Eqv r (g' i) (g i)):Zit r g' n:=fun i j hij hj =>
 K.tr (hp' j hj) (hp j hj) (hp' i (by omega)) (q j hj).2 (K.tr (hp j hj) (hp i (by omega)) (hp' i (by omega)) (h i j hij hj) (q i (by omega)).1)
theorem Zyu (K:Ask prog w A s κ P r)(hP:∀x∈(arrOf st).toList,P x)(hn:lo+nrem≤(arrOf st).size){st':SortSt}(c:SC κ lo st st'){a:Nat}(ha:1≤a)(han:a≤nrem)(hs:Zru r (gx d0 lo (arrOf st')) a)
  {f:Nat→Option (Option Nat)×Nat→StateT SortSt Sem (ForInStep (Option (Option Nat)×Nat))} {Q:Option (Option Nat)×Nat→SortSt→Prop}
  (hf:∀x n (Q':ForInStep (Option (Option Nat)×Nat)→SortSt→Prop),wpS (model prog w) A E s (ltAt' (lo+n) (lo+n - 1)) (fun b st''=>st''=st'∧∃b',b=some b'∧(b'=true→Q' (.done (none,n)) st')∧(b'=false→Q' (.yield (none,n+1)) st')) st'→wpS (model prog w) A E s (f x (none,n)) Q' st')
  (h:∀n,a≤n→n≤nrem→Zru r (gx d0 lo (arrOf st')) n→(n=nrem∨r (gx d0 lo (arrOf st') n) (gx d0 lo (arrOf st') (n - 1))=true)→Q (none,n) st') :
  wpS (model prog w) A E s (forIn [a:nrem] ((none,a):Option (Option Nat)×Nat) f) Q st':=by
 refine wpS_forRange (I:=fun x c st''=>st''=st'∧c=(none,x)∧Zru r (gx d0 lo (arrOf st')) x) ?step ?fin ⟨rfl,rfl,hs⟩
 case fin =>
  rintro c st'' ⟨rfl,rfl,hs'⟩
  rw [show max a nrem=nrem by omega] at hs' ⊢
  exact h nrem han (le_refl _) hs' (.inl rfl)
 case step =>
  rintro x c st'' hax hxn ⟨rfl,rfl,hs'⟩
  have hp:∀i,i<x+1→P (gx d0 lo (arrOf st'') i):=fun i hi=>Zuc hP c hn (by omega)
  refine hf x x _ (Zmw (d0:=d0) K hP hn c (i:=x) (j:=x - 1) (by omega) (by omega) rfl (by omega) ⟨rfl,_,rfl,fun e=>?_,fun e=>?_⟩)
  ·exact h x hax (by omega) hs' (.inr e)
  ·exact ⟨rfl,rfl,Zru.snoc K hp (by omega) hs' e⟩
theorem Eqv.same (K:Ask prog w A s κ P r){x:Keyed}(hx:P x):Eqv r x x:=⟨K.ir hx,K.ir hx⟩
theorem Eqv.via (K:Ask prog w A s κ P r){x y z:Keyed}(hx:P x)(hy:P y)(hz:P z)(h1:Eqv r x y)(h2:Eqv r z y):Eqv r x z:=⟨K.tr hz hy hx h2.2 h1.1,K.tr hx hy hz h1.2 h2.1⟩
theorem Zit.mir (K:Ask prog w A s κ P r)(hP:∀x∈(arrOf st).toList,P x)(hn:lo+nrem≤(arrOf st).size){st':SortSt}(c:SC κ lo st st'){i j n:Nat}(hj:j≤n)(hnn:n≤nrem)(h:Zit r (gx d0 lo (arrOf st')) n)(he:∀k,i≤k→k<j→Eqv r (gx d0 lo (arrOf st') k) (gx d0 lo (arrOf st') (j - 1))){a':Array Keyed}
  (ea:a'=mirror (arrOf st') (lo+i) (lo+j) ((lo+j - (lo+i)) / 2)):SC κ lo st (setArr st' a')∧Zit r (gx d0 lo a') n:=by
 subst ea
 have hsz:lo+j≤(arrOf st').size:=by rw [c.size];omega
 have c':SC κ lo st (setArr st' (mirror (arrOf st') (lo+i) (lo+j) ((lo+j - (lo+i)) / 2))):=c.put (mirror_perm _ _ _ _) (fun k hk=>Zvh hsz k hk)
 have hp:∀k,k<n→P (gx d0 lo (arrOf st') k):=fun k hk=>Zuc hP c hn (by omega)
 refine ⟨c',Zit.eqv K hp (fun k hk=>Zuc (d0:=d0) hP c' hn (by omega)) h fun k hk=>?_⟩
 rw [Zvi hsz]
 split
 ·rename_i q
  exact Eqv.via K (hp _ (by omega)) (hp (j - 1) (by omega)) (hp k hk) (he _ (by omega) (by omega)) (he k q.1 q.2)
 ·exact Eqv.same K (hp k hk)
theorem Zkl {st':SortSt}{i j i' j':Nat}{Q:Unit→SortSt→Prop}(ei:i'=lo+i)(ej:j'=lo+j)(h:Q () (setArr st' (mirror (arrOf st') (lo+i) (lo+j) ((lo+j - (lo+i)) / 2)))):wpS (model prog w) A E s (reverseSlice' i' j') Q st':=by
 subst ei ej
 exact wpS_reverse h
theorem Zut {Q:Option Nat→SortSt→Prop}(d0:Keyed)(K:Ask prog w A s κ P r)(hP:∀x∈(arrOf st).toList,P x)(hk:kindOf st=κ)(hf:failedOf st=none)(hn:lo+nrem≤(arrOf st).size)(h1:1≤nrem)
    (h:∀m st',SC κ lo st st'→1≤m→m≤nrem→Zru r (gx d0 lo (arrOf st')) m→Q (some m) st'):wpS (model prog w) A E s (countRun' lo nrem) Q st:=by
  have c0:SC κ lo st st:=⟨hk,hf,rfl,Array.Perm.refl _,fun _ _=>rfl⟩
  refine wpS_bind (Zyu (d0:=d0) K hP hn c0 (le_refl 1) h1 (fun i j hij hj=>by rw [show i=0 by omega,show j=0 by omega];exact K.ir (Zuc hP c0 hn (by omega))) (fun x n Q' q=>?_) fun n n1 n2 n3 n4=>?_)
  · refine wpS_bind (wpS_mono q ?_)
    rintro b st'' ⟨rfl,b',rfl,q1,q2⟩
    dsimp only
    cases b' with
    | true =>
      rw [if_pos rfl]
      exact wpS_pure (q1 rfl)
    | false =>
      rw [if_neg Bool.false_ne_true]
      exact wpS_pure (q2 rfl)
  refine Xa (fun c1=>?_) (fun c1=>?_)
  · exact wpS_pure (h n st c0 n1 n2 n3)
  have c1':n≠nrem:=Zng c1
  have n4':r (gx d0 lo (arrOf st) n) (gx d0 lo (arrOf st) (n - 1))=true:=n4.resolve_left c1'
  have hp0:∀i,i<nrem→P (gx d0 lo (arrOf st) i):=fun i hi=>Zuc hP c0 hn hi
  have n5:r (gx d0 lo (arrOf st) (n - 1)) (gx d0 lo (arrOf st) n)=false:=K.as (hp0 _ (by omega)) (hp0 _ (by omega)) n4'
  extract_lets -underBinder jp
  have hd:∀st1,SC κ lo st st1→Zit r (gx d0 lo (arrOf st1)) (n+1)→wpS (model prog w) A E s (jp ()) Q st1:=fun st1 sc1 dn1=>by
    refine wpS_bind (wpS_lift (wpAny_rule ⟨rfl,?_⟩))
    refine wpS_bind (wpS_mono (wpS_forRange (I:=fun x c st2=>∃q,c=(none,x,q)∧SC κ lo st st2∧Zit r (gx d0 lo (arrOf st2)) x∧q+1≤x∧∀i,x - (q+1)≤i→i<x→Eqv r (gx d0 lo (arrOf st2) i) (gx d0 lo (arrOf st2) (x - 1)))
      (Q:=fun c st2=>∃m q,c=(none,m,q)∧n+1≤m∧m≤nrem∧SC κ lo st st2∧Zit r (gx d0 lo (arrOf st2)) m∧q+1≤m∧∀i,m - (q+1)≤i→i<m→Eqv r (gx d0 lo (arrOf st2) i) (gx d0 lo (arrOf st2) (m - 1))) ?step ?fin
      ⟨0,rfl,sc1,dn1,by omega,fun i i1 i2=>by rw [show i=n+1 - 1 by omega];exact Eqv.same K (Zuc hP sc1 hn (by omega))⟩) ?post)
    case fin =>
      rintro c st2 ⟨q,rfl,sc,dn,hq,he⟩
      rw [show max (n+1) nrem=nrem by omega] at dn hq he ⊢
      exact ⟨nrem,q,rfl,by omega,le_refl _,sc,dn,hq,he⟩
    case step =>
      rintro x c st2 hx1 hx2 ⟨q,rfl,sc,dn,hq,he⟩
      have hp:∀i,i<nrem→P (gx d0 lo (arrOf st2) i):=fun i hi=>Zuc hP sc hn hi
      refine wpS_bind (Zmw (d0:=d0) K hP hn sc (i:=x) (j:=x - 1) hx2 (by omega) rfl (by show lo+x - 1=_;omega) ?_)
      cases e:r (gx d0 lo (arrOf st2) x) (gx d0 lo (arrOf st2) (x - 1)) with
      | true =>
        have dn':=Zit.snoc K (fun i hi=>hp i (by omega)) (by omega) dn (K.as (hp x hx2) (hp (x - 1) (by omega)) e)
        refine Xa (fun _=>?_) (fun z=>absurd rfl z)
        refine Xa (fun q0=>?_) (fun q0=>?_)
        · obtain ⟨c2,d2⟩:=Zit.mir K hP hn sc (i:=x - (q+1)) (j:=x) (n:=x+1) (by omega) hx2 dn' he rfl
          refine wpS_bind (Zkl (i:=x - (q+1)) (j:=x) (by show lo+x - (q+1)=_;omega) rfl ?_)
          exact wpS_pure ⟨0,rfl,c2,d2,by omega,fun i i1 i2=>by rw [show i=x+1 - 1 by omega];exact Eqv.same K (Zuc hP c2 hn hx2)⟩
        · exact wpS_pure ⟨0,rfl,sc,dn',by omega,fun i i1 i2=>by rw [show i=x+1 - 1 by omega];exact Eqv.same K (hp x hx2)⟩
      | false =>
        refine Xa (fun z=>absurd z Bool.false_ne_true) (fun _=>?_)
        refine wpS_bind (Zmw (d0:=d0) K hP hn sc (i:=x - 1) (j:=x) (by omega) hx2 (by show lo+x - 1=_;omega) rfl ?_)
        cases e2:r (gx d0 lo (arrOf st2) (x - 1)) (gx d0 lo (arrOf st2) x) with
        | true =>
          refine Xa (fun _=>?_) (fun z=>absurd rfl z)
          exact wpS_pure ⟨x,q,rfl,hx1,by omega,sc,dn,hq,he⟩
        | false =>
          refine Xa (fun z=>absurd z Bool.false_ne_true) (fun _=>?_)
          refine wpS_pure ⟨q+1,rfl,sc,Zit.snoc K (fun i hi=>hp i (by omega)) (by omega) dn e2,by omega,fun i i1 i2=>?_⟩
          rw [show x+1 - 1=x by omega]
          by_cases ix:i=x
          · rw [ix]
            exact Eqv.same K (hp x hx2)
          · exact Eqv.via K (hp i (by omega)) (hp (x - 1) (by omega)) (hp x hx2) (he i (by omega) (by omega)) ⟨e,e2⟩
    case post =>
      rintro c st2 ⟨m,q,rfl,m1,m2,sc,dn,hq,he⟩
      dsimp -zeta -zetaHave only
      extract_lets -underBinder u1 u2 u3 u4
      dsimp -zeta -zetaHave only [u1]
      extract_lets -underBinder jp4
      have hd3:∀st3,SC κ lo st st3→Zit r (gx d0 lo (arrOf st3)) m→wpS (model prog w) A E s (jp4 ()) Q st3:=fun st3 sc3 dn3=>by
        refine wpS_bind (Zkl (lo:=lo) (i:=0) (j:=m) rfl rfl ?_)
        have hsz:lo+m≤(arrOf st3).size:=by rw [sc3.size];omega
        have c4:SC κ lo st (setArr st3 (mirror (arrOf st3) (lo+0) (lo+m) ((lo+m - (lo+0)) / 2))):=sc3.put (mirror_perm _ _ _ _) (fun k hk=>Zvh hsz k hk)
        refine wpS_bind (Zyu (d0:=d0) K hP hn c4 (by omega) m2 (fun i j hij hj=>?_) (fun x n Q' q=>?_) fun n g1 g2 g3 _=>wpS_pure (h n _ c4 (by omega) g2 g3))
        · show r (gx d0 lo (mirror (arrOf st3) (lo+0) (lo+m) ((lo+m - (lo+0)) / 2)) j) (gx d0 lo (mirror (arrOf st3) (lo+0) (lo+m) ((lo+m - (lo+0)) / 2)) i)=false
          rw [Zvi hsz,Zvi hsz,if_pos (by omega),if_pos (by omega)]
          exact dn3 _ _ (by omega) (by omega)
        · refine wpS_bind (wpS_mono q ?_)
          rintro b st'' ⟨rfl,b',rfl,q1,q2⟩
          dsimp only
          cases b' with
          | true =>
            rw [if_pos rfl]
            exact wpS_pure (q1 rfl)
          | false =>
            rw [if_neg Bool.false_ne_true]
            exact wpS_pure (q2 rfl)
      refine Xa (fun q0=>?_) (fun q0=>?_)
      · obtain ⟨c2,d2⟩:=Zit.mir K hP hn sc (i:=m - (q+1)) (j:=m) (n:=m) (le_refl _) m2 dn he rfl
        refine wpS_bind (Zkl (i:=m - (q+1)) (j:=m) (by show lo+m - (q+1)=_;omega) rfl ?_)
        exact hd3 _ c2 d2
      · exact hd3 _ sc dn
  refine Xa (fun c2=>?_) (fun c2=>?_)
  · refine wpS_bind (Zmw (d0:=d0) K hP hn c0 (i:=0) (j:=n - 1) (by omega) (by omega) rfl (by show lo+n - 1=_;omega) ?_)
    cases e:r (gx d0 lo (arrOf st) 0) (gx d0 lo (arrOf st) (n - 1)) with
    | true =>
      refine Xa (fun _=>?_) (fun z=>absurd rfl z)
      exact wpS_pure (h n st c0 n1 n2 n3)
    | false =>
      refine Xa (fun z=>absurd z Bool.false_ne_true) (fun _=>?_)
      have all:∀k,k<n→Eqv r (gx d0 lo (arrOf st) k) (gx d0 lo (arrOf st) (n - 1)):=fun k hk =>
        ⟨K.tr (hp0 (n - 1) (by omega)) (hp0 0 (by omega)) (hp0 k (by omega)) e (n3 0 k (zero_le _) hk),n3 k (n - 1) (by omega) (by omega)⟩
      have dn:Zit r (gx d0 lo (arrOf st)) n:=fun i j hij hj=>(Eqv.via K (hp0 i (by omega)) (hp0 (n - 1) (by omega)) (hp0 j (by omega)) (all i (by omega)) (all j hj)).1
      obtain ⟨c3,d3⟩:=Zit.mir K hP hn c0 (i:=0) (j:=n) (n:=n+1) (by omega) (by omega) (Zit.snoc K (fun i hi=>hp0 i (by omega)) n1 dn n5) (fun k _ hk=>all k hk) rfl
      refine wpS_bind (Zkl (lo:=lo) (i:=0) (j:=n) rfl rfl ?_)
      exact hd _ c3 d3
  · have e1:n=1:=by omega
    subst e1
    refine hd _ c0 (Zit.snoc K (fun i hi=>hp0 i (by omega)) (le_refl 1) (fun i j hij hj=>?_) n5)
    rw [show i=0 by omega,show j=0 by omega]
    exact K.ir (hp0 0 (by omega))
variable {d0:Keyed}{lo nrem:Nat}
theorem Xgn {a:Array Keyed}{k l:Nat}(hk:lo+k<a.size)(hl:l≤k)(i:Nat):gx d0 lo (bubble a (lo+k) (lo+k - (lo+l))) i=if i=l then gx d0 lo a k else if l<i∧i≤k then gx d0 lo a (i - 1) else gx d0 lo a i:=by
 have e:=getElem?_bubble hk (lo+k - (lo+l)) (by omega) (lo+i)
 rw [show lo+k - (lo+k - (lo+l))=lo+l by omega] at e
 by_cases c:i=l
 ·rw [if_pos c]
  rw [if_pos (by omega)] at e
  exact Zen e
 ·rw [if_neg c]
  rw [if_neg (by omega)] at e
  by_cases c2:l<i∧i≤k
  ·rw [if_pos c2]
   rw [if_pos (by omega)] at e
   exact Zen (e.trans (by congr 1;omega))
  ·rw [if_neg c2]
   rw [if_neg (by omega)] at e
   exact Zen e
theorem Xlz {a:Array Keyed}{k l:Nat}(hk:lo+k<a.size)(hl:l≤k)(i:Nat)(hi:i<lo):(bubble a (lo+k) (lo+k - (lo+l)))[i]?=a[i]?:=by
 rw [getElem?_bubble hk (lo+k - (lo+l)) (by omega) i,if_neg (by omega),if_neg (by omega)]
theorem Xjv {Q:Bool→SortSt→Prop}(d0:Keyed)(K:Ask prog w A s κ P r)(hP:∀x∈(arrOf st).toList,P x)(hn:lo+nrem≤(arrOf st).size){st1:SortSt}(c1:SC κ lo st st1){n ok:Nat}(hnn:n≤nrem)(hok:ok≤n)(h1:1≤n)(hs:Zru r (gx d0 lo (arrOf st1)) ok)
    (h:∀st',SC κ lo st st'→Zru r (gx d0 lo (arrOf st')) n→Q true st'):wpS (model prog w) A E s (binarySort' lo n ok) Q st1:=by
  refine wpS_bind (wpS_mono (wpS_forRange (I:=fun k c st'=>c.1=none∧SC κ lo st st'∧Zru r (gx d0 lo (arrOf st')) (min k n)) (Q:=fun c st'=>c.1=none∧SC κ lo st st'∧Zru r (gx d0 lo (arrOf st')) n) ?step ?fin ?init) ?post)
  case post =>
    rintro ⟨c,_⟩ st' ⟨e,sc,u⟩
    have e:c=none:=e
    subst e
    exact wpS_pure (h st' sc u)
  case init =>
    refine ⟨rfl,c1,fun i j hij hj=>?_⟩
    by_cases z:ok=0
    · rw [show i=0 by omega,show j=0 by omega]
      exact K.ir (Zuc hP c1 hn (by omega))
    · exact hs i j hij (by omega)
  case fin =>
    rintro c st' ⟨e,sc,u⟩
    rw [show min (max (max ok 1) n) n=n by omega] at u
    exact ⟨e,sc,u⟩
  case step =>
    rintro k ⟨c,_⟩ st' hk1 hk2 ⟨e,sc,u⟩
    have e:c=none:=e
    subst e
    rw [show min k n=k by omega] at u
    have hp:∀i,i<nrem→P (gx d0 lo (arrOf st') i):=fun i hi=>Zuc hP sc hn hi
    refine wpS_bind (wpS_mono (wpS_forRange (I:=fun x c st2=>st2=st'∧∃l m,c=(none,l,m)∧l≤m∧m≤k∧m - l≤k - x∧(∀i,i<l→r (gx d0 lo (arrOf st') k) (gx d0 lo (arrOf st') i)=false)∧(∀i,m≤i→i<k→r (gx d0 lo (arrOf st') k) (gx d0 lo (arrOf st') i)=true))
      (Q:=fun c st2=>st2=st'∧∃l m,c=(none,l,m)∧l≤k∧(∀i,i<l→r (gx d0 lo (arrOf st') k) (gx d0 lo (arrOf st') i)=false)∧(∀i,l≤i→i<k→r (gx d0 lo (arrOf st') k) (gx d0 lo (arrOf st') i)=true)) ?istep ?ifin ⟨rfl,0,k,rfl,zero_le _,le_refl _,by omega,fun i hi=>by omega,fun i q1 q2=>by omega⟩) ?ipost)
    case ifin =>
      rintro c st2 ⟨rfl,l,m,rfl,q1,q2,q3,q4,q5⟩
      have:l=m:=by omega
      subst this
      exact ⟨rfl,l,l,rfl,q2,q4,q5⟩
    case istep =>
      rintro x c st2 _ hx ⟨rfl,l,m,rfl,q1,q2,q3,q4,q5⟩
      refine Xa (fun z=>?_) (fun z=>?_)
      · have z:l≥m:=z
        have:l=m:=by omega
        subst this
        exact wpS_pure ⟨rfl,l,l,rfl,q2,q4,q5⟩
      · have z:¬l≥m:=z
        refine wpS_bind (Zmw (d0:=d0) K hP hn sc (i:=k) (j:=(l+m) / 2) (by omega) (by omega) rfl rfl ?_)
        cases e:r (gx d0 lo (arrOf st2) k) (gx d0 lo (arrOf st2) ((l+m) / 2)) with
        | true =>
          refine Xa (fun _=>?_) (fun z=>absurd rfl z)
          refine wpS_pure ⟨rfl,l,(l+m) / 2,rfl,by omega,by omega,by omega,q4,fun i i1 i2=>?_⟩
          cases e2:r (gx d0 lo (arrOf st2) k) (gx d0 lo (arrOf st2) i) with
          | true=>rfl
          | false=>rw [K.tr (hp _ (by omega)) (hp i (by omega)) (hp k (by omega)) (u ((l+m) / 2) i i1 i2) e2] at e;cases e
        | false =>
          refine Xa (fun z=>absurd z Bool.false_ne_true) (fun _=>?_)
          exact wpS_pure ⟨rfl,(l+m) / 2+1,m,rfl,by omega,q2,by omega,fun i i1=>K.tr (hp i (by omega)) (hp _ (by omega)) (hp k (by omega)) (u i ((l+m) / 2) (by omega) (by omega)) e,q5⟩
    case ipost =>
      rintro c st2 ⟨rfl,l,m,rfl,q1,q2,q3⟩
      refine wpS_bind (wpS_modify (wpS_pure ⟨rfl,sc.put (bubble_perm _ _ _) (fun i hi=>Xlz (by rw [sc.size];omega) q1 i hi),?_⟩))
      rw [show min (k+1) n=k+1 by omega]
      have hks:lo+k<(arrOf st2).size:=by rw [sc.size];omega
      intro i j hij hj
      show r (gx d0 lo (bubble (arrOf st2) (lo+k) (lo+k - (lo+l))) j) (gx d0 lo (bubble (arrOf st2) (lo+k) (lo+k - (lo+l))) i)=false
      rw [Xgn hks q1,Xgn hks q1]
      by_cases ij:i=j
      · subst ij
        refine K.ir ?_
        repeat' split
        all_goals exact hp _ (by omega)
      · repeat' split
        all_goals first
          | (exfalso;omega)
          | exact q2 _ (by omega)
          | exact K.as (hp _ (by omega)) (hp _ (by omega)) (q3 _ (by omega) (by omega))
          | exact u _ _ (by omega) (by omega)
end
noncomputable abbrev Pn:=Nat×Nat×Nat
noncomputable def Zhh:Nat→List (List Keyed)→List Pn→Prop
 | _,[],[]=>True
 | off,R::Rs,p::ps=>p.1=off∧p.2.1=R.length∧Zhh (off+R.length) Rs ps
 | _,_,_=>False
theorem Zhh.len:∀{Rs:List (List Keyed)} {off:Nat} {ps:List Pn},Zhh off Rs ps→ps.length=Rs.length
 | [],_,[],_=>rfl
 | [],_,_::_,h=>h.elim
 | _::_,_,[],h=>h.elim
 | R::Rs,off,p::ps,h=>by rw [length_cons,length_cons,Zhh.len h.2.2]
theorem Zhh.split:∀{R1 R2:List (List Keyed)} {off:Nat} {ps:List Pn},Zhh off (R1++R2) ps→∃p1 p2,ps=p1++p2∧Zhh off R1 p1∧Zhh (off+R1.flatten.length) R2 p2
 | [],R2,off,ps,h=>⟨[],ps,rfl,trivial,h⟩
 | R::R1,R2,off,[],h=>h.elim
 | R::R1,R2,off,p::ps,h=>by
  obtain ⟨p1,p2,e,h1,h2⟩:=Zhh.split (R1:=R1) (R2:=R2) h.2.2
  refine ⟨p::p1,p2,by rw [e];rfl,⟨h.1,h.2.1,h1⟩,?_⟩
  rw [flatten_cons,length_append,← add_assoc]
  exact h2
theorem Zhh.join:∀{R1 R2:List (List Keyed)} {off:Nat} {p1 p2:List Pn},Zhh off R1 p1→Zhh (off+R1.flatten.length) R2 p2→Zhh off (R1++R2) (p1++p2)
 | [],R2,off,[],p2,_,h=>h
 | [],_,_,_::_,_,h,_=>h.elim
 | _::_,_,_,[],_,h,_=>h.elim
 | R::R1,R2,off,p::p1,p2,h1,h2=>by
  refine ⟨h1.1,h1.2.1,Zhh.join h1.2.2 ?_⟩
  rw [flatten_cons,length_append,← add_assoc] at h2
  exact h2
structure RI (κ:SortKind)(r:Keyed→Keyed→Bool)(a0:List Keyed)(st:SortSt)(Rs:List (List Keyed))(Z:List Keyed):Prop where
 k:kindOf st=κ
 f:failedOf st=none
 m:(arrOf st).toList.Perm a0
 l:(arrOf st).toList=Rs.flatten++Z
 p:Zhh 0 Rs (pendingOf st).toList
 u:∀R∈Rs,Up r R∧1≤R.length
section
variable {prog:Program}{w:World}{A:Around}{E:Value→Shared→Prop}{s:Shared}{κ:SortKind}{P:Keyed→Prop}{r:Keyed→Keyed→Bool}{st:SortSt}{d0:Keyed}{a0 Z:List Keyed}{Rs:List (List Keyed)}
theorem Zxr {α:Type}{l p1 p2:List α}{i:Nat}{x y v:α}(e:l=p1++x::y::p2)(hi:p1.length=i):(l.set i v).eraseIdx (i+1)=p1++v::p2:=by
 subst e hi
 rw [set_append_right _ _ (le_refl _),sub_self,List.set_cons_zero,List.eraseIdx_append_of_length_le (le_succ _),Nat.succ_sub (le_refl _),sub_self]
 rfl
theorem Zjp {R1 R2:List (List Keyed)}{X Y:List Keyed}{i:Nat}{Q:Bool→SortSt→Prop}(K:Ask prog w A s κ P r)(hP:∀x∈a0,P x)(ri:RI κ r a0 st (R1++X::Y::R2) Z)(hi:R1.length=i)(h:∀M st',RI κ r a0 st' (R1++M::R2) Z→Q true st'):wpS (model prog w) A E s (mergeAt' i) Q st:=by
 obtain ⟨p1,p2,e,h1,h2⟩:=Zhh.split ri.p
 match p2,h2 with
 | (x1,x2,x3)::(y1,y2,y3)::p2,h2 =>
  obtain ⟨e1,e2,e3,e4,h3⟩:=h2
  have l1:=h1.len
  have e1:x1=0+R1.flatten.length:=e1
  have e2:x2=X.length:=e2
  have e3:y1=0+R1.flatten.length+X.length:=e3
  have e4:y2=Y.length:=e4
  rw [zero_add] at e1 e3
  have uX:=ri.u X (mem_append_right _ (.head _))
  have uY:=ri.u Y (mem_append_right _ (.tail _ (.head _)))
  have hl:(arrOf st).toList=R1.flatten++X++Y++(R2.flatten++Z):=by
   rw [ri.l]
   simp only [flatten_append,flatten_cons,append_assoc]
  have q1:(pendingOf st)[i]?=some (x1,x2,x3):=by
   rw [← getElem?_toList,e,getElem?_append_right (by omega),show i - p1.length=0 by omega]
   rfl
  have q2:(pendingOf st)[i+1]?=some (x1+x2,y2,y3):=by
   rw [← getElem?_toList,e,getElem?_append_right (by omega),show i+1 - p1.length=1 by omega,e1,e2,← e3]
   rfl
  refine Zok K ri.k ri.f q1 q2 hl e1.symm e2.symm e4.symm (by omega) (by omega) (fun x hx=>hP x (ri.m.mem_iff.mp hx)) uX.1 uY.1 fun M st' hm hu ha hk hf hp=>?_
  have lm:=hm.length_eq
  rw [length_append] at lm
  refine h M st' ⟨hk,hf,?_,?_,?_,fun R hR=>?_⟩
  ·rw [ha]
   refine List.Perm.trans ?_ ri.m
   rw [hl]
   simp only [append_assoc]
   refine List.Perm.append_left _ ?_
   rw [← append_assoc X Y]
   exact hm.append_right _
  ·rw [ha]
   simp only [flatten_append,flatten_cons,append_assoc]
  ·rw [hp]
   rw [Array.toList_eraseIdxIfInBounds,Array.toList_setIfInBounds,Zxr e (by omega)]
   refine h1.join ⟨by show x1=_;rw [e1,zero_add],by show x2+y2=_;omega,?_⟩
   rw [lm,← add_assoc]
   exact h3
  ·rcases List.mem_append.mp hR with q | q
   ·exact ri.u R (mem_append_left _ q)
   ·rcases List.mem_cons.mp q with q | q
    ·subst q
     exact ⟨hu,by omega⟩
    ·exact ri.u R (mem_append_right _ (.tail _ (.tail _ q)))
theorem RI.sc {st':SortSt}(ri:RI κ r a0 st Rs Z)(c:SC κ Rs.flatten.length st st'):∃Z',RI κ r a0 st' Rs Z'∧Z'.length=Z.length∧∀i,Z'[i]?=(arrOf st')[Rs.flatten.length+i]?:=by
 have hsz:=c.size
 have h1:(arrOf st).size=Rs.flatten.length+Z.length:=by rw [← length_toList,ri.l,length_append]
 have e:(arrOf st').toList=Rs.flatten++(arrOf st').toList.drop Rs.flatten.length:=by
  refine List.ext_getElem? fun i=>?_
  by_cases hi:i<Rs.flatten.length
  ·rw [getElem?_append_left hi,getElem?_toList,c.o i hi,← getElem?_toList,ri.l,getElem?_append_left hi]
  ·rw [getElem?_append_right (by omega),getElem?_drop,show Rs.flatten.length+(i - Rs.flatten.length)=i by omega]
 refine ⟨(arrOf st').toList.drop Rs.flatten.length,⟨c.k,c.f,c.m.toList.trans ri.m,e,by rw [c.p];exact ri.p,ri.u⟩,?_,fun i=>?_⟩
 ·rw [length_drop,length_toList]
  omega
 ·rw [getElem?_drop,getElem?_toList]
theorem Xlu {g:Nat→Keyed}{l:List Keyed}{n:Nat}(h:Zru r g n)(e:∀i x,i<n→l[i]?=some x→x=g i):Up r (l.take n):=by
 refine List.pairwise_iff_getElem.mpr fun i j hi hj hij=>?_
 rw [length_take] at hi hj
 rw [List.getElem_take,List.getElem_take,e i _ (by omega) (getElem?_eq_getElem (by omega)),e j _ (by omega) (getElem?_eq_getElem (by omega))]
 exact h i j (by omega) (by omega)
theorem Zrm:∀{Rs:List (List Keyed)},(∀R∈Rs,1≤R.length)→Rs.length≤Rs.flatten.length
 | [],_=>le_refl _
 | R::Rs,h=>by
  have h1:=h R (.head _)
  have h2:=Zrm fun R hR=>h R (.tail _ hR)
  rw [flatten_cons,length_append,length_cons]
  omega
theorem Xgl {Rs:List (List Keyed)}{i:Nat}(h:i+1<Rs.length):∃R1 X Y R2,Rs=R1++X::Y::R2∧R1.length=i:=by
 refine ⟨Rs.take i,Rs[i],Rs[i+1],Rs.drop (i+2),?_,List.length_take_of_le (by omega)⟩
 rw [← drop_eq_getElem_cons,← drop_eq_getElem_cons,take_append_drop]
theorem RI.size (ri:RI κ r a0 st Rs Z):a0.length=Rs.flatten.length+Z.length:=by rw [← ri.m.length_eq,ri.l,length_append]
theorem Zhh.mod {f:Pn→Pn}(hf:∀p,(f p).1=p.1∧(f p).2.1=p.2.1):∀{Rs:List (List Keyed)} {off:Nat} {ps:List Pn} (i:Nat),Zhh off Rs ps→Zhh off Rs (ps.modify i f)
 | [],_,[],i,h=>by rw [List.modify_nil];exact h
 | [],_,_::_,_,h=>h.elim
 | _::_,_,[],_,h=>h.elim
 | R::Rs,off,p::ps,0,h=>by
  rw [List.modify_zero_cons]
  exact ⟨(hf p).1.trans h.1,(hf p).2.trans h.2.1,h.2.2⟩
 | R::Rs,off,p::ps,i+1,h=>by
  rw [List.modify_succ_cons]
  exact ⟨h.1,h.2.1,Zhh.mod hf i h.2.2⟩
noncomputable def RunQ (κ:SortKind)(r:Keyed→Keyed→Bool)(a0:List Keyed)(size x:Nat):ForInStep (Option Unit×Nat)→SortSt→Prop
 | .done (c,_),st'=>c=none∧∃Rs,RI κ r a0 st' Rs []
 | .yield (c,lo),st'=>c=none∧x+1≤lo∧∃Rs Z,RI κ r a0 st' Rs Z∧Rs.flatten.length=lo∧lo≤size
theorem Xaa {Q:Unit→SortSt→Prop}(d0:Keyed)(K:Ask prog w A s κ P r)(hP:∀x∈(arrOf st).toList,P x)(hk:kindOf st=κ)(hf:failedOf st=none)(hp:pendingOf st=#[])(h2:1≤(arrOf st).size)
  (h:∀st',(arrOf st').toList.Perm (arrOf st).toList→failedOf st'=none→Up r (arrOf st').toList→Q () st'):wpS (model prog w) A E s sortRuns' Q st:=by
 have r0:RI κ r (arrOf st).toList st [] (arrOf st).toList:=⟨hk,hf,List.Perm.refl _,rfl,by rw [hp];trivial,fun _ z=>nomatch z⟩
 refine wpS_bind (wpS_get ?_)
 extract_lets -underBinder size minrun l0
 have hsz:size=(arrOf st).size:=rfl
 clear_value size minrun
 refine wpS_bind (wpS_mono (wpS_forRange (I:=fun x c st'=>c.1=none∧x≤c.2∧∃Rs Z,RI κ r (arrOf st).toList st' Rs Z∧Rs.flatten.length=c.2∧c.2≤size) (Q:=fun c st'=>c.1=none∧∃Rs,RI κ r (arrOf st).toList st' Rs []) ?step ?fin ⟨rfl,zero_le _,[],_,r0,rfl,zero_le _⟩) ?post)
 case fin =>
  rintro ⟨c,lo⟩ st' ⟨e,h1,Rs,Z,ri,h3,h4⟩
  have h1:max 0 size≤lo:=h1
  have h3:Rs.flatten.length=lo:=h3
  have h4:lo≤size:=h4
  have hl:=congrArg List.length ri.l
  rw [length_toList,length_append,h3,← length_toList,ri.m.length_eq,length_toList] at hl
  have:Z=[]:=List.length_eq_zero_iff.mp (by omega)
  subst this
  exact ⟨e,Rs,ri⟩
 case step =>
  rintro x ⟨c,lo⟩ st' _ hx ⟨e,h1,Rs,Z,ri,h3,h4⟩
  have e:c=none:=e
  subst e
  have h1:x≤lo:=h1
  have h3:Rs.flatten.length=lo:=h3
  have h4:lo≤size:=h4
  have hrs:=ri.size
  rw [length_toList] at hrs
  have hP':∀x∈(arrOf st').toList,P x:=fun x hx=>hP x (ri.m.mem_iff.mp hx)
  have hs':(arrOf st').size=size:=by rw [← length_toList,ri.m.length_eq,length_toList];exact hsz.symm
  refine Xa (fun c1=>?_) (fun c1=>?_)
  ·have c1:lo≥size:=c1
   have:Z=[]:=List.length_eq_zero_iff.mp (by omega)
   subst this
   exact wpS_pure ⟨rfl,Rs,ri⟩
  have c1:¬lo≥size:=c1
  subst h3
  refine wpS_bind (Zut (lo:=Rs.flatten.length) (nrem:=size - Rs.flatten.length) d0 K hP' ri.k ri.f (by omega) (by omega) fun m st1 sc1 m1 m2 u1=>?_)
  refine wpS_mono (Q:=RunQ κ r (arrOf st).toList size x) ?_ (fun rr st4 q=>by cases rr<;>exact q)
  dsimp -zeta -zetaHave only
  extract_lets -underBinder n0 jp
  have hj:∀n st2,SC κ Rs.flatten.length st' st2→1≤n→n≤size - Rs.flatten.length→Zru r (gx d0 Rs.flatten.length (arrOf st2)) n→wpS (model prog w) A E s (jp () n) (RunQ κ r (arrOf st).toList size x) st2:=fun n st2 sc2 g1 g2 u2=>by
   obtain ⟨Z2,ri2,lz,ez⟩:=ri.sc sc2
   have uz:Up r (Z2.take n):=Xlu u2 fun i x hi e=>by
    rw [ez] at e
    unfold gx
    rw [e]
    rfl
   have lt:(Z2.take n).length=n:=List.length_take_of_le (by omega)
   refine wpS_bind (wpS_get ?_)
   extract_lets -underBinder jp2
   have hj2:∀st3 Rs3,RI κ r (arrOf st).toList st3 Rs3 Z2→Rs3.flatten.length=Rs.flatten.length→wpS (model prog w) A E s (jp2 ()) (RunQ κ r (arrOf st).toList size x) st3:=fun st3 Rs3 ri3 hl3=>by
    refine wpS_bind (wpS_modify (wpS_pure ⟨rfl,by omega,Rs3++[Z2.take n],Z2.drop n,⟨ri3.k,ri3.f,ri3.m,?_,?_,fun R hR=>?_⟩,?_,by omega⟩))
    ·show (arrOf st3).toList=_
     rw [ri3.l,flatten_append,flatten_cons,List.flatten_nil,append_nil,append_assoc,take_append_drop]
    ·show Zhh 0 _ ((pendingOf st3).push (Rs.flatten.length,n,0)).toList
     rw [toList_push]
     exact ri3.p.join ⟨by rw [zero_add];exact hl3.symm,lt.symm,trivial⟩
    ·rcases List.mem_append.mp hR with q | q
     ·exact ri3.u R q
     ·rw [List.mem_singleton.mp q]
      exact ⟨uz,by omega⟩
    ·rw [flatten_append,flatten_cons,List.flatten_nil,append_nil,length_append,lt,hl3]
   cases eb:(pendingOf st2).back? with
   | none=>exact hj2 st2 Rs ri2 rfl
   | some t =>
    obtain ⟨s1,n1,w0⟩:=t
    dsimp -zeta -zetaHave only
    extract_lets -underBinder pw
    refine wpS_bind (wpS_mono (wpS_forRange (I:=fun y c st3=>c.1=none∧∃Rs3,RI κ r (arrOf st).toList st3 Rs3 Z2∧Rs3.flatten.length=Rs.flatten.length) (Q:=fun c st3=>c.1=none∧∃Rs3,RI κ r (arrOf st).toList st3 Rs3 Z2∧Rs3.flatten.length=Rs.flatten.length) ?s3 (fun _ _ q=>q) ⟨rfl,Rs,ri2,rfl⟩) ?p3)
    case p3 =>
     rintro ⟨c,u⟩ st3 ⟨e,Rs3,ri3,hl3⟩
     have e:c=none:=e
     subst e
     refine wpS_bind (wpS_modify ?_)
     refine hj2 _ Rs3 ⟨ri3.k,ri3.f,ri3.m,ri3.l,?_,ri3.u⟩ hl3
     show Zhh 0 _ ((pendingOf st3).modify ((pendingOf st3).size - 1) fun x=>(x.1,x.2.1,pw)).toList
     rw [Array.toList_modify]
     exact Zhh.mod (f:=fun x=>(x.1,x.2.1,pw)) (fun p=>⟨rfl,rfl⟩) _ ri3.p
    case s3 =>
     rintro y ⟨c,u⟩ st3 _ _ ⟨e,Rs3,ri3,hl3⟩
     have e:c=none:=e
     subst e
     have hpl:(pendingOf st3).size=Rs3.length:=by rw [← length_toList];exact ri3.p.len
     refine wpS_bind (wpS_get ?_)
     dsimp only
     by_cases c5:(pendingOf st3).size > 1
     ·rw [if_pos c5,Array.getElem?_eq_getElem (show (pendingOf st3).size - 2<(pendingOf st3).size by omega)]
      dsimp only
      refine Xa (fun _=>wpS_pure ⟨rfl,Rs3,ri3,hl3⟩) (fun _=>?_)
      obtain ⟨R1,X,Y,R2,eR,l1⟩:=Xgl (Rs:=Rs3) (i:=(pendingOf st3).size - 2) (by omega)
      subst eR
      have q0:=ri3.size
      refine wpS_bind (Zjp K hP ri3 l1 fun M st4 ri4=>?_)
      refine Xa (fun z=>absurd z (by decide)) (fun _=>?_)
      have q1:=ri4.size
      exact wpS_pure ⟨rfl,_,ri4,by omega⟩
     ·rw [if_neg c5]
      exact wpS_pure ⟨rfl,Rs3,ri3,hl3⟩
  refine Xa (fun c2=>?_) (fun c2=>?_)
  ·have c2:m<minrun:=c2
   refine wpS_bind (wpS_lift (wpAny_rule ⟨rfl,?_⟩))
   refine wpS_bind (Xjv (lo:=Rs.flatten.length) (nrem:=size - Rs.flatten.length) d0 K hP' (by omega) sc1 (n:=min (size - Rs.flatten.length) minrun) (by omega) (by omega) (by omega) u1 fun st2 sc2 u2=>?_)
   refine Xa (fun z=>absurd z (by decide)) (fun _=>?_)
   exact hj _ st2 sc2 (by omega) (by omega) u2
  ·exact hj m st1 sc1 m1 m2 u1
 case post =>
  rintro ⟨c,lo⟩ st' ⟨e,Rs,ri⟩
  have e:c=none:=e
  subst e
  refine wpS_bind (wpS_mono (wpS_forRange (I:=fun x c st''=>c.1=none∧∃Rs,RI κ r (arrOf st).toList st'' Rs []∧Rs.length+x≤size+1) (Q:=fun c st''=>c.1=none∧∃Rs,RI κ r (arrOf st).toList st'' Rs []∧Rs.length≤1) ?st2 ?fi2 ?in2) ?po2)
  case po2 =>
   rintro ⟨c,u⟩ st'' ⟨e,Rs,ri,h1⟩
   have e:c=none:=e
   subst e
   refine wpS_pure (h st'' ri.m ri.f ?_)
   rw [ri.l,append_nil]
   match Rs,h1 with
   | [],_=>exact List.Pairwise.nil
   | [R],_=>rw [flatten_cons,List.flatten_nil,append_nil];exact (ri.u R (.head _)).1
  case fi2 =>
   rintro c st'' ⟨e,Rs,ri,h1⟩
   exact ⟨e,Rs,ri,by omega⟩
  case in2 =>
   refine ⟨rfl,Rs,ri,?_⟩
   have h5:=Zrm fun R hR=>(ri.u R hR).2
   have h6:=ri.size
   rw [length_toList,length_nil] at h6
   omega
  case st2 =>
   rintro x ⟨c,u⟩ st'' _ hx ⟨e,Rs,ri,h1⟩
   have e:c=none:=e
   subst e
   have hpl:(pendingOf st'').size=Rs.length:=by rw [← length_toList];exact ri.p.len
   refine wpS_bind (wpS_get ?_)
   refine Xa (fun c1=>?_) (fun c1=>?_)
   ·have c1:(pendingOf st'').size≤1:=c1
    exact wpS_pure ⟨rfl,Rs,ri,by omega⟩
   ·have c1:¬(pendingOf st'').size≤1:=c1
    have go:∀i,i+1<Rs.length→wpS (model prog w) A E s (mergeAt' i) (fun b st3=>b=true∧∃Rs',RI κ r (arrOf st).toList st3 Rs' []∧Rs'.length+(x+1)≤size+1) st'':=fun i hi=>by
     obtain ⟨R1,X,Y,R2,eR,l1⟩:=Xgl hi
     subst eR
     refine Zjp K hP ri l1 fun M st3 ri3=>⟨rfl,_,ri3,?_⟩
     rw [length_append,length_cons,length_cons] at h1
     rw [length_append,length_cons]
     omega
    refine wpS_bind (wpS_mono (go _ ?_) ?_)
    ·have key:∀(c:Prop) [Decidable c],(if c then (pendingOf st'').size - 2 - 1 else (pendingOf st'').size - 2)+1<Rs.length:=fun c _=>by
      by_cases z:c
      ·rw [if_pos z]
       omega
      ·rw [if_neg z]
       omega
     exact key _
    ·rintro b st3 ⟨rfl,Rs',ri',h7⟩
     refine Xa (fun z=>absurd z (by decide)) (fun _=>?_)
     exact wpS_pure ⟨rfl,Rs',ri',h7⟩
end
end L2
namespace L2
open PySem PySem.SeqAt PySem.MeetsSeq PySem.MeetsSeq3
open AutoSeq1 (wpAny_loadPart')
def Xii (A:Around)(s:Shared)(y x:Value)(b:Bool):Prop:=∀(prog:Program) (w:World) (E:Value→Shared→Prop) (Q:Value→Shared→Prop),Q (.bool b) s→wpAny (model prog w) A (richCompare .Lt y x) Q E s
noncomputable def Zqr (e l:Nat→Bool)(m n:Nat):List Nat→Bool
 | []=>decide (m<n)
 | j::js=>if e j=true then Zqr e l m n js else l j
theorem Zwo (l b:Addr)(items items2:Array Value)(n n2:Nat)(dd dd2:Option Addr)(sl sl2:Array (Option Value))(e lt:Nat→Bool)(k:Nat) :
    ∀i:Nat,min items.size items2.size - i=k→Meets (Builtin.«list.__eq__.loop» ⟨[.ref l,.ref b,rawInt i,rawInt 0],[]⟩)
      (fun A R s=>s.heap.get? l=some {cls:=.type "list",dict:=dd,data:=.seq items n,slots:=sl}∧s.heap.get? b=some {cls:=.type "list",dict:=dd2,data:=.seq items2 n2,slots:=sl2}∧
        (∀j (h1:j<items.size) (h2:j<items2.size),EqAt A.in1 s items[j] items2[j] (e j))∧(∀j (h1:j<items.size) (h2:j<items2.size),e j=false→Xii A.in1 s items[j] items2[j] (lt j))∧
        R (.ok (.ret (.bool (Zqr e lt items.size items2.size ((List.range (min items.size items2.size)).drop i))))) s):=by
  induction k with
  | zero =>
    intro i hk prog w A R s h
    obtain ⟨hp,g,d,tk,os⟩:=s;obtain ⟨hl,hb,he,hlt,h⟩:=h
    wp_walk using wpAny_loadPart' hl,wpAny_loadPart' hb
    have hd:(List.range (min items.size items2.size)).drop i=[]:=by simp;omega
    rw [hd] at h
    by_cases hi:i<items.size
    · have hi1:items[((i:Nat):Int).toNat]?=some items[i]:=by simp [hi]
      have hi2:items2[((i:Nat):Int).toNat]?=none:=by simp;omega
      rw [hi1,hi2]
      wp_walk using wpAny_loadPart' hl,wpAny_loadPart' hb
      exact h
    · have hi1:items[((i:Nat):Int).toNat]?=none:=by simp;omega
      rw [hi1]
      wp_walk using wpAny_loadPart' hl,wpAny_loadPart' hb
      exact h
  | succ k ih =>
    intro i hk prog w A R s h
    obtain ⟨hp,g,d,tk,os⟩:=s;obtain ⟨hl,hb,he,hlt,h⟩:=h
    wp_walk using wpAny_loadPart' hl,wpAny_loadPart' hb
    have q1:i<items.size:=by omega
    have q2:i<items2.size:=by omega
    have hi1:items[((i:Nat):Int).toNat]?=some items[i]:=by simp [q1]
    have hi2:items2[((i:Nat):Int).toNat]?=some items2[i]:=by simp [q2]
    have hd:(List.range (min items.size items2.size)).drop i=i::(List.range (min items.size items2.size)).drop (i+1):=by
      rw [drop_eq_getElem_cons (by simp;omega)]
      simp
    have hc:((i:Int)+1)=((i+1:Nat):Int):=by push_cast;rfl
    rw [hd] at h
    unfold Zqr at h
    rw [hi1,hi2]
    refine wpAny_bind (he i q1 q2 prog w _ _ ?_)
    cases hb':e i with
    | true =>
      rw [hb',if_pos rfl] at h
      wp_walk
      rw [hc]
      exact ⟨plainId_quiet plain_eq_loop _,codeAny_builtin entry_eq_loop (by
        rw [Around.under_plainId plain_eq_loop _]
        exact ih (i+1) (by omega) prog w A R _ ⟨hl,hb,he,hlt,h⟩)⟩
    | false =>
      rw [hb',if_neg Bool.false_ne_true] at h
      wp_walk using wpAny_loadPart' hl,wpAny_loadPart' hb
      rw [hi1,hi2]
      refine wpAny_bind (hlt i q1 q2 hb' prog w _ _ ?_)
      wp_walk
      exact h
theorem Zyy (l b:Addr)(items items2:Array Value)(n n2:Nat)(dd dd2:Option Addr)(sl sl2:Array (Option Value))(e lt:Nat→Bool) :
    Meets (Builtin.«list.__lt__» ⟨[.ref l,.ref b],[]⟩)
      (fun A R s=>s.heap.get? l=some {cls:=.type "list",dict:=dd,data:=.seq items n,slots:=sl}∧s.heap.get? b=some {cls:=.type "list",dict:=dd2,data:=.seq items2 n2,slots:=sl2}∧
        (∀j (h1:j<items.size) (h2:j<items2.size),EqAt A.in1 s items[j] items2[j] (e j))∧(∀j (h1:j<items.size) (h2:j<items2.size),e j=false→Xii A.in1 s items[j] items2[j] (lt j))∧
        R (.ok (.ret (.bool (Zqr e lt items.size items2.size (List.range (min items.size items2.size)))))) s):=by
  intro prog w A R s h
  obtain ⟨hp,g,d,tk,os⟩:=s;obtain ⟨hl,hb,he,hlt,h⟩:=h
  have f3:=AutoSeq1.sub_list_list
  wp_walk using wpAny_loadPart' hl,wpAny_loadPart' hb
  exact ⟨plainId_quiet plain_eq_loop _,codeAny_builtin entry_eq_loop (by
    rw [Around.under_plainId plain_eq_loop _]
    exact Zwo l b items items2 n n2 dd dd2 sl sl2 e lt _ 0 rfl prog w A R _ ⟨hl,hb,he,hlt,by simpa using h⟩)⟩
theorem Ztk (l b:Addr)(items items2:Array Value)(n n2:Nat)(dd dd2:Option Addr)(sl sl2:Array (Option Value))(e lt:Nat→Bool) :
    Meets (Builtin.«tuple.__lt__» ⟨[.ref l,.ref b],[]⟩)
      (fun A R s=>s.heap.get? l=some {cls:=.type "tuple",dict:=dd,data:=.seq items n,slots:=sl}∧s.heap.get? b=some {cls:=.type "tuple",dict:=dd2,data:=.seq items2 n2,slots:=sl2}∧
        (∀j (h1:j<items.size) (h2:j<items2.size),EqAt A.in1 s items[j] items2[j] (e j))∧(∀j (h1:j<items.size) (h2:j<items2.size),e j=false→Xii A.in1 s items[j] items2[j] (lt j))∧
        R (.ok (.ret (.bool (Zqr e lt items.size items2.size (List.range (min items.size items2.size)))))) s):=
  .of_wp fun prog w A R s h=>by
    obtain ⟨hp,g,d,tk,os⟩:=s;obtain ⟨hl,hb,he,hlt,h⟩:=h
    have f2:=AutoSeq1.sub_tuple_tuple
    have hZ:(items.toList.zip items2.toList).length=min items.size items2.size:=by simp
    wp_walk using wpAny_loadPart' hl,wpAny_loadPart' hb,wpAny_forIn_list _ (fun rest b s'=>b.1=none∧s'=⟨hp,g,d,tk,os⟩∧∃i,rest=(items.toList.zip items2.toList).drop i∧
      R (.ok (.ret (.bool (Zqr e lt items.size items2.size ((List.range (min items.size items2.size)).drop i))))) ⟨hp,g,d,tk,os⟩) _
    case turn =>
      rintro ⟨y,x⟩ rest b s' ⟨hb',rfl,i,hz,hR⟩
      have hli:i<(items.toList.zip items2.toList).length:=by
        rcases Nat.lt_or_ge i (items.toList.zip items2.toList).length with h' | h'
        · exact h'
        · rw [List.drop_of_length_le h'] at hz;cases hz
      have hm:i<min items.size items2.size:=hZ▸hli
      have h1:i<items.size:=lt_of_lt_of_le hm (Nat.min_le_left _ _)
      have h2:i<items2.size:=lt_of_lt_of_le hm (Nat.min_le_right _ _)
      rw [drop_eq_getElem_cons hli] at hz
      injection hz with hyx hrest
      have hy:y=items[i]:=by have:=congrArg Prod.fst hyx;simpa using this
      have hx:x=items2[i]:=by have:=congrArg Prod.snd hyx;simpa using this
      subst hy hx
      have hd:(List.range (min items.size items2.size)).drop i=i::(List.range (min items.size items2.size)).drop (i+1):=by
        rw [drop_eq_getElem_cons (by simpa using hm)]
        simp
      rw [hd] at hR
      unfold Zqr at hR
      refine wpAny_bind (he i h1 h2 prog w _ _ ?_)
      cases hy:e i with
      | true =>
        rw [hy,if_pos rfl] at hR
        wp_walk
        exact ⟨rfl,rfl,i+1,hrest,hR⟩
      | false =>
        rw [hy,if_neg Bool.false_ne_true] at hR
        have hr:∀{E':Value→Shared→Prop} {Q':Value→Shared→Prop},Q' (.bool (lt i)) ⟨hp,g,d,tk,os⟩→wpAny (model prog w) A.in1 (richCompare .Lt items[i] items2[i]) Q' E' ⟨hp,g,d,tk,os⟩:=fun q=>hlt i h1 h2 hy prog w _ _ q
        wp_walk using hr
        exact ⟨_,rfl,hR⟩
    case fin =>
      rintro ⟨b1,b2⟩ s' ⟨hb',rfl,i,hz,hR⟩
      simp only at hb'
      subst hb'
      have hge:min items.size items2.size≤i:=by
        rcases Nat.lt_or_ge i (items.toList.zip items2.toList).length with h' | h'
        · rw [drop_eq_getElem_cons h'] at hz;cases hz
        · exact hZ▸h'
      rw [List.drop_of_length_le (by simpa using hge)] at hR
      wp_walk
      exact ⟨_,rfl,hR⟩
    case h =>
      exact ⟨rfl,rfl,0,rfl,by simpa using h⟩
end L2
namespace L2
open PySem PySem.SeqAt PyProof.Rows
open Dl (Pc sLt Zli Zbv)
noncomputable def pP (p:Pc):PyData:=.tuple [.int p.1,.str p.2]
noncomputable def cP (c:List Pc):PyData:=.list (c.map pP)
theorem Xse (p q:Pc):PyData.eqv (pP p) (pP q)=decide (p=q):=by
 obtain ⟨a,b⟩:=p
 obtain ⟨c,d⟩:=q
 simp only [pP,PyData.eqv,PyData.eqvAll,Bool.and_true]
 by_cases h1:a=c<;>by_cases h2:b=d<;>simp [h1,h2]
theorem Xfn {p:Pc}(h:PyData.strOk p.2=true):(pP p).canLay0=true:=by
 show (true&&(PyData.strOk p.2&&true))=true
 rw [h]
 rfl
theorem Xoz (p:Pc):(pP p).depth≤1:=by
 simp [pP,PyData.depth,PyData.depthAll]
section
variable {A:Around}{s:Shared}
theorem Zzn (a b:Int)(t u:Tok):Xii A s (.int a t) (.int b u) (decide (a<b)):=fun _ _ _ _ h=>PySem.P.lt_int h
theorem Xct (a b:Str)(t u:Tok):Xii A s (.str a t) (.str b u) (sLt a b):=fun _ _ _ _ h=>PySem.P.lt_str h
theorem Zsd {h:Heap}{u:Value}{p:Pc}{as:List Addr}(r:Reads h u (pP p) as):∃l o t1 t2 n,u=.ref l∧h.get? l=some o∧o.cls=.type "tuple"∧o.data=.seq #[.int p.1 t1,.str p.2 t2] n:=by
 generalize hd:pP p=d at r
 cases r with
 | @tuple l o vs n xs as1 h1 h2 h3 h4 =>
  cases hd
  obtain ⟨vl⟩:=vs
  have h4:ReadsAll h vl [.int p.1,.str p.2] _:=h4
  cases h4 with
  | cons r1 r2=>cases r2 with
   | cons r2 r3 =>
    cases r1 with
    | int i t1=>cases r2 with
     | str z t2=>cases r3 with
      | nil=>exact ⟨l,o,t1,t2,n,rfl,h1,h2,h3⟩
 | _=>cases hd
theorem Xmx {p q:Pc}{u v:Value}{as bs:List Addr}(ru:Reads s.heap u (pP p) as)(rv:Reads s.heap v (pP q) bs)(hu:A.units<cLine):Xii A s u v (Zli p q):=fun prog w E Q h=>by
 obtain ⟨l,⟨cls,dd,data,sl⟩,t1,t2,n,rfl,h1,h2,h3⟩:=Zsd ru
 obtain ⟨l',⟨cls',dd',data',sl'⟩,t1',t2',n',rfl,k1,k2,k3⟩:=Zsd rv
 simp only at h2 h3 k2 k3
 subst h2 h3 k2 k3
 refine richCompare_meets_room (op:=.Lt) ⟨_,h1,rfl⟩ ⟨_,k1,rfl⟩ F.slot_tuple_lt F.entry_tuple_lt (F.args_tuple_lt_2 _ _)
  (Ztk l l' _ _ n n' dd dd' sl sl' (fun j=>if j=0 then decide (p.1=q.1) else decide (p.2=q.2)) (fun j=>if j=0 then decide (p.1<q.1) else sLt p.2 q.2)) ⟨h1,k1,?_,?_,?_⟩ hu
 ·intro j j1 j2
  match j,j1 with
  | 0,_=>exact fun _ _ _ _ z=>PySem.wpAny_eqBool_int (by rw [show (p.1==q.1)=decide (p.1=q.1) by by_cases e:p.1=q.1<;>simp [e]];simpa using z)
  | 1,_=>exact fun _ _ _ _ z=>PySem.wpAny_eqBool_str (by simpa using z)
 ·intro j j1 j2 _
  match j,j1 with
  | 0,_=>exact Zzn _ _ _ _
  | 1,_=>exact Xct _ _ _ _
 ·refine ⟨(fun x=>nomatch x),?_⟩
  have e:Zqr (fun j=>if j=0 then decide (p.1=q.1) else decide (p.2=q.2)) (fun j=>if j=0 then decide (p.1<q.1) else sLt p.2 q.2) 2 2 [0,1]=Zli p q:=by
   unfold Zli
   by_cases e1:p.1=q.1
   ·by_cases e2:p.2=q.2<;>simp [Zqr,e1,e2]
   ·simp [Zqr,e1]
  show Q (.bool (Zqr _ _ 2 2 [0,1])) s
  rw [e]
  exact h
theorem Xgc (c d:List Pc)(z:Pc):∀(k i:Nat),i+k=min c.length d.length→Zqr (fun j=>decide (c.getD j z=d.getD j z)) (fun j=>Zli (c.getD j z) (d.getD j z)) c.length d.length ((List.range (min c.length d.length)).drop i)=Zbv (c.drop i) (d.drop i)
 | 0,i,h=>by
  rw [drop_eq_nil_of_le (as:=List.range _) (by simp;omega)]
  show decide (c.length<d.length)=_
  by_cases h1:i<c.length
  ·rw [drop_eq_nil_of_le (as:=d) (by omega),drop_eq_getElem_cons h1]
   exact decide_eq_false (by omega)
  ·rw [drop_eq_nil_of_le (as:=c) (by omega)]
   by_cases h2:i<d.length
   ·rw [drop_eq_getElem_cons h2]
    exact decide_eq_true (by omega)
   ·rw [drop_eq_nil_of_le (as:=d) (by omega)]
    exact decide_eq_false (by omega)
 | k+1,i,h=>by
  have h1:i<c.length:=by omega
  have h2:i<d.length:=by omega
  have e1:c.getD i z=c[i]:=by rw [getD_eq_getElem?_getD,getElem?_eq_getElem h1];rfl
  have e2:d.getD i z=d[i]:=by rw [getD_eq_getElem?_getD,getElem?_eq_getElem h2];rfl
  rw [drop_eq_getElem_cons (by simp;omega),List.getElem_range,drop_eq_getElem_cons h1,drop_eq_getElem_cons h2]
  unfold Zqr Zbv
  rw [Xgc c d z k (i+1) (by omega),e1,e2]
  by_cases e:c[i]=d[i]
  ·rw [if_pos (decide_eq_true e),if_pos e]
  ·rw [if_neg (fun q=>e (of_decide_eq_true q)),if_neg e]
theorem Zjw {h:Heap}{u:Value}{c:List Pc}{as:List Addr}(r:Reads h u (cP c) as):∃l o vl n bs,u=.ref l∧h.get? l=some o∧o.cls=.type "list"∧o.data=.seq (List.toArray vl) n∧ReadsAll h vl (c.map pP) bs:=by
 generalize hd:cP c=d at r
 cases r with
 | @list l o vs n xs as1 h1 h2 h3 h4 =>
  cases hd
  obtain ⟨vl⟩:=vs
  exact ⟨l,o,vl,n,_,rfl,h1,h2,h3,h4⟩
 | _=>cases hd
theorem Zds {h:Heap}:∀{c:List Pc} {vl:List Value} {bs:List Addr},ReadsAll h vl (c.map pP) bs→vl.length=c.length∧∀j (h1:j<vl.length) (z:Pc),∃as,Reads h vl[j] (pP (c.getD j z)) as
 | [],vl,bs,r=>by
  cases r
  exact ⟨rfl,fun j h1=>absurd h1 (Nat.not_lt_zero _)⟩
 | p::c,vl,bs,r=>by
  cases r with
  | cons r1 r2 =>
   obtain ⟨e1,e2⟩:=Zds r2
   refine ⟨by rw [length_cons,length_cons,e1],fun j h1 z=>?_⟩
   match j,h1 with
   | 0,_=>exact ⟨_,r1⟩
   | j+1,h1=>exact e2 j (by simpa using h1) z
theorem Xna {c d:List Pc}{u v:Value}{as bs:List Addr}(ru:Reads s.heap u (cP c) as)(rv:Reads s.heap v (cP d) bs)(hc:∀p∈c,PyData.strOk p.2=true)(hd:∀p∈d,PyData.strOk p.2=true)(hu:A.units+8<cLine) :
  ∃(l l':Addr) (vl vl':List Value) (n n':Nat) (dd dd':Option Addr) (sl sl':Array (Option Value)),u=.ref l∧v=.ref l'∧s.heap.get? l=some {cls:=.type "list",dict:=dd,data:=.seq (List.toArray vl) n,slots:=sl}∧s.heap.get? l'=some {cls:=.type "list",dict:=dd',data:=.seq (List.toArray vl') n',slots:=sl'}∧
   vl.length=c.length∧vl'.length=d.length∧(∀j (h1:j<(List.toArray vl).size) (h2:j<(List.toArray vl').size),EqAt A.in1 s (List.toArray vl)[j] (List.toArray vl')[j] (decide (c.getD j (0,"")=d.getD j (0,""))))∧
   (∀j (h1:j<(List.toArray vl).size) (h2:j<(List.toArray vl').size),(decide (c.getD j (0,"")=d.getD j (0,"")):Bool)=false→Xii A.in1 s (List.toArray vl)[j] (List.toArray vl')[j] (Zli (c.getD j (0,"")) (d.getD j (0,"")))):=by
 obtain ⟨l,⟨cls,dd,data,sl⟩,vl,n,as',rfl,h1,h2,h3,h4⟩:=Zjw ru
 obtain ⟨l',⟨cls',dd',data',sl'⟩,vl',n',bs',rfl,k1,k2,k3,k4⟩:=Zjw rv
 simp only at h2 h3 k2 k3
 subst h2 h3 k2 k3
 obtain ⟨e1,e2⟩:=Zds h4
 obtain ⟨e3,e4⟩:=Zds k4
 have mem:∀{c:List Pc} {j:Nat} (_:j<c.length),c.getD j (0,"")∈c:=fun {c j} hj=>by
  rw [getD_eq_getElem?_getD,getElem?_eq_getElem hj]
  exact getElem_mem hj
 have hin:A.in1.units+1<cLine:=by show A.units+1+1<cLine;omega
 refine ⟨l,l',vl,vl',n,n',dd,dd',sl,sl',rfl,rfl,h1,k1,e1,e3,fun j j1 j2=>?_,fun j j1 j2 _=>?_⟩
 ·obtain ⟨a1,r1⟩:=e2 j (by simpa using j1) (0,"")
  obtain ⟨b1,r2⟩:=e4 j (by simpa using j2) (0,"")
  intro prog w E Q q
  refine eqBoolOverData prog w A.in1 E s _ _ _ _ _ _ Q r1 r2 (Xfn (hc _ (mem (by simpa [e1] using j1)))) (Xfn (hd _ (mem (by simpa [e3] using j2)))) ?_ (by rw [Xse];exact q)
  have:=Xoz (c.getD j (0,""))
  omega
 ·obtain ⟨a1,r1⟩:=e2 j (by simpa using j1) (0,"")
  obtain ⟨b1,r2⟩:=e4 j (by simpa using j2) (0,"")
  exact Xmx r1 r2 (by omega)
end
theorem Xkk (x:Str):sLt x x=false:=decide_eq_false (List.lt_irrefl _)
theorem Xrq {x y z:Str}(h:sLt x y=true)(h2:sLt y z=true):sLt x z=true:=decide_eq_true (List.lt_trans (of_decide_eq_true h) (of_decide_eq_true h2))
theorem Xiu {x y:Str}(h:x≠y):sLt x y=true∨sLt y x=true:=by
 have hne:x.cps.toList≠y.cps.toList:=fun e=>h (by cases x;cases y;congr 1;exact Array.toList_inj.mp e)
 by_cases q:x.cps.toList<y.cps.toList
 ·exact .inl (decide_eq_true q)
 ·rcases List.le_iff_lt_or_eq.mp (List.not_lt.mp q) with h' | h'
  ·exact .inr (decide_eq_true h')
  ·exact absurd h'.symm hne
theorem Xek (p:Pc):Zli p p=false:=by unfold Zli;rw [if_pos rfl,if_pos rfl]
theorem Zjx {p q:Pc}:Zli p q=true↔p.1<q.1∨(p.1=q.1∧sLt p.2 q.2=true):=by
 unfold Zli
 by_cases h:p.1=q.1
 ·rw [if_pos h]
  by_cases h2:p.2=q.2
  ·rw [if_pos h2,h2,Xkk]
   constructor
   ·intro z;cases z
   ·rintro (z | ⟨_,z⟩)
    ·omega
    ·cases z
  ·rw [if_neg h2]
   constructor
   ·intro z;exact .inr ⟨h,z⟩
   ·rintro (z | ⟨_,z⟩)
    ·omega
    ·exact z
 ·rw [if_neg h]
  constructor
  ·intro z;exact .inl (of_decide_eq_true z)
  ·rintro (z | ⟨z,_⟩)
   ·exact decide_eq_true z
   ·exact absurd z h
theorem Xkx {p q t:Pc}(h:Zli p q=true)(h2:Zli q t=true):Zli p t=true:=by
 rw [Zjx] at *
 rcases h with h | ⟨h,h'⟩<;>rcases h2 with h2 | ⟨h2,h2'⟩
 ·exact .inl (by omega)
 ·exact .inl (by omega)
 ·exact .inl (by omega)
 ·exact .inr ⟨by omega,Xrq h' h2'⟩
theorem Xcm {p q:Pc}(h:p≠q):Zli p q=true∨Zli q p=true:=by
 rw [Zjx,Zjx]
 rcases Int.lt_trichotomy p.1 q.1 with z | z | z
 ·exact .inl (.inl z)
 ·rcases Xiu (x:=p.2) (y:=q.2) (fun e=>h (Prod.ext z e)) with y | y
  ·exact .inl (.inr ⟨z,y⟩)
  ·exact .inr (.inr ⟨z.symm,y⟩)
 ·exact .inr (.inl z)
theorem Zqn:∀c:List Pc,Zbv c c=false
 | []=>rfl
 | p::c=>by unfold Zbv;rw [if_pos rfl];exact Zqn c
theorem Znx:∀{c d e:List Pc},Zbv c d=true→Zbv d e=true→Zbv c e=true
 | [],[],_,h,_=>nomatch h
 | [],_::_,[],_,h=>nomatch h
 | [],_::_,_::_,_,_=>rfl
 | _::_,[],_,h,_=>nomatch h
 | _::_,_::_,[],_,h=>nomatch h
 | p::c,q::d,t::e,h,h2=>by
  unfold Zbv at *
  by_cases e1:p=q
  ·rw [if_pos e1] at h
   subst e1
   by_cases e2:p=t
   ·rw [if_pos e2] at h2 ⊢
    exact Znx h h2
   ·rw [if_neg e2] at h2 ⊢
    exact h2
  ·rw [if_neg e1] at h
   by_cases e2:q=t
   ·subst e2
    rw [if_neg e1]
    exact h
   ·rw [if_neg e2] at h2
    have h3:=Xkx h h2
    rw [if_neg (fun z=>by rw [z,Xek] at h3;cases h3)]
    exact h3
theorem Zlb:∀{c d:List Pc},c≠d→Zbv c d=true∨Zbv d c=true
 | [],[],h=>absurd rfl h
 | [],_::_,_=>.inl rfl
 | _::_,[],_=>.inr rfl
 | p::c,q::d,h=>by
  unfold Zbv
  by_cases e:p=q
  ·rw [if_pos e,if_pos e.symm]
   exact Zlb fun z=>h (by rw [e,z])
  ·rw [if_neg e,if_neg (fun z=>e z.symm)]
   exact Xcm e
theorem Zpr {c d:List Pc}(h:Zbv c d=true):Zbv d c=false:=by
 cases e:Zbv d c with
 | false=>rfl
 | true=>rw [← Zqn c,← Znx h e]
theorem Zya {c d e:List Pc}(h:Zbv d c=false)(h2:Zbv e d=false):Zbv e c=false:=by
 cases q:Zbv e c with
 | false=>rfl
 | true =>
  by_cases e1:c=d
  ·subst e1
   rw [h2] at q
   cases q
  ·rcases Zlb e1 with z | z
   ·rw [← h2,Znx q z]
   ·rw [h] at z
    cases z
theorem Zwc {c d:List Pc}(h:Zbv d c=false)(h2:Zbv c d=false):c=d:=by
 by_cases e:c=d
 ·exact e
 ·rcases Zlb e with z | z
  ·rw [h2] at z;cases z
  ·rw [h] at z;cases z
noncomputable def Jw (h:Heap)(v:Value):List Pc:=open Classical in if q:∃c as,Reads h v (cP c) as then q.choose else []
theorem Xsi {p q:Pc}(h:pP p=pP q):p=q:=by
 injection h with h
 simp only [List.cons.injEq,PyData.int.injEq,PyData.str.injEq,and_true] at h
 exact Prod.ext h.1 h.2
theorem Xop {c d:List Pc}(h:cP c=cP d):c=d:=by
 injection h with h
 exact List.map_inj_right (fun _ _=>Xsi) |>.mp h
theorem Zeh {h:Heap}{v:Value}{c:List Pc}{as:List Addr}(r:Reads h v (cP c) as):Jw h v=c:=by
 have q:∃c as,Reads h v (cP c) as:=⟨c,as,r⟩
 unfold Jw
 rw [dif_pos q]
 obtain ⟨bs,r2⟩:=q.choose_spec
 exact Xop (Reads.unique r2 _ _ r).1
def Xde (h:Heap)(v:Value):Prop:=∃c as,Reads h v (cP c) as∧∀p∈c,PyData.strOk p.2=true
theorem Xde.keeps {h h':Heap}{v:Value}(i:Xde h v)(k:∀b o,h.get? b=some o→h'.get? b=some o):Xde h' v∧Jw h' v=Jw h v:=by
 obtain ⟨c,as,r,ok⟩:=i
 exact ⟨⟨c,as,Reads.keeps k r,ok⟩,(Zeh (Reads.keeps k r)).trans (Zeh r).symm⟩
section
variable {prog:Program}{w:World}{A:Around}{E:Value→Shared→Prop}{s:Shared}
theorem Xdn (hu:A.units+8<cLine):Ask prog w A s oneType' (fun x=>Xde s.heap x.1) (fun x y=>Zbv (Jw s.heap x.1) (Jw s.heap y.1)) where
 run:=fun {x y Q E} hx hy q=>by
  obtain ⟨c,as,ru,hc⟩:=hx
  obtain ⟨d,bs,rv,hd⟩:=hy
  rw [Zeh ru,Zeh rv] at q
  obtain ⟨l,l',vl,vl',n,n',dd,dd',sl,sl',e1,e2,h1,k1,e3,e4,he,hlt⟩:=Xna (A:=A) ru rv hc hd hu
  rw [e1,e2,keyLt'_oneType,oneLt'_eq]
  simp only [if_true]
  refine wpAny_bind (wpAny_cRoomFor (by omega) ?_)
  have t:Zqr (fun j=>decide (c.getD j (0,"")=d.getD j (0,""))) (fun j=>Zli (c.getD j (0,"")) (d.getD j (0,""))) (List.toArray vl).size (List.toArray vl').size (List.range (min (List.toArray vl).size (List.toArray vl').size))=Zbv c d:=by
   have:=Xgc c d (0,"") (min c.length d.length) 0 (by omega)
   rw [drop_zero,drop_zero,drop_zero] at this
   rw [size_toArray,size_toArray,e3,e4,this]
  refine wpAny_bind (wpAny_callSpecialIfBound?_slot (name:="__lt__") ⟨_,h1,rfl⟩ F.slot_list_lt (call_meets F.slot_list_lt ⟨_,h1,rfl⟩ F.entry_list_lt (F.args_list_lt_2 _ _) (Zyy l l' _ _ n n' dd dd' sl sl' (fun j=>decide (c.getD j (0,"")=d.getD j (0,""))) (fun j=>Zli (c.getD j (0,"")) (d.getD j (0,"")))) ⟨h1,k1,he,hlt,?_⟩))
  rw [t]
  exact wpAny_truthy_bool q
 tr:=fun _ _ _ h1 h2=>Zya h1 h2
 as:=fun _ _ h=>Zpr h
theorem Xaq {M:Model}{h:Heap}{v:Value}(i:Xde h v):PySem.W.Looks M h (typeOf v) (.type "list"):=by
 obtain ⟨c,as,r,_⟩:=i
 obtain ⟨l,o,vl,n,bs,rfl,h1,h2,_⟩:=Zjw r
 have q:PySem.W.Looks M h (typeOf (.ref l)) o.cls:=(PySem.W.Looks.ld h1).andThen .now
 rw [h2] at q
 exact q
theorem Zmx:∀vs:List Value,vs.zip vs=vs.map fun v=>(v,v)
 | []=>rfl
 | v::vs=>by rw [zip_cons_cons,map_cons,Zmx vs]
theorem Zdc (vs:List Value):(vs.toArray.zip vs.toArray).toList=vs.map fun v=>(v,v):=by
 rw [← Zmx]
 simp
theorem Xcw {a:Addr}{vs:List Value}{n:Nat}{P:Fin→Shared→Prop}(ho:s.heap.get? a=some (seqObj "list" vs.toArray n))(hI:∀s':Shared,(∀b o,b≠a→s.heap.get? b=some o→s'.heap.get? b=some o)→∀v∈vs,Xde s'.heap v∧Jw s'.heap v=Jw s.heap v)(hm:vs.length≤sizeLine)(hu:A.units+8<cLine)
    (h:∀out:Array Value,out.toList.Perm vs→(out.toList.map (Jw s.heap)).Pairwise (fun c d=>Zbv d c=false)→P (.done (.ret .none)) {s with heap:=sortedHeap s.heap a vs out}) :
    wpAny (model prog w) A (Builtin.«list.sort» ⟨[.ref a],[]⟩) P E s:=by
  have hlt:=lt_size ho
  obtain ⟨e0,h1⟩:∃e0,(s.heap.update a (Obj.mapSeq fun _=>#[])).get? a=some (seqObj "list" #[] e0):=⟨_,get?_update_seq ho (fun _=>#[])⟩
  have h6:(((s.heap.update a (Obj.mapSeq fun _=>#[])).push (seqObj "tuple" vs.toArray 0)).push (seqObj "list" #[] 0)).get? a=some (seqObj "list" #[] e0):=by
    rw [Heap.get?_push_ne _ _ _ (ne_of_lt (by rw [size_push',Heap.size_update];exact Nat.lt_succ_of_lt hlt)),Heap.get?_push_ne _ _ _ (ne_of_lt (by rw [Heap.size_update];exact hlt))]
    exact h1
  have keep:∀b o,b≠a→s.heap.get? b=some o→(((s.heap.update a (Obj.mapSeq fun _=>#[])).push (seqObj "tuple" vs.toArray 0)).push (seqObj "list" #[] 0)).get? b=some o:=fun b o hb q=>by
    refine get?_push_of_some _ (get?_push_of_some _ ?_)
    rw [Heap.get?_update_ne _ _ _ _ hb]
    exact q
  have hI6:=hI {s with heap:=((s.heap.update a (Obj.mapSeq fun _=>#[])).push (seqObj "tuple" vs.toArray 0)).push (seqObj "list" #[] 0)} keep
  rw [list_sort_plain]
  refine wpAny_bind (listItems_at ho rfl (wpAny_bind (listUpdate_at ho rfl (wpAny_bind (seqEpoch_at h1 rfl (wpAny_bind (wpAny_newTuple (wpAny_bind (wpAny_newList (wpAny_holding ?_))) (by simpa using hm)))))
    (by simpa using hm))))
  have fin:∀(st':SortSt),(arrOf st').toList.Perm (vs.map fun v=>(v,v))→failedOf st'=none→((arrOf st').toList.map fun x=>Jw s.heap x.1).Pairwise (fun c d=>Zbv d c=false)→
      wpAny (model prog w) A (do
        let touched:=(← seqEpoch a) != e0
        Builtin.List.listUpdate (.ref a) fun _=>(arrOf st').map (·.2)
        if let some e:=failedOf st' then rule "list.sort.comparison-raised";throw e
        if touched then rule "list.sort.modified";raiseError "ValueError" "list modified during sort"
        ret .none) P E {s with heap:=((s.heap.update a (Obj.mapSeq fun _=>#[])).push (seqObj "tuple" vs.toArray 0)).push (seqObj "list" #[] 0)}:=fun st' hp hf hs=>by
    have same:∀x∈(arrOf st').toList,x.1=x.2:=fun x hx=>by
      obtain ⟨v,_,rfl⟩:=List.mem_map.mp (hp.mem_iff.mp hx)
      rfl
    refine wpAny_bind (seqEpoch_at h6 rfl (wpAny_bind (listUpdate_at h6 rfl ?_ (hsz2:=by
      refine le_trans (le_of_eq (Array.size_map ..)) ?_
      rw [← length_toList,hp.length_eq,length_map]
      omega))))
    rw [hf]
    simp only [bne_self_eq_false,Bool.false_eq_true,if_false]
    refine wpAny_pure (h _ ?_ ?_)
    · rw [Array.toList_map]
      have:=hp.map (·.2)
      rw [map_map,show ((fun x:Keyed=>x.2)∘fun v:Value=>(v,v))=id from rfl,map_id] at this
      exact this
    · rw [Array.toList_map,map_map]
      rw [map_congr_left (g:=fun x=>Jw s.heap x.1) (fun x hx=>by show Jw s.heap x.2=_;rw [same x hx])]
      exact hs
  by_cases h2:vs.toArray.size<2
  · simp only [if_pos h2]
    refine wpAny_bind (wpAny_pure ?_)
    rw [StateT.run_pure]
    refine wpAny_bind (wpAny_pure ?_)
    refine fin (SortSt.mk' general' (vs.toArray.zip vs.toArray) #[] 7 none) (by show (vs.toArray.zip vs.toArray).toList.Perm _;rw [Zdc]) rfl ?_
    show ((vs.toArray.zip vs.toArray).toList.map fun x=>Jw s.heap x.1).Pairwise _
    rw [Zdc]
    match vs,h2 with
    | [],_=>exact List.Pairwise.nil
    | [v],_=>exact List.pairwise_singleton _ _
    | _::_::_,h2=>exact absurd h2 (by simp)
  · simp only [if_neg h2]
    have h2':2≤vs.length:=by rw [size_toArray] at h2;omega
    refine wpAny_bind (PySem.W.kas_kind h2' (fun v hv=>Xaq (hI6 v hv).1) (by decide) (by decide) ?_)
    have hne:∃x,x∈vs:=⟨vs[0],getElem_mem (by omega)⟩
    obtain ⟨v0,hv0⟩:=hne
    refine wpAny_bind (wpAny_mono (Xaa (st:=SortSt.mk' oneType' (vs.toArray.zip vs.toArray) #[] 7 none) (Q:=fun _ st'=>(arrOf st').toList.Perm (vs.map fun v=>(v,v))∧failedOf st'=none∧((arrOf st').toList.map fun x=>Jw s.heap x.1).Pairwise (fun c d=>Zbv d c=false)) (v0,v0) (Xdn hu) ?_ rfl rfl rfl ?_ fun st' q1 q2 q3=>⟨?_,q2,?_⟩) ?_ fun _ _ e=>e)
    · intro x hx
      have hx:x∈(vs.toArray.zip vs.toArray).toList:=hx
      rw [Zdc] at hx
      obtain ⟨v,hv,rfl⟩:=List.mem_map.mp hx
      exact (hI6 v hv).1
    · show 1≤(vs.toArray.zip vs.toArray).size
      rw [← length_toList,Zdc,length_map]
      omega
    · have q1:(arrOf st').toList.Perm (vs.toArray.zip vs.toArray).toList:=q1
      rw [Zdc] at q1
      exact q1
    · have q1:(arrOf st').toList.Perm (vs.toArray.zip vs.toArray).toList:=q1
      rw [Zdc] at q1
      refine List.pairwise_map.mpr (List.Pairwise.imp_of_mem (fun {x y} hx hy z=>?_) q3)
      obtain ⟨v,hv,rfl⟩:=List.mem_map.mp (q1.mem_iff.mp hx)
      obtain ⟨v',hv',rfl⟩:=List.mem_map.mp (q1.mem_iff.mp hy)
      have e1:=(hI6 v hv).2
      have e2:=(hI6 v' hv').2
      show Zbv (Jw s.heap v') (Jw s.heap v)=false
      rw [← e1,← e2]
      exact z
    · rintro ⟨⟨⟩,st'⟩ s' ⟨rfl,q1,q2,q3⟩
      exact fin st' q1 q2 q3
theorem Zto {l:Addr}{vs:List Value}{Q:Value→Shared→Prop}(hl:s.heap.IsList l vs.toArray)(hI:∀v∈vs,Xde s.heap v)(hm:vs.length≤sizeLine)(hu:A.units+12<cLine)
  (h:∀out:Array Value,out.toList.Perm vs→(out.toList.map (Jw s.heap)).Pairwise (fun c d=>Zbv d c=false)→Q (.ref (s.heap.objs.size+1)) {s with heap:=sortedAll s.heap vs out}) :
  wpAny (model prog w) A (call (.builtin "sorted") [.ref l]) Q E s:=by
 have hz:((s.heap.push (seqObj "list" #[] 0)).update s.heap.objs.size (Obj.mapSeq (·++vs.toArray))).objs.size=s.heap.objs.size+1:=by rw [Heap.size_update,size_push']
 have hL:=get?_push_size ((s.heap.push (seqObj "list" #[] 0)).update s.heap.objs.size (Obj.mapSeq (·++vs.toArray))) (o:=seqObj "list" vs.toArray 0) rfl
 rw [hz] at hL
 have keep:∀b o,s.heap.get? b=some o→(((s.heap.push (seqObj "list" #[] 0)).update s.heap.objs.size (Obj.mapSeq (·++vs.toArray))).push (seqObj "list" vs.toArray 0)).get? b=some o:=fun b o q=>by
  refine get?_push_of_some _ ?_
  rw [Heap.get?_update_ne _ _ _ _ (ne_of_lt (lt_size q))]
  exact get?_push_of_some _ q
 refine Calls.call_function_entry kind_sorted plain_sorted entry_sorted (args_sorted1 _) ?_
 unfold Builtin.«sorted»
 refine wpAny_bind (m:=checkCount "sorted" 1 1 _) (wpAny_pure (wpAny_bind (collect_list hl (wpAny_bind (wpAny_newList ?_ (by simpa using hm))) hm)))
 simp only [hz]
 have hI0:∀v∈vs,Xde (((s.heap.push (seqObj "list" #[] 0)).update s.heap.objs.size (Obj.mapSeq (·++vs.toArray))).push (seqObj "list" vs.toArray 0)) v∧Jw (((s.heap.push (seqObj "list" #[] 0)).update s.heap.objs.size (Obj.mapSeq (·++vs.toArray))).push (seqObj "list" vs.toArray 0)) v=Jw s.heap v:=fun v hv=>(hI v hv).keeps keep
 have old:∀b o,s.heap.get? b=some o→b≠s.heap.objs.size+1:=fun b o q=>ne_of_lt (Nat.lt_succ_of_lt (lt_size q))
 refine wpAny_bind (wpAny_holding (wpAny_call_entry slot_list_sort ⟨_,hL,rfl⟩ entry_list_sort (Xcw hL (fun s' k v hv=>?_) hm (by show A.units+1+1+8<cLine;omega) fun out q1 q2=>⟨_,rfl,?_⟩) (args_list_sort _)))
 ·have:=(hI v hv).keeps (h':=s'.heap) fun b o q=>k b o (old b o q) (keep b o q)
  exact ⟨this.1,this.2.trans (hI0 v hv).2.symm⟩
 ·refine wpAny_pure ⟨_,rfl,h out q1 ?_⟩
  rw [map_congr_left (g:=Jw (((s.heap.push (seqObj "list" #[] 0)).update s.heap.objs.size (Obj.mapSeq (·++vs.toArray))).push (seqObj "list" vs.toArray 0))) (fun v hv=>((hI0 v (q1.mem_iff.mp hv)).2).symm)]
  exact q2
end
end L2
namespace L2
open PySem PySem.Spec PyProof.Rows
open Dl (D R FE FT FA FO FS FI FB Fl Pc Zbv)
section
variable {K:Frag}{C:String→Addr}{E:XK}{Γ Δ Γl Δl:List Nat}{m m1 m2 m3 mr:Nat}{S S1 S2 S3:List (Nat×Bool)}{H:Hp}
theorem Zy.pathExt {H0 Hb H:Hp}{σ:St}{ρ:Yq}{A:Nat→List Addr}{i:Nat}{d d':D}{es:List D}{path:List Int}(I:Zy K C H0 Hb H Γ Δ σ ρ A)(hi:i∈Δ)(hd:ρ[i]?=some (some d))(hu:Dl.Zgk (Dl.Zud es) path d=some d') :
  ∃v b ys,σ[i]?=some (some v)∧AtP K H v path b∧H b=some (.lst ys)∧ys.length+es.length≤sizeLine∧b∈A i∧∀H2 ws B,Xx H H2→RpA K C H2 es ws B→B.Nodup→(∀a∈B,Hb a=Option.none∧∀j,a∉A j)→
   ∃A',Zy K C H0 Hb (upd H2 b (.lst (ys++ws))) Γ Δ σ (ρ.set i (some d')) A':=by
 obtain ⟨v,hs,r⟩:=I.rep i d hd
 obtain ⟨d1,d2,d3⟩:=I.deep i hi
 obtain ⟨b,ys,ds,es',l,A1,A2,p1,p2,p3,p4,p5,p6⟩:=r.path d1 hu
 unfold Dl.Zud at p4
 split at p4
 ·rename_i hz
  cases p4
  have hbA:b∈A i:=by rw [p5];simp
  refine ⟨v,b,ys,hs,p1,p2,by rw [p3.len];exact Zcu hz,hbA,fun H2 ws B g re nB hB=>?_⟩
  have hbB:b∉B:=fun z=>(hB b z).2 i hbA
  have I2:=I.mono g
  have p2':=g _ _ p2
  have ext:Ext (fun c=>c=b) H2 (upd H2 b (.lst (ys++ws))):=fun c o h=>by
   by_cases e:c=b
   ·subst e
    rw [p2'] at h
    cases h
    exact .inr ⟨rfl,.lst⟩
   ·rw [Yd e]
    exact .inl h
  have hbl:b∉l:=by
   rw [p5] at d1
   have:=(List.nodup_append.mp d1).2.1
   rw [cons_append] at this
   exact fun z=>(List.nodup_cons.mp this).1 (mem_append_left _ z)
  have r3:RpA K C (upd H2 b (.lst (ys++ws))) (ds++es) (ys++ws) (l++B):=
   ((p3.same g).ext ext fun a ha z=>hbl (by rw [← z];exact ha)).app (re.ext ext fun a ha z=>hbB (by rw [← z];exact ha))
  have r4:=p6 (upd H2 b (.lst (ys++ws))) (ys++ws) (l++B) (fun a o ha h=>by rw [Yd ha];exact g _ _ h) Ja r3
  have hsub:∀a∈A1++(b::(l++B)++A2),a∈A i∨(Hb a=Option.none∧∀j,a∉A j):=fun a ha=>by
   rw [p5]
   simp only [List.mem_append,mem_cons] at ha ⊢
   rcases ha with z | (z | z | z) | z
   ·exact .inl (.inl z)
   ·exact .inl (.inr (.inl (.inl z)))
   ·exact .inl (.inr (.inl (.inr z)))
   ·exact .inr (hB a z)
   ·exact .inl (.inr (.inr z))
  have nd:(A1++(b::(l++B)++A2)).Nodup:=by
   have pm:(A1++(b::(l++B)++A2)).Perm (A i++B):=by
    rw [p5]
    simp only [cons_append,append_assoc]
    refine List.Perm.append_left _ (List.Perm.cons _ (List.Perm.append_left _ ?_))
    exact perm_append_comm
   refine pm.nodup_iff.mpr (List.nodup_append.mpr ⟨d1,nB,fun x hx y hy e=>?_⟩)
   subst e
   exact (hB x hy).2 i hx
  exact ⟨_,I2.deepWrite hi (List.getElem?_eq_some_iff.mp hd).1 hs hbA r4 nd hsub⟩
 ·cases p4
theorem Zum {i:Nat}{fk fe:FE}{ρ:Yq}{ok:Fl→Prop}{er:String→Option Int→Prop}(p:Yi (Dl.Zhn i fk fe ρ) ok er):∃d n es d',ρ[i]?=some (some d)∧fk ρ=.ok (.int n)∧fe ρ=.ok (.lst es)∧Dl.Zgk (Dl.Zud es) [n] d=some d'∧ok (.nx (ρ.set i (some d'))):=by
  unfold Dl.Zhn at p
  split at p
  · rename_i d ed
    cases ek:fk ρ with
    | bad=>rw [ek] at p;exact p.elim
    | err c x=>rw [ek] at p;exact p.elim
    | ok z =>
      rw [ek] at p
      cases z with
      | int n =>
        cases ef:fe ρ with
        | bad=>rw [ef] at p;exact p.elim
        | err c x=>rw [ef] at p;exact p.elim
        | ok v =>
          rw [ef] at p
          cases v with
          | lst es =>
            have p:Yi (match Dl.Zgk (Dl.Zud es) [n] d with
              | some d'=>.ok (Fl.nx (ρ.set i (some d')))
              | none=>.bad) _ _:=p
            split at p
            · rename_i d' eu
              exact ⟨d,n,es,d',ed,rfl,rfl,eu,p⟩
            · exact p.elim
          | _=>exact p.elim
      | _=>exact p.elim
  · exact p.elim
theorem Zvc {i:Nat}{tk te:TE}{fk fe:FE}(hi:i∈Δ:=by decide)(hk:EOk K C E Γ Δ m1 S1 tk fk)(he:EOk K C E Γ Δ 2 [] te fe) :
  SOk K C E mr Γl Δl Γ Δ Γ Δ (Znn (tBM K "list" Zpg (tOp (rIx K) (Zme i) tk) (Zbk te Zlw))) (Dl.Zhn i fk fe):=fun H0 Hb H σ ρ A D I p=>by
 obtain ⟨d,n,es,d',ed,ek,ef,eu,q⟩:=Zum p
 obtain ⟨v,b,ys,hs,hat,hb,hz,hbA,up⟩:=I.pathExt hi ed eu
 refine ⟨v,hs,hk H0 Hb H σ ρ A _ I ?_⟩
 rw [ek]
 intro w H1 g1 ry
 obtain ⟨By,ry,_⟩:=ry
 obtain ⟨rfl,_⟩:=ry
 refine Xhc (hat.same g1) fun u hu=>?_
 have hu:u=.ref b:=hu
 subst hu
 refine ⟨.inl ⟨rfl,ys,SqL.of (g1 _ _ hb)⟩,he H0 Hb H1 σ ρ A _ (I.mono g1) ?_⟩
 rw [ef]
 intro w2 H2 g2 re
 obtain ⟨B,re,nB,hB⟩:=Res.new' I g1 re
 obtain ⟨c,zs,B2,rfl,e2,e3,e4⟩:=re
 subst e4
 have nB2:=(List.nodup_cons.mp nB).2
 obtain ⟨A',I'⟩:=up H2 zs B2 (g1.trans g2) e3 nB2 fun a ha=>hB a (.tail _ ha)
 exact ⟨b,c,ys,zs,rfl,rfl,g2 _ _ (g1 _ _ hb),e2,by rw [e3.len];exact hz,q σ _ A' I'⟩
theorem Xjh {d:D}{p:Pc}(h:Dl.Xok d=some p):d=.tup [.int p.1,.str p.2]:=by
 unfold Dl.Xok at h
 split at h
 ·cases h
  rfl
 ·cases h
theorem Zsh:∀{ds:List D} {c:List Pc},Dl.Zmf ds=some c→ds=c.map fun p=>.tup [.int p.1,.str p.2]
 | [],c,h=>by cases h;rfl
 | d::ds,c,h=>by
  obtain ⟨p,h1,h⟩:=Option.bind_eq_some_iff.mp (show ((Dl.Xok d).bind fun p=>(Dl.Zmf ds).bind fun ps=>some (p::ps))=some c from h)
  obtain ⟨ps,h2,h⟩:=Option.bind_eq_some_iff.mp h
  cases h
  rw [Xjh h1,Zsh h2]
  rfl
theorem Xjj {d:D}{c:List Pc}(h:Dl.ctOf d=some c):d=Dl.ctD c:=by
 cases d with
 | lst ds=>rw [Zsh (show Dl.Zmf ds=some c from h)];rfl
 | _=>cases h
theorem Zqp:∀{ds:List D} {cs:List (List Pc)},Dl.Zno ds=some cs→ds=cs.map Dl.ctD
 | [],cs,h=>by cases h;rfl
 | d::ds,cs,h=>by
  obtain ⟨c,h1,h⟩:=Option.bind_eq_some_iff.mp (show ((Dl.ctOf d).bind fun c=>(Dl.Zno ds).bind fun cs=>some (c::cs))=some cs from h)
  obtain ⟨cs',h2,h⟩:=Option.bind_eq_some_iff.mp h
  cases h
  rw [Xjj h1,Zqp h2]
  rfl
theorem Zht (c:List Pc):∀l,(Dl.Xgq c l).Perm (c::l)
 | []=>List.Perm.refl _
 | d::l=>by
  unfold Dl.Xgq
  split
  ·exact List.Perm.refl _
  ·exact ((Zht c l).cons d).trans (List.Perm.swap c d l)
theorem Zdb:∀l,(Dl.Zez l).Perm l
 | []=>List.Perm.refl _
 | c::l=>(Zht c _).trans ((Zdb l).cons c)
theorem Zwa (c:List Pc):∀l,l.Pairwise (fun x y=>Zbv y x=false)→(Dl.Xgq c l).Pairwise (fun x y=>Zbv y x=false)
 | [],_=>List.pairwise_singleton _ _
 | d::l,h=>by
  obtain ⟨h1,h2⟩:=List.pairwise_cons.mp h
  unfold Dl.Xgq
  split
  ·rename_i q
   refine List.pairwise_cons.mpr ⟨fun y hy=>?_,h⟩
   rcases List.mem_cons.mp hy with e | e
   ·rw [e]
    exact Zpr q
   ·exact Zya (Zpr q) (h1 y e)
  ·rename_i q
   refine List.pairwise_cons.mpr ⟨fun y hy=>?_,Zwa c l h2⟩
   rcases List.mem_cons.mp ((Zht c l).mem_iff.mp hy) with e | e
   ·rw [e]
    exact Bool.eq_false_iff.mpr q
   ·exact h1 y e
theorem Zra:∀l,(Dl.Zez l).Pairwise (fun x y=>Zbv y x=false)
 | []=>List.Pairwise.nil
 | c::l=>Zwa c _ (Zra l)
theorem Xam {l l':List (List Pc)}(hp:l'.Perm l)(hu:l'.Pairwise (fun x y=>Zbv y x=false)):Dl.Zez l=l':=
 List.Perm.eq_of_pairwise (fun x y _ _ h1 h2=>Zwc h1 h2) (Zra l) hu ((Zdb l).trans hp.symm)
theorem Zvz:∀c:List Pc,Zcx (c.map fun p=>.tup [.int p.1,.str p.2])=c.map pP
 | []=>rfl
 | p::c=>by
  show toPy (.tup [.int p.1,.str p.2])::Zcx _=pP p::_
  rw [Zvz c]
  rfl
theorem Zup (c:List Pc):Dl.dep (Dl.ctD c)≤2:=by
 have:∀c:List Pc,Dl.Zfl (c.map fun p=>.tup [.int p.1,.str p.2])≤1:=fun c=>by
  induction c with
  | nil=>simp [Dl.Zfl]
  | cons p c ih=>simp [Dl.Zfl,Dl.dep];omega
 have h:=this c
 unfold Dl.ctD
 rw [Dl.dep]
 omega
theorem Zwm:∀{c:List Pc},PyData.canLayAll0 (c.map pP)=true→∀p∈c,PyData.strOk p.2=true
 | q::c,h,p,hp=>by
  have h3:((true&&(PyData.strOk q.2&&true))&&PyData.canLayAll0 (c.map pP))=true:=h
  rw [Bool.and_eq_true] at h3
  rcases List.mem_cons.mp hp with z | z
  ·rw [z]
   simpa using h3.1
  ·exact Zwm h3.2 p z
theorem Rp.ct {c:List Pc}{v:V}{B:List Addr}(r:Rp K C H (Dl.ctD c) v B):(∃b,v=.ref b)∧Dn K H v (cP c)∧∀p∈c,PyData.strOk p.2=true:=by
 obtain ⟨h1,h2,_⟩:=r.dn (n:=50) (le_trans (Zup c) (by decide)) (by decide)
 have e:toPy (Dl.ctD c)=cP c:=by
  show PyData.list (Zcx _)=PyData.list _
  rw [Zvz]
 rw [e] at h1 h2
 refine ⟨?_,h1,fun p hp=>?_⟩
 ·obtain ⟨a,xs,B,rfl,_⟩:=r
  exact ⟨a,rfl⟩
 ·exact Zwm h2 p hp
end
def Zsj (K:Frag):List V→Hp→VK→Prop:=fun vs H Q=>∃(a:Addr) (L:List (Addr×List Pc)),vs=[.ref a]∧SqL K H a (L.map fun x=>V.ref x.1)∧(∀x∈L,Dn K H (.ref x.1) (cP x.2)∧∀p∈x.2,PyData.strOk p.2=true)∧L.length≤1000∧
 ∀(L':List (Addr×List Pc)) (r:Addr),L'.Perm L→(L'.map (·.2)).Pairwise (fun x y=>Zbv y x=false)→H r=none→Q (.ref r) (upd H r (.lst (L'.map fun x=>V.ref x.1)))
theorem Zmy:∀{bs:List Addr} {its:List Value},Ys (bs.map V.ref) its→its=bs.map Value.ref
 | [],_,.nil=>rfl
 | b::bs,_,.cons r rs=>by
  rw [show _=Value.ref b from r,Zmy rs]
  rfl
theorem Zll:∀(bs:List Addr),Ys (bs.map V.ref) (bs.map Value.ref)
 | []=>.nil
 | b::bs=>.cons rfl (Zll bs)
noncomputable def adr:Value→Addr
 | .ref a=>a
 | _=>0
section
variable {X:Cx}
theorem Znj (hu:X.A.units+64<cLine):Zaf X (.builtin "sorted") (Zsj X.K):=by
 intro pins s σ H xs us Q I r h
 obtain ⟨a,L,rfl,hq,hL,hl,q⟩:=h
 obtain ⟨u,rfl,rx⟩:=vals1 r
 cases rx
 obtain ⟨its,rv,p,hz⟩:=I.list hq
 have rv':Ys ((L.map (·.1)).map V.ref) its:=by rw [map_map];exact rv
 have ei:=Zmy rv'
 have rd:∀x∈L,∃as,Reads s.heap (.ref x.1) (cP x.2) as:=fun x hx=>(hL x hx).1.reads I rfl
 have hI:∀v∈its,Xde s.heap v:=fun v hv=>by
  rw [ei,map_map] at hv
  obtain ⟨x,hx,rfl⟩:=List.mem_map.mp hv
  obtain ⟨as,ra⟩:=rd x hx
  exact ⟨_,as,ra,(hL x hx).2⟩
 have hlen:its.length≤sizeLine:=by
  rw [ei,length_map,length_map,sizeLine_eq]
  omega
 refine Zto p.isList hI hlen (by omega) fun out q1 q2=>?_
 obtain ⟨e,he⟩:=sortedAll_at s.heap its out
 have hn:H (s.heap.objs.size+1)=none:=I.hok.fresh (le_succ _)
 have eo:out.toList=(out.toList.map adr).map Value.ref:=by
  rw [map_map]
  conv=>lhs;rw [← map_id out.toList]
  refine map_congr_left fun v hv=>?_
  have:=q1.mem_iff.mp hv
  rw [ei] at this
  obtain ⟨b,_,rfl⟩:=List.mem_map.mp this
  rfl
 have pb:(out.toList.map adr).Perm (L.map (·.1)):=by
  have:=q1.map adr
  rw [ei,map_map,show (adr∘Value.ref)=id from rfl,map_id] at this
  exact this
 have cut:∀x∈L,Jw s.heap (.ref x.1)=x.2:=fun x hx=>by
  obtain ⟨as,ra⟩:=rd x hx
  exact Zeh ra
 have eL:L=(L.map (·.1)).map fun b=>(b,Jw s.heap (.ref b)):=by
  rw [map_map]
  conv=>lhs;rw [← map_id L]
  refine map_congr_left fun x hx=>?_
  show x=(x.1,Jw s.heap (.ref x.1))
  rw [cut x hx]
 have pL:((out.toList.map adr).map fun b=>(b,Jw s.heap (.ref b))).Perm L:=by
  conv=>rhs;rw [eL]
  exact pb.map _
 have hs:(((out.toList.map adr).map fun b=>(b,Jw s.heap (.ref b))).map (·.2)).Pairwise (fun x y=>Zbv y x=false):=by
  rw [eo,map_map] at q2
  rw [map_map]
  exact q2
 have hv:Ys ((((out.toList.map adr).map fun b=>(b,Jw s.heap (.ref b))).map fun x=>V.ref x.1)) out.toList:=by
  rw [map_map,eo]
  have:=Zll (out.toList.map adr)
  rw [show (List.map adr (List.map Value.ref (List.map adr out.toList)))=List.map adr out.toList by rw [map_map,show (adr∘Value.ref)=id from rfl,map_id]]
  exact this
 have hv2:=hv.length
 have I2:=I.laid (t':=s.toks) (o:=.lst ((((out.toList.map adr).map fun b=>(b,Jw s.heap (.ref b))).map fun x=>V.ref x.1))) (h':=sortedAll s.heap its out) (fun b o q=>sortedAll_old q) (le_succ _) ⟨by rw [length_map,pL.length_eq];exact le_trans hl (by decide),out.toList,e,hv,by simpa [seqObj] using he⟩
 exact ⟨.ref (s.heap.objs.size+1),_,I2,rfl,q _ _ pL hs hn⟩
variable {K:Frag}{C:String→Addr}{E:XK}{Γ Δ Γl Δl:List Nat}{m m1 m2 m3 mr:Nat}{S S1 S2 S3:List (Nat×Bool)}{H:Hp}
end
section
variable {X:Cx}{C:String→Addr}{E:XK}{Γ Δ Γ' Δ' Γl Δl:List Nat}{m m1 m2 m3 mr:Nat}{S S1 S2 S3:List (Nat×Bool)}{a b c e o kx:Expr}{ta tb tc te tk:TE}{fa fb fc fe fk:FE}{p p1 p2 pos apos cpos:Pos}
theorem Xcb {i:Nat}{x:Str}(hk:JE X C E Γ Δ m1 S1 kx tk fk)(hs:Zag kx)(he:JE X C E Γ Δ 2 [] e te fe)(hse:starEach [e] X.env=(false,eval e X.env)::starEach [] X.env)(hi:i∈Δ:=by decide)(hN:X.N[i]?=some x:=by rfl)(hv:autoParam (Vis X.env.scope x) aT3._auto_1)(hd:(x==("__debug__":Str))=false:=by decide)(hcd:(x==("__classdict__":Str))=false:=by decide)
  (hbase:attributeBase (.Subscript (.Name x p) kx p1) "extend" X.env (eval (.Subscript (.Name x p) kx p1) X.env)=eval (.Subscript (.Name x p) kx p1) X.env:=by rfl)
  (hfew:((backTo cpos (starEach [e] X.env)).all (fun x=>!x.1)&&(backToKw cpos (keywordEach [] X.env)).all (fun x=>x.1.isSome)&&decide (([e]:List Expr).length+([]:List Keyword).length+(if ([]:List Keyword).isEmpty then 0 else 1)<30))=true:=by rfl)
  (hline:(apos.endLine==cpos.line)=true:=by rfl) (hplain:(backTo cpos (starEach ([]:List Expr) X.env)).any (·.1)=false:=by rfl) (hsw:swapsWith (.Call (.Attribute (.Subscript (.Name x p) kx p1) "extend" apos) [e] [] cpos) none pos.line X.env=pure false:=by rfl) :
  JS X C E mr Γl Δl Γ Δ Γ Δ (.Expr (.Call (.Attribute (.Subscript (.Name x p) kx p1) "extend" apos) [e] [] cpos) pos) (Znn (tBM X.K "list" Zpg (tOp (rIx X.K) (Zme i) tk) (Zbk te Zlw))) (Dl.Zhn i fk fe):=
 ⟨Zny (Xia PySem.F.plainAttrs_list PySem.F.slot_list_extend PySem.F.type_list_extend Zyn (Xbb Zri (qv i hN hv hd hcd) hk.q hs) (Zbz he.q Zhk hse) hbase hfew hline hse hplain) hsw,Zvc hi hk.o he.o⟩
end
end L2
namespace L2
open PySem PySem.Spec PyProof.Rows
open Dl (D R FE FT FA FO FS FI FB Fl)
structure RoomH (k:Nat)(A:Around):Prop where
 dp:A.depth+3*k+5<recursionLimit
 un:A.units+16*k+200<cLine
structure FnOkH (P:Program)(w:World)(K:Frag)(mg:Str→Option Value)(base:Heap)(k:Nat)(f:Addr)(fd:FuncData)(ps:List Str)(sp:Sp):Prop where
 len:∀vs H Q E,sp vs H Q E→vs.length=ps.length
 run:∀(A:Around) (outer:List Env) (s:Shared) (H:Hp) (args:Args) (us:List Value) (vs:List V) (Q:VK) (E:XK),RoomH k A→Xsv P w K mg base A outer s H→BindsTo s fd args (ps.zip us)→Ys vs us→sp vs H Q E→
  codeAny (model P w) A (.call (.ref f) args) (CR CX0 outer P w H s Q E) s
structure DefH (P:Program)(w:World)(K:Frag)(mg:Str→Option Value)(base:Heap)(k:Nat)(x:Str)(ps:List Str)(sp:Sp):Prop where
 ex:∃f fd,mg x=some (.ref f)∧keepIn K (.ref f)=true∧Binds K fd ps []∧FnOkH P w K mg base k f fd ps sp
noncomputable abbrev Cx.wild (X:Cx):Cx:={X with calm:=false,xe:=fun _ _=>False}
section
variable {X:Cx}{C:String→Addr}{E:XK}{Γ Δ:List Nat}{m n mr k:Nat}{S:List (Nat×Bool)}{x:Str}{p pos:Pos}{e:Expr}{es:List Expr}{t:TA}
end
end L2
namespace L2
open PySem PySem.Spec PyProof.Rows
open Dl (D R FE FT FA FO FS FI FB Fl Pc Zbv)
section
variable {K:Frag}{C:String→Addr}{E:XK}{Γ Δ Γl Δl:List Nat}{m m1 m2 m3 mr:Nat}{S S1 S2 S3:List (Nat×Bool)}{H:Hp}
theorem RpA.getS:∀{ds:List D} {xs:List V} {B:List Addr} {j:Nat} {d:D},RpA K C H ds xs B→ds[j]?=some d→∃v B',xs[j]?=some v∧Rp K C H d v B'∧B'.Sublist B
 | [],_,_,_,_,_,e=>by simp at e
 | x::ds,xs,B,0,d,r,e=>by
  obtain ⟨v,l,B1,B2,rfl,h1,h2,rfl⟩:=r
  cases e
  exact ⟨v,B1,rfl,h1,List.sublist_append_left _ _⟩
 | x::ds,xs,B,j+1,d,r,e=>by
  obtain ⟨v,l,B1,B2,rfl,h1,h2,rfl⟩:=r
  obtain ⟨w,B',q1,q2,q3⟩:=RpA.getS h2 (show ds[j]?=some d from e)
  exact ⟨w,B',q1,q2,q3.trans (List.sublist_append_right _ _)⟩
theorem Xnb {i:Nat}{tb:TE}{fb:FE}(hi:i∈Δ)(hb:EOk K C E Γ Δ m2 S2 tb fb):EOk K C E Γ Δ 2 [(i,true)] (tOp (rIx K) (Zme i) tb) (Dl.f2 Dl.Xir (Dl.fV i) fb):=fun H0 Hb H σ ρ A Q I p=>by
 obtain ⟨x,e,p⟩:=Xkl (Yi.bind p)
 obtain ⟨vx,e1,r1⟩:=I.rep i x e
 have nd:=(I.deep i hi).1
 refine ⟨vx,e1,hb H0 Hb H σ ρ A _ I (Yi.imp (Yi.bind p) (fun y q vy H2 g2 r2=>?_) fun c x q H' g'=>q H' g')⟩
 obtain ⟨d,e',q2⟩:=Zem q
 obtain ⟨By,r2,_⟩:=r2
 unfold Dl.Xir at e'
 split at e'
 ·obtain ⟨n,rfl,h⟩:=Zyo e'
  cases r2.1
  obtain ⟨a,xs,B,rfl,w2,w3,w4⟩:=r1.same g2
  obtain ⟨j,h1,h2,_⟩:=Zcl h
  obtain ⟨v,B',z1,z2,z3⟩:=w3.getS h2
  refine Xgb (SqL.of w2) (v:=v) (Zrh w3.len h h1 z1) (q2 v H2 g2 ⟨B',z2,fun b hb=>.inr ⟨(i,true),.head _,?_⟩,(fun z=>nomatch z),fun _=>?_⟩)
  ·show b∈(A i).tail
   rw [w4]
   exact z3.subset hb
  ·rw [w4] at nd
   exact (List.nodup_cons.mp nd).2.sublist z3
 ·cases e'
theorem Zhp:∀c:List Pc,Dl.Xw (c.map fun p=>D.tup [.int p.1,.str p.2])=true
 | []=>rfl
 | p::c=>by rw [map_cons,Dl.Xw,Zhp c];rfl
theorem Rp.ctA {c:List Pc}{b:Addr}{B:List Addr}(r:Rp K C H (Dl.ctD c) (.ref b) B):B=[b]:=by
 obtain ⟨a,xs,B',e1,e2,e3,rfl⟩:=r
 cases e1
 rw [e3.flat (Zhp c)]
theorem RpA.ctsA:∀{cs:List (List Pc)} {xs:List V} {B:List Addr},RpA K C H (cs.map Dl.ctD) xs B→∃L:List (Addr×List Pc),xs=L.map (fun x=>V.ref x.1)∧cs=L.map (·.2)∧B=L.map (·.1)∧∀x∈L,Rp K C H (Dl.ctD x.2) (.ref x.1) [x.1]
 | [],xs,B,r=>⟨[],r.1,rfl,r.2,fun _ h=>nomatch h⟩
 | c::cs,xs,B,r=>by
  obtain ⟨x,l,B1,B2,rfl,h1,h2,rfl⟩:=r
  obtain ⟨⟨b,rfl⟩,_⟩:=Rp.ct h1
  obtain ⟨L,rfl,e2,e3,h3⟩:=RpA.ctsA h2
  have e1:=Rp.ctA h1
  subst e1
  refine ⟨(b,c)::L,rfl,by rw [e2];rfl,by rw [e3];rfl,fun x hx=>?_⟩
  rcases List.mem_cons.mp hx with z | z
  ·subst z
   exact h1
  ·exact h3 x z
theorem RpA.pickA:∀{L:List (Addr×List Pc)},(∀x∈L,Rp K C H (Dl.ctD x.2) (.ref x.1) [x.1])→RpA K C H ((L.map (·.2)).map Dl.ctD) (L.map fun x=>V.ref x.1) (L.map (·.1))
 | [],_=>⟨rfl,rfl⟩
 | x::L,h=>⟨_,_,[x.1],L.map (·.1),rfl,h x (.head _),RpA.pickA (L:=L) fun y hy=>h y (.tail _ hy),rfl⟩
theorem Ztg {te:TE}{fe:FE}(he:EOk K C E Γ Δ 2 S te fe):EOk K C E Γ Δ 2 S (tCB (Zsj K) (Zbk te Zlw)) (Dl.fA Dl.Zly (Dl.Zc fe Dl.Zt)):=fun H0 Hb H σ ρ A Q I p =>
  he H0 Hb H σ ρ A _ I (by
    have p':=Yi.bind (Yi.bind p)
    refine Yi.imp p' (fun d q v H1 g1 r=>?_) fun c x q H' g'=>q H' g'
    have q:Yi (Dl.oR (Dl.Zly [d])) (fun d=>∀v H',Xx H H'→Res K C 2 S H A d v H'→Q v H') (fun c x=>∀H',Xx H H'→EC C E c x H'):=q
    obtain ⟨z,e,q⟩:=Zem q
    obtain ⟨B,r,r',_,nd⟩:=r
    have nd:=nd rfl
    show Zsj K [v] H1 Q
    cases d with
    | lst ds =>
      obtain ⟨cs,h1,h2⟩:=Option.bind_eq_some_iff.mp (show ((Dl.Zno ds).bind fun cs=>if cs.length≤1000 then some (D.lst ((Dl.Zez cs).map Dl.ctD)) else none)=some z from e)
      split at h2
      · rename_i hlen
        cases h2
        rw [Zqp h1] at r
        obtain ⟨a,xs,B',rfl,e2,e3,e4⟩:=r
        subst e4
        obtain ⟨L,rfl,ec,eB,hL⟩:=RpA.ctsA e3
        refine ⟨a,L,rfl,SqL.of e2,fun x hx=>(Rp.ct (hL x hx)).2,by rw [ec,length_map] at hlen;exact hlen,fun L' l pL hs hl=>?_⟩
        have g2:=sameNew hl (.lst (L'.map fun x=>V.ref x.1))
        have es:Dl.Zez cs=L'.map (·.2):=Xam (by rw [ec];exact pL.map _) hs
        have q1:=RpA.pickA (L:=L') fun x hx=>hL x (pL.mem_iff.mp hx)
        have pB:(L'.map (·.1)).Perm B':=by rw [eB];exact pL.map _
        rw [es] at q
        refine q _ _ (g1.trans g2) ⟨l::L'.map (·.1),⟨l,_,L'.map (·.1),rfl,Ja,q1.same g2,rfl⟩,fun b hb=>?_,(fun z=>nomatch z),fun _=>?_⟩
        · rcases List.mem_cons.mp hb with z | z
          · rw [z];exact .inl (g1.free hl)
          · exact r' b (.tail _ (pB.mem_iff.mp z))
        · refine List.nodup_cons.mpr ⟨fun h=>?_,pB.nodup_iff.mpr (List.nodup_cons.mp nd).2⟩
          obtain ⟨ys,w,_⟩:=q1.isl l h
          rw [w] at hl
          cases hl
      · cases h2
    | _=>cases e)
variable {X:Cx}
end
section
variable {X:Cx}{C:String→Addr}{E:XK}{Γ Δ Γ' Δ' Γl Δl:List Nat}{m m1 m2 m3 mr:Nat}{S S1 S2 S3:List (Nat×Bool)}{a b c e o kx:Expr}{ta tb tc te tk:TE}{fa fb fc fe fk:FE}{p p1 p2 pos apos cpos:Pos}
theorem Zxe (K:Frag)(hu:X.A.units+64<cLine)(hg:Gl X "sorted")(hm:X.mg "sorted"=none)(he:JE X C E Γ Δ 2 S e te fe)(hse:starEach [e] X.env=(false,eval e X.env)::starEach [] X.env)(hpl:(backTo pos (starEach ([]:List Expr) X.env)).any (·.1)=false:=by rfl)(hK:X.K=K:=by rfl) :
  JE X C E Γ Δ 2 S (.Call (.Name "sorted" p) [e] [] pos) (tCB (Zsj K) (Zbk te Zlw)) (Dl.fA Dl.Zly (Dl.Zc fe Dl.Zt)):=by
 subst hK
 exact ⟨Zgz (Znj hu) hg hm PyProof.Rows.boot_sorted (Zbz he.q Zhk hse) (by decide) (by decide) hse hpl,Ztg he.o⟩
theorem Xrt (K:Frag)(i:Nat){x:Str}(hb:JE X C E Γ Δ m2 S2 b tb fb)(hs:Zag b)(hi:i∈Δ:=by decide)(hN:X.N[i]?=some x:=by rfl)(hv:autoParam (Vis X.env.scope x) aT3._auto_1)(hd:(x==("__debug__":Str))=false:=by decide)
  (hcd:(x==("__classdict__":Str))=false:=by decide) (hK:X.K=K:=by rfl):JE X C E Γ Δ 2 [(i,true)] (.Subscript (.Name x p) b pos) (tOp (rIx K) (Zme i) tb) (Dl.f2 Dl.Xir (Dl.fV i) fb):=by
 subst hK
 exact ⟨Xbb Zri (qv i hN hv hd hcd) hb.q hs,Xnb hi hb.o⟩
end
end L2
namespace L2
open PySem PySem.Spec PyProof.Rows
open Dl (D R FE FT FA FO FS FI FB Fl)
section
variable {prog:Program}{w:World}{K:Type}[DecidableEq K]{knd:HeapKind prog w K}{A:Around}{E:Value→Shared→Prop}{s:Shared}
theorem Ziq (d:Addr)(hd:(d==sysModules)=false) :
  MeetsIn prog w (Builtin.«dict.__len__» ⟨[.ref d],[]⟩) (fun _ R s=>∃xs,s.heap.DictOfH knd d xs∧R (.ok (.ret (.int xs.length s.toks))) {s with toks:=s.toks+1}):=
 .of_wp fun A R s ⟨xs,hm,h⟩=>by
  obtain ⟨o,es,ep,ho,hc,hdat,hk,_,hn⟩:=hm
  show wpAny _ _ (dictSize d >>= _) _ _ s
  unfold dictSize
  refine wpAny_bind (wpAny_bind (wpAny_dictEntries ho hdat (wpAny_pure ?_)))
  show wpAny _ _ (Builtin.Dict.pendingCount d >>= _) _ _ s
  refine wpAny_bind (wpAny_pendingCount_other hd ?_)
  refine wpAny_ret_mkInt ?_
  rw [add_zero,size_of_entries hk]
  exact h
theorem Zjd {d:Addr}{xs:List (K×Addr×Value)}{Q:Value→Shared→Prop}(hd:(d==sysModules)=false)(hm:s.heap.DictOfH knd d xs)(hfit:(xs.length:Int)<2 ^ 63)
    (h:Q (.int xs.length (s.toks+1)) {s with toks:=s.toks+1+1}):wpAny (model prog w) A (call (.builtin "len") [.ref d]) Q E s:=by
  refine Calls.call_function_entry kind_len plain_len entry_len (args_len1 _) ?_
  unfold Builtin.«len»
  refine wpAny_bind (m:=oneArg "len" _) (wpAny_pure ?_)
  refine wpAny_bind (m:=callSpecial? (.ref d) (Str.ofString "__len__")) (wpAny_callSpecial?_slot (name:=Str.ofString "__len__") hm.typeIs F.slot_dict_len
    (call_meetsIn F.slot_dict_len hm.typeIs F.entry_dict_len (F.args_dict_len_1 _) (Ziq (knd:=knd) d hd) ⟨xs,hm,?_⟩))
  show wpAny _ _ _ _ _ {s with toks:=s.toks+1}
  refine wpAny_bind (wpAny_holding (wpAny_pure ?_))
  refine wpAny_bind (wpAny_letGo ?_)
  show wpAny _ _ (if ((xs.length:Nat):Int)<0 then _ else _) _ _ _
  rw [if_neg (by omega)]
  show wpAny _ _ (if ((xs.length:Nat):Int)≥2 ^ 63 then _ else _) _ _ _
  rw [if_neg (by omega)]
  exact wpAny_bind (wpAny_mkInt (wpAny_pure ⟨_,rfl,h⟩))
end
theorem KT.length {H:Hp}{kvs:List (List Key×V)}{xs:List (List Key×Addr×Value)}(r:KT H kvs xs):kvs.length=xs.length:=by
 induction r with
 | nil=>rfl
 | cons _ _ ih=>rw [length_cons,length_cons,ih]
def Xbx:List V→Hp→VK→Prop:=fun xs H Q=>∃p kvs,xs=[.ref p]∧H p=some (.dT kvs)∧Q (.int kvs.length) H
section
variable {X:Cx}
theorem Zxs:Zaf X (.builtin "len") Xbx:=by
 intro pins s σ H xs us Q I r h
 obtain ⟨p,kvs,rfl,hq,q⟩:=h
 obtain ⟨u,rfl,rx⟩:=vals1 r
 cases rx
 have hn:=Zjh
 obtain ⟨hl,hs,ys,r',hm⟩:=Xrp I.hok hq
 have e:=r'.length
 exact Zjd hs hm (by omega) ⟨.int kvs.length,H,I.tok _,⟨s.toks+1,by rw [e]⟩,q⟩
variable {K:Frag}{C:String→Addr}{E:XK}{Γ Δ:List Nat}{m:Nat}{S:List (Nat×Bool)}{H:Hp}
theorem Xdr {te:TE}{fe:FE}(he:EOk K C E Γ Δ m S te fe):EOk K C E Γ Δ 2 [] (tCB Xbx (Zbk te Zlw)) (Dl.f1 Dl.Xev fe):=fun H0 Hb H σ ρ A Q I p =>
  he H0 Hb H σ ρ A _ I (by
    refine Yi.imp (Yi.bind p) (fun d q v H1 g1 r=>?_) fun c x q H' g'=>q H' g'
    obtain ⟨z,e,q⟩:=Zem q
    obtain ⟨B,r,r',_⟩:=r
    show Xbx [v] H1 Q
    cases d with
    | dtt ks ds =>
      cases e
      obtain ⟨a,xs,B',rfl,e2,e0,e3,_⟩:=r
      refine ⟨a,_,rfl,e2,?_⟩
      rw [List.length_zip,e3.len,← e0,Nat.min_self]
      exact q _ _ g1 (Res.flat ⟨rfl,rfl⟩)
    | _=>cases e)
variable {e:Expr}{te:TE}{fe:FE}{p pos:Pos}
theorem Xmb (hg:Gl X "len")(hm:X.mg "len"=none)(he:JE X C E Γ Δ m S e te fe)(hse:starEach [e] X.env=(false,eval e X.env)::starEach [] X.env)(hpl:(backTo pos (starEach ([]:List Expr) X.env)).any (·.1)=false:=by rfl) :
  JE X C E Γ Δ 2 [] (.Call (.Name "len" p) [e] [] pos) (tCB Xbx (Zbk te Zlw)) (Dl.f1 Dl.Xev fe):=
 ⟨Zgz Zxs hg hm PySem.boot_len (Zbz he.q Zhk hse) (by decide) (by decide) hse hpl,Xdr he.o⟩
end
noncomputable def ItSt (lo c:Int)(n:Nat):It:=⟨fun i _=>i<n,fun i H x H'=>H'=H∧x=.int (lo+(i:Int)*c),fun i _=>n≤i⟩
theorem Zvx {P:Program}{w:World}{K:Frag}{tg:Expr}(it:Addr)(lo c:Int)(n:Nat):Turn P w K tg (ItSt lo c n) [it] it (fun i h=>IsRangeIter h it (lo+(i:Nat)*c) ((n:Int) - (i:Nat)) c) where
 mem:=List.mem_singleton.mpr rfl
 obj:=fun i h st b hb=>by
  rw [List.mem_singleton.mp hb]
  refine ⟨_,st,fun v z=>?_⟩
  have q:Data.fields _=Data.cell v:=z
  cases q
 keep:=fun i h h' st k=>k it (List.mem_singleton.mpr rfl) _ st
 item:=by
  rintro X rfl rfl rfl hc i pins s σ H E I hf st hg
  obtain ⟨f0,f1,f2,f3,f4,f5⟩:=hf it (List.mem_singleton.mpr rfl)
  refine (Walks.range (prog:=X.prog) (w:=X.w) (I.ok.hd hc) it lo c n).item i s _ _ hg st fun v h' tk hv st' kk=>?_
  obtain ⟨t,rfl⟩:=hv
  have J:Inv X pins σ H {s with heap:=h',toks:=tk}:=I.turned (fun b o hb e=>kk b o (fun z=>hb (List.mem_singleton.mp z)) e) f0 f1 f3 f4 f5
  exact ⟨_,rfl,Xbz (s:={s with heap:=h',toks:=tk}) (n:="range_iterator") st' rfl rfl (by decide) ⟨.int (lo+(i:Int)*c),H,J,⟨t,rfl⟩,⟨rfl,rfl⟩,st',fun b hb=>(hf b hb).1⟩⟩
 done:=by
  rintro X rfl rfl rfl hc i pins s σ H E I hf st hg
  obtain ⟨f0,f1,f2,f3,f4,f5⟩:=hf it (List.mem_singleton.mpr rfl)
  have hle:(n:Int) - (i:Nat)≤0:=by
   have q:n≤i:=hg
   omega
  exact wpAny_pyNext_range_end (I.ok.hd hc) st hle fun h' eb=>⟨rfl,I.turned (t':=s.toks) (fun b o hb e=>eb b o hb e) f0 f1 f3 f4 f5⟩
 self:=fun _ _ _ _ _ st h=>wpAny_pyIter_rangeiter st h
theorem Zdn {a b c:Int}(hc:0<c):Builtin.Range.rangeSize a b c=((Dl.Zdt a b c:Nat):Int):=by
 unfold Builtin.Range.rangeSize Dl.Zdt
 rw [if_pos hc]
 split
 ·have:=Int.ediv_nonneg (show 0≤b - a - 1 by omega) (Int.le_of_lt hc)
  omega
 ·rfl
theorem Ztb {a b c:Int}(hc:0<c)(h1:-1000000000≤a)(h2:a≤1000000000)(h3:-1000000000≤b)(h4:b≤1000000000)(h5:c≤1000000)(h6:Dl.Zdt a b c≤1000000):Builtin.Range.small a b c=true:=by
 unfold Builtin.Range.small
 rw [Zdn hc,fitsLong (by omega) (by omega),fitsLong (by omega) (by omega),fitsLong (by omega) (by omega),fitsLong (by omega) (by omega),if_pos hc,fitsLong (by omega) (by omega)]
 simp
section
variable {X:Cx}{tg:Expr}
theorem Xjr {pins:List (Addr×Obj)}{σ:St}{H:Hp}{s:Shared}{R:It→Hp→Prop}{E:Value→Shared→Prop}{lo hi c:Int}{t u v:Tok}{tk:Nat}(I:Inv X pins σ H s)(hc:0<c)(hs:Builtin.Range.small lo hi c=true)
  (q:R (ItSt lo c (Dl.Zdt lo hi c)) H):wpAny (model X.prog X.w) X.A (pyIter (.ref s.heap.objs.size)) (PIE X pins σ tg R) E {s with heap:=s.heap.push {cls:=.type "range",data:=.fields #[.int lo t,.int hi u,.int c v]},toks:=tk}:=by
 refine wpAny_pyIter_range (IsRange.new ..) hs ?_
 have J:Inv X pins σ H {s with heap:=s.heap.push {cls:=.type "range",data:=.fields #[.int lo t,.int hi u,.int c v]},toks:=tk}:=I.kept fun b o e=>get?_push_of_some _ e
 refine ⟨_,[(s.heap.push {cls:=.type "range",data:=.fields #[.int lo t,.int hi u,.int c v]}).objs.size],_,_,H,rfl,J.kept (t':=tk) fun b o e=>get?_push_of_some _ e,Zvx _ lo c (Dl.Zdt lo hi c),?_,fun b hb=>?_,q⟩
 ·show IsRangeIter _ _ (lo+((0:Nat):Int)*c) (((Dl.Zdt lo hi c:Nat):Int) - ((0:Nat):Int)) c
  rw [show lo+((0:Nat):Int)*c=lo by simp,show (((Dl.Zdt lo hi c:Nat):Int) - ((0:Nat):Int))=Builtin.Range.rangeSize lo hi c by rw [Zdn hc];simp]
  exact get?_push_size _ rfl
 ·rw [List.mem_singleton.mp hb]
  exact J.fpOk (le_refl _) (J.hok.fresh (le_refl _))
noncomputable def Xiz (ta:TA):TI:=fun σ H R=>ta σ H fun vs H1=>∃i j c:Int,vs=[.int i,.int j,.int c]∧(0<c∧Builtin.Range.small i j c=true∧c≤1000000)∧R (ItSt i c (Dl.Zdt i j c)) H1
theorem Zwf {a b c:Expr}{ta:TA}{p pos:Pos}(hg:Gl X "range")(hm:X.mg "range"=none)(ha:PA X [a,b,c] ta)(hs:starEach [a,b,c] X.env=[(false,eval a X.env),(false,eval b X.env),(false,eval c X.env)]:=by rfl)(hs2:starEach [b,c] X.env=[(false,eval b X.env),(false,eval c X.env)]:=by rfl) :
  PI X tg (.Call (.Name "range" p) [a,b,c] [] pos) (Xiz ta):=by
 intro pins s σ H R I h
 refine Call_ (Zee I hg hm boot_range (PyProof.Rows.callWith_type1 (thn (ha pos pins s σ H _ I h) fun us s1 ⟨vs,H1,I1,r1,q1⟩=>?_) (by rw [hs,hs2]) (by rw [hs2];rfl)))
 obtain ⟨i,j,c,e,⟨q1,q2,q5⟩,q⟩:=q1
 subst e
 cases r1 with
 | cons r rr =>
  cases rr with
  | cons r' rr =>
   cases rr with
   | cons r'' rr =>
    cases rr
    obtain ⟨t,rfl⟩:=r
    obtain ⟨t',rfl⟩:=r'
    obtain ⟨t'',rfl⟩:=r''
    exact call_range_3 (by omega) (Xjr I1 q1 q2 q) (.inl (PyProof.noPylong_small (by omega)))
variable {K:Frag}{C:String→Addr}{E:XK}{Γ Δ:List Nat}{m:Nat}{S:List (Nat×Bool)}{H:Hp}
theorem Zxn {lo c:Int}{n:Nat}{Hc:Hp}:Goes K C (ItSt lo c n) ((Dl.Zjc lo c n).map D.int) Hc:=Zku (vs:=(Dl.Zjc lo c n).map V.int) RpA.ints fun H2 _=>by
 have hl:((Dl.Zjc lo c n).map V.int).length=n:=by simp [Dl.Zjc]
 refine ⟨fun i hi=>by rw [hl] at hi;exact hi,fun i hi=>by rw [hl] at hi;exact hi,fun i x H3 y=>⟨y.1,fun hi=>?_⟩⟩
 rw [hl] at hi
 rw [y.2]
 simp [Dl.Zjc,hi]
theorem Xep {t:TA}{f:FA}(h:AOk K C E Γ Δ m S t f):IOk K C E Γ Δ [] (Xiz t) (Dl.Zvk f):=fun H0 Hb H σ ρ A Rr I p=>h H0 Hb H σ ρ A _ I (p.bind.imp (fun ds q vs H' g r=>by
  obtain ⟨B,r,_⟩:=r
  split at q
  · split at q
    · rename_i hl
      obtain ⟨v,w,x,B,B',B'',rfl,r1,r2,r3⟩:=RpA.three' r
      obtain ⟨rfl,_⟩:=r1
      obtain ⟨rfl,_⟩:=r2
      obtain ⟨rfl,_⟩:=r3
      obtain ⟨h0,h1,h2,h3,h4,h5,h6⟩:=hl
      exact ⟨_,_,_,rfl,⟨h0,Ztb h0 h2 h3 h4 h5 h1 h6,h1⟩,q _ H' [] g (fun b hb=>nomatch hb) (by rw [length_map,Dl.Zjc,length_map,List.length_range];exact h6) fun Hc _=>Zxn⟩
    · exact q.elim
  · exact q.elim) fun c x q H' g'=>q H' g')
end
section
variable {X:Cx}{C:String→Addr}{E:XK}{Γ Δ:List Nat}{m n:Nat}{S:List (Nat×Bool)}{tg a b c:Expr}{t:TA}{f:FA}{p pos:Pos}
theorem Xjb (hg:Gl X "range")(hm:X.mg "range"=none)(ha:JA X C E Γ Δ m S [a,b,c] n t f)(hs:starEach [a,b,c] X.env=[(false,eval a X.env),(false,eval b X.env),(false,eval c X.env)]:=by rfl)(hs2:starEach [b,c] X.env=[(false,eval b X.env),(false,eval c X.env)]:=by rfl):JI X C E Γ Δ [] tg (.Call (.Name "range" p) [a,b,c] [] pos) (Xiz t) (Dl.Zvk f):=⟨⟨Zwf hg hm ha.q.out hs hs2⟩,Xep ha.o⟩
end
end L2
namespace Dl
open PySem
noncomputable def Zqd:FS:=
  (Xt (sIf (cOr (cE (f2 gLt (fV 1) (fC (.int 0)))) (cOr (cE (f2 gGt (fV 2) (fA Zcc (Zc (fV 0) Zt)))) (cE (f2 gGt (fV 1) (fV 2))))) Zhq sNx)
    (Zal (fA Xjx (Zc (fSl gSl (fV 0) (Zpn (fV 1)) (Zpn (fV 2))) Zt))))
noncomputable def Zde (ds:List D):R D:=(run 3 Zqd ds).calm
noncomputable def Xcr:FS:=
 (Zal (f1 Zgp (fV 0)))
noncomputable def Zca (ds:List D):R D:=(run 1 Xcr ds).calm
noncomputable def Zas:FS:=
 (sIf (cE (f2 gEq (f2 gIx (fV 2) (fC (.int 0))) (fV 1))) (Zal (f1 Ye (fV 2))) sNx)
noncomputable def Zmn:FS:=
  (Xt (Ziv (Jj (fV 0)) (Xe 2) Zas)
    Zhq)
noncomputable def Zab (ds:List D):R D:=(run 3 Zmn ds).calm
noncomputable def Zei:FS:=
 (Yt 2 (f2 Zjb (f2 Jp (f2 Jp (f2 Zck (fV 2) (fC (.int 48271))) (f2 Zjb (fV 3) (fC (.int 1000003)))) (fC (.int 1))) (fC (.int 2147483647))))
noncomputable def Zod:FS:=
  (Xt (sIf (cE (f2 gLt (fV 1) (fA Zcc (Zc (fV 0) Zt)))) (Zal (f1 Ye (f2 gIx (fV 0) (fV 1)))) sNx)
    (Xt (Yt 2 (fC (.int 5)))
    (Xt (Ziv (Jj (fSl gSl (fV 0) Zwd (Zpn (fC (.int 63))))) (Xe 3) Zei)
    (Zal (f2 Zjb (f2 Jp (fV 2) (f2 Zck (fC (.int 7919)) (fV 1))) (fC (.int 1000003)))))))
noncomputable def Jy (ds:List D):R D:=(run 4 Zod ds).calm
noncomputable def Ztv:FS:=
  (Xt (Yt 2 (f2 Zjb (f2 Zjn (f2 Jp (f2 Jp (f2 Zjb (fV 0) (fC (.int 2147483629))) (f2 Zck (fC (.int 1013)) (fV 1))) (fC (.int 7919))) (fC (.int 3))) (fC (.int 2147483647))))
    (Xt (Yt 3 (f2 Zjb (f2 Jp (f2 Jp (f2 Zck (fV 2) (fC (.int 40699))) (f2 Zck (f2 Zck (fC (.int 3793)) (fV 1)) (fV 1))) (fC (.int 11))) (fC (.int 2147483399))))
    (Zal (f2 Xmc (fV 3) (fC (.int 101))))))
noncomputable def Zaq (ds:List D):R D:=(run 4 Ztv ds).calm
noncomputable def Zcy:FS:=
 (Zal (fAnd (f1 (Zqz "int") (fV 0)) (f1 gNot (f1 (Zqz "bool") (fV 0)))))
noncomputable def Yk (ds:List D):R D:=(run 1 Zcy ds).calm
noncomputable def Xsx:FS:=
  (Xt (Yt 3 (f2 Jp (fV 2) (f2 gIx (fV 1) (fC (.int 1)))))
    (Xt (sIf (cOr (cE (f2 gLt (fV 2) (fC (.int 0)))) (cE (f2 gGt (fV 3) (fA Zcc (Zc (fV 0) Zt))))) (Zal (fC (.bl false))) sNx)
    (Zal (f2 gLe (Xb Zde (Zc (fV 0) (Zc (fV 2) (Zc (fV 3) Zt)))) (f2 gIx (fV 1) (fC (.int 3)))))))
noncomputable def Zga (ds:List D):R D:=(run 4 Xsx ds).calm
noncomputable def Xeq:FS:=
 (Zal (f2 Jp (f2 gIx (fV 1) (fC (.int 0))) (f2 gIx (Xb Zab (Zc (fV 0) (Zc (f2 gIx (fV 1) (fC (.int 1))) Zt))) (fC (.int 1)))))
noncomputable def Zbb (ds:List D):R D:=(run 2 Xeq ds).calm
noncomputable def Zfw:FS:=
  (sIf (cE (f2 gLt (fV 3) (f2 Zjn (fC (.int 10)) (fC (.int 18))))) (Zlg 5 (f2 Zjb (Xb Zaq (Zc (fV 3) (Zc (fV 6) Zt))) (f2 gIx (fV 2) (fV 6)))) (sIf (cE (f2 gGt (fV 4) (fC (.int 0)))) (Xt (Zlg 5 (f2 Zjb (fV 4) (f2 gIx (fV 2) (fV 6))))
    (Yt 4 (f2 Xmc (fV 4) (f2 gIx (fV 2) (fV 6))))) (Xt (Yt 7 (Xb Jy (Zc (fV 0) (Zc (f2 Zjb (f2 Jp (f2 Jp (fV 1) (fC (.int 1))) (fV 6)) (fC (.int 63))) Zt))))
    (Zlg 5 (f2 Zjb (Xb Zaq (Zc (fV 7) (Zc (fV 6) Zt))) (f2 gIx (fV 2) (fV 6)))))))
noncomputable def Zsw:FS:=
  (Xt (Yt 3 (Xb Jy (Zc (fV 0) (Zc (fV 1) Zt))))
    (Xt (Yt 4 (f1 Ye (fV 3)))
    (Xt (Yt 5 (fA Zae Zt))
    (Xt (Ziv (Zlk (Zc (fA Zcc (Zc (fV 2) Zt)) Zt)) (Xe 6) Zfw)
    (Zal (fV 5))))))
noncomputable def Ya (ds:List D):R D:=(run 8 Zsw ds).calm
noncomputable def Zau:FS:=
  (Xt (sIf (cOr (Zwi (cE (f1 (Zqz "tuple") (fV 1)))) (cE (f2 gNe (fA Zcc (Zc (fV 1) Zt)) (fC (.int 2))))) (Zal (fC (.bl false))) sNx)
    (sIf (cOr (Zwi (cE (Xb Yk (Zc (f2 gIx (fV 1) (fC (.int 0))) Zt)))) (Zwi (cE (f1 (Zqz "str") (f2 gIx (fV 1) (fC (.int 1))))))) (Zal (fC (.bl false))) sNx))
noncomputable def Zfq:FS:=
  (Xt (sIf (Zwi (cE (f1 (Zqz "list") (fV 0)))) (Zal (fC (.bl false))) sNx)
    (Xt (Ziv (Jj (fV 0)) (Xe 1) Zau)
    (Zal (fC (.bl true)))))
noncomputable def Xg (ds:List D):R D:=(run 2 Zfq ds).calm
noncomputable def Zdm:FS:=
 (sIf (cE (Xb Zga (Zc (fV 0) (Zc (fV 4) (Zc (fV 3) Zt))))) (Zlg 2 (fA Zhb (Zc (f1 Ye (fV 3)) (Zc (f1 Ye (f2 gIx (fV 4) (fC (.int 0)))) Zt)))) sNx)
noncomputable def Zdj:FS:=
 (Ziv (Jj (fV 1)) (Xe 4) Zdm)
noncomputable def Zlr:FS:=
  (Xt (Yt 2 (fA Zae Zt))
    (Xt (Ziv (Zlk (Zc (fA Zcc (Zc (fV 0) Zt)) Zt)) (Xe 3) Zdj)
    (Zal (fV 2))))
noncomputable def Xy (ds:List D):R D:=(run 5 Zlr ds).calm
noncomputable def Zqo:FS:=
 (Zal (Zcg 3 1 (Jj (fV 1)) (Xe 3) (cE (Xb Zga (Zc (fV 0) (Zc (fV 3) (Zc (f2 Zgm (fV 2) (f2 gIx (fV 3) (fC (.int 1)))) Zt))))) (f1 Ye (fV 3))))
noncomputable def Yz (ds:List D):R D:=(run 3 Zqo ds).calm
noncomputable def Zim:FS:=
 (Zal (f2 Jp (f2 Jp (f2 gIx (fV 1) (f2 gIx (fV 3) (fC (.int 0)))) (f2 gIx (Xb Zab (Zc (fV 0) (Zc (f2 gIx (fV 3) (fC (.int 1))) Zt))) (fC (.int 2)))) (f2 gIx (fV 2) (Xb Zbb (Zc (fV 0) (Zc (fV 3) Zt))))))
noncomputable def Xj (ds:List D):R D:=(run 4 Zim ds).calm
noncomputable def Zbi:FS:=
  (Xt (Yt 9 (f2 Jp (f2 Zck (fC (.int 3)) (fV 8)) (fC (.int 6))))
    (Xt (Yt 10 (f1 Ye (f2 gIx (fA Zae (Zc (fC (.int 1)) (Zc (fC (.int 2)) (Zc (fC (.int 3)) (Zc (fC (.int 4)) (Zc (fC (.int 5)) (Zc (fC (.int 6)) (Zc (fC (.int 2)) (Zc (fC (.int 3)) (Zc (fC (.int 11)) (Zc (fC (.int 40)) (Zc (f2 gIx (fA Zae (Zc (fC (.int 150)) (Zc (fC (.int 200)) Zt))) (f2 Zjb (fV 8) (fC (.int 2)))) Zt)))))))))))) (f2 gIx (fV 4) (fV 9)))))
    (Xt (Yt 11 (f2 Jp (fC (.int 1)) (f2 gIx (fV 4) (f2 Jp (fV 9) (fC (.int 1))))))
    (Xt (sIf (cE (f2 gEq (f2 gIx (fV 4) (fC (.int 3))) (fC (.int 1)))) (Yt 11 (f2 Jp (f2 Zck (fC (.int 3)) (fV 10)) (f2 Zjb (f2 gIx (fV 4) (f2 Jp (fV 9) (fC (.int 1)))) (fC (.int 4))))) sNx)
    (Xt (sIf (cE (f2 gEq (f2 gIx (fV 4) (fC (.int 3))) (fC (.int 2)))) (Yt 11 (f2 Jp (fC (.int 1)) (f2 Zjb (f2 gIx (fV 4) (f2 Jp (fV 9) (fC (.int 1)))) (fC (.int 3))))) sNx)
    (Xt (sIf (cE (f2 gEq (f2 gIx (fV 4) (fC (.int 3))) (fC (.int 3)))) (Yt 11 (f1 Ye (fV 10))) sNx)
    (Xt (Yt 12 (fA Xnm (Zc (f2 Zck (f2 gIx (fA Zae (Zc (fC (.int 0)) (Zc (fC (.int 0)) (Zc (fC (.int 1)) (Zc (fC (.int 2)) (Zc (fC (.int 3)) (Zc (fC (.int 12)) Zt))))))) (f2 gIx (fV 4) (f2 Jp (fV 9) (fC (.int 2))))) (fV 5)) (Zc (f2 Zgm (f2 Zjn (fC (.int 10)) (fC (.int 18))) (fC (.int 1))) Zt))))
    (Xt (Yt 13 (f1 Ye (f2 gIx (fV 3) (f2 Zjb (f2 Jp (f2 gIx (fV 4) (fC (.int 4))) (f2 Zck (f2 Jp (f2 Zck (fC (.int 2)) (f2 gIx (fV 4) (fC (.int 5)))) (fC (.int 1))) (fV 8))) (fC (.int 16))))))
    (Zlg 7 (fA Zhb (Zc (f1 Ye (fV 13)) (Zc (f1 Ye (fV 10)) (Zc (fA Xnm (Zc (f2 Zck (fV 11) (fV 6)) (Zc (f2 Zjn (fC (.int 10)) (fC (.int 18))) Zt))) (Zc (f1 Ye (fV 12)) Zt))))))))))))))
noncomputable def Zlz:FS:=
  (Xt (Yt 3 (fA Zae (Zc (fC (.str ("a":Str))) (Zc (fC (.str ("ab":Str))) (Zc (fC (.str ("abc":Str))) (Zc (fC (.str ("b":Str))) (Zc (fC (.str ("ba":Str))) (Zc (fC (.str ("z":Str))) (Zc (fC (.str ("zzzzzzzz":Str))) (Zc (fC (.str ("roll":Str))) (Zc (fC (.str ("cut":Str))) (Zc (fC (.str ("by":Str))) Zt))))))))))))
    (Xt (Yt 3 (f2 Jp (fV 3) (fA Zae (Zc (fC (.str ("aab":Str))) (Zc (fC (.str ("zz":Str))) (Zc (fC (.str ("kind":Str))) (Zc (fC (.str ("qsvw":Str))) (Zc (fC (.str ("fghjmp":Str))) (Zc (fC (.str ("x":Str))) Zt)))))))))
    (Xt (Yt 4 (Xb Ya (Zc (fV 0) (Zc (fV 1) (Zc (f2 Jp (fA Zae (Zc (f2 Jp (fV 2) (fC (.int 1))) (Zc (fC (.int 4)) (Zc (fC (.int 4)) (Zc (fC (.int 4)) (Zc (fC (.int 16)) (Zc (fC (.int 4)) Zt))))))) (f2 Zck (fA Zae (Zc (fC (.int 11)) (Zc (fC (.int 40)) (Zc (fC (.int 6)) Zt)))) (fV 2))) Zt)))))
    (Xt (Yt 5 (f1 Ye (f2 gIx (fA Zae (Zc (fC (.int 1)) (Zc (fC (.int 1)) (Zc (fC (.int 7)) (Zc (f2 Zjn (fC (.int 10)) (fC (.int 17))) Zt))))) (f2 gIx (fV 4) (fC (.int 1))))))
    (Xt (Yt 6 (f1 Ye (f2 gIx (fA Zae (Zc (fC (.int 1)) (Zc (fC (.int 1)) (Zc (f2 Zjn (fC (.int 10)) (fC (.int 6))) (Zc (f2 Zck (fC (.int 25)) (f2 Zjn (fC (.int 10)) (fC (.int 15)))) Zt))))) (f2 gIx (fV 4) (fC (.int 2))))))
    (Xt (Yt 7 (fA Zae Zt))
    (Xt (Ziv (Zlk (Zc (f2 gIx (fV 4) (fC (.int 0))) Zt)) (Xe 8) Zbi)
    (Zal (fV 7)))))))))
noncomputable def Zac (ds:List D):R D:=(run 14 Zlz ds).calm
noncomputable def Zps:FS:=
 (Zal (f1 Ye (f2 gIx (fA Zae (Zc (fC (.int 1)) (Zc (fC (.int 1)) (Zc (fC (.int 7)) (Zc (f2 Zjn (fC (.int 10)) (fC (.int 17))) Zt))))) (f2 gIx (Xb Ya (Zc (fV 0) (Zc (fV 1) (Zc (fA Zae (Zc (f2 Jp (fV 2) (fC (.int 1))) (Zc (fC (.int 4)) Zt))) Zt)))) (fC (.int 1))))))
noncomputable def Zaz (ds:List D):R D:=(run 3 Zps ds).calm
noncomputable def Zej:FS:=
  (Xt (Yt 8 (f2 Jp (f2 Zck (fC (.int 2)) (fV 7)) (fC (.int 3))))
    (Xt (Yt 9 (fC (.int 0)))
    (Xt (sIf (cE (f2 gLt (f2 gIx (fV 4) (fV 8)) (f2 gIx (fA Zae (Zc (fC (.int 0)) (Zc (fC (.int 1)) (Zc (fC (.int 3)) (Zc (fC (.int 6)) Zt))))) (f2 gIx (fV 4) (fC (.int 1)))))) (Yt 9 (f1 Ye (f2 gIx (fA Zae (Zc (fV 3) (Zc (fV 3) (Zc (f2 Zck (fC (.int 2)) (fV 3)) (Zc (f2 Zck (fC (.int 3)) (fV 3)) (Zc (fV 5) Zt)))))) (f2 gIx (fV 4) (f2 Jp (fV 8) (fC (.int 1))))))) sNx)
    (Zlg 6 (f1 Ye (fV 9))))))
noncomputable def Zop:FS:=
  (Xt (Yt 4 (Xb Ya (Zc (fV 0) (Zc (fV 1) (Zc (f2 Jp (fA Zae (Zc (f2 Jp (fV 2) (fC (.int 1))) (Zc (fC (.int 4)) (Zc (fC (.int 3)) Zt)))) (f2 Zck (fA Zae (Zc (fC (.int 8)) (Zc (fC (.int 5)) Zt))) (fV 2))) Zt)))))
    (Xt (Yt 5 (f2 Zck (fC (.int 9)) (fV 3)))
    (Xt (sIf (cE (f2 gEq (f2 gIx (fV 4) (fC (.int 2))) (fC (.int 0)))) (Yt 5 (f2 Zjn (fC (.int 10)) (fC (.int 18)))) sNx)
    (Xt (Yt 6 (fA Zae Zt))
    (Xt (Ziv (Zlk (Zc (f2 gIx (fV 4) (fC (.int 0))) Zt)) (Xe 7) Zej)
    (Zal (fV 6)))))))
noncomputable def Zav (ds:List D):R D:=(run 10 Zop ds).calm
noncomputable def Ztl:FS:=
  (Xt (Yt 3 (fA Zcc (Zc (fV 2) Zt)))
    (Xt (Yt 4 (Zcg 5 1 (Jj (Xb Yz (Zc (fV 0) (Zc (fV 1) (Zc (fV 3) Zt))))) (Xe 5) Ztz (f2 Jp (f2 gIx (fV 2) (f2 Zgm (fV 3) (f2 gIx (fV 5) (fC (.int 1))))) (f2 gIx (fV 5) (fC (.int 2))))))
    (Zal (fA Xsz (Zc (f2 Jp (fA Zae (Zc (f2 gIx (fV 2) (f1 Zqk (fC (.int 1)))) Zt)) (fV 4)) Zt)))))
noncomputable def Zbn (ds:List D):R D:=(run 5 Ztl ds).calm
noncomputable def Zfc:FS:=
 (sIf (cE (f2 gEq (f2 Jp (f2 gIx (fV 2) (f2 Zgm (fV 3) (f2 gIx (fV 4) (fC (.int 1))))) (f2 gIx (fV 4) (fC (.int 2)))) (f2 gIx (fV 2) (fV 3)))) (Zal (f1 Ye (fV 4))) sNx)
noncomputable def Zpo:FS:=
  (Xt (sIf (cE (f2 gEq (f2 gIx (fV 2) (fV 3)) (f2 gIx (fV 2) (f2 Zgm (fV 3) (fC (.int 1)))))) (Zal (fC .non)) sNx)
    (Xt (Ziv (Jj (Xb Yz (Zc (fV 0) (Zc (fV 1) (Zc (fV 3) Zt))))) (Xe 4) Zfc)
    (Zal (fC .non))))
noncomputable def Jz (ds:List D):R D:=(run 5 Zpo ds).calm
noncomputable def Jf:FS:=
  (Xt (Yt 6 (f2 Zgm (fV 3) (f2 gIx (fV 5) (fC (.int 1)))))
    (sIf (cE (f2 gEq (f2 Jp (f2 gIx (fV 2) (fV 6)) (f2 gIx (fV 5) (fC (.int 2)))) (f2 gIx (fV 2) (fV 3)))) (Zlg 4 (fA Zhb (Zc (f1 Ye (fV 6)) (Zc (fA Zae (Zc (fA Zhb (Zc (f1 Ye (fV 6)) (Zc (f1 Ye (f2 gIx (fV 5) (fC (.int 0)))) Zt))) Zt)) Zt)))) sNx))
noncomputable def Znc:FS:=
  (Xt (Yt 4 (fA Zae Zt))
    (Xt (sIf (cE (f2 gEq (f2 gIx (fV 2) (f2 Zgm (fV 3) (fC (.int 1)))) (f2 gIx (fV 2) (fV 3)))) (Zlg 4 (fA Zhb (Zc (f2 Zgm (fV 3) (fC (.int 1))) (Zc (fA Zae Zt) Zt)))) sNx)
    (Xt (Ziv (Jj (Xb Yz (Zc (fV 0) (Zc (fV 1) (Zc (fV 3) Zt))))) (Xe 5) Jf)
    (Zal (fV 4)))))
noncomputable def Yv (ds:List D):R D:=(run 7 Znc ds).calm
noncomputable def Zmk:FS:=
  (Xt (Yt 4 (Xb Zaz (Zc (fV 0) (Zc (fV 1) (Zc (fV 3) Zt)))))
    (Zal (fA Zhb (Zc (Xb Zav (Zc (fV 0) (Zc (f2 Jp (fV 1) (fC (.int 1))) (Zc (fV 2) (Zc (fV 4) Zt))))) (Zc (Xb Zac (Zc (fV 0) (Zc (fV 1) (Zc (fV 3) Zt)))) Zt)))))
noncomputable def Zad (ds:List D):R D:=(run 5 Zmk ds).calm
noncomputable def Zhw:FS:=
 (Zlg 2 (Xb Zbn (Zc (fV 0) (Zc (fV 1) (Zc (fV 2) Zt)))))
noncomputable def Znp:FS:=
  (Xt (Yt 2 (fA Zae (Zc (fC (.int 0)) Zt)))
    (Xt (Zlx 100000 (cE (f2 gLe (fA Zcc (Zc (fV 2) Zt)) (fA Zcc (Zc (fV 0) Zt)))) Zhw)
    (Zal (fV 2))))
noncomputable def Xv (ds:List D):R D:=(run 3 Znp ds).calm
noncomputable def Zcd:FS:=
  (Xt (Yt 5 (Xb Jz (Zc (fV 0) (Zc (fV 1) (Zc (fV 2) (Zc (fV 3) Zt))))))
    (sIf (cE (f2 gIs (fV 5) (fC .non))) (Xfy 3 Zgm (fC (.int 1))) (Xt (Xfy 3 Zgm (f2 gIx (fV 5) (fC (.int 1))))
    (Zlg 4 (fA Zhb (Zc (f1 Ye (fV 3)) (Zc (f1 Ye (f2 gIx (fV 5) (fC (.int 0)))) Zt)))))))
noncomputable def Zix:FS:=
  (Xt (Yt 4 (fA Zae Zt))
    (Xt (Zlx 100000 (cE (f2 gGt (fV 3) (fC (.int 0)))) Zcd)
    (Zal (f1 Zgp (fV 4)))))
noncomputable def Je (ds:List D):R D:=(run 6 Zix ds).calm
noncomputable def Xmv:FS:=
 (Zal (f1 Zgp (Xb Xv (Zc (Xb Zca (Zc (fV 0) Zt)) (Zc (fV 1) Zt)))))
noncomputable def Zdv (ds:List D):R D:=(run 2 Xmv ds).calm
noncomputable def Xfp:FS:=
  (Xt (Yt 2 (Xb Xv (Zc (fV 0) (Zc (fV 1) Zt))))
    (Zal (fA Zhb (Zc (f1 Ye (f2 gIx (fV 2) (f1 Zqk (fC (.int 1))))) (Zc (Xb Je (Zc (fV 0) (Zc (fV 1) (Zc (fV 2) (Zc (fA Zcc (Zc (fV 0) Zt)) Zt))))) Zt)))))
noncomputable def Zjq (ds:List D):R D:=(run 3 Xfp ds).calm
noncomputable def Zar:FS:=
  (Xt (Yt 5 (Xb Yv (Zc (fV 0) (Zc (fV 1) (Zc (fV 2) (Zc (fV 4) Zt))))))
    (Zlg 3 (fA Xjx (Zc (Zcg 6 1 (Jj (fV 5)) (Xe 6) Ztz (f1 Ye (f2 gIx (fV 3) (f2 gIx (fV 6) (fC (.int 0)))))) Zt))))
noncomputable def Zkq:FS:=
  (Xt (Yt 2 (Xb Xv (Zc (fV 0) (Zc (fV 1) Zt))))
    (Xt (Yt 3 (fA Zae (Zc (fC (.int 1)) Zt)))
    (Xt (Ziv (Zxw (Zc (fC (.int 1)) (Zc (f2 Jp (fA Zcc (Zc (fV 0) Zt)) (fC (.int 1))) Zt))) (Xe 4) Zar)
    (Zal (fV 3)))))
noncomputable def Yh (ds:List D):R D:=(run 6 Zkq ds).calm
noncomputable def Zmo:FS:=
 (Zal (f1 Ye (f2 gIx (Xb Yh (Zc (fV 0) (Zc (fV 1) Zt))) (f1 Zqk (fC (.int 1))))))
noncomputable def Yg (ds:List D):R D:=(run 2 Zmo ds).calm
noncomputable def Xpz:FS:=
  (Xt (sIf (cE (f2 Zcr (fV 2) (Xb Xy (Zc (fV 0) (Zc (fV 1) Zt))))) Zhq sNx)
    (Xt (Yt 3 (Xb Xv (Zc (fV 0) (Zc (fV 1) Zt))))
    (Zal (f2 Zgm (f2 gIx (fV 3) (f1 Zqk (fC (.int 1)))) (Xb Xj (Zc (fV 1) (Zc (fV 3) (Zc (Xb Zdv (Zc (fV 0) (Zc (fV 1) Zt))) (Zc (fV 2) Zt)))))))))
noncomputable def Zlt (ds:List D):R D:=(run 4 Xpz ds).calm
noncomputable def Xqs:FS:=
  (Xt (Yt 2 (Xb Xv (Zc (fV 0) (Zc (fV 1) Zt))))
    (Xt (Yt 3 (Xb Zdv (Zc (fV 0) (Zc (fV 1) Zt))))
    (Zal (Zcg 4 1 (Jj (Xb Xy (Zc (fV 0) (Zc (fV 1) Zt)))) (Xe 4) (cE (f2 gEq (Xb Xj (Zc (fV 1) (Zc (fV 2) (Zc (fV 3) (Zc (fV 4) Zt))))) (f2 gIx (fV 2) (f1 Zqk (fC (.int 1)))))) (f1 Ye (fV 4))))))
noncomputable def Zfv (ds:List D):R D:=(run 4 Xqs ds).calm
noncomputable def Xkn:FS:=
  (Xt (Yt 2 (Xb Yh (Zc (fV 0) (Zc (fV 1) Zt))))
    (Xt (Yt 3 (f1 Zgp (Xb Yh (Zc (Xb Zca (Zc (fV 0) Zt)) (Zc (fV 1) Zt)))))
    (Zal (Zcg 4 1 (Jj (Xb Zfv (Zc (fV 0) (Zc (fV 1) Zt)))) (Xe 4) (cE (f2 gEq (f2 Zta (f2 gIx (fV 2) (f2 gIx (fV 4) (fC (.int 0)))) (f2 gIx (fV 3) (Xb Zbb (Zc (fV 1) (Zc (fV 4) Zt))))) (f2 gIx (fV 2) (f1 Zqk (fC (.int 1)))))) (f1 Ye (fV 4))))))
noncomputable def Zhx (ds:List D):R D:=(run 4 Xkn ds).calm
@[simp] theorem ev_fC (d:D)(ρ:Env):fC d ρ=.ok d:=(rfl)
@[simp] theorem ev_f1 (g:D→Option D)(a:FE)(ρ:Env):f1 g a ρ=(a ρ).bind fun x=>oR (g x):=(rfl)
@[simp] theorem ev_f2 (g:D→D→Option D)(a b:FE)(ρ:Env):f2 g a b ρ=(a ρ).bind fun x=>(b ρ).bind fun y=>oR (g x y):=(rfl)
@[simp] theorem ev_aNil (ρ:Env):Zt ρ=.ok []:=(rfl)
@[simp] theorem Xea (a:FE)(r:FA)(ρ:Env):Zc a r ρ=(a ρ).bind fun x=>(r ρ).bind fun xs=>.ok (x::xs):=(rfl)
@[simp] theorem ev_fA (g:List D→Option D)(a:FA)(ρ:Env):fA g a ρ=(a ρ).bind fun xs=>oR (g xs):=(rfl)
@[simp] theorem Xal (F:List D→R D)(a:FA)(ρ:Env):Xb F a ρ=(a ρ).bind F:=(rfl)
@[simp] theorem ev_fV0 (d:D)(ρ:Env):fV 0 (some d::ρ)=.ok d:=(rfl)
@[simp] theorem ev_fVs (i:Nat)(o:Option D)(ρ:Env):fV (i+1) (o::ρ)=fV i ρ:=by simp [fV]
@[simp] theorem ev_cE (a:FE)(ρ:Env):cE a ρ=(a ρ).bind fun d=>match d with | .bl b=>.ok b | _=>.bad:=(rfl)
@[simp] theorem Xhu (a:FT)(ρ:Env):Zwi a ρ=(a ρ).bind fun b=>.ok (!b):=(rfl)
@[simp] theorem ev_cAnd (a b:FT)(ρ:Env):cAnd a b ρ=(a ρ).bind fun x=>if x then b ρ else .ok false:=(rfl)
@[simp] theorem Xgi (a b:FT)(ρ:Env):cOr a b ρ=(a ρ).bind fun x=>if x then .ok true else b ρ:=(rfl)
@[simp] theorem ev_cYes (ρ:Env):Ztz ρ=.ok true:=(rfl)
@[simp] theorem ev_fAnd (a b:FE)(ρ:Env):fAnd a b ρ=(a ρ).bind fun x=>match x with | .bl true=>b ρ | .bl false=>.ok (.bl false) | _=>.bad:=(rfl)
@[simp] theorem ev_fOr (a b:FE)(ρ:Env):fOr a b ρ=(a ρ).bind fun x=>match x with | .bl true=>.ok (.bl true) | .bl false=>b ρ | _=>.bad:=(rfl)
@[simp] theorem ev_fIf (c:FT)(a b:FE)(ρ:Env):fIf c a b ρ=(c ρ).bind fun x=>if x then a ρ else b ρ:=(rfl)
@[simp] theorem Xtg (g g':D→D→Option D)(a b c:FE)(ρ:Env):Xpn g g' a b c ρ=(a ρ).bind fun x=>(b ρ).bind fun y=>(oR (g x y)).bind fun z=>match z with | .bl true=>(c ρ).bind fun w=>oR (g' y w) | .bl false=>.ok (.bl false) | _=>.bad:=(rfl)
@[simp] theorem ev_fSl (g:D→Option Int→Option Int→Option D)(a:FE)(l h:FO)(ρ:Env):fSl g a l h ρ=(a ρ).bind fun x=>(l ρ).bind fun lo=>(h ρ).bind fun hi=>oR (g x lo hi):=(rfl)
@[simp] theorem ev_oNone (ρ:Env):Zwd ρ=.ok none:=(rfl)
@[simp] theorem ev_oSome (a:FE)(ρ:Env):Zpn a ρ=(a ρ).bind fun d=>match d with | .int i=>.ok (some i) | _=>.bad:=(rfl)
@[simp] theorem Xej (a:FE)(ρ:Env):Jj a ρ=(a ρ).bind fun d=>match d with | .lst xs=>if xs.length≤lim then .ok xs else .bad | .scr ns=>if ns.length≤lim then .ok (ns.map D.int) else .bad | _=>.bad:=(rfl)
@[simp] theorem ev_jTup (a:FE)(ρ:Env):jTup a ρ=(a ρ).bind fun d=>match d with | .tup xs=>if xs.length≤lim then .ok xs else .bad | _=>.bad:=(rfl)
@[simp] theorem Xcs (a:FA)(ρ:Env):Zlk a ρ=(a ρ).bind fun ds=>match ds with | [.int j]=>if -1000000000≤j∧j≤1000000 then .ok (Zgc 0 j.toNat) else .bad | _=>.bad:=(rfl)
noncomputable def Zpy (ds:List D):R (List D):=match ds with
 | [.int i,.int j]=>if -1000000000≤i∧i≤1000000000∧-1000000000≤j∧j≤1000000000∧(j - i).toNat≤lim then .ok (Zgc i (j - i).toNat) else .bad
 | _=>.bad
@[simp] theorem Xew (a:FA)(ρ:Env):Zxw a ρ=(a ρ).bind Zpy:=(rfl)
theorem Zwl {i j:Int}{n:Nat}(hn:n=(j - i).toNat)(h1:-1000000≤i)(h2:i≤1000000)(h3:-1000000≤j)(h4:j≤1000000)(h5:n≤1000000):Zpy [.int i,.int j]=.ok (Zgc i n):=by
 subst hn
 unfold Zpy
 simp only []
 rw [if_pos ⟨by omega,by omega,by omega,by omega,h5⟩]
@[simp] theorem Xca (n k:Nat)(it:FI)(b:FB)(c:FT)(e:FE)(ρ:Env):Zcg n k it b c e ρ=if ρ.length=n then (it ρ).bind fun xs=>(Zeo k b c e ρ xs).calm.bind fun ys=>.ok (.lst ys) else .bad:=(rfl)
@[simp] theorem ev_sNx (ρ:Env):sNx ρ=.ok (.nx ρ):=(rfl)
@[simp] theorem Xsr (ρ:Env):Zhq ρ=.bad:=(rfl)
@[simp] theorem Zyi (a b:FS)(ρ:Env):Xt a b ρ=(a ρ).bind fun fl=>match fl with | .nx ρ'=>b ρ' | fl=>.ok fl:=(rfl)
@[simp] theorem Xho (i:Nat)(e:FE)(ρ:Env):Yt i e ρ=(e ρ).bind fun d=>.ok (.nx (ρ.set i (some d))):=(rfl)
@[simp] theorem Xmw (e:FE)(ρ:Env):Zal e ρ=(e ρ).bind fun d=>.ok (.ret d):=(rfl)
@[simp] theorem Xgp (c:FT)(a b:FS)(ρ:Env):sIf c a b ρ=(c ρ).bind fun x=>if x then a ρ else b ρ:=(rfl)
@[simp] theorem Xnf (i:Nat)(e:FE)(ρ:Env):Zlg i e ρ=(fV i ρ).bind fun v=>match v with | .lst xs=>(e ρ).bind fun d=>if xs.length<lim then .ok (.nx (ρ.set i (some (.lst (xs++[d]))))) else .bad | _=>.bad:=by
 unfold Zlg fV
 split
 ·rename_i xs e;simp [e]
 ·rename_i h
  split
  ·rename_i d e
   cases d<;>simp
   rename_i xs
   exact absurd e (h xs)
  ·rfl
@[simp] theorem Xpc (c:String)(f:FA)(ρ:Env):Xrv c f ρ=(f ρ).bind fun _=>.err c none:=(rfl)
@[simp] theorem ev_sAug (i:Nat)(g:D→D→Option D)(e:FE)(ρ:Env):Xfy i g e ρ=(fV i ρ).bind fun x=>(e ρ).bind fun y=>(oR (g x y)).bind fun z=>.ok (.nx (ρ.set i (some z))):=by
 unfold Xfy fV
 split
 ·rename_i x e;simp
 ·rfl
@[simp] theorem Xiv (it:FI)(b:FB)(s:FS)(ρ:Env):Ziv it b s ρ=(it ρ).bind fun xs=>Zbr b s xs ρ:=(rfl)
@[simp] theorem Xsn (n:Nat)(c:FT)(s:FS)(ρ:Env):Zlx n c s ρ=Zbp c s n ρ:=(rfl)
@[simp] theorem ev_sAsg (e:FE)(b:FB)(ρ:Env):Xmm e b ρ=(e ρ).bind fun d=>(b d ρ).calm.bind fun ρ'=>.ok (.nx ρ'):=(rfl)
@[simp] theorem ev_bName (i:Nat)(d:D)(ρ:Env):Xe i d ρ=.ok (ρ.set i (some d)):=(rfl)
@[simp] theorem ev_bNil (ρ:Env):Zzk [] ρ=.ok ρ:=(rfl)
@[simp] theorem ev_bCons (b:FB)(r:List D→Env→R Env)(d:D)(ds:List D)(ρ:Env):Zeu b r (d::ds) ρ=(b d ρ).bind fun ρ'=>r ds ρ':=(rfl)
@[simp] theorem ev_bTup (r:List D→Env→R Env)(ds:List D)(ρ:Env):Xac r (.tup ds) ρ=r ds ρ:=(rfl)
@[simp] theorem ev_run (N:Nat)(b:FS)(ds:List D):run N b ds=(b (ds.map some++List.replicate (N - ds.length) none)).bind fun fl=>match fl with | .nx _=>.ok .non | .ret d=>.ok d | _=>.bad:=(rfl)
@[simp] theorem forD_nil (b:FB)(s:FS)(ρ:Env):Zbr b s [] ρ=.ok (.nx ρ):=(rfl)
theorem Zet (b:FB)(s:FS)(x:D)(xs:List D)(ρ:Env):Zbr b s (x::xs) ρ=(b x ρ).calm.bind fun ρ1=>(s ρ1).bind fun fl=>match fl with | .nx ρ2=>Zbr b s xs ρ2 | .cnt ρ2=>Zbr b s xs ρ2 | .brk ρ2=>.ok (.nx ρ2) | .ret d=>.ok (.ret d):=rfl
@[simp] theorem add_ii (i j:Int):Jp (.int i) (.int j)=some (.int (i+j)):=rfl
@[simp] theorem addI_ii (i j:Int):gAddI (.int i) (.int j)=some (.int (i+j)):=rfl
@[simp] theorem sub_ii (i j:Int):Zgm (.int i) (.int j)=some (.int (i - j)):=rfl
@[simp] theorem lt_ii (i j:Int):gLt (.int i) (.int j)=some (.bl (decide (i<j))):=rfl
@[simp] theorem le_ii (i j:Int):gLe (.int i) (.int j)=some (.bl (decide (i≤j))):=rfl
@[simp] theorem Xmp (i j:Int):gGt (.int i) (.int j)=some (.bl (decide (j<i))):=rfl
@[simp] theorem ge_ii (i j:Int):gGe (.int i) (.int j)=some (.bl (decide (j≤i))):=rfl
@[simp] theorem neg_i (i:Int):Zqk (.int i)=some (.int (-i)):=rfl
@[simp] theorem not_b (b:Bool):gNot (.bl b)=some (.bl (!b)):=rfl
@[simp] theorem Zdx (i j:Int):gEq (.int i) (.int j)=some (.bl (decide (i=j))):=show some (D.bl (i==j))=_ from congrArg (fun b=>some (D.bl b)) (by by_cases h:i=j<;>simp [h])
@[simp] theorem eq_bb (i j:Bool):gEq (.bl i) (.bl j)=some (.bl (i==j)):=rfl
@[simp] theorem ne_bb (i j:Bool):gNe (.bl i) (.bl j)=some (.bl (!(i==j))):=rfl
@[simp] theorem eq_ss (i j:Str):gEq (.str i) (.str j)=some (.bl (decide (i=j))):=show some (D.bl (i==j))=_ from congrArg (fun b=>some (D.bl b)) (by by_cases h:i=j<;>simp [h])
@[simp] theorem is_n (x:D):gIs x .non=some (.bl (Ziz x)):=rfl
@[simp] theorem isNot_n (x:D):Xgd x .non=some (.bl (!Ziz x)):=rfl
@[simp] theorem is_b (b c:Bool):gIs (.bl b) (.bl c)=some (.bl (b==c)):=rfl
@[simp] theorem isNot_b (b c:Bool):Xgd (.bl b) (.bl c)=some (.bl (!(b==c))):=rfl
@[simp] theorem Xsa:Ziz .non=true:=rfl
@[simp] theorem isNon_i (i:Int):Ziz (.int i)=false:=rfl
@[simp] theorem isNon_b (i:Bool):Ziz (.bl i)=false:=rfl
@[simp] theorem isNon_l (i:List D):Ziz (.lst i)=false:=rfl
@[simp] theorem isNon_t (i:List D):Ziz (.tup i)=false:=rfl
theorem Xhb {i j:Int}(h:(-(2 ^ 64)<i∧i<2 ^ 64)∨(-(2 ^ 64)<j∧j<2 ^ 64)):Zck (.int i) (.int j)=some (.int (i*j)):=by
 have:(short i||short j)=true:=by simp [short];exact h
 simp [Zck,this]
theorem Zce {i j:Int}(h:0<j):Zjb (.int i) (.int j)=some (.int (i % j)):=by simp [Zjb,h]
theorem div_ii {i j:Int}(h:0<j)(h2:j<2 ^ 200):Xmc (.int i) (.int j)=some (.int (i / j)):=by simp only [Xmc];rw [if_pos ⟨h,h2⟩]
theorem Zmu {i j:Int}(h:0≤j)(h2:j≤1000000)(h3:i.natAbs<2 ^ 64):Zjn (.int i) (.int j)=some (.int (i ^ j.toNat)):=by simp only [Zjn];rw [if_pos ⟨h,h2,h3⟩]
@[simp] theorem pow10_6:Zjn (.int 10) (.int 6)=some (.int 1000000):=by
 rw [Zmu (by omega) (by omega) (by decide)]
 rfl
@[simp] theorem Zzz:Zjn (.int 10) (.int 15)=some (.int 1000000000000000):=by
 rw [Zmu (by omega) (by omega) (by decide)]
 rfl
@[simp] theorem Zre:Zjn (.int 10) (.int 17)=some (.int 100000000000000000):=by
 rw [Zmu (by omega) (by omega) (by decide)]
 rfl
@[simp] theorem Zgu:Zjn (.int 10) (.int 18)=some (.int 1000000000000000000):=by
 rw [Zmu (by omega) (by omega) (by decide)]
 rfl
@[simp] theorem flat_i (i:Int):flat (.int i)=true:=rfl
@[simp] theorem flat_b (i:Bool):flat (.bl i)=true:=rfl
@[simp] theorem flat_s (i:Str):flat (.str i)=true:=rfl
@[simp] theorem flat_n:flat .non=true:=rfl
@[simp] theorem flat_t (xs:List D):flat (.tup xs)=Xw xs:=rfl
@[simp] theorem flatA_n:Xw []=true:=rfl
@[simp] theorem flatA_c (x:D)(xs:List D):Xw (x::xs)=(flat x&&Xw xs):=rfl
theorem Zbl {α:Type}{f:α→D}(h:∀a,flat (f a)=true):∀xs:List α,Xw (xs.map f)=true
 | []=>rfl
 | x::xs=>by simp [h x,Zbl h xs]
@[simp] theorem Zfn (ns:List Int):Xw (ns.map D.int)=true:=Zbl (fun _=>rfl) ns
@[simp] theorem gFlat_i (i:Int):Ye (.int i)=some (.int i):=rfl
@[simp] theorem gFlat_b (i:Bool):Ye (.bl i)=some (.bl i):=rfl
@[simp] theorem gFlat_s (i:Str):Ye (.str i)=some (.str i):=rfl
@[simp] theorem gFlat_n:Ye .non=some .non:=rfl
@[simp] theorem ints_map (ns:List Int):intsOf (ns.map D.int)=some ns:=by
 induction ns with
 | nil=>rfl
 | cons n ns ih=>simp [intsOf,ih]
@[simp] theorem len_l (xs:List D):Zcc [.lst xs]=some (.int xs.length):=(rfl)
@[simp] theorem len_t (xs:List D):Zcc [.tup xs]=some (.int xs.length):=(rfl)
@[simp] theorem len_scr (xs:List Int):Zcc [.scr xs]=some (.int xs.length):=(rfl)
@[simp] theorem sum_ints (ns:List Int):Xjx [.lst (ns.map D.int)]=some (.int ns.sum):=by simp [Xjx]
@[simp] theorem Xfw (i j:Int):Xnm [.int i,.int j]=some (.int (min i j)):=by
 simp only [Xnm]
 congr 2
 by_cases h:j<i
 ·rw [if_pos h];omega
 ·rw [if_neg h];omega
theorem Xah {ns:List Int}(h:ns≠[]):Xsz [.lst (ns.map D.int)]=some (.int (Xdy ns)):=by simp [Xsz,h]
@[simp] theorem isI_i (c:String)(i:Int):Zqz c (.int i)=some (.bl (c=="int")):=rfl
@[simp] theorem isI_b (c:String)(i:Bool):Zqz c (.bl i)=some (.bl (c=="bool"||c=="int")):=rfl
@[simp] theorem isI_l (c:String)(i:List D):Zqz c (.lst i)=some (.bl (c=="list")):=rfl
@[simp] theorem isI_t (c:String)(i:List D):Zqz c (.tup i)=some (.bl (c=="tuple")):=rfl
@[simp] theorem isI_s (c:String)(i:Str):Zqz c (.str i)=some (.bl (c=="str")):=rfl
@[simp] theorem isI_n (c:String):Zqz c .non=some (.bl false):=rfl
theorem Zpp {α:Type}{xs:List α}{i:Int}{k:Nat}{x:α}(e:i=(k:Int))(h:xs[k]?=some x):atD xs i=some x:=by
 subst e
 have hk:=(List.getElem?_eq_some_iff.mp h).1
 unfold atD ixD
 rw [if_pos (by omega),if_pos (by omega)]
 simpa using h
theorem Xbc {α:Type}(xs:List α)(x:α):atD (xs++[x]) (-1)=some x:=by
 unfold atD ixD
 rw [if_neg (by omega),if_pos (by simp;omega)]
 simp only [Option.bind_some]
 have:(-1+(((xs++[x]).length:Nat):Int)).toNat=xs.length:=by simp;omega
 rw [this]
 simp
theorem Xso {xs:List D}{i:Int}{k:Nat}{x:D}(e:i=(k:Int))(h:xs[k]?=some x):gIx (.lst xs) (.int i)=some x:=Zpp e h
theorem Xnt {xs:List D}{i:Int}{k:Nat}{x:D}(e:i=(k:Int))(h:xs[k]?=some x):gIx (.tup xs) (.int i)=some x:=Zpp e h
@[simp] theorem ixL_l (xs:List D)(y:D):Xir (.lst xs) y=gIx (.lst xs) y:=(rfl)
@[simp] theorem listV_l (xs:List D):Xpa [.lst xs]=some (.lst xs):=(rfl)
@[simp] theorem Xka (xs:List D)(x:D):gIx (.lst (xs++[x])) (.int (-1))=some x:=Xbc xs x
theorem Zay {ns:List Int}{i:Int}{k:Nat}(e:i=(k:Int))(h:k<ns.length):gIx (.lst (ns.map D.int)) (.int i)=some (.int (ns.getD k 0)):=Xso e (by simp [h,List.getD])
theorem Zks {ns:List Int}(h:ns≠[]):gIx (.lst (ns.map D.int)) (.int (-1))=some (.int (ns.getD (ns.length - 1) 0)):=by
 have e:=List.dropLast_concat_getLast h
 have e2:ns.getD (ns.length - 1) 0=ns.getLast h:=by
  have hl:ns.length - 1<ns.length:=by have:=List.length_pos_iff.mpr h;omega
  rw [List.getLast_eq_getElem]
  simp [List.getD,hl]
 rw [e2]
 conv=>lhs;rw [← e,map_append,List.map_singleton]
 exact Xka _ _
@[simp] theorem Xqc (a:D)(r:List D):gIx (.lst (a::r)) (.int 0)=some a:=Xso (k:=0) rfl rfl
theorem Xie {α β:Type}(f:α→β)(xs:List α)(lo hi:Option Int):cut (xs.map f) lo hi=(cut xs lo hi).map f:=by
 unfold cut
 rw [length_map,map_take,map_drop]
theorem Xss {α:Type}{xs:List α}{a b:Int}(h0:0≤a)(h1:a≤b)(h2:b≤xs.length):cut xs (some a) (some b)=(xs.drop a.toNat).take (b.toNat - a.toNat):=by
 unfold cut Xnn
 simp only []
 rw [if_neg (by omega),if_neg (by omega),Nat.min_eq_left (by omega),Nat.min_eq_left (by omega)]
theorem Xrw {α:Type}{xs:List α}{b:Int}(h0:0≤b):cut xs none (some b)=xs.take b.toNat:=by
 unfold cut Xnn
 simp only []
 rw [if_neg (by omega),drop_zero,Nat.sub_zero]
 by_cases h:b.toNat≤xs.length
 ·rw [Nat.min_eq_left h]
 ·rw [Nat.min_eq_right (by omega),take_of_length_le (le_refl _),take_of_length_le (by omega)]
@[simp] theorem sl_ints (ns:List Int)(lo hi:Option Int):gSl (.lst (ns.map D.int)) lo hi=some (.lst ((cut ns lo hi).map D.int)):=by
 simp [gSl,Xie]
@[simp] theorem sl_scr (ns:List Int)(lo hi:Option Int):gSl (.scr ns) lo hi=some (.lst ((cut ns lo hi).map D.int)):=(rfl)
@[simp] theorem gLst_0:Zae []=some (.lst []):=rfl
@[simp] theorem gLst_1 (a:D):Zae [a]=some (.lst [a]):=rfl
@[simp] theorem gLst_2 (a b:D):Zae [a,b]=some (.lst [a,b]):=rfl
@[simp] theorem gLst_3 (a b c:D):Zae [a,b,c]=some (.lst [a,b,c]):=rfl
@[simp] theorem gLst_4 (a0 a1 a2 a3:D):Zae [a0,a1,a2,a3]=some (.lst [a0,a1,a2,a3]):=rfl
@[simp] theorem gLst_5 (a0 a1 a2 a3 a4:D):Zae [a0,a1,a2,a3,a4]=some (.lst [a0,a1,a2,a3,a4]):=rfl
@[simp] theorem gLst_6 (a0 a1 a2 a3 a4 a5:D):Zae [a0,a1,a2,a3,a4,a5]=some (.lst [a0,a1,a2,a3,a4,a5]):=rfl
@[simp] theorem gLst_10 (a0 a1 a2 a3 a4 a5 a6 a7 a8 a9:D):Zae [a0,a1,a2,a3,a4,a5,a6,a7,a8,a9]=some (.lst [a0,a1,a2,a3,a4,a5,a6,a7,a8,a9]):=rfl
@[simp] theorem gLst_11 (a0 a1 a2 a3 a4 a5 a6 a7 a8 a9 a10:D):Zae [a0,a1,a2,a3,a4,a5,a6,a7,a8,a9,a10]=some (.lst [a0,a1,a2,a3,a4,a5,a6,a7,a8,a9,a10]):=rfl
@[simp] theorem gTup_2 (a b:D):Zhb [a,b]=some (.tup [a,b]):=rfl
@[simp] theorem gTup_3 (a b c:D):Zhb [a,b,c]=some (.tup [a,b,c]):=rfl
@[simp] theorem gTup_4 (a b c d:D):Zhb [a,b,c,d]=some (.tup [a,b,c,d]):=rfl
@[simp] theorem Zge {α β:Type}(a:α)(f:α→R β):((R.ok a).calm).bind f=f a:=(rfl)
theorem Zek {b:FB}{s:FS}{xs:List D}{P:Nat→Env→Prop}{Rr:R Fl→Prop}{ρ:Env}(h0:P 0 ρ)
  (hs:∀i x ρ,xs[i]?=some x→P i ρ→∃ρ1,b x ρ=.ok ρ1∧((∃ρ2,(s ρ1=.ok (.nx ρ2)∨s ρ1=.ok (.cnt ρ2))∧P (i+1) ρ2)∨(∃d,s ρ1=.ok (.ret d)∧Rr (.ok (.ret d)))∨∃ρ2,s ρ1=.ok (.brk ρ2)∧Rr (.ok (.nx ρ2))))
  (hd:∀ρ,P xs.length ρ→Rr (.ok (.nx ρ))):Rr (Zbr b s xs ρ):=by
 have key:∀n i ρ,n+i=xs.length→P i ρ→Rr (Zbr b s (xs.drop i) ρ):=by
  intro n
  induction n with
  | zero =>
   intro i ρ hn p
   rw [List.drop_of_length_le (by omega)]
   have e:i=xs.length:=by omega
   subst e
   exact hd ρ p
  | succ n ih =>
   intro i ρ hn p
   have hi:i<xs.length:=by omega
   rw [drop_eq_getElem_cons hi,Zet]
   obtain ⟨ρ1,e1,h⟩:=hs i xs[i] ρ (getElem?_eq_getElem hi) p
   rw [e1,Zge]
   rcases h with ⟨ρ2,e2 | e2,p2⟩ | ⟨d,e2,p2⟩ | ⟨ρ2,e2,p2⟩
   ·rw [e2];exact ih (i+1) ρ2 (by omega) p2
   ·rw [e2];exact ih (i+1) ρ2 (by omega) p2
   ·rw [e2];exact p2
   ·rw [e2];exact p2
 have:=key xs.length 0 ρ (by omega) h0
 simpa using this
theorem Xfd {lo:Int}{n i:Nat}(h:i<n):(Zgc lo n)[i]?=some (.int (lo+i)):=by simp [Zgc,h]
theorem Zkz {lo:Int}{n i:Nat}{x:D}(h:(Zgc lo n)[i]?=some x):i<n∧x=.int (lo+i):=by
 have hi:=(List.getElem?_eq_some_iff.mp h).1
 have hn:i<n:=by simpa [Zgc] using hi
 rw [Xfd hn] at h
 exact ⟨hn,(Option.some.inj h).symm⟩
@[simp] theorem Zaw (lo:Int)(n:Nat):(Zgc lo n).length=n:=by simp [Zgc]
theorem Xld {k:Nat}{b:FB}{c:FT}{e:FE}{ρ:Env}{α:Type}{enc:α→D}{ρ1:α→Env}{p:α→Bool}{v:α→D}{xs:List α}(h:∀x∈xs,b (enc x) (ρ++List.replicate k none)=.ok (ρ1 x)∧c (ρ1 x)=.ok (p x)∧(p x=true→e (ρ1 x)=.ok (v x))):Zeo k b c e ρ (xs.map enc)=.ok ((xs.filter p).map v):=by
 induction xs with
 | nil=>rfl
 | cons x xs ih =>
  obtain ⟨h0,h1,h2⟩:=h x (.head _)
  have ih:=ih fun y hy=>h y (.tail _ hy)
  rw [map_cons]
  unfold Zeo
  rw [h0,Zge,h1]
  cases hp:p x with
  | false=>simp [ih,hp]
  | true=>simp [ih,hp,h2 hp]
theorem Xex {n:Nat}{c:FT}{e:FE}{ρ:Env}{α:Type}{enc:α→D}{p:α→Bool}{v:α→D}{xs:List α}(hn:ρ.length=n)(h:∀x∈xs,c (ρ++[some (enc x)])=.ok (p x)∧(p x=true→e (ρ++[some (enc x)])=.ok (v x))):Zeo 1 (Xe n) c e ρ (xs.map enc)=.ok ((xs.filter p).map v):=
  Xld (ρ1:=fun x=>ρ++[some (enc x)]) fun x hx=>⟨by
    show R.ok ((ρ++[none]).set n (some (enc x)))=_
    rw [← hn,set_append_right _ _ (le_refl _),sub_self]
    rfl,h x hx⟩
theorem Zqx {n:Nat}{e:FE}{ρ:Env}{α:Type}{enc:α→D}{v:α→D}{xs:List α}(hn:ρ.length=n)(h:∀x∈xs,e (ρ++[some (enc x)])=.ok (v x)):Zeo 1 (Xe n) Ztz e ρ (xs.map enc)=.ok (xs.map v):=by
 have:=Xex (p:=fun _=>true) (c:=Ztz) hn (xs:=xs) (enc:=enc) (e:=e) (v:=v) fun x hx=>⟨rfl,fun _=>h x hx⟩
 rw [this,List.filter_eq_self.mpr fun _ _=>rfl]
theorem Xed {c:FT}{s:FS}{ρ:Env}{n:Nat}(m:Nat)(st:Nat→Env)(h0:st 0=ρ)(hn:m<n)(hs:∀i,i<m→c (st i)=.ok true∧s (st i)=.ok (.nx (st (i+1))))(hd:c (st m)=.ok false):Zbp c s n ρ=.ok (.nx (st m)):=by
 have key:∀k i n,k+i=m→k<n→Zbp c s n (st i)=.ok (.nx (st m)):=by
  intro k
  induction k with
  | zero =>
   intro i n hi hn
   have e:i=m:=by omega
   subst e
   obtain ⟨n,rfl⟩:∃k,n=k+1:=⟨n - 1,by omega⟩
   simp [Zbp,hd]
  | succ k ih =>
   intro i n hi hn
   obtain ⟨n,rfl⟩:∃k,n=k+1:=⟨n - 1,by omega⟩
   obtain ⟨h1,h2⟩:=hs i (by omega)
   simp only [Zbp,h1,Zvd,if_true,h2]
   exact ih (i+1) n (by omega) (by omega)
 rw [← h0]
 exact key m 0 n (by omega) hn
theorem Xf {i:Nat}{e:FE}{ρ:Env}{d:D}(h:e ρ=.ok d):Yt i e ρ=.ok (.nx (ρ.set i (some d))):=by rw [Xho,h];rfl
theorem Zq {a b:FS}{ρ ρ':Env}{r:R Fl}(h:a ρ=.ok (.nx ρ'))(h2:b ρ'=r):Xt a b ρ=r:=by rw [Zyi,h];exact h2
theorem Zcz {g:D→Option D}{a:FE}{ρ:Env}{x z:D}(ha:a ρ=.ok x)(h:g x=some z):f1 g a ρ=.ok z:=by rw [ev_f1,ha];show oR (g x)=_;rw [h];rfl
theorem Zm {g:D→D→Option D}{a b:FE}{ρ:Env}{x y z:D}(ha:a ρ=.ok x)(hb:b ρ=.ok y)(h:g x y=some z):f2 g a b ρ=.ok z:=by rw [ev_f2,ha,hb];show oR (g x y)=_;rw [h];rfl
theorem Zbs {g:List D→Option D}{a:FA}{ρ:Env}{xs:List D}{z:D}(ha:a ρ=.ok xs)(h:g xs=some z):fA g a ρ=.ok z:=by rw [ev_fA,ha];show oR (g xs)=_;rw [h];rfl
theorem Zd {a:FE}{r:FA}{ρ:Env}{x:D}{xs:List D}(ha:a ρ=.ok x)(hr:r ρ=.ok xs):Zc a r ρ=.ok (x::xs):=by rw [Xea,ha,hr];rfl
theorem Zs {F:List D→R D}{a:FA}{ρ:Env}{xs:List D}{d:D}(ha:a ρ=.ok xs)(h:F xs=.ok d):Xb F a ρ=.ok d:=by rw [Xal,ha];exact h
theorem Jl {a:FE}{ρ:Env}{b:Bool}(h:a ρ=.ok (.bl b)):cE a ρ=.ok b:=by rw [ev_cE,h];rfl
theorem Zci {c:FT}{a b:FS}{ρ:Env}{r:R Fl}(hc:c ρ=.ok true)(h:a ρ=r):sIf c a b ρ=r:=by rw [Xgp,hc];exact h
theorem Yu {c:FT}{a b:FS}{ρ:Env}{r:R Fl}(hc:c ρ=.ok false)(h:b ρ=r):sIf c a b ρ=r:=by rw [Xgp,hc];exact h
theorem Zgo {i:Nat}{e:FE}{ρ:Env}{xs:List D}{d:D}(hv:fV i ρ=.ok (.lst xs))(h:e ρ=.ok d)(hl:xs.length<lim):Zlg i e ρ=.ok (.nx (ρ.set i (some (.lst (xs++[d]))))):=by rw [Xnf,hv,h];exact if_pos hl
theorem Jd {e:FE}{ρ:Env}{d:D}(h:e ρ=.ok d):Zal e ρ=.ok (.ret d):=by rw [Xmw,h];rfl
theorem Zzu {a:FA}{ρ:Env}{j:Int}(h:a ρ=.ok [.int j])(h1:-1000000000≤j∧j≤1000000):Zlk a ρ=.ok (Zgc 0 j.toNat):=by rw [Xcs,h];exact if_pos h1
theorem Zch {it:FI}{b:FB}{s:FS}{ρ:Env}{xs:List D}{r:R Fl}(h:it ρ=.ok xs)(h2:Zbr b s xs ρ=r):Ziv it b s ρ=r:=by rw [Xiv,h];exact h2
theorem Ji {N:Nat}{q:FS}{ds:List D}{d:D}(h:q (ds.map some++List.replicate (N - ds.length) none)=.ok (.ret d)):(run N q ds).calm=.ok d:=by unfold run;rw [h];rfl
theorem Zqf {a b:Int}(h0:0≤a)(h1:a≤1000000):Zck (.int a) (.int b)=some (.int (a*b)):=Xhb (.inl ⟨by omega,by omega⟩)
theorem Zjm {a b:FS}{ρ:Env}{d:D}(h:a ρ=.ok (.ret d)):Xt a b ρ=.ok (.ret d):=by rw [Zyi,h];rfl
theorem mulR {a b:Int}(h0:0≤b)(h1:b≤1000000):Zck (.int a) (.int b)=some (.int (a*b)):=Xhb (.inr ⟨by omega,by omega⟩)
theorem Jk {a:FE}{ρ:Env}{xs:List D}(h:a ρ=.ok (.lst xs))(hl:xs.length≤lim):Jj a ρ=.ok xs:=by rw [Xej,h];exact if_pos hl
theorem Xsk {i:Nat}{g:D→D→Option D}{e:FE}{ρ:Env}{v d z:D}(hv:fV i ρ=.ok v)(he:e ρ=.ok d)(h:g v d=some z):Xfy i g e ρ=.ok (.nx (ρ.set i (some z))):=by simp [hv,he,h]
theorem Xlm {p:Prop}[Decidable p](h:p):some (D.bl (decide p))=some (D.bl true):=congrArg (fun b=>some (D.bl b)) (decide_eq_true h)
theorem Zug {p:Prop}[Decidable p](h:¬p):some (D.bl (decide p))=some (D.bl false):=congrArg (fun b=>some (D.bl b)) (decide_eq_false h)
theorem Zig {a:FT}{ρ:Env}{b:Bool}(h:a ρ=.ok b):Zwi a ρ=.ok (!b):=by rw [Xhu,h];rfl
theorem Zdi {a b:FT}{ρ:Env}{r:R Bool}(h:a ρ=.ok false)(h2:b ρ=r):cOr a b ρ=r:=by rw [Xgi,h];exact h2
theorem Xpi {e:FE}{b:FB}{ρ ρ':Env}{d:D}(h:e ρ=.ok d)(hb:b d ρ=.ok ρ'):Xmm e b ρ=.ok (.nx ρ'):=by
 unfold Xmm
 rw [h]
 show (b d ρ).calm.bind _=_
 rw [hb]
 rfl
theorem Xtu {a:FA}{ρ:Env}{ds xs:List D}(h:a ρ=.ok ds)(h1:Zpy ds=.ok xs):Zxw a ρ=.ok xs:=by rw [Xew,h];exact h1
theorem Zjt {n k:Nat}{it:FI}{b:FB}{c:FT}{e:FE}{ρ:Env}{xs ys:List D}(hn:ρ.length=n)(h:it ρ=.ok xs)(h1:Zeo k b c e ρ xs=.ok ys):Zcg n k it b c e ρ=.ok (.lst ys):=by
 rw [Xca,if_pos hn,h]
 show (Zeo k b c e ρ xs).calm.bind _=_
 rw [h1]
 rfl
theorem Xoe {a b:FT}{ρ:Env}(h:a ρ=.ok true):cOr a b ρ=.ok true:=by rw [Xgi,h];rfl
set_option genInjectivity true in
structure Kd where
 name:Str
 w:Int
 wo:Int
 al:Int
noncomputable def kD (k:Kd):D:=.tup [.str k.name,.int k.w,.int k.wo,.int k.al]
noncomputable def iD (ns:List Int):D:=.lst (ns.map D.int)
noncomputable def tD (ks:List Kd):D:=.lst (ks.map kD)
noncomputable def pD (p:Int×Str):D:=.tup [.int p.1,.str p.2]
noncomputable def psD (ps:List (Int×Str)):D:=.lst (ps.map pD)
@[simp] theorem flat_kD (k:Kd):flat (kD k)=true:=rfl
@[simp] theorem flat_pD (k:Int×Str):flat (pD k)=true:=rfl
@[simp] theorem Xeg (k:Kd):Ye (kD k)=some (kD k):=rfl
@[simp] theorem gFlat_pD (k:Int×Str):Ye (pD k)=some (pD k):=rfl
@[simp] theorem flatA_kD (ks:List Kd):Xw (ks.map kD)=true:=Zbl (fun _=>rfl) ks
@[simp] theorem Xdk (ks:List (Int×Str)):Xw (ks.map pD)=true:=Zbl (fun _=>rfl) ks
@[simp] theorem kD_0 (k:Kd):gIx (kD k) (.int 0)=some (.str k.name):=Xnt (k:=0) rfl rfl
@[simp] theorem Xbk (k:Kd):gIx (kD k) (.int 1)=some (.int k.w):=Xnt (k:=1) rfl rfl
@[simp] theorem Xlt (k:Kd):gIx (kD k) (.int 2)=some (.int k.wo):=Xnt (k:=2) rfl rfl
@[simp] theorem kD_3 (k:Kd):gIx (kD k) (.int 3)=some (.int k.al):=Xnt (k:=3) rfl rfl
@[simp] theorem Xqh (k:Int×Str):gIx (pD k) (.int 0)=some (.int k.1):=Xnt (k:=0) rfl rfl
@[simp] theorem pD_1 (k:Int×Str):gIx (pD k) (.int 1)=some (.str k.2):=Xnt (k:=1) rfl rfl
noncomputable def pre (ns:List Int)(i:Nat):Int:=(ns.take i).sum
theorem Zwb (ns:List Int)(a b:Nat)(h:a≤b):((ns.drop a).take (b - a)).sum=pre ns b - pre ns a:=by
 unfold pre
 have e:ns.take b=ns.take a++(ns.drop a).take (b - a):=by
  have:=List.take_add (l:=ns) (i:=a) (j:=b - a)
  rw [show a+(b - a)=b by omega] at this
  exact this
 rw [e,sum_append]
 omega
noncomputable def good (ns:List Int)(k:Kd)(p:Int):Bool:=decide (0≤p∧p+k.w≤ns.length∧pre ns (p+k.w).toNat - pre ns p.toNat≤k.al)
theorem Zui {ns:List Int}{b e:Int}(h0:0≤b)(h1:b≤e)(h2:e≤ns.length):Zde [iD ns,.int b,.int e]=.ok (.int (pre ns e.toNat - pre ns b.toNat)):=by
 have a1:¬b<0:=by omega
 have a2:¬(ns.length:Int)<e:=by omega
 have a3:¬e<b:=by omega
 simp [-map_take,-map_drop,Zde,Zqd,iD,a1,a2,a3,Xss h0 h1 h2,Zwb _ _ _ (show b.toNat≤e.toNat by omega)]
theorem Zzf (ns:List Int)(k:Kd)(p:Int)(hw:1≤k.w):Zga [iD ns,kD k,.int p]=.ok (.bl (good ns k p)):=by
 have l1:Zcc [iD ns]=some (.int ns.length):=by simp [iD]
 by_cases h0:p<0
 ·have e:good ns k p=false:=decide_eq_false (by omega)
  rw [e]
  exact Ji (Zq (Xf (Zm rfl (Zm rfl rfl (Xbk k)) rfl)) (Zjm (Zci (Xoe (Jl (Zm rfl rfl (Xlm h0)))) (Jd rfl))))
 ·by_cases h1:(ns.length:Int)<p+k.w
  ·have e:good ns k p=false:=decide_eq_false (by omega)
   rw [e]
   exact Ji (Zq (Xf (Zm rfl (Zm rfl rfl (Xbk k)) rfl)) (Zjm (Zci (Zdi (Jl (Zm rfl rfl (Zug h0))) (Jl (Zm rfl (Zbs (Zd rfl rfl) l1) (Xlm h1)))) (Jd rfl))))
  ·have hs:=Zui (ns:=ns) (b:=p) (e:=p+k.w) (by omega) (by omega) (by omega)
   have e:good ns k p=decide (pre ns (p+k.w).toNat - pre ns p.toNat≤k.al):=by
    unfold good
    apply decide_eq_decide.mpr
    constructor
    ·exact fun z=>z.2.2
    ·exact fun z=>⟨by omega,by omega,z⟩
   rw [e]
   exact Ji (Zq (Xf (Zm rfl (Zm rfl rfl (Xbk k)) rfl)) (Zq (Yu (Zdi (Jl (Zm rfl rfl (Zug h0))) (Jl (Zm rfl (Zbs (Zd rfl rfl) l1) (Zug h1)))) rfl) (Jd (Zm (Zs (Zd rfl (Zd rfl (Zd rfl rfl))) hs) (Zm rfl rfl (kD_3 k)) rfl))))
theorem Xco (i:Int):Yk [.int i]=.ok (.bl true):=by simp [Yk,Zcy]
theorem Zwt (ns:List Int)(hn:ns.length≤63){i:Int}(h0:0≤i)(h1:i<1000000):∃n:Int,Jy [.scr ns,.int i]=.ok (.int n):=by
 have c:(cE (f2 gLt (fV 1) (fA Zcc (Zc (fV 0) Zt)))) [some (.scr ns),some (.int i),none,none]=.ok (decide (i<ns.length)):=Jl (Zm rfl (Zbs (Zd rfl rfl) rfl) rfl)
 by_cases h:i<ns.length
 ·have hi:i.toNat<ns.length:=(toNat_lt h0).mpr h
  have e:gIx (.scr ns) (.int i)=some (.int (ns.getD i.toNat 0)):=congrArg (Option.map D.int) (Zpp (k:=i.toNat) (Int.toNat_of_nonneg h0).symm (by simp [List.getD,hi]))
  exact ⟨_,Ji (Zjm (Zci (c.trans (congrArg Dl.R.ok (decide_eq_true h))) (Jd (Zcz (Zm rfl rfl e) rfl))))⟩
 ·have key:∃seed:Int,∃o,Zbr (Xe 3) Zei ((ns.take 63).map D.int) [some (.scr ns),some (.int i),some (.int 5),none]=.ok (.nx [some (.scr ns),some (.int i),some (.int seed),o]):=by
   refine Zek (P:=fun _ ρ=>∃seed:Int,∃o,ρ=[some (.scr ns),some (.int i),some (.int seed),o]) (Rr:=fun r=>∃seed:Int,∃o,r=.ok (.nx [some (.scr ns),some (.int i),some (.int seed),o])) ⟨5,none,rfl⟩ ?_ ?_
   ·rintro j x ρ hx ⟨seed,o,rfl⟩
    rw [getElem?_map] at hx
    obtain ⟨y,hy,rfl⟩:=Option.map_eq_some_iff.mp hx
    exact ⟨_,rfl,.inl ⟨_,.inl (Xf (Zm (Zm (Zm (Zm rfl rfl (mulR (by decide) (by decide))) (Zm rfl rfl (Zce (by decide))) rfl) rfl rfl) rfl (Zce (by decide)))),_,_,rfl⟩⟩
   ·rintro ρ ⟨seed,o,rfl⟩
    exact ⟨seed,o,rfl⟩
  obtain ⟨seed,o,e⟩:=key
  have hc:cut ns none (some 63)=ns.take 63:=Xrw (by decide)
  have hl:(Jj (fSl gSl (fV 0) Zwd (Zpn (fC (.int 63))))) [some (.scr ns),some (.int i),some (.int 5),none]=.ok ((ns.take 63).map D.int):=by
   have hm:min 63 ns.length≤lim:=by show _≤1000000;omega
   simp [-map_take,hc,hm]
  exact ⟨_,Ji (Zq (Yu (c.trans (congrArg Dl.R.ok (decide_eq_false h))) rfl) (Zq (Xf rfl) (Zq (Zch hl e) (Jd (Zm (Zm rfl (Zm rfl rfl (Zqf (by decide) (by decide))) rfl) rfl (Zce (by decide)))))))⟩
theorem Xgv (c:Int){k:Int}(h0:0≤k)(h1:k<1000000):∃n:Int,Zaq [.int c,.int k]=.ok (.int n):=by
 have n0:0≤c % 2147483629+1013*k+7919:=add_nonneg (add_nonneg (emod_nonneg _ (by decide)) (mul_nonneg (by decide) h0)) (by decide)
 have n1:c % 2147483629+1013*k+7919<2147483629+1013*1000000+7919:=Int.add_lt_add_right (Int.add_lt_add_of_lt_of_le (emod_lt_of_pos _ (by decide)) (Int.mul_le_mul_of_nonneg_left (Int.le_of_lt h1) (by decide))) _
 have b:(c % 2147483629+1013*k+7919).natAbs<2 ^ 64:=Int.ofNat_lt.mp (by rw [Int.natAbs_of_nonneg n0];exact Int.lt_trans n1 (by decide))
 have e1:=Zmu (i:=c % 2147483629+1013*k+7919) (j:=3) (by decide) (by decide) b
 exact ⟨_,Ji (Zq (Xf (Zm (Zm (Zm (Zm (Zm rfl rfl (Zce (by decide))) (Zm rfl rfl (Zqf (by decide) (by decide))) rfl) rfl rfl) rfl e1) rfl (Zce (by decide)))) (Zq (Xf (Zm (Zm (Zm (Zm rfl rfl (mulR (by decide) (by decide))) (Zm (Zm rfl rfl (Zqf (by decide) (by decide))) rfl (mulR h0 (Int.le_of_lt h1))) rfl) rfl rfl) rfl (Zce (by decide)))) (Jd (Zm rfl rfl (div_ii (by decide) (by decide))))))⟩
structure Row (ms os:List Int):Prop where
 len:os.length=ms.length
 at_:∀k,k<ms.length→0≤os.getD k 0∧os.getD k 0<ms.getD k 0
theorem Row.nil (ms:List Int):Row (ms.take 0) []:=⟨by simp,fun k hk=>by simp at hk⟩
theorem Row.all {ms os:List Int}(h:Row (ms.take ms.length) os):Row ms os:=by
 rw [List.take_length] at h
 exact h
theorem Row.push {ms os:List Int}{k:Nat}{v:Int}(h:Row (ms.take k) os)(hk:k<ms.length)(h0:0≤v)(h1:v<ms.getD k 0):Row (ms.take (k+1)) (os++[v]):=by
 have hl:=h.len
 rw [length_take] at hl
 have hm:min k ms.length=k:=by omega
 have hm':min (k+1) ms.length=k+1:=by omega
 refine ⟨by rw [length_append,length_take,hm',length_singleton];omega,fun j hj=>?_⟩
 rw [length_take,hm'] at hj
 by_cases e:j=k
 ·subst e
  have e1:(os++[v]).getD j 0=v:=by
   have:os.length=j:=by omega
   simp [List.getD,← this]
  have e2:(ms.take (j+1)).getD j 0=ms.getD j 0:=by simp [List.getD,getElem?_take]
  rw [e1,e2]
  exact ⟨h0,h1⟩
 ·have hj':j<k:=by omega
  have q:=h.at_ j (by rw [length_take];omega)
  have e1:(os++[v]).getD j 0=os.getD j 0:=by
   have:j<os.length:=by omega
   simp [List.getD,getElem?_append_left this]
  have e2:(ms.take (k+1)).getD j 0=(ms.take k).getD j 0:=by
   have h1:j<k+1:=by omega
   simp [List.getD,getElem?_take,hj',h1]
  rw [e1,e2]
  exact q
theorem Zbf {P:Int→Prop}{ws:List Int}{i:Nat}(h:∀w∈ws,P w)(hi:i<ws.length):P (ws.getD i 0):=by
 have e:ws.getD i 0=ws[i]:=by simp [List.getD,hi]
 rw [e]
 exact h _ (getElem_mem hi)
theorem Xhw (ns:List Int)(hn:ns.length≤63){i:Int}(h0:0≤i)(h1:i<1000)(ms:List Int)(hm:ms.length≤2000)(hms:∀m∈ms,0<m∧m<2 ^ 200):∃os,Ya [.scr ns,.int i,iD ms]=.ok (iD os)∧Row ms os:=by
 obtain ⟨c,hc⟩:=Zwt ns hn h0 (show i<1000000 by omega)
 have key:=Zek (b:=Xe 6) (s:=Zfw) (xs:=Zgc 0 ms.length) (ρ:=[some (.scr ns),some (.int i),some (iD ms),some (.int c),some (.int c),some (.lst []),none,none])
  (P:=fun k ρ=>∃(l:Int) (os:List Int) (o6 o7:Option D),Row (ms.take k) os∧ρ=[some (.scr ns),some (.int i),some (iD ms),some (.int c),some (.int l),some (iD os),o6,o7])
  (Rr:=fun r=>∃(l:Int) (os:List Int) (o6 o7:Option D),Row ms os∧r=.ok (.nx [some (.scr ns),some (.int i),some (iD ms),some (.int c),some (.int l),some (iD os),o6,o7]))
  ⟨c,[],none,none,Row.nil ms,rfl⟩ ?_ ?_
 ·obtain ⟨l,os,o6,o7,hr,e⟩:=key
  refine ⟨os,?_,hr⟩
  have b1:-1000000000≤(ms.length:Int)∧(ms.length:Int)≤1000000:=by omega
  have gl:Zcc [iD ms]=some (.int ms.length):=by simp [iD]
  exact Ji (Zq (Xf (Zs (Zd rfl (Zd rfl rfl)) hc)) (Zq (Xf (Zcz rfl rfl)) (Zq (Xf rfl) (Zq (Zch (Zzu (Zd (Zbs (Zd rfl rfl) gl) rfl) b1) e) (Jd rfl)))))
 ·rintro k x ρ hx ⟨l,os,o6,o7,hr,rfl⟩
  obtain ⟨hk,rfl⟩:=Zkz hx
  rw [Int.zero_add]
  have hol:os.length=k:=by have:=hr.len;rw [length_take] at this;omega
  have hlim:(os.map D.int).length<lim:=by rw [length_map];show _<1000000;omega
  have c1:∀o5:Option D,(cE (f2 gLt (fV 3) (f2 Zjn (fC (.int 10)) (fC (.int 18))))) [some (.scr ns),some (.int i),some (iD ms),some (.int c),some (.int l),o5,some (.int k),o7]=.ok (decide (c<1000000000000000000)):=fun _=>Jl (Zm rfl (Zm rfl rfl Zgu) rfl)
  have ap:∀v:Int,iD (os++[v])=.lst (os.map D.int++[.int v]):=fun v=>congrArg D.lst map_append
  have hmk:=Zbf hms hk
  have ix:=Zay (ns:=ms) (i:=(k:Int)) (k:=k) rfl hk
  have md:∀z:Int,Zjb (.int z) (.int (ms.getD k 0))=some (.int (z % ms.getD k 0)):=fun z=>Zce hmk.1
  have nn:∀z:Int,0≤z % ms.getD k 0∧z % ms.getD k 0<ms.getD k 0:=fun z=>⟨emod_nonneg _ (Int.ne_of_gt hmk.1),emod_lt_of_pos _ hmk.1⟩
  have k0:0≤(k:Int)∧(k:Int)<1000000:=by omega
  obtain ⟨x1,hx1⟩:=Xgv c k0.1 k0.2
  obtain ⟨c2,hc2⟩:=Zwt ns hn (i:=(i+1+k) % 63) (emod_nonneg _ (by decide)) (Int.lt_trans (emod_lt_of_pos _ (by decide)) (by decide))
  obtain ⟨x2,hx2⟩:=Xgv c2 k0.1 k0.2
  refine ⟨_,rfl,.inl ?_⟩
  by_cases a1:c<1000000000000000000
  ·refine ⟨[some (.scr ns),some (.int i),some (iD ms),some (.int c),some (.int l),some (iD (os++[x1 % ms.getD k 0])),some (.int k),o7],.inl ?_,l,_,_,o7,hr.push hk (nn x1).1 (nn x1).2,rfl⟩
   rw [ap]
   exact Zci ((c1 _).trans (congrArg Dl.R.ok (decide_eq_true a1))) (Zgo rfl (Zm (Zs (Zd rfl (Zd rfl rfl)) hx1) (Zm rfl rfl ix) (md x1)) hlim)
  ·by_cases a2:0<l
   ·refine ⟨[some (.scr ns),some (.int i),some (iD ms),some (.int c),some (.int (l / ms.getD k 0)),some (iD (os++[l % ms.getD k 0])),some (.int k),o7],.inl ?_,_,_,_,o7,hr.push hk (nn l).1 (nn l).2,rfl⟩
    rw [ap]
    exact Yu ((c1 _).trans (congrArg Dl.R.ok (decide_eq_false a1))) (Zci (Jl (Zm rfl rfl (congrArg (fun b=>some (D.bl b)) (decide_eq_true a2)))) (Zq (Zgo rfl (Zm rfl (Zm rfl rfl ix) (md l)) hlim) (Xf (Zm rfl (Zm rfl rfl ix) (div_ii hmk.1 hmk.2)))))
   ·refine ⟨[some (.scr ns),some (.int i),some (iD ms),some (.int c),some (.int l),some (iD (os++[x2 % ms.getD k 0])),some (.int k),some (.int c2)],.inl ?_,l,_,_,_,hr.push hk (nn x2).1 (nn x2).2,rfl⟩
    rw [ap]
    exact Yu ((c1 _).trans (congrArg Dl.R.ok (decide_eq_false a1))) (Yu (Jl (Zm rfl rfl (congrArg (fun b=>some (D.bl b)) (decide_eq_false a2)))) (Zq (Xf (Zs (Zd rfl (Zd (Zm (Zm (Zm rfl rfl rfl) rfl rfl) rfl (Zce (by decide))) rfl)) hc2)) (Zgo rfl (Zm (Zs (Zd rfl (Zd rfl rfl)) hx2) (Zm rfl rfl ix) (md x2)) hlim)))
 ·rintro ρ ⟨l,os,o6,o7,hr,rfl⟩
  rw [Zaw] at hr
  exact ⟨l,os,o6,o7,hr.all,rfl⟩
theorem Zsa (ns:List Int)(hn:ns.length≤63){i:Int}(h0:0≤i)(h1:i<1000)(ms:List Int)(hm:ms.length≤1000)(hms:∀m∈ms,0<m∧m<2 ^ 200):∃os,Ya [.scr ns,.int i,iD ms]=.ok (iD os)∧Row ms os:=Xhw ns hn h0 h1 ms (le_trans hm (by decide)) hms
theorem Zfu (ws:List Int){i:Int}(h0:0≤i)(h1:i<ws.length):gIx (.lst (ws.map D.int)) (.int i)=some (.int (ws.getD i.toNat 0)):=Zay (by omega) (by omega)
theorem Zir (l:List Int):∀n:Nat,(List.replicate n l).flatten.length=n*l.length
 | 0=>by simp
 | n+1=>by rw [replicate_succ,flatten_cons,length_append,Zir l n,succ_mul,Nat.add_comm]
theorem Xis (l:List Int)(n:Nat):(List.replicate n (l.map D.int)).flatten=(List.replicate n l).flatten.map D.int:=by
 rw [List.map_flatten,List.map_replicate]
theorem Zvw {ws:List Int}{m:Int}(h0:0≤m)(h1:m≤200)(hl:ws.length≤1000):Zck (.lst (ws.map D.int)) (.int m)=some (iD (List.replicate m.toNat ws).flatten):=by
  simp only [Zck]
  rw [if_pos ⟨by omega,by
    rw [length_map]
    show ws.length*m.toNat≤1000000
    have:ws.length*m.toNat≤1000*200:=mul_le_mul hl (by omega)
    omega,by omega,Zfn ws⟩,Xis]
  rfl
theorem Zlc {xs ys:List Int}(h:xs.length+ys.length≤1000000):Jp (iD xs) (iD ys)=some (iD (xs++ys)):=by
 show (if (xs.map D.int).length+(ys.map D.int).length≤lim∧Xw (xs.map D.int)∧Xw (ys.map D.int) then some (D.lst (xs.map D.int++ys.map D.int)) else none)=_
 rw [if_pos ⟨by rw [length_map,length_map];exact h,Zfn _,Zfn _⟩,← map_append]
 rfl
theorem Zpx (x y:Int):∀(n k:Nat),k<n→(List.replicate n [x,y]).flatten.getD (2*k) 0=x∧(List.replicate n [x,y]).flatten.getD (2*k+1) 0=y
 | 0,k,h=>by omega
 | n+1,0,_=>by simp [replicate_succ,flatten_cons,List.getD]
 | n+1,k+1,h=>by
  have q:=Zpx x y n k (by omega)
  have e1:2*(k+1)=2*k+2:=by omega
  rw [replicate_succ,flatten_cons,e1]
  exact q
theorem Zrf (x y z:Int):∀(n k:Nat),k<n→(List.replicate n [x,y,z]).flatten.getD (3*k) 0=x∧(List.replicate n [x,y,z]).flatten.getD (3*k+1) 0=y∧(List.replicate n [x,y,z]).flatten.getD (3*k+2) 0=z
 | 0,k,h=>by omega
 | n+1,0,_=>by simp [replicate_succ,flatten_cons,List.getD]
 | n+1,k+1,h=>by
  have q:=Zrf x y z n k (by omega)
  have e1:3*(k+1)=3*k+3:=by omega
  rw [replicate_succ,flatten_cons,e1]
  exact q
theorem Zyx {l:List Int}{n:Nat}{z:Int}(h:z∈(List.replicate n l).flatten):z∈l:=by
 obtain ⟨l',hl,hz⟩:=List.mem_flatten.mp h
 rwa [(List.mem_replicate.mp hl).2] at hz
noncomputable def Zbh:List Str:=["a","ab","abc","b","ba","z","zzzzzzzz","roll","cut","by","aab","zz","kind","qsvw","fghjmp","x"]
theorem Xfb:∀j:Nat,j<16→∀k:Nat,k<16→Zbh.getD j ""=Zbh.getD k ""→j=k:=by decide +kernel
noncomputable def nameAt (s4 s5:Int)(k:Nat):Str:=Zbh.getD ((s4+(2*s5+1)*(k:Int)) % 16).toNat ""
theorem Xba:∀t:Nat,t<4→∀j:Nat,j<8→∀k:Nat,k<8→((2*(t:Int)+1)*j - (2*(t:Int)+1)*k) % 16=0→j=k:=by decide +kernel
theorem Zsx {s4 s5:Int}(h0:0≤s5)(h1:s5<4){j k:Nat}(hj:j<8)(hk:k<8)(e:nameAt s4 s5 j=nameAt s4 s5 k):j=k:=by
 have lt:∀x:Int,(x % 16).toNat<16:=fun x=>(toNat_lt (emod_nonneg x (by decide))).mpr (emod_lt_of_pos x (by decide))
 have q:=congrArg Int.ofNat (Xfb _ (lt _) _ (lt _) e)
 have q1:(s4+(2*s5+1)*(j:Int)) % 16=(s4+(2*s5+1)*(k:Int)) % 16:=(Int.toNat_of_nonneg (emod_nonneg _ (by decide))).symm.trans (q.trans (Int.toNat_of_nonneg (emod_nonneg _ (by decide))))
 have q2:=Int.emod_eq_emod_iff_emod_sub_eq_zero.mp q1
 rw [Int.add_sub_add_left] at q2
 obtain ⟨t,rfl⟩:=Int.eq_ofNat_of_zero_le h0
 exact Xba t (Int.ofNat_lt.mp h1) j hj k hk q2
theorem Zsu (s4 s5:Int)(k:Nat):nameAt s4 s5 k∈Zbh:=by
 unfold nameAt
 have h:((s4+(2*s5+1)*(k:Int)) % 16).toNat<Zbh.length:=by show _<16;omega
 have e:Zbh.getD ((s4+(2*s5+1)*(k:Int)) % 16).toNat ""=Zbh[((s4+(2*s5+1)*(k:Int)) % 16).toNat]:=by simp [List.getD,h]
 rw [e]
 exact getElem_mem h
structure Zrb (k:Kd):Prop where
 nm:k.name∈Zbh
 w1:1≤k.w
 w2:k.w≤200
 o1:1≤k.wo
 o2:k.wo≤1000000000000000000
 a1:0≤k.al
 a2:k.al<1000000000000000000
structure Xla (ks:List Kd):Prop where
 ok:∀k∈ks,Zrb k
 nd:(ks.map (·.name)).Nodup
theorem Xmo {i:Int}(h0:0≤i)(h1:i<16):gIx (.lst (Zbh.map D.str)) (.int i)=some (.str (Zbh.getD i.toNat "")):=Xso (k:=i.toNat) (by omega) (by
  have h:i.toNat<Zbh.length:=by show _<16;omega
  simp [List.getD,h])
theorem Zos {ms:List Int}(h:∀m∈ms,0<m∧m≤1000000):∀m∈ms,0<m∧m<2 ^ 200:=fun m hm=>⟨(h m hm).1,Int.lt_of_le_of_lt (h m hm).2 (by decide)⟩
theorem four {x:Int}(h:0≤x∧x<4):x=0∨x=1∨x=2∨x=3:=by
 obtain ⟨n,rfl⟩:=Int.eq_ofNat_of_zero_le h.1
 match n,Int.ofNat_lt.mp h.2 with
 | 0,_=>exact .inl rfl
 | 1,_=>exact .inr (.inl rfl)
 | 2,_=>exact .inr (.inr (.inl rfl))
 | 3,_=>exact .inr (.inr (.inr rfl))
theorem Zsf {x m:Int}(hm:0<m):0≤x % m∧x % m<m:=⟨emod_nonneg _ (Int.ne_of_gt hm),emod_lt_of_pos _ hm⟩
theorem Xdw {d0 d1 d2 o9 o10 o11 o12 o13:Option D}{O:D}{T:List D}{fl gn bw wd am x3 x4 x5 x6 x7 x8:Int}{k:Nat}{nm:Str}
    (j0:gIx O (.int (3*(k:Int)+6))=some (.int x6)) (j1:gIx O (.int (3*(k:Int)+6+1))=some (.int x7)) (j2:gIx O (.int (3*(k:Int)+6+2))=some (.int x8))
    (j3:gIx O (.int 3)=some (.int x3)) (j4:gIx O (.int 4)=some (.int x4)) (j5:gIx O (.int 5)=some (.int x5))
    (ib:gIx (.lst [.int 150,.int 200]) (.int ((k:Int) % 2))=some (.int bw))
    (iw:gIx (.lst [.int 1,.int 2,.int 3,.int 4,.int 5,.int 6,.int 2,.int 3,.int 11,.int 40,.int bw]) (.int x6)=some (.int wd))
    (ia:gIx (.lst [.int 0,.int 0,.int 1,.int 2,.int 3,.int 12]) (.int x8)=some (.int am))
    (iN:gIx (.lst (Zbh.map D.str)) (.int ((x4+(2*x5+1)*(k:Int)) % 16))=some (.str nm))
    (w1:1≤wd∧wd≤200) (c7:0≤x7∧x7<40) (c3:0≤x3∧x3<4) (c5:0≤x5∧x5<4) (m1:0≤am∧am≤12) (sl:T.length<lim) :
    ∃wo:Int,(1≤wo∧wo≤1000)∧Zbi [d0,d1,d2,some (.lst (Zbh.map D.str)),some O,some (.int fl),some (.int gn),some (.lst T),some (.int k),o9,o10,o11,o12,o13] =
      .ok (.nx [d0,d1,d2,some (.lst (Zbh.map D.str)),some O,some (.int fl),some (.int gn),some (.lst (T++[.tup [.str nm,.int wd,.int (min (wo*gn) 1000000000000000000),.int (min (am*fl) 999999999999999999)]])),some (.int k),some (.int (3*(k:Int)+6)),some (.int wd),some (.int wo),some (.int (min (am*fl) 999999999999999999)),some (.str nm)]):=by
  obtain ⟨wo,hb,mid⟩:∃wo:Int,(1≤wo∧wo≤1000)∧∀Q:FS,(Xt (sIf (cE (f2 gEq (f2 gIx (fV 4) (fC (.int 3))) (fC (.int 1)))) (Yt 11 (f2 Jp (f2 Zck (fC (.int 3)) (fV 10)) (f2 Zjb (f2 gIx (fV 4) (f2 Jp (fV 9) (fC (.int 1)))) (fC (.int 4))))) sNx)
    (Xt (sIf (cE (f2 gEq (f2 gIx (fV 4) (fC (.int 3))) (fC (.int 2)))) (Yt 11 (f2 Jp (fC (.int 1)) (f2 Zjb (f2 gIx (fV 4) (f2 Jp (fV 9) (fC (.int 1)))) (fC (.int 3))))) sNx)
    (Xt (sIf (cE (f2 gEq (f2 gIx (fV 4) (fC (.int 3))) (fC (.int 3)))) (Yt 11 (f1 Ye (fV 10))) sNx) Q))) [d0,d1,d2,some (.lst (Zbh.map D.str)),some O,some (.int fl),some (.int gn),some (.lst T),some (.int k),some (.int (3*(k:Int)+6)),some (.int wd),some (.int (1+x7)),o12,o13] =
      Q [d0,d1,d2,some (.lst (Zbh.map D.str)),some O,some (.int fl),some (.int gn),some (.lst T),some (.int k),some (.int (3*(k:Int)+6)),some (.int wd),some (.int wo),o12,o13]:=by
    rcases four c3 with rfl | rfl | rfl | rfl
    · exact ⟨1+x7,⟨Int.le_add_of_nonneg_right c7.1,Int.le_trans (Int.add_le_add_left (Int.le_of_lt c7.2) 1) (by decide)⟩,fun Q=>Zq (Yu (Jl (Zm (Zm rfl rfl j3) rfl rfl)) rfl) (Zq (Yu (Jl (Zm (Zm rfl rfl j3) rfl rfl)) rfl) (Zq (Yu (Jl (Zm (Zm rfl rfl j3) rfl rfl)) rfl) rfl))⟩
    · exact ⟨3*wd+x7 % 4,⟨Int.le_trans (show (1:Int)≤3*1+0 by decide) (Int.add_le_add (Int.mul_le_mul_of_nonneg_left w1.1 (by decide)) (Zsf (by decide)).1),Int.le_trans (Int.add_le_add (Int.mul_le_mul_of_nonneg_left w1.2 (by decide)) (Int.le_of_lt (Zsf (by decide)).2)) (by decide)⟩,fun Q=>Zq (Zci (Jl (Zm (Zm rfl rfl j3) rfl rfl)) (Xf (Zm (Zm rfl rfl (Zqf (by decide) (by decide))) (Zm (Zm rfl (Zm rfl rfl rfl) j1) rfl (Zce (by decide))) rfl))) (Zq (Yu (Jl (Zm (Zm rfl rfl j3) rfl rfl)) rfl) (Zq (Yu (Jl (Zm (Zm rfl rfl j3) rfl rfl)) rfl) rfl))⟩
    · exact ⟨1+x7 % 3,⟨Int.le_add_of_nonneg_right (Zsf (by decide)).1,Int.le_trans (Int.add_le_add_left (Int.le_of_lt (Zsf (by decide)).2) 1) (by decide)⟩,fun Q=>Zq (Yu (Jl (Zm (Zm rfl rfl j3) rfl rfl)) rfl) (Zq (Zci (Jl (Zm (Zm rfl rfl j3) rfl rfl)) (Xf (Zm rfl (Zm (Zm rfl (Zm rfl rfl rfl) j1) rfl (Zce (by decide))) rfl))) (Zq (Yu (Jl (Zm (Zm rfl rfl j3) rfl rfl)) rfl) rfl))⟩
    · exact ⟨wd,⟨w1.1,Int.le_trans w1.2 (by decide)⟩,fun Q=>Zq (Yu (Jl (Zm (Zm rfl rfl j3) rfl rfl)) rfl) (Zq (Yu (Jl (Zm (Zm rfl rfl j3) rfl rfl)) rfl) (Zq (Zci (Jl (Zm (Zm rfl rfl j3) rfl rfl)) (Xf (Zcz rfl rfl))) rfl))⟩
  exact ⟨wo,hb,Zq (Xf (Zm (Zm rfl rfl (Zqf (by decide) (by decide))) rfl rfl)) (Zq (Xf (Zcz (Zm (Zbs (Zd rfl (Zd rfl (Zd rfl (Zd rfl (Zd rfl (Zd rfl (Zd rfl (Zd rfl (Zd rfl (Zd rfl (Zd (Zm rfl (Zm rfl rfl (Zce (by decide))) ib) rfl))))))))))) rfl) (Zm rfl rfl j0) iw) rfl)) (Zq (Xf (Zm rfl (Zm rfl (Zm rfl rfl rfl) j1) rfl)) ((mid _).trans
    (Zq (Xf (Zbs (Zd (Zm (Zm rfl (Zm rfl (Zm rfl rfl rfl) j2) ia) rfl (Zqf m1.1 (Int.le_trans m1.2 (by decide)))) (Zd (Zm (Zm rfl rfl Zgu) rfl (show Zgm (.int 1000000000000000000) (.int 1)=some (.int 999999999999999999) from rfl)) rfl)) (Xfw _ _)))
    (Zq (Xf (Zcz (Zm rfl (Zm (Zm (Zm rfl rfl j4) (Zm (Zm (Zm rfl (Zm rfl rfl j5) (Zqf (by decide) (by decide))) rfl rfl) rfl (Zqf (add_nonneg (mul_nonneg (by decide) c5.1) (by decide)) (Int.le_trans (Int.add_le_add_right (Int.mul_le_mul_of_nonneg_left (Int.le_of_lt c5.2) (by decide)) 1) (by decide)))) rfl) rfl (Zce (by decide))) iN) rfl))
    (Zgo rfl (Zbs (Zd (Zcz rfl rfl) (Zd (Zcz rfl rfl) (Zd (Zbs (Zd (Zm rfl rfl (Zqf (Int.le_trans (by decide) hb.1) (Int.le_trans hb.2 (by decide)))) (Zd (Zm rfl rfl Zgu) rfl)) (Xfw _ _)) (Zd (Zcz rfl rfl) rfl)))) rfl) sl))))))⟩
theorem under {x m:Int}{k:Nat}(h:k<x.toNat)(hx:x<m+1):k<m.toNat:=by omega
theorem Zzt {P:Int→Prop}{l:List Int}{b:Int}(h:∀z∈l,P z)(hb:P b):∀z∈l++[b],P z:=List.forall_mem_append.mpr ⟨h,fun _ hz=>List.mem_singleton.mp hz▸hb⟩
theorem Xot {k j m:Nat}(h:k<m)(hj:j<3):3*k+(j+6)<6+m*3:=by omega
theorem Xao (ns:List Int)(hn:ns.length≤63){i m:Int}(h0:0≤i)(h1:i<1000)(m0:0≤m)(m1:m≤8):∃ks,Zac [.scr ns,.int i,.int m]=.ok (tD ks)∧(ks.length:Int)≤m∧Xla ks:=by
  have m8:m.toNat≤8:=Int.toNat_le.mpr m1
  have m24:6+m.toNat*3≤30:=Nat.add_le_add_left (Nat.mul_le_mul_right 3 m8) 6
  have ms_eq:Jp (iD [m+1,4,4,4,16,4]) (iD (List.replicate m.toNat [11,40,6]).flatten)=some (iD ([m+1,4,4,4,16,4]++(List.replicate m.toNat [11,40,6]).flatten)):=Zlc (by
    rw [Zir]
    exact le_trans m24 (by decide))
  have mr:=Zvw (ws:=[11,40,6]) m0 (Int.le_trans m1 (by decide)) (by decide)
  have hml:([m+1,4,4,4,16,4]++(List.replicate m.toNat [(11:Int),40,6]).flatten).length=6+m.toNat*3:=by rw [length_append,Zir];rfl
  obtain ⟨os,hos,R⟩:=Zsa ns hn h0 h1 ([m+1,4,4,4,16,4]++(List.replicate m.toNat [11,40,6]).flatten) (by rw [hml];exact le_trans m24 (by decide)) (Zos (List.forall_mem_append.mpr ⟨List.forall_mem_cons.mpr ⟨⟨Int.lt_add_one_of_le m0,Int.le_trans (Int.add_le_add_right m1 1) (by decide)⟩,by decide⟩,fun z hz=>(by decide:∀z∈[(11:Int),40,6],0<z∧z≤1000000) z (Zyx hz)⟩))
  have hol:os.length=6+m.toNat*3:=by rw [R.len,hml]
  have hlt:∀{j:Nat},j<6→j<([m+1,4,4,4,16,4]++(List.replicate m.toNat [(11:Int),40,6]).flatten).length:=fun h=>by rw [hml];exact lt_of_lt_of_le h (le_add_right _ _)
  have hlo:∀{j:Nat},j<6→j<os.length:=fun h=>by rw [hol];exact lt_of_lt_of_le h (le_add_right _ _)
  have tri:∀k j:Nat,k<m.toNat→j<3→3*k+(j+6)<6+m.toNat*3:=fun _ _ h hj=>Xot h hj
  have a0:0≤os.getD 0 0∧os.getD 0 0<m+1:=R.at_ 0 (hlt (by decide))
  have a1:0≤os.getD 1 0∧os.getD 1 0<4:=R.at_ 1 (hlt (by decide))
  have a2:0≤os.getD 2 0∧os.getD 2 0<4:=R.at_ 2 (hlt (by decide))
  have a3:0≤os.getD 3 0∧os.getD 3 0<4:=R.at_ 3 (hlt (by decide))
  have a4:0≤os.getD 4 0∧os.getD 4 0<16:=R.at_ 4 (hlt (by decide))
  have a5:0≤os.getD 5 0∧os.getD 5 0<4:=R.at_ 5 (hlt (by decide))
  have b3:∀k:Nat,k<m.toNat→(0≤os.getD (3*k+6) 0∧os.getD (3*k+6) 0<11)∧(0≤os.getD (3*k+7) 0∧os.getD (3*k+7) 0<40)∧(0≤os.getD (3*k+8) 0∧os.getD (3*k+8) 0<6):=fun k hk=>by
    obtain ⟨g1,g2,g3⟩:=Zrf 11 40 6 m.toNat k hk
    have e:∀j:Nat,([m+1,4,4,4,16,4]++(List.replicate m.toNat [(11:Int),40,6]).flatten).getD (j+6) 0=(List.replicate m.toNat [(11:Int),40,6]).flatten.getD j 0:=fun j=>rfl
    have r1:=R.at_ (3*k+6) (by rw [hml];exact tri k 0 hk (by decide))
    have r2:=R.at_ (3*k+7) (by rw [hml];exact tri k 1 hk (by decide))
    have r3:=R.at_ (3*k+8) (by rw [hml];exact tri k 2 hk (by decide))
    rw [e (3*k),g1] at r1
    rw [show 3*k+7=(3*k+1)+6 from rfl,e (3*k+1),g2] at r2
    rw [show 3*k+8=(3*k+2)+6 from rfl,e (3*k+2),g3] at r3
    exact ⟨r1,r2,r3⟩
  have ix:∀k:Nat,k<os.length→∀j:Int,j=(k:Int)→gIx (.lst (os.map D.int)) (.int j)=some (.int (os.getD k 0)):=fun k hk j e=>Zay e hk
  obtain ⟨fl,hfl⟩:∃fl,fl=([1,1,7,100000000000000000]:List Int).getD (os.getD 1 0).toNat 0:=⟨_,rfl⟩
  obtain ⟨gn,hgn⟩:∃gn,gn=([1,1,1000000,25000000000000000]:List Int).getD (os.getD 2 0).toNat 0:=⟨_,rfl⟩
  have fl1:1≤fl∧fl≤100000000000000000:=by
    rw [hfl]
    exact Zbf (P:=fun z=>1≤z∧z≤100000000000000000) (by decide) (show _<4 from (toNat_lt a1.1).mpr a1.2)
  have gn1:1≤gn∧gn≤25000000000000000:=by
    rw [hgn]
    exact Zbf (P:=fun z=>1≤z∧z≤25000000000000000) (by decide) (show _<4 from (toNat_lt a2.1).mpr a2.2)
  have i1:gIx (.lst [.int 1,.int 1,.int 7,.int 100000000000000000]) (.int (os.getD 1 0))=some (.int fl):=by rw [hfl];exact Zfu [1,1,7,100000000000000000] a1.1 a1.2
  have i2:gIx (.lst [.int 1,.int 1,.int 1000000,.int 25000000000000000]) (.int (os.getD 2 0))=some (.int gn):=by rw [hgn];exact Zfu [1,1,1000000,25000000000000000] a2.1 a2.2
  have key:=Zek (b:=Xe 8) (s:=Zbi) (xs:=Zgc 0 (os.getD 0 0).toNat) (ρ:=[some (.scr ns),some (.int i),some (.int m),some (.lst (Zbh.map D.str)),some (iD os),some (.int fl),some (.int gn),some (.lst []),none,none,none,none,none,none])
    (P:=fun k ρ=>∃(ks:List Kd) (o8 o9 o10 o11 o12 o13:Option D),ks.length=k∧(∀x∈ks,Zrb x)∧ks.map (·.name)=(List.range k).map (nameAt (os.getD 4 0) (os.getD 5 0))∧ρ=[some (.scr ns),some (.int i),some (.int m),some (.lst (Zbh.map D.str)),some (iD os),some (.int fl),some (.int gn),some (tD ks),o8,o9,o10,o11,o12,o13])
    (Rr:=fun r=>∃(ks:List Kd) (o8 o9 o10 o11 o12 o13:Option D),ks.length=(os.getD 0 0).toNat∧(∀x∈ks,Zrb x)∧ks.map (·.name)=(List.range ks.length).map (nameAt (os.getD 4 0) (os.getD 5 0))∧r=.ok (.nx [some (.scr ns),some (.int i),some (.int m),some (.lst (Zbh.map D.str)),some (iD os),some (.int fl),some (.int gn),some (tD ks),o8,o9,o10,o11,o12,o13]))
    ⟨[],none,none,none,none,none,none,rfl,(fun _ h=>nomatch h),rfl,rfl⟩ ?_ ?_
  · obtain ⟨ks,o8,o9,o10,o11,o12,o13,kl,kok,knm,e⟩:=key
    have k8:ks.length≤8:=by rw [kl];exact Int.toNat_le.mpr (Int.le_trans (Int.lt_add_one_iff.mp a0.2) m1)
    refine ⟨ks,?_,by rw [kl,Int.toNat_of_nonneg a0.1];exact Int.lt_add_one_iff.mp a0.2,kok,?_⟩
    · have b1:-1000000000≤os.getD 0 0∧os.getD 0 0≤1000000:=⟨Int.le_trans (by decide) a0.1,Int.le_trans (Int.lt_add_one_iff.mp a0.2) (Int.le_trans m1 (by decide))⟩
      have hp:Jp (.lst [.str ("a":Str),.str ("ab":Str),.str ("abc":Str),.str ("b":Str),.str ("ba":Str),.str ("z":Str),.str ("zzzzzzzz":Str),.str ("roll":Str),.str ("cut":Str),.str ("by":Str)]) (.lst [.str ("aab":Str),.str ("zz":Str),.str ("kind":Str),.str ("qsvw":Str),.str ("fghjmp":Str),.str ("x":Str)])=some (.lst (Zbh.map D.str)):=rfl
      have mr':Zck (.lst [.int 11,.int 40,.int 6]) (.int m)=_:=mr
      have ms':Jp (.lst [.int (m+1),.int 4,.int 4,.int 4,.int 16,.int 4]) (iD (List.replicate m.toNat [11,40,6]).flatten)=_:=ms_eq
      generalize iD ([m+1,4,4,4,16,4]++(List.replicate m.toNat [11,40,6]).flatten)=Mv at hos ms'
      generalize iD (List.replicate m.toNat [11,40,6]).flatten=Mw at mr' ms'
      exact Ji (Zq (Xf rfl) (Zq (Xf (Zm rfl rfl hp)) (Zq (Xf (Zs (Zd rfl (Zd rfl (Zd (Zm (Zbs (Zd (Zm rfl rfl rfl) rfl) rfl) (Zm rfl rfl mr') ms') rfl))) hos))
        (Zq (Xf (Zcz (Zm (Zbs (Zd rfl (Zd rfl (Zd rfl (Zd (Zm rfl rfl Zre) rfl)))) rfl) (Zm rfl rfl (ix 1 (hlo (by decide)) 1 rfl)) i1) rfl))
        (Zq (Xf (Zcz (Zm (Zbs (Zd rfl (Zd rfl (Zd (Zm rfl rfl (show Zjn (.int 10) (.int 6)=some (.int 1000000) by simp)) (Zd (Zm rfl (Zm rfl rfl Zzz) (show Zck (.int 25) (.int 1000000000000000)=some (.int 25000000000000000) from Zqf (by decide) (by decide))) rfl)))) rfl) (Zm rfl rfl (ix 2 (hlo (by decide)) 2 rfl)) i2) rfl))
        (Zq (Xf rfl) (Zq (Zch (Zzu (Zd (Zm rfl rfl (ix 0 (hlo (by decide)) 0 rfl)) rfl) b1) e) (Jd rfl))))))))
    · rw [knm,List.nodup_iff_pairwise_ne,List.pairwise_map]
      refine List.Pairwise.imp_of_mem ?_ (List.nodup_iff_pairwise_ne.mp List.nodup_range)
      intro i j hi hj hij e
      have hi:=List.mem_range.mp hi
      have hj:=List.mem_range.mp hj
      exact hij (Zsx a5.1 a5.2 (lt_of_lt_of_le hi (le_trans k8 (by decide))) (lt_of_lt_of_le hj (le_trans k8 (by decide))) e)
  · rintro k x ρ hx ⟨ks,o8,o9,o10,o11,o12,o13,kl,kok,knm,rfl⟩
    obtain ⟨hk,rfl⟩:=Zkz hx
    rw [Int.zero_add]
    have hkm:k<m.toNat:=under hk a0.2
    obtain ⟨c1,c2,c3⟩:=b3 k hkm
    have j0:=ix (3*k+6) (by rw [hol];exact tri k 0 hkm (by decide)) (3*k+6) rfl
    have j1:=ix (3*k+7) (by rw [hol];exact tri k 1 hkm (by decide)) (3*k+6+1) (Int.add_assoc _ 6 1)
    have j2:=ix (3*k+8) (by rw [hol];exact tri k 2 hkm (by decide)) (3*k+6+2) (Int.add_assoc _ 6 2)
    have j3:=ix 3 (hlo (by decide)) 3 rfl
    have j4:=ix 4 (hlo (by decide)) 4 rfl
    have j5:=ix 5 (hlo (by decide)) 5 rfl
    obtain ⟨bw,hbw⟩:∃bw,bw=([150,200]:List Int).getD ((k:Int) % 2).toNat 0:=⟨_,rfl⟩
    have k2:0≤(k:Int) % 2∧(k:Int) % 2<2:=⟨emod_nonneg _ (by decide),emod_lt_of_pos _ (by decide)⟩
    have bw1:1≤bw∧bw≤200:=by
      rw [hbw]
      exact Zbf (P:=fun z=>1≤z∧z≤200) (by decide) (show _<2 from (toNat_lt k2.1).mpr k2.2)
    have ib:gIx (.lst [.int 150,.int 200]) (.int ((k:Int) % 2))=some (.int bw):=by rw [hbw];exact Zfu [150,200] k2.1 k2.2
    obtain ⟨wd,hwd⟩:∃wd,wd=([1,2,3,4,5,6,2,3,11,40,bw]:List Int).getD (os.getD (3*k+6) 0).toNat 0:=⟨_,rfl⟩
    have wd1:1≤wd∧wd≤200:=by
      rw [hwd]
      exact Zbf (P:=fun z=>1≤z∧z≤200) (Zzt (l:=[1,2,3,4,5,6,2,3,11,40]) (by decide) bw1) (show _<11 from (toNat_lt c1.1).mpr c1.2)
    have iw:gIx (.lst [.int 1,.int 2,.int 3,.int 4,.int 5,.int 6,.int 2,.int 3,.int 11,.int 40,.int bw]) (.int (os.getD (3*k+6) 0))=some (.int wd):=by rw [hwd];exact Zfu [1,2,3,4,5,6,2,3,11,40,bw] c1.1 c1.2
    obtain ⟨am,ham⟩:∃am,am=([0,0,1,2,3,12]:List Int).getD (os.getD (3*k+8) 0).toNat 0:=⟨_,rfl⟩
    have am1:0≤am∧am≤12:=by
      rw [ham]
      exact Zbf (P:=fun z=>0≤z∧z≤12) (by decide) (show _<6 from (toNat_lt c3.1).mpr c3.2)
    have ia:gIx (.lst [.int 0,.int 0,.int 1,.int 2,.int 3,.int 12]) (.int (os.getD (3*k+8) 0))=some (.int am):=by rw [ham];exact Zfu [0,0,1,2,3,12] c3.1 c3.2
    have iN:=Xmo (i:=(os.getD 4 0+(2*os.getD 5 0+1)*(k:Int)) % 16) (emod_nonneg _ (by decide)) (emod_lt_of_pos _ (by decide))
    have sl:(ks.map kD).length<lim:=by rw [length_map,kl];exact lt_of_lt_of_le hkm (le_trans m8 (by decide))
    obtain ⟨wo,wo1,turn⟩:=Xdw (d0:=some (.scr ns)) (d1:=some (.int i)) (d2:=some (.int m)) (o9:=o9) (o10:=o10) (o11:=o11) (o12:=o12) (o13:=o13) (fl:=fl) (gn:=gn) j0 j1 j2 j3 j4 j5 ib iw ia iN wd1 c2 a3 a5 am1 sl
    have pr:0≤am*fl:=mul_nonneg am1.1 (Int.le_trans (by decide) fl1.1)
    have wg:1≤wo*gn:=Int.mul_le_mul wo1.1 gn1.1 (by decide) (Int.le_trans (by decide) wo1.1)
    have kd:Zrb ⟨nameAt (os.getD 4 0) (os.getD 5 0) k,wd,min (wo*gn) 1000000000000000000,min (am*fl) 999999999999999999⟩:=⟨Zsu _ _ _,wd1.1,wd1.2,Int.le_min.mpr ⟨wg,by decide⟩,Int.min_le_right _ _,Int.le_min.mpr ⟨pr,by decide⟩,Int.lt_of_le_of_lt (Int.min_le_right _ _) (by decide)⟩
    refine ⟨_,rfl,.inl ⟨[some (.scr ns),some (.int i),some (.int m),some (.lst (Zbh.map D.str)),some (iD os),some (.int fl),some (.int gn),some (tD (ks++[⟨nameAt (os.getD 4 0) (os.getD 5 0) k,wd,min (wo*gn) 1000000000000000000,min (am*fl) 999999999999999999⟩])),some (.int k),some (.int (3*k+6)),some (.int wd),some (.int wo),some (.int (min (am*fl) 999999999999999999)),some (.str (nameAt (os.getD 4 0) (os.getD 5 0) k))],.inl ?_,_,_,_,_,_,_,_,?_,?_,?_,rfl⟩⟩
    · rw [show tD (ks++[⟨nameAt (os.getD 4 0) (os.getD 5 0) k,wd,min (wo*gn) 1000000000000000000,min (am*fl) 999999999999999999⟩])=.lst (ks.map kD++[.tup [.str (nameAt (os.getD 4 0) (os.getD 5 0) k),.int wd,.int (min (wo*gn) 1000000000000000000),.int (min (am*fl) 999999999999999999)]]) from congrArg D.lst map_append]
      exact turn
    · rw [length_append,kl];rfl
    · intro x hx
      rcases List.mem_append.mp hx with h | h
      · exact kok x h
      · rw [List.mem_singleton.mp h];exact kd
    · rw [map_append,knm,List.range_succ,map_append]
      rfl
  · rintro ρ ⟨ks,o8,o9,o10,o11,o12,o13,kl,kok,knm,rfl⟩
    rw [Zaw] at kl
    exact ⟨ks,o8,o9,o10,o11,o12,o13,kl,kok,by rw [kl];rw [Zaw] at knm;exact knm,rfl⟩
theorem Xmr (ns:List Int)(hn:ns.length≤63){i m:Int}(h0:0≤i)(h1:i<1000)(m0:0≤m)(m1:m≤1000):∃fl:Int,Zaz [.scr ns,.int i,.int m]=.ok (.int fl)∧1≤fl∧fl≤100000000000000000:=by
 obtain ⟨os,hos,R⟩:=Zsa ns hn h0 h1 [m+1,4] (by decide:2≤1000) (Zos (List.forall_mem_cons.mpr ⟨⟨by omega,by omega⟩,by decide⟩))
 have hol:os.length=2:=R.len
 have a1:0≤os.getD 1 0∧os.getD 1 0<4:=R.at_ 1 (by decide:1<2)
 obtain ⟨fl,hfl⟩:∃fl,fl=([1,1,7,100000000000000000]:List Int).getD (os.getD 1 0).toNat 0:=⟨_,rfl⟩
 have fl1:1≤fl∧fl≤100000000000000000:=by
  rw [hfl]
  exact Zbf (P:=fun z=>1≤z∧z≤100000000000000000) (by decide) (show _<4 from (toNat_lt a1.1).mpr a1.2)
 have i1:gIx (.lst [.int 1,.int 1,.int 7,.int 100000000000000000]) (.int (os.getD 1 0))=some (.int fl):=by rw [hfl];exact Zfu [1,1,7,100000000000000000] a1.1 a1.2
 have i0:=Zay (ns:=os) (i:=1) (k:=1) rfl (by rw [hol];decide)
 exact ⟨fl,Ji (Jd (Zcz (Zm (Zbs (Zd rfl (Zd rfl (Zd rfl (Zd (Zm rfl rfl Zre) rfl)))) rfl) (Zm (Zs (Zd rfl (Zd rfl (Zd (Zbs (Zd (Zm rfl rfl rfl) rfl) rfl) rfl))) hos) rfl i0) i1) rfl)),fl1⟩
theorem Xiw (ns:List Int)(hn:ns.length≤63){i m fl:Int}(h0:0≤i)(h1:i<1000)(m0:0≤m)(m1:m≤200)(f0:1≤fl)(f1:fl≤100000000000000000):∃ws,Zav [.scr ns,.int i,.int m,.int fl]=.ok (iD ws)∧(ws.length:Int)≤m∧∀w∈ws,0≤w∧w≤1000000000000000000:=by
  have ms_eq:Jp (iD [m+1,4,3]) (iD (List.replicate m.toNat [8,5]).flatten)=some (iD ([m+1,4,3]++(List.replicate m.toNat [8,5]).flatten)):=Zlc (by
    rw [Zir]
    show 3+m.toNat*2≤1000000
    omega)
  have mr:=Zvw (ws:=[8,5]) m0 (show m≤200 by omega) (by decide)
  have hml:([m+1,4,3]++(List.replicate m.toNat [(8:Int),5]).flatten).length=3+m.toNat*2:=by rw [length_append,Zir];rfl
  obtain ⟨os,hos,R⟩:=Zsa ns hn h0 h1 ([m+1,4,3]++(List.replicate m.toNat [8,5]).flatten) (by omega) (Zos (List.forall_mem_append.mpr ⟨List.forall_mem_cons.mpr ⟨⟨by omega,by omega⟩,by decide⟩,fun z hz=>(by decide:∀z∈[(8:Int),5],0<z∧z≤1000000) z (Zyx hz)⟩))
  have hol:os.length=3+m.toNat*2:=by rw [R.len,hml]
  have hlt:∀{j:Nat},j<3→j<([m+1,4,3]++(List.replicate m.toNat [(8:Int),5]).flatten).length:=fun h=>by rw [hml];exact lt_of_lt_of_le h (le_add_right _ _)
  have hlo:∀{j:Nat},j<3→j<os.length:=fun h=>by rw [hol];exact lt_of_lt_of_le h (le_add_right _ _)
  have tri:∀k j:Nat,k<m.toNat→j<2→2*k+(j+3)<3+m.toNat*2:=fun k j h hj=>by omega
  have a0:0≤os.getD 0 0∧os.getD 0 0<m+1:=R.at_ 0 (hlt (by decide))
  have a1:0≤os.getD 1 0∧os.getD 1 0<4:=R.at_ 1 (hlt (by decide))
  have a2:0≤os.getD 2 0∧os.getD 2 0<3:=R.at_ 2 (hlt (by decide))
  have b2:∀k:Nat,k<m.toNat→(0≤os.getD (2*k+3) 0∧os.getD (2*k+3) 0<8)∧(0≤os.getD (2*k+4) 0∧os.getD (2*k+4) 0<5):=fun k hk=>by
    obtain ⟨g1,g2⟩:=Zpx 8 5 m.toNat k hk
    have e:∀j:Nat,([m+1,4,3]++(List.replicate m.toNat [(8:Int),5]).flatten).getD (j+3) 0=(List.replicate m.toNat [(8:Int),5]).flatten.getD j 0:=fun j=>rfl
    have r1:=R.at_ (2*k+3) (by rw [hml];exact tri k 0 hk (by decide))
    have r2:=R.at_ (2*k+4) (by rw [hml];exact tri k 1 hk (by decide))
    rw [e (2*k),g1] at r1
    rw [show 2*k+4=(2*k+1)+3 from rfl,e (2*k+1),g2] at r2
    exact ⟨r1,r2⟩
  have ix:∀k:Nat,k<os.length→∀j:Int,j=(k:Int)→gIx (.lst (os.map D.int)) (.int j)=some (.int (os.getD k 0)):=fun k hk j e=>Zay e hk
  obtain ⟨gr,hgr,gr1⟩:∃gr:Int,gr=(if os.getD 2 0=0 then 1000000000000000000 else 9*fl)∧0≤gr∧gr≤1000000000000000000:=by
    refine ⟨_,rfl,?_⟩
    split
    · exact ⟨by decide,by decide⟩
    · exact ⟨mul_nonneg (by decide) (Int.le_trans (by decide) f0),Int.le_trans (Int.mul_le_mul_of_nonneg_left f1 (by decide)) (by decide)⟩
  obtain ⟨th,hth⟩:∃th,th=([0,1,3,6]:List Int).getD (os.getD 1 0).toNat 0:=⟨_,rfl⟩
  have ith:gIx (.lst [.int 0,.int 1,.int 3,.int 6]) (.int (os.getD 1 0))=some (.int th):=by rw [hth];exact Zfu [0,1,3,6] a1.1 a1.2
  have key:=Zek (b:=Xe 7) (s:=Zej) (xs:=Zgc 0 (os.getD 0 0).toNat) (ρ:=[some (.scr ns),some (.int i),some (.int m),some (.int fl),some (iD os),some (.int gr),some (.lst []),none,none,none])
    (P:=fun k ρ=>∃(ws:List Int) (o7 o8 o9:Option D),ws.length=k∧(∀x∈ws,0≤x∧x≤1000000000000000000)∧ρ=[some (.scr ns),some (.int i),some (.int m),some (.int fl),some (iD os),some (.int gr),some (iD ws),o7,o8,o9])
    (Rr:=fun r=>∃(ws:List Int) (o7 o8 o9:Option D),ws.length=(os.getD 0 0).toNat∧(∀x∈ws,0≤x∧x≤1000000000000000000)∧r=.ok (.nx [some (.scr ns),some (.int i),some (.int m),some (.int fl),some (iD os),some (.int gr),some (iD ws),o7,o8,o9]))
    ⟨[],none,none,none,rfl,(fun _ h=>nomatch h),rfl⟩ ?_ ?_
  · obtain ⟨ws,o7,o8,o9,wl,wok,e⟩:=key
    refine ⟨ws,?_,by omega,wok⟩
    have b1:-1000000000≤os.getD 0 0∧os.getD 0 0≤1000000:=by omega
    have mr':Zck (.lst [.int 8,.int 5]) (.int m)=_:=mr
    have ms':Jp (.lst [.int (m+1),.int 4,.int 3]) (iD (List.replicate m.toNat [8,5]).flatten)=_:=ms_eq
    generalize iD ([m+1,4,3]++(List.replicate m.toNat [8,5]).flatten)=Mv at hos ms'
    generalize iD (List.replicate m.toNat [8,5]).flatten=Mw at mr' ms'
    have t1:Zck (.int 9) (.int fl)=some (.int (9*fl)):=Zqf (by decide) (by decide)
    have body:∀Q r,Q [some (.scr ns),some (.int i),some (.int m),some (.int fl),some (iD os),some (.int gr),none,none,none,none]=r→(Xt (Yt 5 (f2 Zck (fC (.int 9)) (fV 3))) (Xt (sIf (cE (f2 gEq (f2 gIx (fV 4) (fC (.int 2))) (fC (.int 0)))) (Yt 5 (f2 Zjn (fC (.int 10)) (fC (.int 18)))) sNx) Q)) [some (.scr ns),some (.int i),some (.int m),some (.int fl),some (iD os),none,none,none,none,none]=r:=fun Q r h=>by
      have c:∀z:Option D,(cE (f2 gEq (f2 gIx (fV 4) (fC (.int 2))) (fC (.int 0)))) [some (.scr ns),some (.int i),some (.int m),some (.int fl),some (iD os),z,none,none,none,none]=.ok (os.getD 2 0==0):=fun z=>Jl (Zm (Zm rfl rfl (ix 2 (hlo (by decide)) 2 rfl)) rfl rfl)
      by_cases d:os.getD 2 0=0
      · rw [if_pos d] at hgr
        exact Zq (Xf (Zm rfl rfl t1)) (Zq (Zci ((c _).trans (by rw [d];rfl)) (Xf (Zm rfl rfl Zgu))) (by rw [hgr] at h;exact h))
      · rw [if_neg d] at hgr
        exact Zq (Xf (Zm rfl rfl t1)) (Zq (Yu ((c _).trans (congrArg Dl.R.ok (beq_false_of_ne d))) rfl) (by rw [hgr] at h;exact h))
    exact Ji (Zq (Xf (Zs (Zd rfl (Zd rfl (Zd (Zm (Zbs (Zd (Zm rfl rfl rfl) rfl) rfl) (Zm rfl rfl mr') ms') rfl))) hos)) (body _ _ (Zq (Xf rfl) (Zq (Zch (Zzu (Zd (Zm rfl rfl (ix 0 (hlo (by decide)) 0 rfl)) rfl) b1) e) (Jd rfl)))))
  · rintro k x ρ hx ⟨ws,o7,o8,o9,wl,wok,rfl⟩
    obtain ⟨hk,rfl⟩:=Zkz hx
    rw [Int.zero_add]
    have hkm:k<m.toNat:=under hk a0.2
    obtain ⟨c1,c2⟩:=b2 k hkm
    have j0:=ix (2*k+3) (by rw [hol];exact tri k 0 hkm (by decide)) (2*k+3) rfl
    have j1:=ix (2*k+4) (by rw [hol];exact tri k 1 hkm (by decide)) (2*k+3+1) (Int.add_assoc _ 3 1)
    have jj:=ix 1 (hlo (by decide)) 1 rfl
    have sl:ws.length<lim:=by show _<1000000;omega
    obtain ⟨wt,hwt⟩:∃wt,wt=([fl,fl,2*fl,3*fl,gr]:List Int).getD (os.getD (2*k+4) 0).toNat 0:=⟨_,rfl⟩
    have wt1:0≤wt∧wt≤1000000000000000000:=by
      rw [hwt]
      have g:∀n:Int,1≤n→n≤3→0≤n*fl∧n*fl≤1000000000000000000:=fun n n0 n1=>⟨mul_nonneg (Int.le_trans (by decide) n0) (Int.le_trans (by decide) f0),Int.le_trans (Int.mul_le_mul n1 f1 (Int.le_trans (by decide) f0) (by decide)) (by decide)⟩
      have g1:0≤fl∧fl≤1000000000000000000:=⟨Int.le_trans (by decide) f0,Int.le_trans f1 (by decide)⟩
      exact Zbf (P:=fun z=>0≤z∧z≤1000000000000000000) (List.forall_mem_cons.mpr ⟨g1,List.forall_mem_cons.mpr ⟨g1,List.forall_mem_cons.mpr ⟨g 2 (by decide) (by decide),List.forall_mem_cons.mpr ⟨g 3 (by decide) (by decide),List.forall_mem_cons.mpr ⟨gr1,fun _ h=>nomatch h⟩⟩⟩⟩⟩) (show _<5 from (toNat_lt c2.1).mpr c2.2)
    have iw:gIx (.lst [.int fl,.int fl,.int (2*fl),.int (3*fl),.int gr]) (.int (os.getD (2*k+4) 0))=some (.int wt):=by rw [hwt];exact Zfu [fl,fl,2*fl,3*fl,gr] c2.1 c2.2
    have t1:Zck (.int 2) (.int fl)=some (.int (2*fl)):=Zqf (by decide) (by decide)
    have t2:Zck (.int 3) (.int fl)=some (.int (3*fl)):=Zqf (by decide) (by decide)
    have t3:Zck (.int 2) (.int (k:Int))=some (.int (2*k)):=Zqf (by decide) (by decide)
    have c:(cE (f2 gLt (f2 gIx (fV 4) (fV 8)) (f2 gIx (fA Zae (Zc (fC (.int 0)) (Zc (fC (.int 1)) (Zc (fC (.int 3)) (Zc (fC (.int 6)) Zt))))) (f2 gIx (fV 4) (fC (.int 1)))))) [some (.scr ns),some (.int i),some (.int m),some (.int fl),some (iD os),some (.int gr),some (iD ws),some (.int k),some (.int (2*k+3)),some (.int 0)]=.ok (decide (os.getD (2*k+3) 0<th)):=Jl (Zm (Zm rfl rfl j0) (Zm rfl (Zm rfl rfl jj) ith) (by simp))
    have sl':(ws.map D.int).length<lim:=by rw [length_map];exact sl
    have all:∀z:Int,0≤z∧z≤1000000000000000000→∀x∈ws++[z],0≤x∧x≤1000000000000000000:=fun z hz x hx=>by
      rcases List.mem_append.mp hx with h | h
      · exact wok x h
      · rw [List.mem_singleton.mp h];exact hz
    refine ⟨_,rfl,.inl ?_⟩
    by_cases d:os.getD (2*k+3) 0<th
    · refine ⟨[some (.scr ns),some (.int i),some (.int m),some (.int fl),some (iD os),some (.int gr),some (iD (ws++[wt])),some (.int k),some (.int (2*k+3)),some (.int wt)],.inl ?_,_,_,_,_,by rw [length_append,wl];rfl,all wt wt1,rfl⟩
      rw [show iD (ws++[wt])=.lst (ws.map D.int++[.int wt]) from congrArg D.lst map_append]
      exact Zq (Xf (Zm (Zm rfl rfl t3) rfl rfl)) (Zq (Xf rfl) (Zq (Zci (c.trans (congrArg Dl.R.ok (decide_eq_true d))) (Xf (Zcz (Zm (Zbs (Zd rfl (Zd rfl (Zd (Zm rfl rfl t1) (Zd (Zm rfl rfl t2) rfl)))) rfl) (Zm rfl (Zm rfl rfl rfl) j1) iw) rfl))) (Zgo rfl (Zcz rfl rfl) sl')))
    · refine ⟨[some (.scr ns),some (.int i),some (.int m),some (.int fl),some (iD os),some (.int gr),some (iD (ws++[0])),some (.int k),some (.int (2*k+3)),some (.int 0)],.inl ?_,_,_,_,_,by rw [length_append,wl];rfl,all 0 ⟨by decide,by decide⟩,rfl⟩
      rw [show iD (ws++[0])=.lst (ws.map D.int++[.int 0]) from congrArg D.lst map_append]
      exact Zq (Xf (Zm (Zm rfl rfl t3) rfl rfl)) (Zq (Xf rfl) (Zq (Yu (c.trans (congrArg Dl.R.ok (decide_eq_false d))) rfl) (Zgo rfl (Zcz rfl rfl) sl')))
  · rintro ρ ⟨ws,o7,o8,o9,wl,wok,rfl⟩
    rw [Zaw] at wl
    exact ⟨ws,o7,o8,o9,wl,wok,rfl⟩
theorem Zzr (ns:List Int)(hn:ns.length≤63){i m c:Int}(h0:0≤i)(h1:i<900)(m0:0≤m)(m1:m≤200)(c0:0≤c)(c1:c≤8):∃ws ks,Zad [.scr ns,.int i,.int m,.int c]=.ok (.tup [iD ws,tD ks])∧(ws.length:Int)≤m∧(∀w∈ws,0≤w∧w≤1000000000000000000)∧(ks.length:Int)≤c∧Xla ks:=by
 obtain ⟨fl,e1,f0,f1⟩:=Xmr ns hn h0 (show i<1000 by omega) c0 (show c≤1000 by omega)
 obtain ⟨ws,e2,w1,w2⟩:=Xiw ns hn (i:=i+1) (by omega) (by omega) m0 m1 f0 f1
 obtain ⟨ks,e3,k1,k2⟩:=Xao ns hn h0 (show i<1000 by omega) c0 c1
 exact ⟨ws,ks,Ji (Zq (Xf (Zs (Zd rfl (Zd rfl (Zd rfl rfl))) e1)) (Jd (Zbs (Zd (Zs (Zd rfl (Zd (Zm rfl rfl rfl) (Zd rfl (Zd rfl rfl)))) e2) (Zd (Zs (Zd rfl (Zd rfl (Zd rfl rfl))) e3) rfl)) rfl))),w1,w2,k1,k2⟩
end Dl
namespace Dl
noncomputable def S:Nat→(Nat→Int)→Int
 | 0,_=>0
 | n+1,f=>S n f+f n
theorem Jr {n:Nat}{f g:Nat→Int}(h:∀i,i<n→f i=g i):S n f=S n g:=by
 induction n with
 | zero=>rfl
 | succ n ih=>rw [S,S,ih fun i hi=>h i (by omega),h n (by omega)]
theorem Xdx (n:Nat)(f g:Nat→Int):S n f+S n g=S n fun i=>f i+g i:=by
 induction n with
 | zero=>rfl
 | succ n ih=>simp only [S];rw [← ih];omega
theorem Xrk (n:Nat)(c:Int)(f:Nat→Int):c*S n f=S n fun i=>c*f i:=by
 induction n with
 | zero=>simp [S]
 | succ n ih=>simp only [S];rw [← ih,mul_add]
theorem Zmr {n:Nat}{f:Nat→Int}(h:∀i,i<n→f i=0):S n f=0:=by
 induction n with
 | zero=>rfl
 | succ n ih=>rw [S,ih fun i hi=>h i (by omega),h n (by omega)];rfl
theorem Zuw (n:Nat)(f:Nat→Int):S (n+1) f=f 0+S n fun i=>f (i+1):=by
 induction n with
 | zero=>simp [S]
 | succ n ih=>rw [S,ih,S];omega
theorem Xpe (n:Nat)(f:Nat→Int):S n f=S n fun i=>f (n - 1 - i):=by
 induction n generalizing f with
 | zero=>rfl
 | succ n ih =>
  rw [Zuw]
  rw [ih fun i=>f (i+1)]
  rw [S]
  have e:S n (fun i=>f (n+1 - 1 - i))=S n fun i=>f (n - 1 - i+1):=Jr fun i hi=>by congr 1;omega
  rw [e,show n+1 - 1 - n=0 by omega]
  omega
theorem Xmk {n k:Nat}(hk:k<n)(v:Int):S n (fun i=>if i=k then v else 0)=v:=by
 induction n with
 | zero=>omega
 | succ n ih =>
  rw [S]
  by_cases h:k<n
  ·rw [ih h,if_neg (by omega)];omega
  ·have:n=k:=by omega
   subst this
   rw [Zmr fun i hi=>if_neg (by omega),if_pos rfl];omega
theorem Xgh (T:Nat→Nat→Int):∀d,S d (fun i=>S (i+1) fun l=>T (i - l) l)=S d fun m=>S (d - m) fun l=>T m l
 | 0=>rfl
 | d+1=>by
  rw [S,Xgh T d]
  have h1:S (d+1) (fun m=>S (d+1 - m) fun l=>T m l)=S (d+1) fun m=>(if m<d then S (d - m) fun l=>T m l else 0)+T m (d - m):=Jr fun m hm=>by
   by_cases h:m<d
   ·rw [if_pos h,show d+1 - m=(d - m)+1 by omega,S]
   ·have e:m=d:=by omega
    subst e
    rw [if_neg h,show m+1 - m=0+1 by omega,sub_self]
    simp [S]
  have h0:S (d+1) (fun m=>if m<d then S (d - m) fun l=>T m l else 0)=S d fun m=>if m<d then S (d - m) fun l=>T m l else 0:=by
   rw [S,if_neg (by omega)]
   omega
  rw [h1,← Xdx,h0]
  have h2:S d (fun m=>if m<d then S (d - m) fun l=>T m l else 0)=S d fun m=>S (d - m) fun l=>T m l:=Jr fun m hm=>if_pos hm
  have h3:S (d+1) (fun l=>T (d - l) l)=S (d+1) fun m=>T m (d - m):=by
   rw [Xpe]
   exact Jr fun i hi=>by
    have e1:d - (d+1 - 1 - i)=i:=by omega
    have e2:d+1 - 1 - i=d - i:=by omega
    rw [e1,e2]
  rw [h2,h3]
noncomputable def pth (e:Nat→Nat→Int)(a:Nat):Nat→List Int
 | 0=>[1]
 | d+1=>pth e a d++[S (d+1) fun i=>e (a+i) (a+d+1)*(pth e a d).getD i 0]
noncomputable def W (e:Nat→Nat→Int)(a d:Nat):Int:=(pth e a d).getD d 0
theorem Zpt (e:Nat→Nat→Int)(a:Nat):∀d,(pth e a d).length=d+1
 | 0=>rfl
 | d+1=>by rw [pth,length_append,Zpt e a d];rfl
theorem Xgk (e:Nat→Nat→Int)(a:Nat):∀(d i:Nat),i≤d→(pth e a d).getD i 0=W e a i
 | 0,i,h=>by
  have:i=0:=by omega
  subst this
  rfl
 | d+1,i,h=>by
  by_cases q:i=d+1
  ·subst q;rfl
  ·rw [pth]
   have hl:=Zpt e a d
   have hi:i<(pth e a d).length:=by omega
   have:∀x:Int,(pth e a d++[x]).getD i 0=(pth e a d).getD i 0:=fun x=>by simp [List.getD,getElem?_append_left hi]
   rw [this]
   exact Xgk e a d i (by omega)
theorem Xfs (e:Nat→Nat→Int)(a:Nat):W e a 0=1:=rfl
theorem Zln (e:Nat→Nat→Int)(a d:Nat):W e a (d+1)=S (d+1) fun i=>e (a+i) (a+d+1)*W e a i:=by
 have hl:=Zpt e a d
 have h:∀x:Int,(pth e a d++[x]).getD (d+1) 0=x:=fun x=>by simp [List.getD,← hl]
 unfold W
 rw [pth,h]
 exact Jr fun i hi=>by rw [Xgk e a d i (by omega)];rfl
theorem Zkf (e:Nat→Nat→Int):∀(d a:Nat),W e a (d+1)=S (d+1) fun i=>e a (a+d+1 - i)*W e (a+d+1 - i) i:=by
 intro d
 induction d using Nat.strongRecOn with
 | ind d ih =>
  intro a
  rw [Zln,Zuw,Zuw]
  congr 1
  have h1:S d (fun i=>e (a+(i+1)) (a+d+1)*W e a (i+1))=S d fun i=>S (i+1) fun l=>(fun m l=>e (a+m+l+1) (a+d+1)*(e a (a+m+1)*W e (a+m+1) l)) (i - l) l:=Jr fun i hi=>by
   rw [ih i hi a,Xrk]
   refine Jr fun l hl=>?_
   simp only []
   have e1:a+(i+1)=a+(i - l)+l+1:=by omega
   have e2:a+i+1 - l=a+(i - l)+1:=by omega
   rw [e1,e2]
  have h2:S d (fun i=>e a (a+d+1 - (i+1))*W e (a+d+1 - (i+1)) (i+1))=S d fun m=>S (d - m) fun l=>(fun m l=>e (a+m+l+1) (a+d+1)*(e a (a+m+1)*W e (a+m+1) l)) m l:=by
   rw [Xpe]
   refine Jr fun m hm=>?_
   have e1:a+d+1 - (d - 1 - m+1)=a+m+1:=by omega
   have e2:d - 1 - m+1=(d - m - 1)+1:=by omega
   rw [e1,e2,Zln,Xrk]
   have e3:d - m - 1+1=d - m:=by omega
   rw [e3]
   refine Jr fun l hl=>?_
   simp only []
   have e4:a+m+1+l=a+m+l+1:=by omega
   have e5:a+m+1+(d - m - 1)+1=a+d+1:=by omega
   rw [e4,e5]
   rw [← Int.mul_assoc,← Int.mul_assoc,Int.mul_comm (e a (a+m+1))]
  rw [h1,h2]
  exact Xgh (fun m l=>e (a+m+l+1) (a+d+1)*(e a (a+m+1)*W e (a+m+1) l)) d
theorem Xqi {e e':Nat→Nat→Int}{M:Nat}(h:∀x y,x<y→y≤M→e' x y=e (M - y) (M - x)):∀(d a:Nat),a+d≤M→W e' (M - a - d) d=W e a d:=by
 intro d
 induction d using Nat.strongRecOn with
 | ind d ih =>
  intro a ha
  cases d with
  | zero=>rfl
  | succ d =>
   rw [Zln,Zkf]
   refine Jr fun i hi=>?_
   rw [h _ _ (by omega) (by omega)]
   have e1:M - (M - a - (d+1)+d+1)=a:=by omega
   have e2:M - (M - a - (d+1)+i)=a+d+1 - i:=by omega
   have e3:=ih i (by omega) (a+d+1 - i) (by omega)
   rw [show M - (a+d+1 - i) - i=M - a - (d+1) by omega] at e3
   rw [e1,e2,e3]
end Dl
namespace Dl
open PySem
theorem Zhr (ns:List Int)(ks:List Kd)(e:Int)(hk:ks.length≤1000)(hw:∀k∈ks,1≤k.w):Yz [iD ns,tD ks,.int e]=.ok (tD (ks.filter fun k=>good ns k (e - k.w))):=by
 have hl:ks.length≤lim:=by show _≤1000000;omega
 have hc:=Xex (n:=3) (ρ:=[some (iD ns),some (tD ks),some (.int e)]) (enc:=kD) (p:=fun k=>good ns k (e - k.w)) (v:=kD) (xs:=ks)
  (c:=cE (Xb Zga (Zc (fV 0) (Zc (fV 3) (Zc (f2 Zgm (fV 2) (f2 gIx (fV 3) (fC (.int 1)))) Zt))))) (e:=f1 Ye (fV 3)) rfl fun k hk=>by
   constructor
   ·simp [Zzf ns k (e - k.w) (hw k hk)]
   ·intro _;simp
 simp [Yz,Zqo,tD,hl] at hc ⊢
 simp [hc]
noncomputable def Xlx (ns:List Int)(ks:List Kd)(cs:List Int):Int:=cs.getD (cs.length - 1) 0+((ks.filter fun k=>good ns k ((cs.length:Int) - k.w)).map fun k=>cs.getD ((cs.length:Int) - k.w).toNat 0).sum
noncomputable def cnts (ns:List Int)(ks:List Kd):Nat→List Int
 | 0=>[1]
 | j+1=>cnts ns ks j++[Xlx ns ks (cnts ns ks j)]
noncomputable def cnt (ns:List Int)(ks:List Kd)(j:Nat):Int:=(cnts ns ks j).getD j 0
theorem Xs {ns:List Int}{k:Kd}{p:Int}(h:good ns k p=true):0≤p∧p+k.w≤ns.length:=by
 have:=of_decide_eq_true h
 exact ⟨this.1,this.2.1⟩
theorem Zrn {ns:List Int}{j:Nat}(h:ns.length=j+1):gIx (.lst (ns.map D.int)) (.int (-1))=some (.int (ns.getD j 0)):=by
 rw [Zks (by intro z;rw [z] at h;simp at h),h,Nat.add_sub_cancel]
theorem Zkt (ns:List Int){i:Nat}(h:i≤ns.length):pre ns.reverse i=pre ns ns.length - pre ns (ns.length - i):=by
 unfold pre
 rw [List.take_reverse,List.sum_reverse,List.take_length]
 have e:=take_append_drop (ns.length - i) ns
 have:ns.sum=(ns.take (ns.length - i)).sum+(ns.drop (ns.length - i)).sum:=by rw [← sum_append,e]
 omega
theorem Zkg {ns:List Int}{k:Kd}{p:Int}(hw:1≤k.w):good ns.reverse k p=good ns k (ns.length - p - k.w):=by
 unfold good
 apply decide_eq_decide.mpr
 rw [length_reverse]
 constructor
 ·rintro ⟨h1,h2,h3⟩
  refine ⟨by omega,by omega,?_⟩
  rw [Zkt ns (by omega),Zkt ns (by omega)] at h3
  rw [show ns.length - (p+k.w).toNat=((ns.length:Int) - p - k.w).toNat by omega,show ns.length - p.toNat=((ns.length:Int) - p - k.w+k.w).toNat by omega] at h3
  omega
 ·rintro ⟨h1,h2,h3⟩
  refine ⟨by omega,by omega,?_⟩
  rw [Zkt ns (by omega),Zkt ns (by omega)]
  rw [show ns.length - (p+k.w).toNat=((ns.length:Int) - p - k.w).toNat by omega,show ns.length - p.toNat=((ns.length:Int) - p - k.w+k.w).toNat by omega]
  omega
noncomputable abbrev Cut:=List (Int×Str)×Int
noncomputable def addK (ns:List Int)(rows:List (List Cut))(e:Nat)(k:Kd):List Cut:=if good ns k ((e:Int) - k.w)=true then (rows.getD ((e:Int) - k.w).toNat []).map fun c=>(c.1++[((e:Int) - k.w,k.name)],c.2+k.wo) else []
noncomputable def rowOf (ns:List Int)(ks:List Kd)(rows:List (List Cut)):List Cut:=rows.getD (rows.length - 1) []++(ks.map (addK ns rows rows.length)).flatten
noncomputable def Zfm (ns:List Int)(ks:List Kd):Nat→List (List Cut)
 | 0=>[[([],0)]]
 | j+1=>Zfm ns ks j++[rowOf ns ks (Zfm ns ks j)]
theorem Zih (ns:List Int)(ks:List Kd):∀j,(Zfm ns ks j).length=j+1
 | 0=>rfl
 | j+1=>by rw [Zfm,length_append,Zih ns ks j];rfl
noncomputable def Zcf (ns:List Int)(ks:List Kd)(j:Nat):List Cut:=(Zfm ns ks j).getD j []
theorem Zrg (ns:List Int)(ks:List Kd):∀(j i:Nat),i≤j→(Zfm ns ks j).getD i []=Zcf ns ks i
 | 0,i,h=>by
  have:i=0:=by omega
  subst this
  rfl
 | j+1,i,h=>by
  by_cases e:i=j+1
  ·subst e;rfl
  ·rw [Zfm]
   have hl:=Zih ns ks j
   have hi:i<(Zfm ns ks j).length:=by omega
   have:∀x:List Cut,(Zfm ns ks j++[x]).getD i []=(Zfm ns ks j).getD i []:=fun x=>by simp [List.getD,getElem?_append_left hi]
   rw [this]
   exact Zrg ns ks j i (by omega)
theorem Zes (ns:List Int)(ks:List Kd)(hw:∀k∈ks,1≤k.w)(j:Nat):Zcf ns ks (j+1)=Zcf ns ks j++(ks.map fun k=>if good ns k ((j+1:Nat) - k.w)=true then (Zcf ns ks (((j+1:Nat):Int) - k.w).toNat).map fun c=>(c.1++[(((j+1:Nat):Int) - k.w,k.name)],c.2+k.wo) else []).flatten:=by
 have hl:=Zih ns ks j
 have e:Zcf ns ks (j+1)=rowOf ns ks (Zfm ns ks j):=by
  unfold Zcf
  rw [Zfm]
  simp [List.getD,← hl]
 rw [e]
 unfold rowOf
 rw [hl,Nat.add_sub_cancel]
 congr 2
 refine map_congr_left fun k hk=>?_
 unfold addK
 split
 ·rename_i hg
  have:=Xs hg
  have:=hw k hk
  rw [Zrg ns ks j _ (by omega)]
 ·rfl
theorem Xlr (ns:List Int)(ks:List Kd)(hw:∀k∈ks,1≤k.w):∀j,(Zcf ns ks j).length≤(ks.length+1) ^ j:=by
 intro j
 induction j using Nat.strongRecOn with
 | ind j ih =>
  cases j with
  | zero=>exact le_refl 1
  | succ j =>
   rw [Zes ns ks hw,length_append]
   have h0:=ih j (by omega)
   have:∀l:List Kd,(∀k∈l,1≤k.w)→(l.map fun k=>if good ns k ((j+1:Nat) - k.w)=true then (Zcf ns ks (((j+1:Nat):Int) - k.w).toNat).map fun c=>((c.1++[(((j+1:Nat):Int) - k.w,k.name)],c.2+k.wo):Cut) else []).flatten.length≤l.length*(ks.length+1) ^ j:=by
    intro l hl
    induction l with
    | nil=>simp
    | cons k l ihl =>
     have ihl:=ihl fun x hx=>hl x (.tail _ hx)
     have hk:=hl k (.head _)
     rw [map_cons,flatten_cons,length_append,length_cons,succ_mul]
     by_cases hg:good ns k ((j+1:Nat) - k.w)=true
     ·have b:=Xs hg
      rw [if_pos hg,length_map]
      have h1:=ih (((j+1:Nat):Int) - k.w).toNat (by omega)
      have h2:(ks.length+1) ^ (((j+1:Nat):Int) - k.w).toNat≤(ks.length+1) ^ j:=Nat.pow_le_pow_right (by omega) (by omega)
      omega
     ·rw [if_neg hg,length_nil,zero_add];omega
   have h3:=this ks hw
   rw [Nat.pow_succ,Nat.mul_add,Nat.mul_comm]
   omega
theorem Zpk (ns:List Int)(ks:List Kd)(hw:∀k∈ks,1≤k.w):∀j,∀c∈Zcf ns ks j,c.1.length≤j:=by
 intro j
 induction j using Nat.strongRecOn with
 | ind j ih =>
  cases j with
  | zero =>
   intro c hc
   have:c=([],0):=by simpa [Zcf,Zfm] using hc
   subst this
   simp
  | succ j =>
   intro c hc
   rw [Zes ns ks hw] at hc
   rcases List.mem_append.mp hc with h | h
   ·have:=ih j (by omega) c h;omega
   ·obtain ⟨l,hl,hc⟩:=List.mem_flatten.mp h
    obtain ⟨k,hk,rfl⟩:=List.mem_map.mp hl
    split at hc
    ·rename_i hg
     have b:=Xs hg
     have:=hw k hk
     obtain ⟨c0,h0,rfl⟩:=List.mem_map.mp hc
     have:=ih _ (by omega) c0 h0
     rw [length_append,length_singleton]
     omega
    ·cases hc
mutual
theorem Zrq:∀d:D,dep d≤20→eqv d d=true
 | .non,_=>rfl
 | .bl b,_=>beq_self_eq_true b
 | .int b,_=>beq_self_eq_true b
 | .str b,_=>beq_self_eq_true b
 | .lst xs,h=>Zhe xs (Nat.le_of_succ_le h)
 | .tup xs,h=>Zhe xs (Nat.le_of_succ_le h)
 | .scr _,h=>absurd h (by decide:¬100≤20)
 | .rng _ _,h=>absurd h (by decide:¬100≤20)
 | .exc _ _,h=>absurd h (by decide:¬100≤20)
 | .obj _ _ _,h=>absurd h (by decide:¬100≤20)
 | .dct _ _,h=>absurd h (by decide:¬100≤20)
 | .dtt _ _,h=>absurd h (by decide:¬100≤20)
theorem Zhe:∀xs:List D,Zfl xs≤20→Xfu xs xs=true
 | [],_=>rfl
 | x::xs,h=>by
  have a:dep x≤20∧Zfl xs≤20:=Nat.max_le.mp h
  show (eqv x x&&Xfu xs xs)=true
  rw [Zrq x a.1,Zhe xs a.2]
  rfl
end
theorem Zld {d:D}(h:dep d≤20):gEq d d=some (.bl true):=by
 unfold gEq
 rw [if_pos ⟨h,h⟩,Zrq d h]
theorem Zkw {α:Type}{f:α→D}{n:Nat}(h:∀a,dep (f a)≤n):∀xs:List α,Zfl (xs.map f)≤n
 | []=>zero_le _
 | x::xs=>by
  rw [map_cons,Zfl]
  have:=h x
  have:=Zkw h xs
  omega
theorem Zgi:∀(r:List Int) (x:Int),x≤r.foldl max x∧∀y∈r,y≤r.foldl max x
 | [],x=>⟨Int.le_refl _,fun _ h=>nomatch h⟩
 | z::r,x=>by
  obtain ⟨h1,h2⟩:=Zgi r (max x z)
  rw [foldl_cons]
  refine ⟨by omega,fun y hy=>?_⟩
  rcases List.mem_cons.mp hy with e | e
  ·subst e;omega
  ·exact h2 y e
theorem Zel:∀(r:List Int) (x:Int),r.foldl max x=x∨r.foldl max x∈r
 | [],x=>.inl rfl
 | z::r,x=>by
  rw [foldl_cons]
  rcases Zel r (max x z) with h | h
  ·rw [h]
   by_cases hz:z≤x
   ·exact .inl (by omega)
   ·refine .inr ?_
    rw [show max x z=z by omega]
    exact .head _
  ·exact .inr (.tail _ h)
theorem Zxm {xs:List Int}{y:Int}(h:y∈xs):y≤Xdy xs:=by
 cases xs with
 | nil=>cases h
 | cons x r =>
  obtain ⟨h1,h2⟩:=Zgi r x
  show y≤r.foldl max x
  rcases List.mem_cons.mp h with e | e
  ·subst e;exact h1
  ·exact h2 y e
theorem Zzx {xs:List Int}(h:xs≠[]):Xdy xs∈xs:=by
 cases xs with
 | nil=>exact absurd rfl h
 | cons x r =>
  show r.foldl max x∈_
  rcases Zel r x with e | e
  ·rw [e];exact .head _
  ·exact .tail _ e
noncomputable def Ztd (ns:List Int)(ks:List Kd)(ts:List Int):Int:=Xdy (ts.getD (ts.length - 1) 0::(ks.filter fun k=>good ns k ((ts.length:Int) - k.w)).map fun k=>ts.getD ((ts.length:Int) - k.w).toNat 0+k.wo)
noncomputable def hts (ns:List Int)(ks:List Kd):Nat→List Int
 | 0=>[0]
 | j+1=>hts ns ks j++[Ztd ns ks (hts ns ks j)]
theorem Zai (ns:List Int)(ks:List Kd):∀j,(hts ns ks j).length=j+1
 | 0=>rfl
 | j+1=>by rw [hts,length_append,Zai ns ks j];rfl
noncomputable def ht (ns:List Int)(ks:List Kd)(j:Nat):Int:=(hts ns ks j).getD j 0
theorem Zgg (ns:List Int)(ks:List Kd):∀(j i:Nat),i≤j→(hts ns ks j).getD i 0=ht ns ks i
 | 0,i,h=>by
  have:i=0:=by omega
  subst this
  rfl
 | j+1,i,h=>by
  by_cases e:i=j+1
  ·subst e;rfl
  ·have:=Zai ns ks j
   rw [← Zgg ns ks j i (by omega),hts]
   simp only [List.getD]
   rw [getElem?_append_left (by omega)]
theorem Zwz (ns:List Int)(ks:List Kd):ht ns ks 0=0:=rfl
theorem Zot (ns:List Int)(ks:List Kd)(hw:∀k∈ks,1≤k.w)(j:Nat):ht ns ks (j+1)=Xdy (ht ns ks j::(ks.filter fun k=>good ns k ((j+1:Nat) - k.w)).map fun k=>ht ns ks (((j+1:Nat):Int) - k.w).toNat+k.wo):=by
 have hl:=Zai ns ks j
 have e:ht ns ks (j+1)=Ztd ns ks (hts ns ks j):=by
  unfold ht
  rw [hts]
  simp only [List.getD]
  rw [getElem?_append_right (by omega),hl]
  simp
 rw [e,Ztd,hl,show j+1 - 1=j by omega,Zgg ns ks j j (le_refl _)]
 congr 2
 refine map_congr_left fun k hk=>?_
 obtain ⟨k1,k2⟩:=List.mem_filter.mp hk
 have:=Xs k2
 have:=hw k k1
 rw [Zgg ns ks j _ (by omega)]
theorem Zfk (ns:List Int)(ks:List Kd)(hw:∀k∈ks,1≤k.w)(j:Nat):ht ns ks j≤ht ns ks (j+1):=by
 rw [Zot ns ks hw j]
 exact Zxm (.head _)
theorem Zdq (ns:List Int)(ks:List Kd)(hw:∀k∈ks,1≤k.w){k:Kd}(hk:k∈ks){p:Int}(hg:good ns k p=true):ht ns ks p.toNat+k.wo≤ht ns ks (p+k.w).toNat:=by
 have bd:=Xs hg
 have hw1:=hw k hk
 obtain ⟨j,hj⟩:∃j:Nat,p+k.w=((j+1:Nat):Int):=⟨(p+k.w - 1).toNat,by omega⟩
 have hp:p=((j+1:Nat):Int) - k.w:=by omega
 rw [hj,toNat_natCast,Zot ns ks hw j,hp]
 refine Zxm (.tail _ (List.mem_map.mpr ⟨k,List.mem_filter.mpr ⟨hk,?_⟩,rfl⟩))
 rw [← hp]
 exact hg
theorem Zzq (ns:List Int)(ks:List Kd)(hw:∀k∈ks,1≤k.w)(j:Nat):ht ns ks (j+1)=ht ns ks j∨∃k∈ks,good ns k ((j+1:Nat) - k.w)=true∧ht ns ks (((j+1:Nat):Int) - k.w).toNat+k.wo=ht ns ks (j+1):=by
 have h:=Zzx (xs:=ht ns ks j::(ks.filter fun k=>good ns k ((j+1:Nat) - k.w)).map fun k=>ht ns ks (((j+1:Nat):Int) - k.w).toNat+k.wo) (fun e=>nomatch e)
 rw [← Zot ns ks hw j] at h
 rcases List.mem_cons.mp h with e | e
 ·exact .inl e
 ·obtain ⟨k,k1,k2⟩:=List.mem_map.mp e
  obtain ⟨k3,k4⟩:=List.mem_filter.mp k1
  exact .inr ⟨k,k3,k4,k2⟩
theorem Zoz (ns:List Int)(ks:List Kd)(ts:List Int){j:Nat}(hl:ts.length=j+1)(hj:j<1000)(hk:ks.length≤1000)(hw:∀k∈ks,1≤k.w):Zbn [iD ns,tD ks,iD ts]=.ok (.int (Ztd ns ks ts)):=by
 have he:=Zhr ns ks (ts.length:Int) hk hw
 have hc:=Zqx (n:=5) (ρ:=[some (iD ns),some (tD ks),some (iD ts),some (.int ts.length),none]) (enc:=kD) (v:=fun k:Kd=>.int (ts.getD ((ts.length:Int) - k.w).toNat 0+k.wo)) (xs:=ks.filter fun k=>good ns k ((ts.length:Int) - k.w))
  (e:=f2 Jp (f2 gIx (fV 2) (f2 Zgm (fV 3) (f2 gIx (fV 5) (fC (.int 1))))) (f2 gIx (fV 5) (fC (.int 2)))) rfl fun k hk=>by
   obtain ⟨k1,k2⟩:=List.mem_filter.mp hk
   have bd:=Xs k2
   have hw1:=hw k k1
   have ix:=Zay (ns:=ts) (i:=(ts.length:Int) - k.w) (k:=((ts.length:Int) - k.w).toNat) (by omega) (by omega)
   have ix':gIx (iD ts) (.int ((ts.length:Int) - k.w))=_:=ix
   exact Zm (Zm rfl (Zm rfl (Zm rfl rfl (Xbk k)) rfl) ix') (Zm rfl rfl (Xlt k)) rfl
 have hlast:=Zrn (ns:=ts) hl
 have hlast':gIx (iD ts) (.int (-1))=_:=hlast
 have hlen:Zcc [iD ts]=some (.int ts.length):=by simp [iD]
 have hf:(ks.filter fun k=>good ns k ((ts.length:Int) - k.w)).length≤ks.length:=length_filter_le _ _
 unfold Ztd
 rw [show ts.length - 1=j by omega]
 have hmm:((ks.filter fun k=>good ns k ((ts.length:Int) - k.w)).map fun k:Kd=>D.int (ts.getD ((ts.length:Int) - k.w).toNat 0+k.wo))=((ks.filter fun k=>good ns k ((ts.length:Int) - k.w)).map fun k:Kd=>ts.getD ((ts.length:Int) - k.w).toNat 0+k.wo).map D.int:=by rw [map_map];rfl
 rw [hmm] at hc
 have hML:((ks.filter fun k=>good ns k ((ts.length:Int) - k.w)).map fun k:Kd=>ts.getD ((ts.length:Int) - k.w).toNat 0+k.wo).length≤1000:=by rw [length_map];omega
 have he':Yz [iD ns,tD ks,.int ts.length]=.ok (.lst ((ks.filter fun k=>good ns k ((ts.length:Int) - k.w)).map kD)):=he
 have hEL':((ks.filter fun k=>good ns k ((ts.length:Int) - k.w)).map kD).length≤lim:=by rw [length_map];show _≤1000000;omega
 have ha:=Zlc (xs:=[ts.getD j 0]) (ys:=(ks.filter fun k=>good ns k ((ts.length:Int) - k.w)).map fun k:Kd=>ts.getD ((ts.length:Int) - k.w).toNat 0+k.wo) (by rw [length_singleton];omega)
 have hmx:=Xah (ns:=ts.getD j 0::(ks.filter fun k=>good ns k ((ts.length:Int) - k.w)).map fun k:Kd=>ts.getD ((ts.length:Int) - k.w).toNat 0+k.wo) (by simp)
 exact Ji (Zq (Xf (Zbs (Zd rfl rfl) hlen)) (Zq (Xf (Zjt rfl (Jk (Zs (Zd rfl (Zd rfl (Zd rfl rfl))) he') hEL') hc)) (Jd (Zbs (Zd (Zm (Zbs (Zd (Zm rfl (Zcz rfl rfl) hlast') rfl) rfl) rfl ha) rfl) hmx))))
theorem Zap (ns:List Int)(ks:List Kd)(hn:ns.length≤900)(hk:ks.length≤1000)(hw:∀k∈ks,1≤k.w):Xv [iD ns,tD ks]=.ok (iD (hts ns ks ns.length)):=by
  have h:=Xed (c:=cE (f2 gLe (fA Zcc (Zc (fV 2) Zt)) (fA Zcc (Zc (fV 0) Zt)))) (s:=Zhw) (n:=100000) (ρ:=[some (iD ns),some (tD ks),some (.lst [.int 0])]) ns.length (fun i=>[some (iD ns),some (tD ks),some (iD (hts ns ks i))]) rfl (by omega) (fun i hi=>by
      have hl:=Zai ns ks i
      have nt:=Zoz ns ks (hts ns ks i) (j:=i) hl (by omega) hk hw
      have l1:Zcc [iD (hts ns ks i)]=some (.int ((i+1:Nat):Int)):=by simp [iD,hl]
      have l2:Zcc [iD ns]=some (.int ns.length):=by simp [iD]
      have e1:iD (hts ns ks (i+1))=.lst ((hts ns ks i).map D.int++[.int (Ztd ns ks (hts ns ks i))]):=by
        rw [hts,iD,map_append]
        rfl
      refine ⟨?_,?_⟩
      · exact Jl (Zm (Zbs (Zd rfl rfl) l1) (Zbs (Zd rfl rfl) l2) (Xlm (Int.ofNat_le.mpr hi)))
      · have hlim':((hts ns ks i).map D.int).length<lim:=by rw [length_map,hl];show _<1000000;omega
        rw [e1]
        exact Zgo rfl (Zs (Zd rfl (Zd rfl (Zd rfl rfl))) nt) hlim') (by
      have hl:=Zai ns ks ns.length
      have l1:Zcc [iD (hts ns ks ns.length)]=some (.int ((ns.length+1:Nat):Int)):=by simp [iD,hl]
      have l2:Zcc [iD ns]=some (.int ns.length):=by simp [iD]
      generalize iD ns=A at *
      generalize iD (hts ns ks ns.length)=T at *
      simp [l1,l2]
      omega)
  generalize iD ns=A at *
  generalize tD ks=B at *
  generalize iD (hts ns ks ns.length)=T at *
  simp [Xv,Znp,h]
theorem Zyh {c:FT}{s:FS}{P:Nat→Env→Prop}(hs:∀e ρ,P e ρ→(e=0∧c ρ=.ok false)∨(c ρ=.ok true∧∃e' ρ',e'<e∧s ρ=.ok (.nx ρ')∧P e' ρ')):∀(e n:Nat) (ρ:Env),e<n→P e ρ→∃ρ',Zbp c s n ρ=.ok (.nx ρ')∧P 0 ρ':=by
 intro e
 induction e using Nat.strongRecOn with
 | _ e ih =>
  intro n ρ hn p
  obtain ⟨n,rfl⟩:∃k,n=k+1:=⟨n - 1,by omega⟩
  rcases hs e ρ p with ⟨e0,h⟩ | ⟨h,e',ρ',he,h2,p'⟩
  ·subst e0
   exact ⟨ρ,by simp [Zbp,h],p⟩
  ·obtain ⟨ρ2,q1,q2⟩:=ih e' he n ρ' (by omega) p'
   refine ⟨ρ2,?_,q2⟩
   simp only [Zbp,h,Zvd,if_true,h2]
   exact q1
theorem eq_str (a b:Str):gEq (.str a) (.str b)=some (.bl (a==b)):=rfl
theorem eq_int (a b:Int):gEq (.int a) (.int b)=some (.bl (a==b)):=rfl
theorem ne_int (a b:Int):gNe (.int a) (.int b)=some (.bl (!(a==b))):=rfl
theorem Zfi (ks:List Kd)(hk:ks.length≤1000)(nd:(ks.map (·.name)).Nodup){k:Kd}(hm:k∈ks):Zab [tD ks,.str k.name]=.ok (kD k):=by
 have hl:ks.length≤lim:=by show _≤1000000;omega
 have key:∀(l:List Kd) (o:Option D),(l.map (·.name)).Nodup→k∈l→Zbr (Xe 2) Zas (l.map kD) [some (tD ks),some (.str k.name),o]=.ok (.ret (kD k)):=by
  intro l
  induction l with
  | nil=>intro o _ h;cases h
  | cons x l ih =>
   intro o nd h
   rw [map_cons,Zet]
   rw [map_cons,List.nodup_cons] at nd
   by_cases e:x.name=k.name
   ·have ex:x=k:=by
     rcases List.mem_cons.mp h with q | q
     ·exact q.symm
     ·exact absurd (e▸List.mem_map.mpr ⟨k,q,rfl⟩) nd.1
    subst ex
    generalize tD ks=T
    simp [Zas,eq_str]
   ·have hm:k∈l:=by
     rcases List.mem_cons.mp h with q | q
     ·exact absurd (by rw [q]) e
     ·exact q
    have:=ih (some (kD x)) nd.2 hm
    generalize tD ks=T at *
    have hs:Zas [some T,some (.str k.name),some (kD x)]=.ok (.nx [some T,some (.str k.name),some (kD x)]):=by simp [Zas,eq_str,e]
    simp [hs,this]
 have h:=key ks none nd hm
 have ht:tD ks=.lst (ks.map kD):=rfl
 have hl':(ks.map kD).length≤lim:=by rw [length_map];exact hl
 rw [ht] at h ⊢
 generalize ks.map kD=KK at *
 simp [Zab,Zmn,hl',h]
theorem Znq (ns:List Int)(ks:List Kd)(hn:ns.length≤900)(hk:ks.length≤1000)(hw:∀k∈ks,1≤k.w){e:Nat}(he:e+1≤ns.length) :
  (ht ns ks (e+1)=ht ns ks e∧Jz [iD ns,tD ks,iD (hts ns ks ns.length),.int ((e+1:Nat):Int)]=.ok .non)∨
  ∃k∈ks,good ns k ((e+1:Nat) - k.w)=true∧ht ns ks (((e+1:Nat):Int) - k.w).toNat+k.wo=ht ns ks (e+1)∧Jz [iD ns,tD ks,iD (hts ns ks ns.length),.int ((e+1:Nat):Int)]=.ok (kD k):=by
 have hl:=Zai ns ks ns.length
 have at_:∀(i:Int) (q:Nat),i=q→q≤ns.length→gIx (iD (hts ns ks ns.length)) (.int i)=some (.int (ht ns ks q)):=fun i q h1 h2=>by
  have:=Zay (ns:=hts ns ks ns.length) (i:=i) (k:=q) h1 (by omega)
  rw [Zgg ns ks _ _ h2] at this
  exact this
 have a1:=at_ ((e+1:Nat):Int) (e+1) rfl he
 have a2:=at_ (((e+1:Nat):Int) - 1) e (by omega) (by omega)
 by_cases hh:ht ns ks (e+1)=ht ns ks e
 ·refine .inl ⟨hh,?_⟩
  exact Ji (Zjm (Zci (Jl (Zm (Zm rfl rfl a1) (Zm rfl (Zm rfl rfl rfl) a2) ((Zdx _ _).trans (congrArg (fun b=>some (D.bl b)) (decide_eq_true hh))))) (Jd rfl)))
 ·refine .inr ?_
  have hend:=Zhr ns ks ((e+1:Nat):Int) hk hw
  have key:=Zek (b:=Xe 4) (s:=Zfc) (xs:=(ks.filter fun k=>good ns k (((e+1:Nat):Int) - k.w)).map kD) (ρ:=[some (iD ns),some (tD ks),some (iD (hts ns ks ns.length)),some (.int ((e+1:Nat):Int)),none])
   (P:=fun i ρ=>(∃o,ρ=[some (iD ns),some (tD ks),some (iD (hts ns ks ns.length)),some (.int ((e+1:Nat):Int)),o])∧∀(j:Nat) (k:Kd),j<i→(ks.filter fun k=>good ns k (((e+1:Nat):Int) - k.w))[j]?=some k→ht ns ks (((e+1:Nat):Int) - k.w).toNat+k.wo≠ht ns ks (e+1))
   (Rr:=fun r=>∃k∈ks,good ns k ((e+1:Nat) - k.w)=true∧ht ns ks (((e+1:Nat):Int) - k.w).toNat+k.wo=ht ns ks (e+1)∧r=.ok (.ret (kD k))) ⟨⟨none,rfl⟩,fun _ _ h=>by omega⟩ ?_ ?_
  ·obtain ⟨k,k1,k2,k3,k4⟩:=key
   refine ⟨k,k1,k2,k3,?_⟩
   have hend':Yz [iD ns,tD ks,.int ((e+1:Nat):Int)]=.ok (.lst ((ks.filter fun k=>good ns k (((e+1:Nat):Int) - k.w)).map kD)):=hend
   have hEL:((ks.filter fun k=>good ns k (((e+1:Nat):Int) - k.w)).map kD).length≤lim:=by
    rw [length_map]
    have:=length_filter_le (fun k:Kd=>good ns k (((e+1:Nat):Int) - k.w)) ks
    show _≤1000000
    omega
   exact Ji (Zq (Yu (Jl (Zm (Zm rfl rfl a1) (Zm rfl (Zm rfl rfl rfl) a2) ((Zdx _ _).trans (congrArg (fun b=>some (D.bl b)) (decide_eq_false hh))))) rfl) (Zjm (Zch (Jk (Zs (Zd rfl (Zd rfl (Zd rfl rfl))) hend') hEL) k4)))
  ·rintro i x ρ hx ⟨⟨o,rfl⟩,hp⟩
   rw [getElem?_map] at hx
   obtain ⟨k,hk',rfl⟩:=Option.map_eq_some_iff.mp hx
   obtain ⟨k1,k2⟩:=List.mem_filter.mp (mem_of_getElem? hk')
   have bd:=Xs k2
   have hw1:=hw k k1
   have a3:=at_ (((e+1:Nat):Int) - k.w) (((e+1:Nat):Int) - k.w).toNat (by omega) (by omega)
   refine ⟨_,rfl,?_⟩
   by_cases q:ht ns ks (((e+1:Nat):Int) - k.w).toNat+k.wo=ht ns ks (e+1)
   ·refine .inr (.inl ⟨kD k,?_,k,k1,k2,q,rfl⟩)
    exact Zci (Jl (Zm (Zm (Zm rfl (Zm rfl (Zm rfl rfl (Xbk k)) rfl) a3) (Zm rfl rfl (Xlt k)) rfl) (Zm rfl rfl a1) ((Zdx _ _).trans (congrArg (fun b=>some (D.bl b)) (decide_eq_true q))))) (Jd (Zcz rfl (Xeg k)))
   ·refine .inl ⟨[some (iD ns),some (tD ks),some (iD (hts ns ks ns.length)),some (.int ((e+1:Nat):Int)),some (kD k)],.inl ?_,⟨_,rfl⟩,fun j k' hj hk2=>?_⟩
    ·exact Yu (Jl (Zm (Zm (Zm rfl (Zm rfl (Zm rfl rfl (Xbk k)) rfl) a3) (Zm rfl rfl (Xlt k)) rfl) (Zm rfl rfl a1) ((Zdx _ _).trans (congrArg (fun b=>some (D.bl b)) (decide_eq_false q))))) rfl
    ·by_cases ej:j=i
     ·subst ej
      rw [hk'] at hk2
      cases hk2
      exact q
     ·exact hp j k' (by omega) hk2
  ·rintro ρ ⟨-,hp⟩
   exfalso
   rcases Zzq ns ks hw e with q | ⟨k,k1,k2,k3⟩
   ·exact hh q
   ·obtain ⟨j,hj,ej⟩:=List.getElem_of_mem (List.mem_filter (p:=fun k:Kd=>good ns k (((e+1:Nat):Int) - k.w)).mpr ⟨k1,k2⟩)
    refine hp j k (by rw [length_map];exact hj) ?_ k3
    rw [getElem?_eq_getElem hj,ej]
theorem Zyk (ns:List Int)(ks:List Kd):Zcf ns ks 0=[([],0)]:=rfl
theorem Zbc (ns:List Int)(ks:List Kd)(hw:∀k∈ks,1≤k.w)(j:Nat)(c:Cut):c∈Zcf ns ks (j+1)↔c∈Zcf ns ks j∨∃k∈ks,good ns k ((j+1:Nat) - k.w)=true∧∃c'∈Zcf ns ks (((j+1:Nat):Int) - k.w).toNat,c=(c'.1++[(((j+1:Nat):Int) - k.w,k.name)],c'.2+k.wo):=by
 rw [Zes ns ks hw j,List.mem_append]
 refine or_congr Iff.rfl ?_
 rw [List.mem_flatten]
 constructor
 ·rintro ⟨l,hl,hc⟩
  obtain ⟨k,k1,rfl⟩:=List.mem_map.mp hl
  split at hc
  ·rename_i hg
   obtain ⟨c',c1,rfl⟩:=List.mem_map.mp hc
   exact ⟨k,k1,hg,c',c1,rfl⟩
  ·cases hc
 ·rintro ⟨k,k1,hg,c',c1,rfl⟩
  refine ⟨_,List.mem_map.mpr ⟨k,k1,rfl⟩,?_⟩
  rw [if_pos hg]
  exact List.mem_map.mpr ⟨c',c1,rfl⟩
theorem Xkt (ns:List Int)(ks:List Kd)(hw:∀k∈ks,1≤k.w):∀j,(∀c∈Zcf ns ks j,c.2≤ht ns ks j)∧∃c∈Zcf ns ks j,c.2=ht ns ks j:=by
 intro j
 induction j using Nat.strongRecOn with
 | _ j ih =>
  cases j with
  | zero =>
   refine ⟨fun c hc=>?_,([],0),.head _,rfl⟩
   rw [Zyk] at hc
   rw [List.mem_singleton.mp hc]
   exact Int.le_refl _
  | succ j =>
   refine ⟨fun c hc=>?_,?_⟩
   ·rcases (Zbc ns ks hw j c).mp hc with h | ⟨k,k1,hg,c',c1,rfl⟩
    ·have:=(ih j (by omega)).1 c h
     have:=Zfk ns ks hw j
     omega
    ·have bd:=Xs hg
     have hw1:=hw k k1
     have h1:=(ih (((j+1:Nat):Int) - k.w).toNat (by omega)).1 c' c1
     have h2:=Zdq ns ks hw k1 hg
     rw [show ((j+1:Nat):Int) - k.w+k.w=((j+1:Nat):Int) by omega,toNat_natCast] at h2
     show c'.2+k.wo≤_
     omega
   ·rcases Zzq ns ks hw j with h | ⟨k,k1,hg,h⟩
    ·obtain ⟨c,c1,c2⟩:=(ih j (by omega)).2
     exact ⟨c,(Zbc ns ks hw j c).mpr (.inl c1),by rw [h,c2]⟩
    ·have bd:=Xs hg
     have hw1:=hw k k1
     obtain ⟨c,c1,c2⟩:=(ih (((j+1:Nat):Int) - k.w).toNat (by omega)).2
     exact ⟨_,(Zbc ns ks hw j _).mpr (.inr ⟨k,k1,hg,c,c1,rfl⟩),by rw [← h,← c2]⟩
theorem Xjf (ns:List Int)(ks:List Kd)(hn:ns.length≤900)(hk:ks.length≤1000)(hw:∀k∈ks,1≤k.w):∃ps,Je [iD ns,tD ks,iD (hts ns ks ns.length),.int ns.length]=.ok (psD ps)∧(ps,ht ns ks ns.length)∈Zcf ns ks ns.length:=by
  obtain ⟨ρ',h1,h2⟩:=Zyh (c:=cE (f2 gGt (fV 3) (fC (.int 0)))) (s:=Zcd) (P:=fun e ρ=>e≤ns.length∧∃(ps:List (Int×Str)) (o:Option D),ps.length+e≤ns.length∧ρ=[some (iD ns),some (tD ks),some (iD (hts ns ks ns.length)),some (.int e),some (psD ps),o]∧∀c∈Zcf ns ks e,(c.1++ps.reverse,c.2+(ht ns ks ns.length - ht ns ks e))∈Zcf ns ks ns.length)
    (fun e ρ p=>by
      obtain ⟨he,ps,o,hps,rfl,hc⟩:=p
      cases e with
      | zero =>
        refine .inl ⟨rfl,?_⟩
        exact Jl (Zm rfl rfl rfl)
      | succ e =>
        refine .inr ⟨?_,?_⟩
        · exact Jl (Zm rfl rfl (congrArg (fun b=>some (D.bl b)) (decide_eq_true (Int.natCast_pos.mpr (Nat.succ_pos e)))))
        · rcases Znq ns ks hn hk hw he with ⟨q1,q2⟩ | ⟨k,k1,hg,q1,q2⟩
          · refine ⟨e,[some (iD ns),some (tD ks),some (iD (hts ns ks ns.length)),some (.int e),some (psD ps),some .non],by omega,?_,by omega,ps,_,by omega,rfl,fun c c1=>?_⟩
            · have e1:((e+1:Nat):Int) - 1=(e:Int):=by omega
              exact Zq (Xf (Zs (Zd rfl (Zd rfl (Zd rfl (Zd rfl rfl)))) q2)) (Zci (Jl (Zm rfl rfl rfl)) (Xsk rfl rfl (congrArg (fun z=>some (D.int z)) e1)))
            · have:=hc c ((Zbc ns ks hw e c).mpr (.inl c1))
              rw [q1] at this
              exact this
          · have bd:=Xs hg
            have hw1:=hw k k1
            obtain ⟨d,hd⟩:∃d:Nat,((e+1:Nat):Int) - k.w=(d:Int):=⟨(((e+1:Nat):Int) - k.w).toNat,by omega⟩
            refine ⟨d,[some (iD ns),some (tD ks),some (iD (hts ns ks ns.length)),some (.int d),some (psD (ps++[((d:Int),k.name)])),some (kD k)],by omega,?_,by omega,_,_,by rw [length_append,length_singleton];omega,rfl,fun c c1=>?_⟩
            · have hlim:(ps.map pD).length<lim:=by rw [length_map];show _<1000000;omega
              rw [show psD (ps++[((d:Int),k.name)])=.lst (ps.map pD++[.tup [.int d,.str k.name]]) from congrArg D.lst map_append]
              exact Zq (Xf (Zs (Zd rfl (Zd rfl (Zd rfl (Zd rfl rfl)))) q2)) (Yu (Jl (Zm rfl rfl rfl)) (Zq (Xsk rfl (Zm rfl rfl (Xbk k)) (congrArg (fun z=>some (D.int z)) hd)) (Zgo rfl (Zbs (Zd (Zcz rfl rfl) (Zd (Zcz (Zm rfl rfl (kD_0 k)) rfl) rfl)) rfl) hlim)))
            · have hin:=(Zbc ns ks hw e (c.1++[((d:Int),k.name)],c.2+k.wo)).mpr (.inr ⟨k,k1,hg,c,by rw [hd];exact c1,by rw [hd]⟩)
              have:=hc _ hin
              rw [hd,toNat_natCast] at q1
              rw [reverse_append,List.reverse_singleton,← append_assoc]
              have e5:c.2+k.wo+(ht ns ks ns.length - ht ns ks (e+1))=c.2+(ht ns ks ns.length - ht ns ks d):=by omega
              simp only [e5] at this
              exact this) ns.length 100000 [some (iD ns),some (tD ks),some (iD (hts ns ks ns.length)),some (.int ns.length),some (.lst []),none] (by omega) ⟨le_refl _,[],none,by simp,rfl,fun c c1=>by simpa using c1⟩
  obtain ⟨-,ps,o,-,rfl,hc⟩:=h2
  have:=hc ([],0) (.head _)
  rw [Zwz] at this
  refine ⟨ps.reverse,?_,by simpa using this⟩
  have hr:Zgp (.lst (ps.map pD))=some (.lst (ps.map pD).reverse):=if_pos (Xdk ps)
  rw [show psD ps.reverse=.lst (ps.map pD).reverse from congrArg D.lst (List.map_reverse)]
  exact Ji (Zq (Xf rfl) (Zq h1 (Jd (Zcz rfl hr))))
theorem Xky (ns:List Int)(ks:List Kd)(hn:ns.length≤900)(hk:ks.length≤1000)(hw:∀k∈ks,1≤k.w):∃ps,Zjq [iD ns,tD ks]=.ok (.tup [.int (ht ns ks ns.length),psD ps])∧(ps,ht ns ks ns.length)∈Zcf ns ks ns.length:=by
 obtain ⟨ps,h1,h2⟩:=Xjf ns ks hn hk hw
 refine ⟨ps,?_,h2⟩
 have hh:=Zap ns ks hn hk hw
 have hl:=Zai ns ks ns.length
 have ix:=Zrn (ns:=hts ns ks ns.length) hl
 rw [Zgg ns ks _ _ (le_refl _)] at ix
 have ix':gIx (iD (hts ns ks ns.length)) (.int (-1))=_:=ix
 have l2:Zcc [iD ns]=some (.int ns.length):=by simp [iD]
 generalize iD (hts ns ks ns.length)=T at *
 generalize iD ns=A at *
 generalize tD ks=B at *
 simp [Zjq,Xfp,hh,ix',l2,h1]
inductive Way (ns:List Int)(ks:List Kd):Nat→Nat→Int→Prop where
 | nil (a:Nat):Way ns ks a a 0
 | skip {a b:Nat} {w:Int}:Way ns ks a b w→b+1≤ns.length→Way ns ks a (b+1) w
 | piece {a b:Nat} {w:Int} {k:Kd}:Way ns ks a b w→k∈ks→good ns k (b:Int)=true→Way ns ks a (b+k.w.toNat) (w+k.wo)
section
variable {ns:List Int}{ks:List Kd}
theorem Way.le {a b:Nat}{w:Int}(h:Way ns ks a b w):a≤b:=by
 induction h with
 | nil=>exact le_refl _
 | skip _ _ ih=>omega
 | piece _ _ _ ih=>omega
theorem Way.trans {a b c:Nat}{w v:Int}(h:Way ns ks a b w)(g:Way ns ks b c v):Way ns ks a c (w+v):=by
 induction g with
 | nil=>rw [Int.add_zero];exact h
 | skip _ hb ih=>exact ih.skip hb
 | piece _ hk hg ih =>
  rw [← Int.add_assoc]
  exact ih.piece hk hg
theorem Way.one {a:Nat}(h:a+1≤ns.length):Way ns ks a (a+1) 0:=(Way.nil a).skip h
theorem Way.pc {a:Nat}{k:Kd}(hk:k∈ks)(hg:good ns k (a:Int)=true):Way ns ks a (a+k.w.toNat) k.wo:=by
 have:=(Way.nil (ns:=ns) (ks:=ks) a).piece hk hg
 rwa [Int.zero_add] at this
theorem Way.rev (hw:∀k∈ks,1≤k.w){a b:Nat}{w:Int}(h:Way ns ks a b w):a≤ns.length→Way ns.reverse ks (ns.length - b) (ns.length - a) w:=by
 induction h with
 | nil=>exact fun _=>.nil _
 | @skip b w h hb ih =>
  intro ha
  have i:=ih ha
  have o:=Way.one (ns:=ns.reverse) (ks:=ks) (a:=ns.length - (b+1)) (by rw [length_reverse];omega)
  rw [show ns.length - (b+1)+1=ns.length - b by omega] at o
  have:=o.trans i
  rwa [Int.zero_add] at this
 | @piece b w k h hk hg ih =>
  intro ha
  have i:=ih ha
  have bd:=Xs hg
  have h1:=hw k hk
  have hg':good ns.reverse k ((ns.length - (b+k.w.toNat):Nat):Int)=true:=by
   rw [Zkg h1,show (ns.length:Int) - ((ns.length - (b+k.w.toNat):Nat):Int) - k.w=(b:Int) by omega]
   exact hg
  have o:=Way.pc (ns:=ns.reverse) hk hg'
  rw [show ns.length - (b+k.w.toNat)+k.w.toNat=ns.length - b by omega] at o
  have:=o.trans i
  rwa [Int.add_comm] at this
theorem Zrw (hw:∀k∈ks,1≤k.w):∀j,j≤ns.length→Way ns ks 0 j (ht ns ks j):=by
 intro j
 induction j using Nat.strongRecOn with
 | _ j ih =>
  intro hj
  cases j with
  | zero=>exact .nil 0
  | succ j =>
   rcases Zzq ns ks hw j with h | ⟨k,k1,hg,h⟩
   ·rw [h]
    exact (ih j (by omega) (by omega)).skip hj
   ·have bd:=Xs hg
    have h1:=hw k k1
    obtain ⟨q,hq⟩:∃q:Nat,((j+1:Nat):Int) - k.w=(q:Int):=⟨(((j+1:Nat):Int) - k.w).toNat,by omega⟩
    rw [hq] at hg h
    rw [toNat_natCast] at h
    have:=(ih q (by omega) (by omega)).piece k1 hg
    rw [h,show q+k.w.toNat=j+1 by omega] at this
    exact this
theorem Xay {w:Int}(h:1≤w)(b:Nat):((b:Int)+w).toNat=b+w.toNat:=by
 obtain ⟨n,rfl⟩:=Int.eq_ofNat_of_zero_le (Int.le_trans (by decide) h)
 rfl
theorem Zxt (hw:∀k∈ks,1≤k.w){j:Nat}{w:Int}(h:Way ns ks 0 j w):w≤ht ns ks j:=by
 generalize ha:(0:Nat)=a at h
 induction h with
 | nil=>subst ha;exact Int.le_refl _
 | @skip b w h hb ih =>
  exact Int.le_trans ih (Zfk ns ks hw b)
 | @piece b w k h hk hg ih =>
  have:=Zdq ns ks hw hk hg
  rw [toNat_natCast,Xay (hw k hk)] at this
  exact Int.le_trans (Int.add_le_add_right ih _) this
theorem Zrl (e:Nat)(i:Nat):pre (ns.drop e) i=pre ns (e+i) - pre ns e:=by
 have:=Zwb ns e (e+i) (le_add_right _ _)
 rw [Nat.add_sub_cancel_left] at this
 exact this
theorem Xcx (a b c:Int):a - c - (b - c)=a - b:=by omega
theorem Zmj {k:Kd}{e p:Nat}(h0:1≤k.w)(he:e≤ns.length):good (ns.drop e) k (p:Int)=good ns k ((e+p:Nat):Int):=by
 unfold good
 apply decide_eq_decide.mpr
 obtain ⟨n,hn⟩:=Int.eq_ofNat_of_zero_le (Int.le_trans (by decide) h0)
 have hl:(ns.drop e).length=ns.length - e:=length_drop
 have e1:(((e+p:Nat):Int)+(n:Int)).toNat=e+(p+n):=add_assoc e p n
 have e2:((p:Int)+(n:Int)).toNat=p+n:=rfl
 rw [hl,hn,Zrl,Zrl,toNat_natCast,toNat_natCast,e1,e2,Xcx]
 have c:((p:Int)+(n:Int)≤((ns.length - e:Nat):Int))↔(((e+p:Nat):Int)+(n:Int)≤(ns.length:Int)):=by
  refine ⟨fun h=>?_,fun h=>?_⟩
  ·have h:p+n≤ns.length - e:=Int.ofNat_le.mp h
   have h:e+p+n≤ns.length:=add_assoc e p n▸Nat.add_le_of_le_sub' he h
   exact Int.ofNat_le.mpr h
  ·have h:e+p+n≤ns.length:=Int.ofNat_le.mp h
   have h:p+n≤ns.length - e:=Nat.le_sub_of_add_le (by rw [Nat.add_comm,← add_assoc];exact h)
   exact Int.ofNat_le.mpr h
 exact ⟨fun ⟨_,a2,a3⟩=>⟨natCast_nonneg _,c.mp a2,a3⟩,fun ⟨_,a2,a3⟩=>⟨natCast_nonneg _,c.mpr a2,a3⟩⟩
theorem Way.up (hw:∀k∈ks,1≤k.w){e:Nat}(he:e≤ns.length){a b:Nat}{w:Int}(h:Way (ns.drop e) ks a b w):Way ns ks (e+a) (e+b) w:=by
 induction h with
 | nil=>exact .nil _
 | skip _ hb ih =>
  rw [length_drop] at hb
  exact ih.skip (by omega)
 | piece _ hk hg ih =>
  rw [Zmj (hw _ hk) he] at hg
  have:=ih.piece hk hg
  rwa [add_assoc] at this
theorem Way.down (hw:∀k∈ks,1≤k.w){e:Nat}(he:e≤ns.length){a b:Nat}{w:Int}(h:Way ns ks a b w):e≤a→Way (ns.drop e) ks (a - e) (b - e) w:=by
 induction h with
 | nil=>exact fun _=>.nil _
 | @skip b w h hb ih =>
  intro ha
  have hle:=le_trans ha h.le
  have i:=(ih ha).skip (by rw [length_drop,← Nat.sub_add_comm hle];exact Nat.sub_le_sub_right hb e)
  rw [← Nat.sub_add_comm hle] at i
  exact i
 | @piece b w k h hk hg ih =>
  intro ha
  have hle:=le_trans ha h.le
  have i:=(ih ha).piece hk (by rw [Zmj (hw k hk) he,Nat.add_sub_of_le hle];exact hg)
  rw [← Nat.sub_add_comm hle] at i
  exact i
theorem Zws (hw:∀k∈ks,1≤k.w){e:Nat}(he:e≤ns.length):ht ns.reverse ks (ns.length - e)=ht (ns.drop e) ks (ns.length - e):=by
 have g1:=Zrw (ns:=ns.drop e) hw (ns.length - e) (by rw [length_drop];omega)
 have g2:=(g1.up hw he).rev hw (by omega)
 rw [show ns.length - (e+(ns.length - e))=0 by omega,add_zero] at g2
 have h1:=Zxt hw g2
 have g3:=(Zrw (ns:=ns.reverse) hw (ns.length - e) (by rw [length_reverse];omega)).rev hw (zero_le _)
 rw [length_reverse,List.reverse_reverse,Nat.sub_zero,show ns.length - (ns.length - e)=e by omega] at g3
 have g4:=g3.down hw he (le_refl _)
 rw [sub_self] at g4
 have h2:=Zxt hw g4
 omega
end
noncomputable def V {α:Type}:R α→(α→Prop)→Prop
 | .ok a,Q=>Q a
 | .err _ _,_=>False
 | .bad,_=>False
@[simp] theorem V_ok {α:Type}(a:α)(Q:α→Prop):V (.ok a) Q=Q a:=(rfl)
theorem Zxd {α β:Type}(r:R α)(f:α→R β)(Q:β→Prop):V (r.bind f) Q=V r fun a=>V (f a) Q:=by cases r<;>rfl
theorem V.imp {α:Type}{r:R α}{Q Q':α→Prop}(h:V r Q)(g:∀a,Q a→Q' a):V r Q':=by
 cases r with
 | ok a=>exact g a h
 | err _ _=>exact h
 | bad=>exact h
theorem V.ex {α:Type}{r:R α}{Q:α→Prop}(h:V r Q):∃a,r=.ok a∧Q a:=by
 cases r with
 | ok a=>exact ⟨a,rfl,h⟩
 | err _ _=>exact h.elim
 | bad=>exact h.elim
theorem V.of {α:Type}{r:R α}{a:α}{Q:α→Prop}(e:r=.ok a)(h:Q a):V r Q:=by rw [e];exact h
noncomputable def turn (b:FB)(s:FS)(x:D)(ρ:Env):R Fl:=(b x ρ).calm.bind s
noncomputable def Tn (P:Env→Prop)(Q:Fl→Prop):Fl→Prop
 | .nx ρ=>P ρ
 | .cnt ρ=>P ρ
 | .brk ρ=>Q (.nx ρ)
 | .ret d=>Q (.ret d)
@[simp] theorem Tn_nx (P:Env→Prop)(Q:Fl→Prop)(ρ:Env):Tn P Q (.nx ρ)=P ρ:=(rfl)
@[simp] theorem Tn_cnt (P:Env→Prop)(Q:Fl→Prop)(ρ:Env):Tn P Q (.cnt ρ)=P ρ:=(rfl)
@[simp] theorem Tn_brk (P:Env→Prop)(Q:Fl→Prop)(ρ:Env):Tn P Q (.brk ρ)=Q (.nx ρ):=(rfl)
@[simp] theorem Tn_ret (P:Env→Prop)(Q:Fl→Prop)(d:D):Tn P Q (.ret d)=Q (.ret d):=(rfl)
theorem Xbt {b:FB}{s:FS}{Q:Fl→Prop}{P:List D→Env→Prop}(hs:∀x r ρ,P (x::r) ρ→V (turn b s x ρ) (Tn (P r) Q))(hd:∀ρ,P [] ρ→Q (.nx ρ)):∀{xs:List D} {ρ:Env},P xs ρ→V (Zbr b s xs ρ) Q
 | [],ρ,h=>hd ρ h
 | x::xs,ρ,h=>by
  have t:=hs x xs ρ h
  unfold turn at t
  rw [Zxd] at t
  rw [Zet,Zxd]
  refine t.imp fun ρ1 q=>?_
  rw [Zxd]
  refine q.imp fun fl q=>?_
  cases fl with
  | nx ρ2=>exact Xbt hs hd q
  | cnt ρ2=>exact Xbt hs hd q
  | brk ρ2=>exact q
  | ret d=>exact q
theorem Znm {α:Type}{enc:α→D}{b:FB}{s:FS}{Q:Fl→Prop}{P:List α→Env→Prop}(hs:∀x r ρ,P (x::r) ρ→V (turn b s (enc x) ρ) (Tn (P r) Q))(hd:∀ρ,P [] ρ→Q (.nx ρ)){xs:List α}{ρ:Env}(h:P xs ρ):V (Zbr b s (xs.map enc) ρ) Q:=by
 refine Xbt (P:=fun ds ρ=>∃ys:List α,ds=ys.map enc∧P ys ρ) (fun x r ρ p=>?_) (fun ρ p=>?_) ⟨xs,rfl,h⟩
 ·obtain ⟨ys,e,p⟩:=p
  cases ys with
  | nil=>cases e
  | cons y ys =>
   rw [map_cons,List.cons.injEq] at e
   obtain ⟨rfl,rfl⟩:=e
   refine (hs y ys ρ p).imp fun fl q=>?_
   cases fl with
   | nx ρ2=>exact ⟨ys,rfl,q⟩
   | cnt ρ2=>exact ⟨ys,rfl,q⟩
   | brk ρ2=>exact q
   | ret d=>exact q
 ·obtain ⟨ys,e,p⟩:=p
  cases ys with
  | nil=>exact hd ρ p
  | cons y ys=>cases e
theorem Xpl {b:FB}{s:FS}{Q:Fl→Prop}{P:Nat→Env→Prop}{xs:List D}{ρ:Env}(h0:P 0 ρ)(hs:∀i x ρ,xs[i]?=some x→P i ρ→V (turn b s x ρ) (Tn (P (i+1)) Q))(hd:∀ρ,P xs.length ρ→Q (.nx ρ)):V (Zbr b s xs ρ) Q:=by
 refine Xbt (P:=fun r ρ=>∃i,r=xs.drop i∧i≤xs.length∧P i ρ) (fun x r ρ p=>?_) (fun ρ p=>?_) ⟨0,rfl,zero_le _,h0⟩
 ·obtain ⟨i,e,hi,p⟩:=p
  have hl:i<xs.length:=by
   rcases Nat.lt_or_ge i xs.length with q | q
   ·exact q
   ·rw [List.drop_of_length_le q] at e;cases e
  rw [drop_eq_getElem_cons hl,List.cons.injEq] at e
  obtain ⟨rfl,rfl⟩:=e
  refine (hs i _ ρ (getElem?_eq_getElem hl) p).imp fun fl q=>?_
  cases fl with
  | nx ρ2=>exact ⟨i+1,rfl,hl,q⟩
  | cnt ρ2=>exact ⟨i+1,rfl,hl,q⟩
  | brk ρ2=>exact q
  | ret d=>exact q
 ·obtain ⟨i,e,hi,p⟩:=p
  have:i=xs.length:=by
   have:=congrArg List.length e
   rw [length_drop,length_nil] at this
   omega
  subst this
  exact hd ρ p
theorem Xqb {b:FB}{s:FS}{Q:Fl→Prop}{P:Nat→Env→Prop}{lo:Int}{n:Nat}{ρ:Env}(h0:P 0 ρ)(hs:∀i ρ,i<n→P i ρ→V (turn b s (.int (lo+i)) ρ) (Tn (P (i+1)) Q))(hd:∀ρ,P n ρ→Q (.nx ρ)):V (Zbr b s (Zgc lo n) ρ) Q:=
  Xpl h0 (fun i x ρ hx p=>by
    obtain ⟨hi,rfl⟩:=Zkz hx
    exact hs i ρ hi p) (fun ρ p=>hd ρ (by rw [Zaw] at p;exact p))
theorem Xql {b:FB}{s:FS}{Q:Fl→Prop}{P:Nat→Env→Prop}{n:Nat}{ρ:Env}(h0:P 0 ρ)(hs:∀(i:Nat) ρ,i<n→P i ρ→V (turn b s (.int (i:Int)) ρ) (Tn (P (i+1)) Q))(hd:∀ρ,P n ρ→Q (.nx ρ)):V (Zbr b s (Zgc 0 n) ρ) Q:=
 Xqb h0 (fun i ρ hi p=>by rw [Int.zero_add];exact hs i ρ hi p) hd
@[simp] theorem Zat (i:Nat)(s:FS)(x:D)(ρ:Env):turn (Xe i) s x ρ=s (ρ.set i (some x)):=(rfl)
@[simp] theorem ev_fJoin (a b:FE)(ρ:Env):fJoin a b ρ=(a ρ).bind fun x=>match x with | .str s=>(b ρ).bind fun y=>oR (Xtj (.str s) y) | _=>.bad:=(rfl)
@[simp] theorem calm_bad {α:Type}:(R.bad:R α).calm=.bad:=(rfl)
@[simp] theorem gLst_7 (a0 a1 a2 a3 a4 a5 a6:D):Zae [a0,a1,a2,a3,a4,a5,a6]=some (.lst [a0,a1,a2,a3,a4,a5,a6]):=rfl
@[simp] theorem gLst_8 (a0 a1 a2 a3 a4 a5 a6 a7:D):Zae [a0,a1,a2,a3,a4,a5,a6,a7]=some (.lst [a0,a1,a2,a3,a4,a5,a6,a7]):=rfl
@[simp] theorem gLst_9 (a0 a1 a2 a3 a4 a5 a6 a7 a8:D):Zae [a0,a1,a2,a3,a4,a5,a6,a7,a8]=some (.lst [a0,a1,a2,a3,a4,a5,a6,a7,a8]):=rfl
theorem add_str {x y:Str}{n m:Nat}(h:plain n x=true)(g:plain m y=true)(e:n+m≤1000):Jp (.str x) (.str y)=some (.str (x++y)):=by
 unfold Jp
 simp only []
 unfold plain at h g
 rw [Bool.and_eq_true] at h g
 have:=of_decide_eq_true h.1
 have:=of_decide_eq_true g.1
 rw [if_pos (by show _≤1000000;omega)]
noncomputable def eL:Nat→List Int→List D
 | _,[]=>[]
 | k,w::r=>.tup [.int (k:Int),.int w]::eL (k+1) r
theorem neX {d:D}(h:dep d≤20):gNe d d=some (.bl false):=by
 have hs:=Zld h
 simp only [gEq] at hs
 rw [if_pos ⟨h,h⟩] at hs
 have:eqv d d=true:=by simpa using hs
 simp only [gNe]
 rw [if_pos ⟨h,h⟩,this]
 rfl
theorem Zcv {b:FB}{s:FS}{x:D}{xs:List D}{ρ ρ1:Env}(hb:b x ρ=.ok ρ1):Zbr b s (x::xs) ρ=(s ρ1).bind fun fl=>match fl with
  | .nx ρ2=>Zbr b s xs ρ2
  | .cnt ρ2=>Zbr b s xs ρ2
  | .brk ρ2=>.ok (.nx ρ2)
  | .ret d=>.ok (.ret d):=by
 rw [Zet,hb]
 rfl
noncomputable def rg (k n:Nat):List D:=(List.range' k n).map fun (j:Nat)=>D.int (0+(j:Int))
theorem Zkk {e:FE}{ρ:Env}{ws:List Int}(h:e ρ=.ok (iD ws)):fA Zcc (Zc e Zt) ρ=.ok (.int ws.length):=Zbs (Zd h rfl) (by simp [iD,Zcc])
theorem Zml (ws:List Int):Jt [iD ws]=some (iD ws):=by simp [iD,Jt]
section
variable {ns:List Int}{ks:List Kd}
noncomputable def tg (ns:List Int)(ks:List Kd)(b:Nat):List Kd:=ks.filter fun k=>decide (ht ns ks ((b:Int) - k.w).toNat+k.wo=ht ns ks b)
noncomputable def be (ns:List Int)(ks:List Kd)(c b:Nat):Int:=(if b=c+1∧ht ns ks b=ht ns ks c then 1 else 0)+(((tg ns ks b).filter fun k=>good ns k c&&decide ((c:Int)+k.w=b)).length:Int)
noncomputable def cb (ns:List Int)(ks:List Kd)(e:Nat):Int:=W (be ns ks) 0 e
theorem Zms {b:Nat}{k:Kd}(h:k∈tg ns ks b):k∈ks:=(List.mem_filter.mp h).1
theorem cnt_cons {α:Type}(p:α→Bool)(x:α)(l:List α):(((x::l).filter p).length:Int)=(if p x=true then 1 else 0)+((l.filter p).length:Int):=by
 rw [filter_cons]
 by_cases h:p x=true
 ·rw [if_pos h,if_pos h,length_cons]
  omega
 ·rw [if_neg h,if_neg h]
  omega
theorem Zdz {α:Type}(p:α→Bool)(f:α→Int)(x:α)(l:List α):(((x::l).filter p).map f).sum=(if p x=true then f x else 0)+((l.filter p).map f).sum:=by
 rw [filter_cons]
 by_cases h:p x=true
 ·rw [if_pos h,if_pos h]
  rfl
 ·rw [if_neg h,if_neg h]
  omega
theorem Zqc (ns:List Int)(f:Nat→Int)(a d:Nat):∀l:List Kd,(∀k∈l,1≤k.w)→S (d+1) (fun i=>((l.filter fun k=>good ns k ((a+i:Nat):Int)&&decide (((a+i:Nat):Int)+k.w=((a+d+1:Nat):Int))).length:Int)*f i)=((l.filter fun k=>good ns k (((a+d+1:Nat):Int) - k.w)&&decide ((a:Int)≤((a+d+1:Nat):Int) - k.w)).map fun k=>f ((((a+d+1:Nat):Int) - k.w).toNat - a)).sum
 | [],_=>Zmr fun i _=>by simp
 | k::l,hl=>by
  have hk:=hl k (.head _)
  have ih:=Zqc ns f a d l fun x hx=>hl x (.tail _ hx)
  rw [Zdz,← ih]
  have e1:(fun i=>(((k::l).filter fun k=>good ns k ((a+i:Nat):Int)&&decide (((a+i:Nat):Int)+k.w=((a+d+1:Nat):Int))).length:Int)*f i)=fun i=>(if (good ns k ((a+i:Nat):Int)&&decide (((a+i:Nat):Int)+k.w=((a+d+1:Nat):Int)))=true then 1 else 0)*f i+((l.filter fun k=>good ns k ((a+i:Nat):Int)&&decide (((a+i:Nat):Int)+k.w=((a+d+1:Nat):Int))).length:Int)*f i:=funext fun i=>by rw [cnt_cons,Int.add_mul]
  rw [e1,← Xdx]
  congr 1
  obtain ⟨v,hv⟩:∃v,v=(if (good ns k (((a+d+1:Nat):Int) - k.w)&&decide ((a:Int)≤((a+d+1:Nat):Int) - k.w))=true then f ((((a+d+1:Nat):Int) - k.w).toNat - a) else 0):=⟨_,rfl⟩
  rw [← hv]
  by_cases hd:(a:Int)≤((a+d+1:Nat):Int) - k.w
  ·have e2:S (d+1) (fun i=>(if (good ns k ((a+i:Nat):Int)&&decide (((a+i:Nat):Int)+k.w=((a+d+1:Nat):Int)))=true then 1 else 0)*f i)=S (d+1) (fun i=>if i=(((a+d+1:Nat):Int) - k.w).toNat - a then v else 0):=Jr fun i hi=>by
    by_cases q:i=(((a+d+1:Nat):Int) - k.w).toNat - a
    ·have e3:((a+i:Nat):Int)=((a+d+1:Nat):Int) - k.w:=by omega
     rw [if_pos q,hv,e3,← q,decide_eq_true (show ((a+d+1:Nat):Int) - k.w+k.w=((a+d+1:Nat):Int) by omega),decide_eq_true hd]
     split
     ·rw [one_mul]
     ·rw [zero_mul]
    ·rw [if_neg q,decide_eq_false (show ¬((a+i:Nat):Int)+k.w=((a+d+1:Nat):Int) by omega),Bool.and_false,if_neg Bool.false_ne_true,zero_mul]
   rw [e2]
   exact Xmk (by omega) v
  ·rw [hv,decide_eq_false hd,Bool.and_false,if_neg Bool.false_ne_true]
   refine Zmr fun i hi=>?_
   rw [decide_eq_false (show ¬((a+i:Nat):Int)+k.w=((a+d+1:Nat):Int) by omega),Bool.and_false,if_neg Bool.false_ne_true,zero_mul]
theorem W_be (hw:∀k∈ks,1≤k.w)(a d:Nat):W (be ns ks) a (d+1)=(if ht ns ks (a+d+1)=ht ns ks (a+d) then W (be ns ks) a d else 0)+(((tg ns ks (a+d+1)).filter fun k=>good ns k (((a+d+1:Nat):Int) - k.w)&&decide ((a:Int)≤((a+d+1:Nat):Int) - k.w)).map fun k=>W (be ns ks) a ((((a+d+1:Nat):Int) - k.w).toNat - a)).sum:=by
 rw [Zln,← Zqc ns (W (be ns ks) a) a d (tg ns ks (a+d+1)) fun k hk=>hw k (Zms hk)]
 obtain ⟨v,hv⟩:∃v,v=(if ht ns ks (a+d+1)=ht ns ks (a+d) then W (be ns ks) a d else 0):=⟨_,rfl⟩
 rw [← hv,← Xmk (Nat.lt_succ_self d) v,Xdx]
 refine Jr fun i hi=>?_
 rw [show be ns ks (a+i) (a+d+1)=(if a+d+1=a+i+1∧ht ns ks (a+d+1)=ht ns ks (a+i) then 1 else 0)+(((tg ns ks (a+d+1)).filter fun k=>good ns k ((a+i:Nat):Int)&&decide (((a+i:Nat):Int)+k.w=((a+d+1:Nat):Int))).length:Int) from rfl,Int.add_mul]
 congr 1
 by_cases e:i=d
 ·subst e
  rw [if_pos rfl,hv]
  by_cases q:ht ns ks (a+i+1)=ht ns ks (a+i)
  ·rw [if_pos ⟨rfl,q⟩,if_pos q,one_mul]
  ·rw [if_neg (fun z=>q z.2),if_neg q,zero_mul]
 ·rw [if_neg e,if_neg (fun z=>e (by omega)),zero_mul]
theorem Zyc:cb ns ks 0=1:=rfl
theorem Zpc (hw:∀k∈ks,1≤k.w)(e:Nat):cb ns ks (e+1)=(if ht ns ks (e+1)=ht ns ks e then cb ns ks e else 0)+(((tg ns ks (e+1)).filter fun k=>good ns k (((e+1:Nat):Int) - k.w)).map fun k=>cb ns ks (((e+1:Nat):Int) - k.w).toNat).sum:=by
 have h:=W_be (ns:=ns) (ks:=ks) hw 0 e
 rw [show 0+e+1=e+1 by omega,show 0+e=e by omega] at h
 unfold cb
 rw [h]
 congr 1
 have hf:((tg ns ks (e+1)).filter fun k=>good ns k (((e+1:Nat):Int) - k.w)&&decide (((0:Nat):Int)≤((e+1:Nat):Int) - k.w))=(tg ns ks (e+1)).filter fun k=>good ns k (((e+1:Nat):Int) - k.w):=by
  refine filter_congr fun k _=>?_
  by_cases g:good ns k (((e+1:Nat):Int) - k.w)=true
  ·have:=(Xs g).1
   rw [g,Bool.true_and]
   exact decide_eq_true (by omega)
  ·rw [Bool.eq_false_iff.mpr g,Bool.false_and]
 rw [hf]
 rfl
theorem W_nn {e:Nat→Nat→Int}(h:∀c b,0≤e c b)(a:Nat):∀d,0≤W e a d:=fun d=>by
 induction d using Nat.strongRecOn with
 | ind d ih =>
  cases d with
  | zero=>rw [Xfs];decide
  | succ d =>
   rw [Zln]
   have:∀n (f:Nat→Int),(∀i,i<n→0≤f i)→0≤S n f:=fun n f=>by
    induction n with
    | zero=>exact fun _=>Int.le_refl _
    | succ n ihn=>exact fun hf=>add_nonneg (ihn fun i hi=>hf i (by omega)) (hf n (by omega))
   exact this _ _ fun i hi=>mul_nonneg (h _ _) (ih i hi)
theorem Xtr (c b:Nat):0≤be ns ks c b:=by
 unfold be
 split<;>omega
noncomputable def rs (ns:List Int)(ks:List Kd)(e:Nat):Int:=ht ns.reverse ks (ns.length - e)
theorem Xsy (hw:∀k∈ks,1≤k.w){a:Nat}(ha:a≤ns.length):Way ns ks a ns.length (rs ns ks a):=by
 have h:=Zrw (ns:=ns.drop a) (ks:=ks) hw (ns.length - a) (by rw [length_drop];exact le_refl _)
 have h2:=Way.up hw ha h
 rw [add_zero,show a+(ns.length - a)=ns.length by omega] at h2
 unfold rs
 rw [Zws hw ha]
 exact h2
theorem Xbg (hw:∀k∈ks,1≤k.w){a:Nat}(ha:a≤ns.length):ht ns ks a+rs ns ks a≤ht ns ks ns.length:=Zxt hw ((Zrw hw a ha).trans (Xsy hw ha))
theorem Xhs (hw:∀k∈ks,1≤k.w){a:Nat}(ha:a+1≤ns.length):rs ns ks (a+1)≤rs ns ks a:=by
 unfold rs
 rw [show ns.length - a=ns.length - (a+1)+1 by omega]
 exact Zfk _ _ hw _
theorem Xne (hw:∀k∈ks,1≤k.w){k:Kd}(hk:k∈ks){a b:Nat}(hg:good ns k (a:Int)=true)(hb:(a:Int)+k.w=b):rs ns ks b+k.wo≤rs ns ks a:=by
 have h1:=hw k hk
 have h2:=Xs hg
 have hg':good ns.reverse k ((ns.length:Int) - b)=true:=by
  rw [Zkg h1,show (ns.length:Int) - ((ns.length:Int) - b) - k.w=a by omega]
  exact hg
 have h3:=Zdq ns.reverse ks hw hk hg'
 rw [show ((ns.length:Int) - b).toNat=ns.length - b by omega,show ((ns.length:Int) - b+k.w).toNat=ns.length - a by omega] at h3
 exact h3
theorem Xou:rs ns ks ns.length=0:=by
 unfold rs
 rw [sub_self]
 rfl
noncomputable def re (ns:List Int)(ks:List Kd)(c b:Nat):Int:=be ns.reverse ks (ns.length - b) (ns.length - c)
theorem W_re {a:Nat}(ha:a≤ns.length):cb ns.reverse ks (ns.length - a)=W (re ns ks) a (ns.length - a):=by
  have h:=Xqi (e:=re ns ks) (e':=be ns.reverse ks) (M:=ns.length) (fun x y hx hy=>by
    unfold re
    rw [show ns.length - (ns.length - x)=x by omega,show ns.length - (ns.length - y)=y by omega]) (ns.length - a) a (by omega)
  rw [show ns.length - a - (ns.length - a)=0 by omega] at h
  exact h
theorem Xhq (c b:Nat):be ns ks c b=(if b=c+1∧ht ns ks b=ht ns ks c then 1 else 0)+((ks.filter fun k=>(good ns k (c:Int)&&decide ((c:Int)+k.w=b))&&decide (ht ns ks c+k.wo=ht ns ks b)).length:Int):=by
 unfold be tg
 rw [filter_filter]
 congr 3
 refine filter_congr fun k _=>?_
 by_cases h:(c:Int)+k.w=b
 ·rw [show ((b:Int) - k.w).toNat=c by omega]
 ·rw [decide_eq_false h,Bool.and_false,Bool.false_and,Bool.false_and]
theorem Xpp (hw:∀k∈ks,1≤k.w){c b:Nat}(hc:c<b)(hb:b≤ns.length):re ns ks c b=(if b=c+1∧rs ns ks c=rs ns ks b then 1 else 0)+((ks.filter fun k=>(good ns k (c:Int)&&decide ((c:Int)+k.w=b))&&decide (rs ns ks b+k.wo=rs ns ks c)).length:Int):=by
 unfold re
 rw [Xhq]
 have e1:(ns.length - c=ns.length - b+1∧ht ns.reverse ks (ns.length - c)=ht ns.reverse ks (ns.length - b))↔(b=c+1∧rs ns ks c=rs ns ks b):=⟨fun z=>⟨by omega,z.2⟩,fun z=>⟨by omega,z.2⟩⟩
 congr 1
 ·by_cases h:b=c+1∧rs ns ks c=rs ns ks b
  ·rw [if_pos h,if_pos (e1.mpr h)]
  ·rw [if_neg h,if_neg (fun z=>h (e1.mp z))]
 ·congr 2
  refine filter_congr fun k hk=>?_
  have h1:=hw k hk
  by_cases h:(c:Int)+k.w=b
  ·rw [Zkg h1,show (ns.length:Int) - ((ns.length - b:Nat):Int) - k.w=(c:Int) by omega,decide_eq_true h,decide_eq_true (show ((ns.length - b:Nat):Int)+k.w=((ns.length - c:Nat):Int) by omega)]
   rfl
  ·rw [decide_eq_false h,decide_eq_false (show ¬((ns.length - b:Nat):Int)+k.w=((ns.length - c:Nat):Int) by omega)]
   rw [Bool.and_false,Bool.and_false,Bool.false_and,Bool.false_and]
theorem len_pos {α:Type}{p:α→Bool}{l:List α}(h:((l.filter p).length:Int)≠0):∃x∈l,p x=true:=by
 cases e:l.filter p with
 | nil=>rw [e] at h;exact absurd rfl h
 | cons x r =>
  have:x∈l.filter p:=by rw [e];exact .head _
  exact ⟨x,(List.mem_filter.mp this).1,(List.mem_filter.mp this).2⟩
theorem Xmf (hw:∀k∈ks,1≤k.w){c b:Nat}(hc:c<b)(hb:b≤ns.length)(h:be ns ks c b≠0):ht ns ks b+rs ns ks b≤ht ns ks c+rs ns ks c:=by
 rw [Xhq] at h
 by_cases h1:b=c+1∧ht ns ks b=ht ns ks c
 ·obtain ⟨e,h2⟩:=h1
  subst e
  have:=Xhs (ns:=ns) (ks:=ks) hw hb
  omega
 ·rw [if_neg h1,Int.zero_add] at h
  obtain ⟨k,hk,hp⟩:=len_pos h
  rw [Bool.and_eq_true,Bool.and_eq_true] at hp
  have:=Xne hw hk hp.1.1 (of_decide_eq_true hp.1.2)
  have:=of_decide_eq_true hp.2
  omega
theorem Xkj (hw:∀k∈ks,1≤k.w){c b:Nat}(hc:c<b)(hb:b≤ns.length)(h:re ns ks c b≠0):ht ns ks c+rs ns ks c≤ht ns ks b+rs ns ks b:=by
 rw [Xpp hw hc hb] at h
 by_cases h1:b=c+1∧rs ns ks c=rs ns ks b
 ·obtain ⟨e,h2⟩:=h1
  subst e
  have:=Zfk ns ks hw c
  omega
 ·rw [if_neg h1,Int.zero_add] at h
  obtain ⟨k,hk,hp⟩:=len_pos h
  rw [Bool.and_eq_true,Bool.and_eq_true] at hp
  have h3:=Zdq ns ks hw hk hp.1.1
  have h4:=of_decide_eq_true hp.1.2
  rw [show ((c:Int)).toNat=c by omega,show ((c:Int)+k.w).toNat=b by omega] at h3
  have:=of_decide_eq_true hp.2
  omega
theorem S_ne {n:Nat}{f:Nat→Int}(h:∀i,i<n→f i=0):S n f=0:=Zmr h
theorem Xgf (hw:∀k∈ks,1≤k.w):∀(d b:Nat),b+d=ns.length→ht ns ks b+rs ns ks b≠ht ns ks ns.length→W (be ns ks) b d=0:=fun d=>by
 induction d using Nat.strongRecOn with
 | ind d ih =>
  intro b hb hne
  cases d with
  | zero =>
   rw [add_zero] at hb
   rw [hb,Xou] at hne
   omega
  | succ d =>
   rw [Zkf]
   refine Zmr fun i hi=>?_
   by_cases h:ht ns ks (b+d+1 - i)+rs ns ks (b+d+1 - i)=ht ns ks ns.length
   ·have:be ns ks b (b+d+1 - i)=0:=by
     by_cases q:be ns ks b (b+d+1 - i)=0
     ·exact q
     ·have h1:=Xmf hw (by omega) (by omega) q
      have h2:=Xbg (ns:=ns) (ks:=ks) hw (a:=b) (by omega)
      omega
    rw [this,zero_mul]
   ·rw [ih i (by omega) (b+d+1 - i) (by omega) h,mul_zero]
theorem Xoh (hw:∀k∈ks,1≤k.w):∀(d a:Nat),a+d=ns.length→ht ns ks a+rs ns ks a=ht ns ks ns.length→W (be ns ks) a d=W (re ns ks) a d:=fun d=>by
 induction d using Nat.strongRecOn with
 | ind d ih =>
  intro a ha he
  cases d with
  | zero=>rfl
  | succ d =>
   rw [Zkf,Zkf]
   refine Jr fun i hi=>?_
   have hb:a+d+1 - i≤ns.length:=by omega
   have hc:a<a+d+1 - i:=by omega
   obtain ⟨b,hbe⟩:∃b,b=a+d+1 - i:=⟨_,rfl⟩
   rw [← hbe] at hb hc ⊢
   by_cases h:ht ns ks b+rs ns ks b=ht ns ks ns.length
   ·rw [ih i (by omega) b (by omega) h]
    congr 1
    rw [Xhq,Xpp hw hc hb]
    congr 1
    ·have:(b=a+1∧ht ns ks b=ht ns ks a)↔(b=a+1∧rs ns ks a=rs ns ks b):=⟨fun z=>⟨z.1,by omega⟩,fun z=>⟨z.1,by omega⟩⟩
     by_cases q:b=a+1∧ht ns ks b=ht ns ks a
     ·rw [if_pos q,if_pos (this.mp q)]
     ·rw [if_neg q,if_neg (fun z=>q (this.mpr z))]
    ·congr 2
     refine filter_congr fun k _=>?_
     congr 1
     exact decide_eq_decide.mpr ⟨fun z=>by omega,fun z=>by omega⟩
   ·rw [Xgf hw i b (by omega) h,mul_zero]
    have:re ns ks a b=0:=by
     by_cases q:re ns ks a b=0
     ·exact q
     ·have h1:=Xkj hw hc hb q
      have h2:=Xbg (ns:=ns) (ks:=ks) hw (a:=b) hb
      omega
    rw [this,zero_mul]
theorem Zjj (hw:∀k∈ks,1≤k.w):∀e,0<cb ns ks e:=fun e=>by
 induction e using Nat.strongRecOn with
 | ind e ih =>
  cases e with
  | zero=>rw [Zyc];decide
  | succ e =>
   rw [Zpc hw]
   have nn:∀l:List Kd,0≤(l.map fun k=>cb ns ks (((e+1:Nat):Int) - k.w).toNat).sum:=fun l=>by
    induction l with
    | nil=>exact Int.le_refl _
    | cons k l ihl=>exact add_nonneg (W_nn Xtr 0 _) ihl
   rcases Zzq ns ks hw e with h | ⟨k,hk,hg,h⟩
   ·rw [if_pos h]
    have:=ih e (by omega)
    have:=nn ((tg ns ks (e+1)).filter fun k=>good ns k (((e+1:Nat):Int) - k.w))
    omega
   ·have hm:k∈(tg ns ks (e+1)).filter fun k=>good ns k (((e+1:Nat):Int) - k.w):=List.mem_filter.mpr ⟨List.mem_filter.mpr ⟨hk,decide_eq_true h⟩,hg⟩
    obtain ⟨l1,l2,hl⟩:=List.append_of_mem hm
    rw [hl,map_append,map_cons,sum_append,sum_cons]
    have h1:=hw k hk
    have h2:=(Xs hg).1
    have:=ih (((e+1:Nat):Int) - k.w).toNat (by omega)
    have:=nn l1
    have:=nn l2
    have h0:(0:Int)≤if ht ns ks (e+1)=ht ns ks e then cb ns ks e else 0:=by
     split
     ·exact W_nn Xtr 0 _
     ·exact Int.le_refl _
    omega
noncomputable def Zgl (ns:List Int)(ks:List Kd)(e:Nat):List Cut:=(Zcf ns ks e).filter fun c=>decide (c.2=ht ns ks e)
noncomputable def Zpa (ns:List Int)(ks:List Kd)(F:Cut→Int)(e:Nat):Int:=((Zgl ns ks e).map F).sum
theorem Zmt (hw:∀k∈ks,1≤k.w)(F:Cut→Int)(e:Nat):Zpa ns ks F (e+1)=(if ht ns ks (e+1)=ht ns ks e then Zpa ns ks F e else 0) +
  (((tg ns ks (e+1)).filter fun k=>good ns k (((e+1:Nat):Int) - k.w)).map fun k=>Zpa ns ks (fun c=>F (c.1++[(((e+1:Nat):Int) - k.w,k.name)],c.2+k.wo)) (((e+1:Nat):Int) - k.w).toNat).sum:=by
 have hle:=Xkt ns ks hw
 have hm:=Zfk ns ks hw e
 have p1:((((Zcf ns ks e).filter fun c=>decide (c.2=ht ns ks (e+1))).map F).sum:Int)=if ht ns ks (e+1)=ht ns ks e then Zpa ns ks F e else 0:=by
  by_cases h:ht ns ks (e+1)=ht ns ks e
  ·rw [if_pos h,h]
   rfl
  ·rw [if_neg h,List.filter_eq_nil_iff.mpr fun c hc z=>?_]
   ·rfl
   ·have:=(hle e).1 c hc
    have:=of_decide_eq_true z
    omega
 have p2:∀l:List Kd,(∀k∈l,k∈ks)→(((((l.map fun k=>if good ns k (((e+1:Nat):Int) - k.w)=true then (Zcf ns ks (((e+1:Nat):Int) - k.w).toNat).map fun c=>((c.1++[(((e+1:Nat):Int) - k.w,k.name)],c.2+k.wo):Cut) else []).flatten).filter fun c=>decide (c.2=ht ns ks (e+1))).map F).sum:Int) =
   ((l.filter fun k=>good ns k (((e+1:Nat):Int) - k.w)&&decide (ht ns ks (((e+1:Nat):Int) - k.w).toNat+k.wo=ht ns ks (e+1))).map fun k=>Zpa ns ks (fun c=>F (c.1++[(((e+1:Nat):Int) - k.w,k.name)],c.2+k.wo)) (((e+1:Nat):Int) - k.w).toNat).sum:=fun l=>by
  induction l with
  | nil=>exact fun _=>rfl
  | cons k l ih =>
   intro hl
   rw [map_cons,flatten_cons,List.filter_append,map_append,sum_append,ih fun x hx=>hl x (.tail _ hx),Zdz]
   congr 1
   have hk:=hl k (.head _)
   by_cases g:good ns k (((e+1:Nat):Int) - k.w)=true
   ·rw [if_pos g,g,Bool.true_and,List.filter_map,map_map]
    have hb:=Xs g
    have h1:=Zdq ns ks hw hk g
    rw [show (((e+1:Nat):Int) - k.w+k.w).toNat=e+1 by omega] at h1
    by_cases t:ht ns ks (((e+1:Nat):Int) - k.w).toNat+k.wo=ht ns ks (e+1)
    ·rw [if_pos (decide_eq_true t)]
     unfold Zpa Zgl
     have e2:((Zcf ns ks (((e+1:Nat):Int) - k.w).toNat).filter ((fun c:Cut=>decide (c.2=ht ns ks (e+1)))∘fun c=>(c.1++[(((e+1:Nat):Int) - k.w,k.name)],c.2+k.wo)))=(Zcf ns ks (((e+1:Nat):Int) - k.w).toNat).filter fun c=>decide (c.2=ht ns ks (((e+1:Nat):Int) - k.w).toNat):=filter_congr fun c _=>by
      show decide (c.2+k.wo=ht ns ks (e+1))=_
      exact decide_eq_decide.mpr ⟨fun z=>by omega,fun z=>by omega⟩
     rw [e2]
     rfl
    ·rw [if_neg (fun z=>t (of_decide_eq_true z)),List.filter_eq_nil_iff.mpr fun c hc z=>?_]
     ·rfl
     ·have:=(hle (((e+1:Nat):Int) - k.w).toNat).1 c hc
      have z:c.2+k.wo=ht ns ks (e+1):=of_decide_eq_true z
      omega
   ·rw [if_neg g,Bool.eq_false_iff.mpr g,Bool.false_and,if_neg Bool.false_ne_true]
    rfl
 show ((((Zcf ns ks (e+1)).filter fun c=>decide (c.2=ht ns ks (e+1))).map F).sum:Int)=_
 rw [Zes ns ks hw e,List.filter_append,map_append,sum_append,p1]
 congr 1
 refine (p2 ks fun _ h=>h).trans ?_
 unfold tg
 rw [filter_filter]
theorem Zqt (hw:∀k∈ks,1≤k.w):∀e,Zpa ns ks (fun _=>1) e=cb ns ks e:=fun e=>by
 induction e using Nat.strongRecOn with
 | ind e ih =>
  cases e with
  | zero=>rfl
  | succ e =>
   rw [Zmt hw,Zpc hw,ih e (by omega)]
   congr 2
   refine map_congr_left fun k hk=>?_
   have hk':=List.mem_filter.mp hk
   have h1:=hw k (Zms hk'.1)
   have h2:=(Xs hk'.2).1
   exact ih _ (by omega)
theorem Zzs {α:Type}(l:List α):((l.map fun _=>(1:Int)).sum:Int)=l.length:=by
 induction l with
 | nil=>rfl
 | cons x l ih =>
  rw [map_cons,sum_cons,ih,length_cons]
  omega
theorem Zha (hw:∀k∈ks,1≤k.w)(e:Nat):((Zgl ns ks e).length:Int)=cb ns ks e:=by
 rw [← Zqt hw,← Zzs]
 rfl
noncomputable def occ (ns:List Int)(ks:List Kd)(p:Int×Str)(e:Nat):Int:=Zpa ns ks (fun c=>(c.1.count p:Int)) e
theorem Xbh (F G:Cut→Int)(e:Nat):Zpa ns ks (fun c=>F c+G c) e=Zpa ns ks F e+Zpa ns ks G e:=by
 unfold Zpa
 induction Zgl ns ks e with
 | nil=>rfl
 | cons c l ih =>
  simp only [map_cons,sum_cons]
  omega
theorem Ztq (hw:∀k∈ks,1≤k.w)(v:Int)(e:Nat):Zpa ns ks (fun _=>v) e=v*cb ns ks e:=by
 rw [← Zqt hw]
 unfold Zpa
 induction Zgl ns ks e with
 | nil=>simp
 | cons c l ih =>
  simp only [map_cons,sum_cons]
  rw [ih,mul_add,Int.mul_one]
theorem Xbj (hw:∀k∈ks,1≤k.w)(p:Int×Str)(e:Nat):occ ns ks p (e+1)=(if ht ns ks (e+1)=ht ns ks e then occ ns ks p e else 0) +
  (((tg ns ks (e+1)).filter fun k=>good ns k (((e+1:Nat):Int) - k.w)).map fun k=>occ ns ks p (((e+1:Nat):Int) - k.w).toNat+(if (((e+1:Nat):Int) - k.w,k.name)=p then 1 else 0)*cb ns ks (((e+1:Nat):Int) - k.w).toNat).sum:=by
 unfold occ
 rw [Zmt hw]
 congr 2
 refine map_congr_left fun k _=>?_
 rw [← Ztq hw,← Xbh]
 congr 1
 funext c
 show ((c.1++[(((e+1:Nat):Int) - k.w,k.name)]).count p:Int)=_
 rw [List.count_append,List.count_singleton]
 by_cases h:(((e+1:Nat):Int) - k.w,k.name)=p
 ·rw [if_pos h,if_pos (by rw [h];simp)]
  omega
 ·rw [if_neg h,if_neg (by simpa using h)]
  omega
theorem Zka {α:Type}{f:α→Int}{l:List α}(h:∀x∈l,f x=0):((l.map f).sum:Int)=0:=by
 induction l with
 | nil=>rfl
 | cons x l ih =>
  rw [map_cons,sum_cons,h x (.head _),ih fun y hy=>h y (.tail _ hy)]
  rfl
theorem Xat {l:List Kd}(nd:(l.map (·.name)).Nodup){k0:Kd}(h0:k0∈l)(f:Kd→Int):((l.map fun k=>if k.name=k0.name then f k else 0).sum:Int)=f k0:=by
 induction l with
 | nil=>exact nomatch h0
 | cons k l ih =>
  rw [map_cons,List.nodup_cons] at nd
  rw [map_cons,sum_cons]
  rcases List.mem_cons.mp h0 with rfl | h
  ·rw [if_pos rfl]
   have:((l.map fun k=>if k.name=k0.name then f k else 0).sum:Int)=0:=by
    have hz:∀k∈l,(if k.name=k0.name then f k else 0)=(0:Int):=fun k hk=>if_neg fun z=>nd.1 (by rw [← z];exact mem_map_of_mem hk)
    exact Zka hz
   omega
  ·rw [if_neg (fun z=>nd.1 (by rw [z];exact mem_map_of_mem h)),ih nd.2 h]
   omega
theorem Xlh {α:Type}(f g:α→Int)(l:List α):((l.map fun x=>f x+g x).sum:Int)=(l.map f).sum+(l.map g).sum:=by
 induction l with
 | nil=>rfl
 | cons x l ih =>
  simp only [map_cons,sum_cons]
  omega
theorem Xda {α:Type}(c:Int)(f:α→Int)(l:List α):((l.map fun x=>c*f x).sum:Int)=c*(l.map f).sum:=by
 induction l with
 | nil=>simp
 | cons x l ih =>
  simp only [map_cons,sum_cons]
  rw [ih,mul_add]
theorem Zhf {α:Type}(p:α→Bool)(f:α→Int)(l:List α):(((l.filter p).map f).sum:Int)=(l.map fun x=>if p x=true then f x else 0).sum:=by
 induction l with
 | nil=>rfl
 | cons x l ih=>rw [Zdz,map_cons,sum_cons,ih]
theorem Xti (hw:∀k∈ks,1≤k.w)(nd:(ks.map (·.name)).Nodup){k0:Kd}(h0:k0∈ks){at_ en:Nat}(hg:good ns k0 (at_:Int)=true)(hen:(at_:Int)+k0.w=en) :
  ∀e,occ ns ks ((at_:Int),k0.name) e=(if ht ns ks at_+k0.wo=ht ns ks en then cb ns ks at_ else 0)*(if en≤e then W (be ns ks) en (e - en) else 0):=fun e=>by
 obtain ⟨tc,htc⟩:∃tc,tc=if ht ns ks at_+k0.wo=ht ns ks en then cb ns ks at_ else 0:=⟨_,rfl⟩
 rw [← htc]
 have hw0:=hw k0 h0
 induction e using Nat.strongRecOn with
 | ind e ih =>
  cases e with
  | zero =>
   rw [if_neg (by omega),mul_zero]
   rfl
  | succ e =>
   rw [Xbj hw,Xlh]
   have own:((((tg ns ks (e+1)).filter fun k=>good ns k (((e+1:Nat):Int) - k.w)).map fun k=>(if (((e+1:Nat):Int) - k.w,k.name)=((at_:Int),k0.name) then 1 else 0)*cb ns ks (((e+1:Nat):Int) - k.w).toNat).sum:Int)=if e+1=en then tc else 0:=by
    unfold tg
    rw [filter_filter,Zhf]
    have e1:(ks.map fun k=>if (good ns k (((e+1:Nat):Int) - k.w)&&decide (ht ns ks (((e+1:Nat):Int) - k.w).toNat+k.wo=ht ns ks (e+1)))=true then (if (((e+1:Nat):Int) - k.w,k.name)=((at_:Int),k0.name) then 1 else 0)*cb ns ks (((e+1:Nat):Int) - k.w).toNat else 0)=ks.map fun k=>if k.name=k0.name then (if (good ns k (((e+1:Nat):Int) - k.w)&&decide (ht ns ks (((e+1:Nat):Int) - k.w).toNat+k.wo=ht ns ks (e+1)))=true∧((e+1:Nat):Int) - k.w=at_ then cb ns ks (((e+1:Nat):Int) - k.w).toNat else 0) else 0:=map_congr_left fun k _=>by
     by_cases n:k.name=k0.name
     ·rw [if_pos n]
      by_cases g:(good ns k (((e+1:Nat):Int) - k.w)&&decide (ht ns ks (((e+1:Nat):Int) - k.w).toNat+k.wo=ht ns ks (e+1)))=true
      ·rw [if_pos g]
       by_cases a:((e+1:Nat):Int) - k.w=at_
       ·rw [if_pos (show (((e+1:Nat):Int) - k.w,k.name)=((at_:Int),k0.name) from by rw [a,n]),if_pos ⟨g,a⟩,one_mul]
       ·rw [if_neg (fun z=>a (Prod.mk.inj z).1),if_neg (fun z=>a z.2),zero_mul]
      ·rw [if_neg g,if_neg (fun z=>g z.1)]
     ·rw [if_neg n]
      split
      ·rw [if_neg (fun z=>n (Prod.mk.inj z).2),zero_mul]
      ·rfl
    rw [e1,Xat nd h0]
    by_cases h:e+1=en
    ·rw [if_pos h,htc]
     have a:((e+1:Nat):Int) - k0.w=at_:=by omega
     rw [a,hg,Bool.true_and,show ((at_:Int)).toNat=at_ by omega,h]
     by_cases t:ht ns ks at_+k0.wo=ht ns ks en
     ·rw [if_pos ⟨decide_eq_true t,rfl⟩,if_pos t]
     ·rw [if_neg (fun z=>t (of_decide_eq_true z.1)),if_neg t]
    ·rw [if_neg h,if_neg (fun z=>h (by omega))]
   rw [own,ih e (by omega)]
   have part:((((tg ns ks (e+1)).filter fun k=>good ns k (((e+1:Nat):Int) - k.w)).map fun k=>occ ns ks ((at_:Int),k0.name) (((e+1:Nat):Int) - k.w).toNat).sum:Int)=tc*(((tg ns ks (e+1)).filter fun k=>good ns k (((e+1:Nat):Int) - k.w)).map fun k=>if en≤(((e+1:Nat):Int) - k.w).toNat then W (be ns ks) en ((((e+1:Nat):Int) - k.w).toNat - en) else 0).sum:=by
    rw [← Xda]
    congr 1
    refine map_congr_left fun k hk=>?_
    have hk':=List.mem_filter.mp hk
    have h1:=hw k (Zms hk'.1)
    have h2:=(Xs hk'.2).1
    exact ih _ (by omega)
   rw [part]
   rcases Nat.lt_trichotomy (e+1) en with h | h | h
   ·rw [if_neg (show ¬en≤e by omega),if_neg (show ¬e+1=en by omega),if_neg (show ¬en≤e+1 by omega),Zka (fun k hk=>if_neg ?_)]
    ·simp
    ·have h1:=hw k (Zms (List.mem_filter.mp hk).1)
     omega
   ·rw [if_neg (show ¬en≤e by omega),if_pos h,if_pos (show en≤e+1 by omega),Zka (fun k hk=>if_neg ?_),show e+1 - en=0 by omega,Xfs]
    ·simp
    ·have h1:=hw k (Zms (List.mem_filter.mp hk).1)
     omega
   ·obtain ⟨d,hd⟩:∃d,e=en+d:=⟨e - en,by omega⟩
    subst hd
    rw [if_pos (show en≤en+d by omega),if_neg (show ¬en+d+1=en by omega),if_pos (show en≤en+d+1 by omega),show en+d - en=d by omega,show en+d+1 - en=d+1 by omega,W_be hw en d,mul_add,Int.add_zero]
    congr 1
    ·split
     ·rfl
     ·rw [mul_zero]
    ·congr 1
     rw [Zhf,Zhf]
     unfold tg
     rw [← Zhf,← Zhf]
     rw [filter_filter,filter_filter,Zhf,Zhf]
     congr 1
     refine map_congr_left fun k hk=>?_
     by_cases g:good ns k (((en+d+1:Nat):Int) - k.w)=true
     ·have h2:=(Xs g).1
      rw [g,Bool.true_and,Bool.true_and]
      by_cases t:ht ns ks (((en+d+1:Nat):Int) - k.w).toNat+k.wo=ht ns ks (en+d+1)
      ·rw [decide_eq_true t,Bool.and_true,if_pos rfl]
       by_cases q:(en:Int)≤((en+d+1:Nat):Int) - k.w
       ·rw [if_pos (show en≤(((en+d+1:Nat):Int) - k.w).toNat by omega),if_pos (decide_eq_true q)]
       ·rw [if_neg (show ¬en≤(((en+d+1:Nat):Int) - k.w).toNat by omega),if_neg (fun z=>q (of_decide_eq_true z))]
      ·rw [decide_eq_false t,Bool.and_false,if_neg Bool.false_ne_true,if_neg Bool.false_ne_true]
     ·rw [Bool.eq_false_iff.mpr g,Bool.false_and,Bool.false_and,Bool.false_and,if_neg Bool.false_ne_true,if_neg Bool.false_ne_true]
theorem Xhz (hw:∀k∈ks,1≤k.w)(nd:(ks.map (·.name)).Nodup){k0:Kd}(h0:k0∈ks){at_ en:Nat}(hg:good ns k0 (at_:Int)=true)(hen:(at_:Int)+k0.w=en) :
  occ ns ks ((at_:Int),k0.name) ns.length=if ht ns ks at_+k0.wo+rs ns ks en=ht ns ks ns.length then cb ns ks at_*cb ns.reverse ks (ns.length - en) else 0:=by
 have hb:=Xs hg
 have h1:=Zdq ns ks hw h0 hg
 rw [show ((at_:Int)).toNat=at_ by omega,show ((at_:Int)+k0.w).toNat=en by omega] at h1
 have h2:=Xbg (ns:=ns) (ks:=ks) hw (a:=en) (by omega)
 rw [Xti hw nd h0 hg hen,if_pos (show en≤ns.length by omega)]
 by_cases h:ht ns ks at_+k0.wo+rs ns ks en=ht ns ks ns.length
 ·rw [if_pos h,if_pos (show ht ns ks at_+k0.wo=ht ns ks en by omega),W_re (show en≤ns.length by omega),Xoh hw (ns.length - en) en (by omega) (by omega)]
 ·rw [if_neg h]
  by_cases t:ht ns ks at_+k0.wo=ht ns ks en
  ·rw [Xgf hw (ns.length - en) en (by omega) (by omega),mul_zero]
  ·rw [if_neg t,zero_mul]
theorem Zyj (ns:List Int):Zca [iD ns]=.ok (iD ns.reverse):=Ji (Jd (Zcz rfl (by simp [Zgp,iD])))
theorem Xgo (hn:ns.length≤900)(hk:ks.length≤1000)(hw:∀k∈ks,1≤k.w):Zdv [iD ns,tD ks]=.ok (iD (hts ns.reverse ks ns.length).reverse):=by
 have h2:=Zap ns.reverse ks (by simp;omega) hk hw
 rw [length_reverse] at h2
 exact Ji (Jd (Zcz (Zs (Zd (Zs (Zd rfl rfl) (Zyj ns)) (Zd rfl rfl)) h2) (by simp [Zgp,iD])))
theorem Zts {e:Nat}(he:e≤ns.length){i:Int}(hi:i=(e:Int)):gIx (iD (hts ns ks ns.length)) (.int i)=some (.int (ht ns ks e)):=by
 have:=Zai ns ks ns.length
 rw [← Zgg ns ks ns.length e he]
 exact Zay hi (by omega)
theorem Xom {e:Nat}(he:e≤ns.length){i:Int}(hi:i=(e:Int)):gIx (iD (hts ns.reverse ks ns.length).reverse) (.int i)=some (.int (rs ns ks e)):=by
 have hl:=Zai ns.reverse ks ns.length
 have h:=Zay (ns:=(hts ns.reverse ks ns.length).reverse) (i:=i) (k:=e) hi (by rw [length_reverse];omega)
 refine h.trans ?_
 congr 2
 rw [getD_eq_getElem?_getD,List.getElem?_reverse (by omega),hl,← getD_eq_getElem?_getD,show ns.length+1 - 1 - e=ns.length - e by omega]
 exact Zgg ns.reverse ks ns.length _ (by omega)
noncomputable abbrev Stp:=Int×List (Int×Str)
noncomputable def stD (s:Stp):D:=.tup [.int s.1,psD s.2]
noncomputable def kst (e:Nat)(k:Kd):Stp:=((e:Int) - k.w,[((e:Int) - k.w,k.name)])
noncomputable def stL (ns:List Int)(ks:List Kd)(e:Nat):List Stp:=(if ht ns ks (e - 1)=ht ns ks e then [((e:Int) - 1,[])] else [])++((ks.filter fun k=>good ns k ((e:Int) - k.w)).filter fun k=>decide (ht ns ks ((e:Int) - k.w).toNat+k.wo=ht ns ks e)).map (kst e)
theorem Zff {e:Nat}(he:e≤ns.length){A T:D}:∀(xs:List Kd) (ss:List Stp) (a b:Option D),(∀k∈xs,good ns k ((e:Int) - k.w)=true∧1≤k.w)→ss.length+xs.length≤10000→
  ∃a' b',Zbr (Xe 5) Jf (xs.map kD) [some A,some T,some (iD (hts ns ks ns.length)),some (.int e),some (.lst (ss.map stD)),a,b]=.ok (.nx [some A,some T,some (iD (hts ns ks ns.length)),some (.int e),some (.lst ((ss++(xs.filter fun k=>decide (ht ns ks ((e:Int) - k.w).toNat+k.wo=ht ns ks e)).map (kst e)).map stD)),a',b'])
 | [],ss,a,b,_,_=>⟨a,b,by rw [filter_nil,map_nil,map_nil,append_nil];rfl⟩
 | k::xs,ss,a,b,h,hl=>by
  rw [length_cons] at hl
  obtain ⟨hg,h1⟩:=h k (.head _)
  have hb:=Xs hg
  have i1:=Zts (ns:=ns) (ks:=ks) (e:=((e:Int) - k.w).toNat) (i:=(e:Int) - k.w) (by omega) (by omega)
  have i2:=Zts (ns:=ns) (ks:=ks) (e:=e) (i:=(e:Int)) he rfl
  rw [map_cons,Zcv (ρ1:=[some A,some T,some (iD (hts ns ks ns.length)),some (.int e),some (.lst (ss.map stD)),some (kD k),b]) rfl,filter_cons]
  have s0:Yt 6 (f2 Zgm (fV 3) (f2 gIx (fV 5) (fC (.int 1)))) [some A,some T,some (iD (hts ns ks ns.length)),some (.int e),some (.lst (ss.map stD)),some (kD k),b]=.ok (.nx [some A,some T,some (iD (hts ns ks ns.length)),some (.int e),some (.lst (ss.map stD)),some (kD k),some (.int ((e:Int) - k.w))]):=Xf (Zm rfl (Zm rfl rfl (Xbk k)) rfl)
  by_cases t:ht ns ks ((e:Int) - k.w).toNat+k.wo=ht ns ks e
  ·have c:cE (f2 gEq (f2 Jp (f2 gIx (fV 2) (fV 6)) (f2 gIx (fV 5) (fC (.int 2)))) (f2 gIx (fV 2) (fV 3))) [some A,some T,some (iD (hts ns ks ns.length)),some (.int e),some (.lst (ss.map stD)),some (kD k),some (.int ((e:Int) - k.w))]=.ok true:=Jl (Zm (Zm (Zm rfl rfl i1) (Zm rfl rfl (Xlt k)) rfl) (Zm rfl rfl i2) ((Zdx _ _).trans (Xlm t)))
   have ap:Zlg 4 (fA Zhb (Zc (f1 Ye (fV 6)) (Zc (fA Zae (Zc (fA Zhb (Zc (f1 Ye (fV 6)) (Zc (f1 Ye (f2 gIx (fV 5) (fC (.int 0)))) Zt))) Zt)) Zt))) [some A,some T,some (iD (hts ns ks ns.length)),some (.int e),some (.lst (ss.map stD)),some (kD k),some (.int ((e:Int) - k.w))]=.ok (.nx [some A,some T,some (iD (hts ns ks ns.length)),some (.int e),some (.lst ((ss++[kst e k]).map stD)),some (kD k),some (.int ((e:Int) - k.w))]):=by
    rw [map_append]
    exact Zgo (xs:=ss.map stD) (d:=stD (kst e k)) rfl (Zbs (Zd (Zcz rfl rfl) (Zd (Zbs (Zd (Zbs (Zd (Zcz rfl rfl) (Zd (Zcz (Zm rfl rfl (kD_0 k)) rfl) rfl)) rfl) rfl) rfl) rfl)) rfl) (by rw [length_map];show _<1000000;omega)
   obtain ⟨a',b',ih⟩:=Zff he xs (ss++[kst e k]) (some (kD k)) (some (.int ((e:Int) - k.w))) (fun x hx=>h x (.tail _ hx)) (by rw [length_append];simp only [length_cons,length_nil];omega)
   refine ⟨a',b',?_⟩
   rw [if_pos (decide_eq_true t),show Jf [some A,some T,some (iD (hts ns ks ns.length)),some (.int e),some (.lst (ss.map stD)),some (kD k),b]=_ from Zq s0 (Zci c ap)]
   show Zbr _ _ (xs.map kD) _=_
   rw [ih,append_assoc]
   rfl
  ·have c:cE (f2 gEq (f2 Jp (f2 gIx (fV 2) (fV 6)) (f2 gIx (fV 5) (fC (.int 2)))) (f2 gIx (fV 2) (fV 3))) [some A,some T,some (iD (hts ns ks ns.length)),some (.int e),some (.lst (ss.map stD)),some (kD k),some (.int ((e:Int) - k.w))]=.ok false:=Jl (Zm (Zm (Zm rfl rfl i1) (Zm rfl rfl (Xlt k)) rfl) (Zm rfl rfl i2) ((Zdx _ _).trans (Zug t)))
   obtain ⟨a',b',ih⟩:=Zff he xs ss (some (kD k)) (some (.int ((e:Int) - k.w))) (fun x hx=>h x (.tail _ hx)) (by omega)
   refine ⟨a',b',?_⟩
   rw [if_neg (fun z=>t (of_decide_eq_true z)),show Jf [some A,some T,some (iD (hts ns ks ns.length)),some (.int e),some (.lst (ss.map stD)),some (kD k),b]=_ from Zq s0 (Yu c rfl)]
   exact ih
theorem Zqq (hk:ks.length≤1000)(hw:∀k∈ks,1≤k.w){e:Nat}(h1:1≤e)(he:e≤ns.length):Yv [iD ns,tD ks,iD (hts ns ks ns.length),.int e]=.ok (.lst ((stL ns ks e).map stD)):=by
 have en:=Zhr ns ks (e:Int) hk hw
 have i1:=Zts (ns:=ns) (ks:=ks) (e:=e - 1) (i:=(e:Int) - 1) (by omega) (by omega)
 have i2:=Zts (ns:=ns) (ks:=ks) (e:=e) (i:=(e:Int)) he rfl
 have hfl:(ks.filter fun k=>good ns k ((e:Int) - k.w)).length≤ks.length:=length_filter_le _ _
 have lp:∀ss:List Stp,ss.length≤1→∃a b,Zbr (Xe 5) Jf ((ks.filter fun k=>good ns k ((e:Int) - k.w)).map kD) [some (iD ns),some (tD ks),some (iD (hts ns ks ns.length)),some (.int e),some (.lst (ss.map stD)),none,none]=.ok (.nx [some (iD ns),some (tD ks),some (iD (hts ns ks ns.length)),some (.int e),some (.lst ((ss++((ks.filter fun k=>good ns k ((e:Int) - k.w)).filter fun k=>decide (ht ns ks ((e:Int) - k.w).toNat+k.wo=ht ns ks e)).map (kst e)).map stD)),a,b]):=fun ss hss=>Zff he _ ss none none (fun k hk'=>⟨(List.mem_filter.mp hk').2,hw k (List.mem_filter.mp hk').1⟩) (by omega)
 have jl:∀ss:List Stp,Jj (Xb Yz (Zc (fV 0) (Zc (fV 1) (Zc (fV 3) Zt)))) [some (iD ns),some (tD ks),some (iD (hts ns ks ns.length)),some (.int e),some (.lst (ss.map stD)),none,none]=.ok ((ks.filter fun k=>good ns k ((e:Int) - k.w)).map kD):=fun ss=>Jk (Zs (Zd rfl (Zd rfl (Zd rfl rfl))) en) (by rw [length_map];show _≤1000000;omega)
 unfold stL
 by_cases t:ht ns ks (e - 1)=ht ns ks e
 ·rw [if_pos t]
  obtain ⟨a,b,q⟩:=lp [((e:Int) - 1,[])] (le_refl 1)
  exact Ji (Zq (Xf rfl) (Zq (Zci (Jl (Zm (Zm rfl (Zm rfl rfl rfl) i1) (Zm rfl rfl i2) ((Zdx _ _).trans (Xlm t)))) (Zgo (xs:=[]) rfl (Zbs (Zd (Zm rfl rfl rfl) (Zd rfl rfl)) rfl) (by decide))) (Zq (Zch (jl [((e:Int) - 1,[])]) q) (Jd rfl))))
 ·rw [if_neg t]
  obtain ⟨a,b,q⟩:=lp [] (by decide)
  exact Ji (Zq (Xf rfl) (Zq (Yu (Jl (Zm (Zm rfl (Zm rfl rfl rfl) i1) (Zm rfl rfl i2) ((Zdx _ _).trans (Zug t)))) rfl) (Zq (Zch (jl []) q) (Jd rfl))))
noncomputable def cbs (ns:List Int)(ks:List Kd)(n:Nat):List Int:=(List.range (n+1)).map (cb ns ks)
theorem Zjz (n:Nat):(cbs ns ks n).length=n+1:=by simp [cbs]
theorem Zxo {n e:Nat}(he:e≤n):(cbs ns ks n).getD e 0=cb ns ks e:=by
 unfold cbs
 rw [getD_eq_getElem?_getD,getElem?_map,List.getElem?_range (by omega)]
 rfl
theorem Xsp {n e:Nat}(he:e≤n){i:Int}(hi:i=(e:Int)):gIx (iD (cbs ns ks n)) (.int i)=some (.int (cb ns ks e)):=by
 rw [← Zxo (ns:=ns) (ks:=ks) he]
 exact Zay hi (by rw [Zjz];omega)
theorem Xcu (n:Nat):cbs ns ks (n+1)=cbs ns ks n++[cb ns ks (n+1)]:=by
 unfold cbs
 rw [List.range_succ,map_append]
 rfl
theorem Zwy (hw:∀k∈ks,1≤k.w)(e:Nat):((stL ns ks (e+1)).map fun s=>cb ns ks s.1.toNat).sum=cb ns ks (e+1):=by
 rw [Zpc hw]
 unfold stL
 rw [map_append,sum_append,show e+1 - 1=e by omega]
 congr 1
 ·by_cases h:ht ns ks e=ht ns ks (e+1)
  ·rw [if_pos h,if_pos h.symm]
   show cb ns ks (((e+1:Nat):Int) - 1).toNat+0=_
   rw [show (((e+1:Nat):Int) - 1).toNat=e by omega]
   omega
  ·rw [if_neg h,if_neg (fun z=>h z.symm)]
   rfl
 ·rw [map_map,filter_filter]
  unfold tg
  rw [filter_filter]
  congr 1
  have:(ks.filter fun k=>decide (ht ns ks (((e+1:Nat):Int) - k.w).toNat+k.wo=ht ns ks (e+1))&&good ns k (((e+1:Nat):Int) - k.w))=ks.filter fun k=>good ns k (((e+1:Nat):Int) - k.w)&&decide (ht ns ks (((e+1:Nat):Int) - k.w).toNat+k.wo=ht ns ks (e+1)):=filter_congr fun k _=>Bool.and_comm _ _
  rw [this]
  rfl
theorem Zvu (hw:∀k∈ks,1≤k.w){e:Nat}:∀s∈stL ns ks (e+1),0≤s.1∧s.1≤e:=fun s hs=>by
 unfold stL at hs
 rcases List.mem_append.mp hs with h | h
 ·split at h
  ·rw [List.mem_singleton.mp h]
   show 0≤((e+1:Nat):Int) - 1∧((e+1:Nat):Int) - 1≤e
   omega
  ·cases h
 ·obtain ⟨k,hk,rfl⟩:=List.mem_map.mp h
  have hk1:=List.mem_filter.mp (List.mem_filter.mp hk).1
  have h1:=hw k hk1.1
  have h2:=(Xs hk1.2).1
  show 0≤((e+1:Nat):Int) - k.w∧((e+1:Nat):Int) - k.w≤e
  omega
theorem Zil (hn:ns.length≤900)(hk:ks.length≤1000)(hw:∀k∈ks,1≤k.w):Yh [iD ns,tD ks]=.ok (iD (cbs ns ks ns.length)):=by
 have hh:=Zap ns ks hn hk hw
 have key:V (Zbr (Xe 4) Zar (Zgc 1 ns.length) [some (iD ns),some (tD ks),some (iD (hts ns ks ns.length)),some (iD (cbs ns ks 0)),none,none]) (fun fl=>∃a b,fl=.nx [some (iD ns),some (tD ks),some (iD (hts ns ks ns.length)),some (iD (cbs ns ks ns.length)),a,b]):=by
  refine Xqb (P:=fun i ρ=>∃a b,ρ=[some (iD ns),some (tD ks),some (iD (hts ns ks ns.length)),some (iD (cbs ns ks i)),a,b]) ⟨none,none,rfl⟩ (fun i ρ hi q=>?_) (fun ρ q=>?_)
  ·obtain ⟨a,b,rfl⟩:=q
   have st:=Zqq (ns:=ns) hk hw (e:=i+1) (by omega) (by omega)
   have hlen:(stL ns ks (i+1)).length≤10000:=by
    unfold stL
    rw [length_append,length_map]
    have h1:=length_filter_le (fun k=>decide (ht ns ks (((i+1:Nat):Int) - k.w).toNat+k.wo=ht ns ks (i+1))) (ks.filter fun k=>good ns k (((i+1:Nat):Int) - k.w))
    have h2:=length_filter_le (fun k=>good ns k (((i+1:Nat):Int) - k.w)) ks
    have h3:(if ht ns ks (i+1 - 1)=ht ns ks (i+1) then [(((i+1:Nat):Int) - 1,([]:List (Int×Str)))] else []).length≤1:=by split<;>simp
    omega
   rw [Zat]
   refine V.of (a:=.nx [some (iD ns),some (tD ks),some (iD (hts ns ks ns.length)),some (iD (cbs ns ks (i+1))),some (.int (1+(i:Int))),some (.lst ((stL ns ks (i+1)).map stD))]) ?_ (by exact ⟨_,_,rfl⟩)
   have e1:(1+(i:Int))=((i+1:Nat):Int):=by omega
   show Zar [some (iD ns),some (tD ks),some (iD (hts ns ks ns.length)),some (iD (cbs ns ks i)),some (.int (1+(i:Int))),b]=_
   rw [e1]
   refine Zq (Xf (Zs (Zd rfl (Zd rfl (Zd rfl (Zd rfl rfl)))) st)) ?_
   have cm:Zcg 6 1 (Jj (fV 5)) (Xe 6) Ztz (f1 Ye (f2 gIx (fV 3) (f2 gIx (fV 6) (fC (.int 0))))) [some (iD ns),some (tD ks),some (iD (hts ns ks ns.length)),some (iD (cbs ns ks i)),some (.int ((i+1:Nat):Int)),some (.lst ((stL ns ks (i+1)).map stD))]=.ok (iD ((stL ns ks (i+1)).map fun s=>cb ns ks s.1.toNat)):=by
    unfold iD
    rw [map_map]
    refine Zjt rfl (Jk (xs:=(stL ns ks (i+1)).map stD) rfl (by rw [length_map];show _≤1000000;omega)) (Zqx rfl fun s hs=>?_)
    have hb:=Zvu (ns:=ns) hw s hs
    exact Zcz (Zm rfl (Zm rfl rfl (show gIx (stD s) (.int 0)=some (.int s.1) from rfl)) (Xsp (ns:=ns) (ks:=ks) (n:=i) (e:=s.1.toNat) (by omega) (by omega))) rfl
   have sm:Xjx [iD ((stL ns ks (i+1)).map fun s=>cb ns ks s.1.toNat)]=some (.int (cb ns ks (i+1))):=by
    rw [← Zwy hw]
    exact sum_ints _
   refine Eq.trans (Zgo (xs:=(cbs ns ks i).map D.int) (d:=.int (cb ns ks (i+1))) rfl (Zbs (Zd cm rfl) sm) (by rw [length_map,Zjz];show _<1000000;omega)) ?_
   rw [Xcu]
   simp [iD]
  ·obtain ⟨a,b,rfl⟩:=q
   exact ⟨a,b,rfl⟩
 obtain ⟨fl,h1,a,b,rfl⟩:=key.ex
 refine Ji (Zq (Xf (Zs (Zd rfl (Zd rfl rfl)) hh)) (Zq (Xf rfl) (Zq (Zch (Xtu (Zd rfl (Zd (Zm (Zkk rfl) rfl rfl) rfl)) (Zwl (n:=ns.length) (by omega) (by omega) (by omega) (by omega) (by omega) (by omega))) h1) (Jd rfl))))
noncomputable abbrev PK:=Nat×Kd
noncomputable def nm (x:PK):Int×Str:=((x.1:Int),x.2.name)
noncomputable def enN (x:PK):Nat:=((x.1:Int)+x.2.w).toNat
noncomputable def Xnq (ns:List Int)(ks:List Kd)(p:Nat):List PK:=(ks.filter fun k=>good ns k (p:Int)).map fun k=>(p,k)
noncomputable def Zan (ns:List Int)(ks:List Kd)(n:Nat):List PK:=((List.range n).map (Xnq ns ks)).flatten
noncomputable def may (ns:List Int)(ks:List Kd)(x:PK):Bool:=decide (ht ns ks x.1+x.2.wo+rs ns ks (enN x)=ht ns ks ns.length)
noncomputable def must (ns:List Int)(ks:List Kd)(x:PK):Bool:=decide (cb ns ks x.1*cb ns.reverse ks (ns.length - enN x)=cb ns ks ns.length)
noncomputable def Zcj (ns:List Int)(ks:List Kd):List PK:=(Zan ns ks ns.length).filter (may ns ks)
noncomputable def Jn (ns:List Int)(ks:List Kd):List PK:=(Zcj ns ks).filter (must ns ks)
noncomputable def nsD (xs:List PK):D:=psD (xs.map nm)
theorem Xdg (p:Nat):(Xnq ns ks p).length≤ks.length:=by
 unfold Xnq
 rw [length_map]
 exact length_filter_le _ _
theorem Zhv (n:Nat):Zan ns ks (n+1)=Zan ns ks n++Xnq ns ks n:=by
 unfold Zan
 rw [List.range_succ,map_append,flatten_append]
 simp
theorem Zer:∀n,(Zan ns ks n).length≤n*ks.length
 | 0=>by simp [Zan]
 | n+1=>by
  have h1:=Zer n
  have h2:=Xdg (ns:=ns) (ks:=ks) n
  rw [Zhv,length_append,succ_mul]
  omega
theorem Zgh {n:Nat}{x:PK}(h:x∈Zan ns ks n):x.1<n∧x.2∈ks∧good ns x.2 (x.1:Int)=true:=by
 obtain ⟨l,hl,hx⟩:=List.mem_flatten.mp h
 obtain ⟨p,hp,rfl⟩:=List.mem_map.mp hl
 obtain ⟨k,hk,rfl⟩:=List.mem_map.mp hx
 obtain ⟨h1,h2⟩:=List.mem_filter.mp hk
 exact ⟨List.mem_range.mp hp,h1,h2⟩
theorem Zfj (xs:List PK):nsD xs=.lst (xs.map fun x=>pD (nm x)):=by
 unfold nsD psD
 rw [map_map]
 rfl
theorem Xkp (xs:List PK)(x:PK):nsD (xs++[x])=.lst ((xs.map nm).map pD++[.tup [.int x.1,.str x.2.name]]):=by
 unfold nsD psD
 rw [map_append,map_append]
 rfl
theorem Xgj (xs:List PK):((xs.map nm).map pD).length=xs.length:=by rw [length_map,length_map]
theorem Zuq {α β:Type}(L:List β)(f:α→β)(p:α→Bool)(dn:List α)(k:α):L++((dn++[k]).filter p).map f=if p k=true then (L++(dn.filter p).map f)++[f k] else L++(dn.filter p).map f:=by
 rw [List.filter_append,filter_cons]
 split
 ·rw [filter_nil,map_append,append_assoc]
  rfl
 ·rw [filter_nil,append_nil]
theorem Zio (hn:ns.length≤900)(hk:ks.length≤100)(hw:∀k∈ks,1≤k.w):Xy [iD ns,tD ks]=.ok (nsD (Zan ns ks ns.length)):=by
 have inner:∀(p:Nat),p<ns.length→∀(o:Option D),V (Zbr (Xe 4) Zdm (ks.map kD) [some (iD ns),some (tD ks),some (nsD (Zan ns ks p)),some (.int p),o]) (fun fl=>∃o',fl=.nx [some (iD ns),some (tD ks),some (nsD (Zan ns ks (p+1))),some (.int p),o']):=fun p hp o=>by
  refine Znm (P:=fun r ρ=>∃dn o,dn++r=ks∧ρ=[some (iD ns),some (tD ks),some (nsD (Zan ns ks p++(dn.filter fun k=>good ns k (p:Int)).map fun k=>(p,k))),some (.int p),o]) (fun k r ρ h=>?_) (fun ρ h=>?_) ⟨[],o,rfl,by rw [filter_nil,map_nil,append_nil]⟩
  ·obtain ⟨dn,o,e,rfl⟩:=h
   have hkm:k∈ks:=by rw [← e];exact mem_append_right _ (.head _)
   have hf:=Zzf ns k (p:Int) (hw k hkm)
   have e2:(dn++[k])++r=ks:=by rw [append_assoc];exact e
   have hdl:dn.length≤ks.length:=by rw [← e,length_append];omega
   have hs:=Zuq (Zan ns ks p) (fun k=>(p,k)) (fun k=>good ns k (p:Int)) dn k
   rw [Zat]
   have hl1:=Zer (ns:=ns) (ks:=ks) p
   have hl2:p*ks.length≤900*100:=mul_le_mul (by omega) hk
   have hl3:=length_filter_le (fun k=>good ns k (p:Int)) dn
   have hl4:(Zan ns ks p++(dn.filter fun k=>good ns k (p:Int)).map fun k=>(p,k)).length<1000000:=by
    rw [length_append,length_map]
    omega
   generalize Zan ns ks p++(dn.filter fun k=>good ns k (p:Int)).map (fun k=>(p,k))=L at *
   cases g:good ns k (p:Int) with
   | false =>
    rw [g] at hf hs
    rw [if_neg Bool.false_ne_true] at hs
    refine V.of (a:=.nx [some (iD ns),some (tD ks),some (nsD L),some (.int p),some (kD k)]) (Yu (Jl (Zs (Zd rfl (Zd rfl (Zd rfl rfl))) hf)) rfl) ?_
    exact ⟨dn++[k],_,e2,by rw [hs]⟩
   | true =>
    rw [g] at hf hs
    rw [if_pos rfl] at hs
    refine V.of (a:=.nx [some (iD ns),some (tD ks),some (nsD (L++[(p,k)])),some (.int p),some (kD k)]) ?_ (by exact ⟨dn++[k],_,e2,by rw [hs]⟩)
    rw [Xkp]
    exact Zci (Jl (Zs (Zd rfl (Zd rfl (Zd rfl rfl))) hf)) (Zgo (xs:=(L.map nm).map pD) rfl (Zbs (Zd (Zcz rfl rfl) (Zd (Zcz (Zm rfl rfl (kD_0 k)) rfl) rfl)) rfl) (by rw [Xgj];exact hl4))
  ·obtain ⟨dn,o,e,rfl⟩:=h
   rw [append_nil] at e
   subst e
   exact ⟨o,by rw [Zhv];rfl⟩
 have outer:V (Zbr (Xe 3) Zdj (Zgc 0 ns.length) [some (iD ns),some (tD ks),some (nsD (Zan ns ks 0)),none,none]) (fun fl=>∃a b,fl=.nx [some (iD ns),some (tD ks),some (nsD (Zan ns ks ns.length)),a,b]):=by
  refine Xql (P:=fun p ρ=>∃a b,ρ=[some (iD ns),some (tD ks),some (nsD (Zan ns ks p)),a,b]) ⟨none,none,rfl⟩ (fun p ρ hp h=>?_) (fun ρ h=>?_)
  ·obtain ⟨a,b,rfl⟩:=h
   rw [Zat]
   obtain ⟨fl,h1,o',rfl⟩:=(inner p hp b).ex
   exact V.of (Zch (Jk (xs:=ks.map kD) rfl (by rw [length_map];show _≤1000000;omega)) h1) ⟨_,_,rfl⟩
  ·obtain ⟨a,b,rfl⟩:=h
   exact ⟨a,b,rfl⟩
 obtain ⟨fl,h1,a,b,rfl⟩:=outer.ex
 exact Ji (Zq (Xf rfl) (Zq (Zch (Zzu (Zd (Zkk rfl) rfl) (by omega)) h1) (Jd rfl)))
theorem Zxg (hk:ks.length≤1000)(nd:(ks.map (·.name)).Nodup){x:PK}(hx:x.2∈ks):Zbb [tD ks,pD (nm x)]=.ok (.int ((x.1:Int)+x.2.w)):=
 Ji (Jd (Zm (Zm rfl rfl (Xqh _)) (Zm (Zs (Zd rfl (Zd (Zm rfl rfl (pD_1 _)) rfl)) (Zfi ks hk nd hx)) rfl (Xbk _)) rfl))
theorem Zrz:gIx (iD (hts ns ks ns.length)) (.int (-1))=some (.int (ht ns ks ns.length)):=by
 have hl:=Zai ns ks ns.length
 have h:=Zks (ns:=hts ns ks ns.length) (fun z=>by rw [z] at hl;cases hl)
 rw [hl,Nat.add_sub_cancel,Zgg ns ks ns.length _ (le_refl _)] at h
 exact h
theorem Zrp (n:Nat):gIx (iD (cbs ns ks n)) (.int (-1))=some (.int (cb ns ks n)):=by
 have hl:=Zjz (ns:=ns) (ks:=ks) n
 have h:=Zks (ns:=cbs ns ks n) (fun z=>by rw [z] at hl;cases hl)
 rw [hl,Nat.add_sub_cancel,Zxo (le_refl _)] at h
 exact h
theorem Zxk {x:PK}(h:good ns x.2 (x.1:Int)=true)(h1:1≤x.2.w):enN x≤ns.length∧((x.1:Int)+x.2.w)=((enN x:Nat):Int):=by
 have:=Xs h
 unfold enN
 omega
theorem Zyd (hn:ns.length≤900)(hk:ks.length≤100)(hw:∀k∈ks,1≤k.w)(nd:(ks.map (·.name)).Nodup):Zfv [iD ns,tD ks]=.ok (nsD (Zcj ns ks)):=by
 have hh:=Zap ns ks hn (by omega) hw
 have tt:=Xgo (ns:=ns) (ks:=ks) hn (by omega) hw
 have pp:=Zio hn hk hw
 have hl1:=Zer (ns:=ns) (ks:=ks) ns.length
 have hl2:ns.length*ks.length≤900*100:=mul_le_mul hn hk
 rw [Zfj] at pp
 have cm:Zcg 4 1 (Jj (Xb Xy (Zc (fV 0) (Zc (fV 1) Zt)))) (Xe 4) (cE (f2 gEq (Xb Xj (Zc (fV 1) (Zc (fV 2) (Zc (fV 3) (Zc (fV 4) Zt))))) (f2 gIx (fV 2) (f1 Zqk (fC (.int 1)))))) (f1 Ye (fV 4)) [some (iD ns),some (tD ks),some (iD (hts ns ks ns.length)),some (iD (hts ns.reverse ks ns.length).reverse)]=.ok (.lst ((Zcj ns ks).map fun x=>pD (nm x))):=by
  refine Zjt rfl (Jk (Zs (Zd rfl (Zd rfl rfl)) pp) (by rw [length_map];show _≤1000000;omega)) (Xex rfl fun x hx=>⟨?_,fun _=>Zcz rfl rfl⟩)
  obtain ⟨h1,h2,h3⟩:=Zgh hx
  obtain ⟨h4,h5⟩:=Zxk h3 (hw _ h2)
  have gw:Xj [tD ks,iD (hts ns ks ns.length),iD (hts ns.reverse ks ns.length).reverse,pD (nm x)]=.ok (.int (ht ns ks x.1+x.2.wo+rs ns ks (enN x))):=
   Ji (Jd (Zm (Zm (Zm rfl (Zm rfl rfl (Xqh _)) (Zts (e:=x.1) (by omega) rfl)) (Zm (Zs (Zd rfl (Zd (Zm rfl rfl (pD_1 _)) rfl)) (Zfi ks (by omega) nd h2)) rfl (Xlt _)) rfl) (Zm rfl (Zs (Zd rfl (Zd rfl rfl)) (Zxg (by omega) nd h2)) (Xom h4 h5)) rfl))
  exact Jl (Zm (Zs (Zd rfl (Zd rfl (Zd rfl (Zd rfl rfl)))) gw) (Zm rfl rfl Zrz) (Zdx _ _))
 rw [Zfj]
 exact Ji (Zq (Xf (Zs (Zd rfl (Zd rfl rfl)) hh)) (Zq (Xf (Zs (Zd rfl (Zd rfl rfl)) tt)) (Jd cm)))
theorem Xpr (hn:ns.length≤900)(hk:ks.length≤8)(hw:∀k∈ks,1≤k.w){e:Nat}(he:e≤900):(cb ns ks e).natAbs<2 ^ 4000:=by
 have h1:=Zha (ns:=ns) hw e
 have h2:(Zgl ns ks e).length≤(Zcf ns ks e).length:=length_filter_le _ _
 have h3:=Xlr ns ks hw e
 have h4:(ks.length+1) ^ e≤16 ^ e:=Nat.pow_le_pow_left (by omega) e
 have h5:(16:Nat) ^ e≤16 ^ 900:=Nat.pow_le_pow_right (by decide) he
 have h6:(16:Nat) ^ 900<2 ^ 4000:=by
  rw [show (16:Nat)=2 ^ 4 from rfl,← Nat.pow_mul]
  exact Nat.pow_lt_pow_right (by decide) (by decide)
 have h7:(cb ns ks e).natAbs=(Zgl ns ks e).length:=by rw [← h1];rfl
 rw [h7]
 exact Nat.lt_of_le_of_lt (le_trans h2 (le_trans h3 (le_trans h4 h5))) h6
theorem Xhj (hn:ns.length≤900)(hk:ks.length≤8)(hw:∀k∈ks,1≤k.w){a b:Nat}(ha:a≤ns.length)(hb:b≤ns.length):Zta (.int (cb ns ks a)) (.int (cb ns.reverse ks b))=some (.int (cb ns ks a*cb ns.reverse ks b)):=
 if_pos ⟨Xpr hn hk hw (by omega),Xpr (by rw [length_reverse];exact hn) hk hw (by omega)⟩
theorem Xon {e:Nat}(he:e≤ns.length){i:Int}(hi:i=(e:Int)):gIx (iD (cbs ns.reverse ks ns.length).reverse) (.int i)=some (.int (cb ns.reverse ks (ns.length - e))):=by
 have hl:=Zjz (ns:=ns.reverse) (ks:=ks) ns.length
 have h:=Zay (ns:=(cbs ns.reverse ks ns.length).reverse) (i:=i) (k:=e) hi (by rw [length_reverse];omega)
 refine h.trans ?_
 congr 2
 rw [getD_eq_getElem?_getD,List.getElem?_reverse (by omega),hl,← getD_eq_getElem?_getD,show ns.length+1 - 1 - e=ns.length - e by omega]
 exact Zxo (by omega)
theorem Zvy (xs:List Int):Zgp (iD xs)=some (iD xs.reverse):=by simp [Zgp,iD]
theorem Zoe (hn:ns.length≤900)(hk:ks.length≤100):(Zcj ns ks).length≤90000:=by
 have hl1:=Zer (ns:=ns) (ks:=ks) ns.length
 have hl2:ns.length*ks.length≤900*100:=mul_le_mul hn hk
 have:=length_filter_le (may ns ks) (Zan ns ks ns.length)
 unfold Zcj
 omega
theorem Xbs (hn:ns.length≤900)(hk:ks.length≤8)(hw:∀k∈ks,1≤k.w)(nd:(ks.map (·.name)).Nodup):Zhx [iD ns,tD ks]=.ok (nsD (Jn ns ks)):=by
 have c1:=Zil (ns:=ns) hn (by omega) hw
 have c2:=Zil (ns:=ns.reverse) (by rw [length_reverse];exact hn) (by omega) hw
 rw [length_reverse] at c2
 have mm:=Zyd hn (by omega) hw nd
 have hl:=Zoe (ns:=ns) (ks:=ks) hn (by omega)
 rw [Zfj] at mm
 have cm:Zcg 4 1 (Jj (Xb Zfv (Zc (fV 0) (Zc (fV 1) Zt)))) (Xe 4) (cE (f2 gEq (f2 Zta (f2 gIx (fV 2) (f2 gIx (fV 4) (fC (.int 0)))) (f2 gIx (fV 3) (Xb Zbb (Zc (fV 1) (Zc (fV 4) Zt))))) (f2 gIx (fV 2) (f1 Zqk (fC (.int 1)))))) (f1 Ye (fV 4)) [some (iD ns),some (tD ks),some (iD (cbs ns ks ns.length)),some (iD (cbs ns.reverse ks ns.length).reverse)]=.ok (.lst ((Jn ns ks).map fun x=>pD (nm x))):=by
  refine Zjt rfl (Jk (Zs (Zd rfl (Zd rfl rfl)) mm) (by rw [length_map];show _≤1000000;omega)) (Xex rfl fun x hx=>⟨?_,fun _=>Zcz rfl rfl⟩)
  obtain ⟨h1,h2,h3⟩:=Zgh (List.mem_filter.mp hx).1
  obtain ⟨h4,h5⟩:=Zxk h3 (hw _ h2)
  exact Jl (Zm (Zm (Zm rfl (Zm rfl rfl (Xqh _)) (Xsp (e:=x.1) (by omega) rfl)) (Zm rfl (Zs (Zd rfl (Zd rfl rfl)) (Zxg (by omega) nd h2)) (Xon h4 h5)) (Xhj hn hk hw (by omega) (by omega))) (Zm rfl rfl (Zrp _)) (Zdx _ _))
 rw [Zfj]
 exact Ji (Zq (Xf (Zs (Zd rfl (Zd rfl rfl)) c1)) (Zq (Xf (Zcz (Zs (Zd (Zs (Zd rfl rfl) (Zyj ns)) (Zd rfl rfl)) c2) (Zvy _))) (Jd cm)))
end
noncomputable def amt (ns:List Int)(ks:List Kd):List (Int×Str)→Int→Int→Option Int
 | [],t,_=>some t
 | x::r,t,f=>match ks.find? fun k=>k.name==x.2 with
  | none=>none
  | some k=>if x.1<f∨good ns k x.1=false then none else amt ns ks r (t+k.wo) (x.1+k.w)
theorem Zbq (ps:List (Int×Str))(hl:ps.length≤100000):Xg [psD ps]=.ok (.bl true):=by
 have key:V (Zbr (Xe 1) Zau (ps.map pD) [some (psD ps),none]) (fun fl=>∃o,fl=.nx [some (psD ps),o]):=by
  refine Znm (P:=fun r ρ=>∃o,ρ=[some (psD ps),o]) (fun p r ρ q=>?_) (fun ρ q=>?_) ⟨none,rfl⟩
  ·obtain ⟨o,rfl⟩:=q
   refine V.of (a:=.nx [some (psD ps),some (pD p)]) ?_ (by exact ⟨_,rfl⟩)
   rw [Zat]
   exact Zq (Yu (Zdi (Zig (b:=true) (Jl (Zcz rfl rfl))) (Jl (Zm (Zbs (Zd rfl rfl) rfl) rfl rfl))) rfl) (Yu (Zdi (Zig (b:=true) (Jl (Zs (Zd (Zm rfl rfl (Xqh p)) rfl) (Xco p.1)))) (Zig (b:=true) (Jl (Zcz (Zm rfl rfl (pD_1 p)) rfl)))) rfl)
  ·obtain ⟨o,rfl⟩:=q
   exact ⟨o,rfl⟩
 obtain ⟨fl,h1,o,rfl⟩:=key.ex
 exact Ji (Zq (Yu (Zig (b:=true) (Jl (Zcz rfl rfl))) rfl) (Zq (Zch (Jk (xs:=ps.map pD) rfl (by rw [length_map];show _≤1000000;omega)) h1) (Jd rfl)))
noncomputable abbrev Mp:=List ((Int×Str)×Int)
noncomputable def tk (p:Int×Str):List (Int ⊕ Str):=[.inl p.1,.inr p.2]
theorem Zsm {p q:Int×Str}(h:tk p=tk q):p=q:=by
 obtain ⟨a,b⟩:=p
 obtain ⟨c,d⟩:=q
 simp only [tk,List.cons.injEq,Sum.inl.injEq,Sum.inr.injEq,and_true] at h
 rw [h.1,h.2]
noncomputable def mK (m:Mp):List (List (Int ⊕ Str)):=m.map fun x=>tk x.1
noncomputable def mV (m:Mp):List D:=m.map fun x=>.int x.2
noncomputable def mD (m:Mp):D:=.dtt (mK m) (mV m)
noncomputable def lkO:Mp→Int×Str→Option Int
 | [],_=>none
 | x::m,p=>if x.1=p then some x.2 else lkO m p
noncomputable def lk (m:Mp)(p:Int×Str):Int:=(lkO m p).getD 0
theorem Xsq (p:Int×Str):∀m:Mp,tAt (mK m) (mV m) (tk p)=(lkO m p).map D.int
 | []=>rfl
 | x::m=>by
  show (if tk x.1=tk p then some (D.int x.2) else tAt (mK m) (mV m) (tk p))=_
  unfold lkO
  by_cases h:x.1=p
  ·rw [if_pos h,if_pos (congrArg tk h)]
   rfl
  ·rw [if_neg h,if_neg (fun z=>h (Zsm z)),Xsq p m]
theorem Zuu (m:Mp):Xw (mV m)=true:=Zbl (fun _=>rfl) m
noncomputable def Ziu (p:Int×Str)(v:Int)(x:(Int×Str)×Int):(Int×Str)×Int:=if tk x.1=tk p then (x.1,v) else x
noncomputable def pt (m:Mp)(p:Int×Str)(v:Int):Mp:=if Zub (mK m) (tk p)=true then m.map (Ziu p v) else m++[(p,v)]
theorem Zgr (p:Int×Str)(v:Int)(x:(Int×Str)×Int):(Ziu p v x).1=x.1:=by unfold Ziu;split<;>rfl
theorem Xqx (p:Int×Str)(v:Int):∀m:Mp,mK (m.map (Ziu p v))=mK m
 | []=>rfl
 | x::m=>by
  show tk (Ziu p v x).1::mK (m.map (Ziu p v))=tk x.1::mK m
  rw [Zgr,Xqx p v m]
theorem Xnz (p:Int×Str)(v:Int):∀m:Mp,List.zipWith (fun j x=>if j=tk p then D.int v else x) (mK m) (mV m)=mV (m.map (Ziu p v))
 | []=>rfl
 | x::m=>by
  show (if tk x.1=tk p then D.int v else D.int x.2)::List.zipWith (fun j x=>if j=tk p then D.int v else x) (mK m) (mV m)=D.int (Ziu p v x).2::mV (m.map (Ziu p v))
  rw [Xnz p v m]
  congr 1
  unfold Ziu
  split<;>rfl
theorem put_m (m:Mp)(p:Int×Str)(v:Int):Xnv (mK m) (mV m) (tk p) (.int v)=mD (pt m p v):=by
 unfold Xnv pt mD
 split
 ·rw [Xqx,Xnz]
 ·unfold mK mV
  rw [map_append,map_append]
  rfl
theorem Yd (p q:Int×Str)(v:Int)(h:q≠p):∀m:Mp,lkO (m.map (Ziu p v)) q=lkO m q
 | []=>rfl
 | x::m=>by
  show (if (Ziu p v x).1=q then some (Ziu p v x).2 else lkO (m.map (Ziu p v)) q)=if x.1=q then some x.2 else lkO m q
  rw [Yd p q v h m,Zgr]
  by_cases e:x.1=q
  ·rw [if_pos e,if_pos e]
   unfold Ziu
   rw [if_neg (fun z=>h (e.symm.trans (Zsm z)))]
  ·rw [if_neg e,if_neg e]
theorem Xga (p:Int×Str)(v:Int):∀m:Mp,Zub (mK m) (tk p)=true→lkO (m.map (Ziu p v)) p=some v
 | [],h=>nomatch h
 | x::m,h=>by
  show (if (Ziu p v x).1=p then some (Ziu p v x).2 else lkO (m.map (Ziu p v)) p)=some v
  rw [Zgr]
  by_cases e:x.1=p
  ·rw [if_pos e]
   unfold Ziu
   rw [if_pos (congrArg tk e)]
  ·rw [if_neg e]
   refine Xga p v m ?_
   have h':(decide (tk x.1=tk p)||Zub (mK m) (tk p))=true:=h
   rw [decide_eq_false (fun z=>e (Zsm z)),Bool.false_or] at h'
   exact h'
theorem Zxv (p:Int×Str):∀m:Mp,¬Zub (mK m) (tk p)=true→lkO m p=none
 | [],_=>rfl
 | x::m,h=>by
  have h':¬(decide (tk x.1=tk p)||Zub (mK m) (tk p))=true:=h
  unfold lkO
  by_cases e:x.1=p
  ·exact absurd (by rw [decide_eq_true (congrArg tk e),Bool.true_or]) h'
  ·rw [if_neg e]
   exact Zxv p m fun z=>h' (by rw [z,Bool.or_true])
theorem Zxx (q:Int×Str)(y:(Int×Str)×Int):∀m:Mp,lkO (m++[y]) q=(lkO m q).or (if y.1=q then some y.2 else none)
 | []=>rfl
 | x::m=>by
  show (if x.1=q then some x.2 else lkO (m++[y]) q)=(if x.1=q then some x.2 else lkO m q).or _
  split
  ·rfl
  ·exact Zxx q y m
theorem lk_pt (m:Mp)(p q:Int×Str)(v:Int):lk (pt m p v) q=if q=p then v else lk m q:=by
 unfold lk pt
 by_cases h:Zub (mK m) (tk p)=true
 ·rw [if_pos h]
  by_cases e:q=p
  ·rw [if_pos e,e,Xga p v m h]
   rfl
  ·rw [if_neg e,Yd p q v e m]
 ·rw [if_neg h,Zxx]
  by_cases e:q=p
  ·rw [if_pos e,e,Zxv p m h,if_pos rfl]
   rfl
  ·rw [if_neg e,if_neg (fun z:p=q=>e z.symm),Option.or_none]
theorem Xpu (m:Mp)(p:Int×Str)(v:Int):(pt m p v).length≤m.length+1:=by
 unfold pt
 split
 ·rw [length_map]
  exact le_succ _
 ·rw [length_append]
  exact le_refl _
theorem Xjt {a b:FE}{ρ:Env}{m:Mp}{p:Int×Str}(ha:a ρ=.ok (mD m))(hb:b ρ=.ok (pD p)):Zoi a b (fC (.int 0)) ρ=.ok (.int (lk m p)):=by
 unfold Zoi
 rw [ha]
 show (b ρ).bind _=_
 rw [hb]
 show (if Xw (mV m)=true∧flat (.int 0)=true then R.ok ((tAt (mK m) (mV m) (tk p)).getD (.int 0)) else .bad)=_
 rw [if_pos ⟨Zuu m,rfl⟩,Xsq]
 unfold lk
 cases lkO m p<;>rfl
theorem Xre {i:Nat}{k e:FE}{ρ:Env}{m:Mp}{p:Int×Str}{v:Int}(hi:ρ[i]?=some (some (mD m)))(hk:k ρ=.ok (pD p))(he:e ρ=.ok (.int v))(hl:m.length<1000000):Zxl i k e ρ=.ok (.nx (ρ.set i (some (mD (pt m p v))))):=by
 unfold Zxl
 rw [he]
 show (match ρ[i]? with | some (some (.dtt ks xs))=>(k ρ).bind (fun z=>(match keyT z with | some q=>if flat (.int v)=true∧Xw xs=true∧ks.length<lim then R.ok (Fl.nx (ρ.set i (some (Xnv ks xs q (.int v))))) else .bad | none=>.bad)) | _=>.bad)=_
 rw [hi]
 show (k ρ).bind _=_
 rw [hk]
 show (if flat (.int v)=true∧Xw (mV m)=true∧(mK m).length<lim then R.ok (Fl.nx (ρ.set i (some (Xnv (mK m) (mV m) (tk p) (.int v))))) else .bad)=_
 rw [if_pos ⟨rfl,Zuu m,by unfold mK;rw [length_map];exact hl⟩,put_m]
theorem Xgs (x y:Int×Str):eqv (pD x) (pD y)=decide (x=y):=by
 obtain ⟨a,b⟩:=x
 obtain ⟨c,d⟩:=y
 simp only [pD,eqv,Xfu,Bool.and_true]
 by_cases h1:a=c<;>by_cases h2:b=d<;>simp [h1,h2]
theorem Zsi (x:Int×Str):dep (pD x)≤1:=by simp [pD,dep,Zfl]
theorem Zgw (x:Int×Str)(xs:List (Int×Str)):Zcr (pD x) (psD xs)=some (.bl (!decide (x∈xs))):=by
 have h1:=Zsi x
 have h2:=Zkw (f:=pD) Zsi xs
 unfold Zcr psD
 simp only []
 rw [if_pos ⟨by omega,by omega⟩]
 have:((xs.map pD).any fun y=>eqv y (pD x))=decide (x∈xs):=by
  rw [List.any_map]
  by_cases h:x∈xs
  ·rw [decide_eq_true h,List.any_eq_true]
   exact ⟨x,h,by simp [Xgs]⟩
  ·rw [decide_eq_false h,List.any_eq_false]
   intro y hy
   simp [Xgs]
   rintro rfl
   exact h hy
 rw [this]
section
variable {ns:List Int}{ks:List Kd}
theorem Zoa (hw:∀k∈ks,1≤k.w)(nd:(ks.map (·.name)).Nodup){x:PK}(hx:x∈Zan ns ks ns.length):occ ns ks (nm x) ns.length=if may ns ks x=true then cb ns ks x.1*cb ns.reverse ks (ns.length - enN x) else 0:=by
 obtain ⟨h1,h2,h3⟩:=Zgh hx
 obtain ⟨h4,h5⟩:=Zxk h3 (hw _ h2)
 refine (Xhz hw nd h2 h3 h5).trans ?_
 unfold may
 by_cases t:ht ns ks x.1+x.2.wo+rs ns ks (enN x)=ht ns ks ns.length
 ·rw [if_pos t,if_pos (decide_eq_true t)]
 ·rw [if_neg t,if_neg (fun z=>t (of_decide_eq_true z))]
theorem Zpl (hw:∀k∈ks,1≤k.w)(nd:(ks.map (·.name)).Nodup){x:PK}(hx:x∈Zan ns ks ns.length):decide (0<occ ns ks (nm x) ns.length)=may ns ks x:=by
 rw [Zoa hw nd hx]
 have p1:=Zjj (ns:=ns) hw x.1
 have p2:=Zjj (ns:=ns.reverse) hw (ns.length - enN x)
 cases may ns ks x with
 | true=>exact decide_eq_true (by rw [if_pos rfl];exact Int.mul_pos p1 p2)
 | false=>exact decide_eq_false (by rw [if_neg Bool.false_ne_true];exact Int.lt_irrefl 0)
theorem Zip (hn:ns.length≤900)(hk:ks.length≤1000)(hw:∀k∈ks,1≤k.w):Yg [iD ns,tD ks]=.ok (.int (cb ns ks ns.length)):=
 Ji (Jd (Zcz (Zm (Zs (Zd rfl (Zd rfl rfl)) (Zil hn hk hw)) rfl (Zrp _)) rfl))
end
noncomputable def Zct:FS:=
 (Zhn 4 (fV 6) (Zcg 8 1 (Jj (f2 gIx (fV 4) (fV 5))) (Xe 8) Ztz (f2 Jp (fV 7) (fV 8))))
noncomputable def Zcq:FS:=
 (Ziv (Jj (Xb Yv (Zc (fV 0) (Zc (fV 1) (Zc (fV 3) (Zc (fV 5) Zt)))))) (Xac (Zeu (Xe 6) (Zeu (Xe 7) Zzk))) Zct)
noncomputable def Zju:FS:=
  (Xt (sIf (cE (f2 gGt (Xb Yg (Zc (fV 0) (Zc (fV 1) Zt))) (fV 2))) Zhq sNx)
    (Xt (Yt 3 (Xb Xv (Zc (fV 0) (Zc (fV 1) Zt))))
    (Xt (Yt 4 (Zcg 8 1 (Jj (fV 3)) (Xe 8) Ztz (fA Zae Zt)))
    (Xt (Zpm 4 (Zc (f1 Zqk (fC (.int 1))) Zt) (fA Zae Zt))
    (Xt (Ziv (Zyt (Zc (fA Zcc (Zc (fV 0) Zt)) (Zc (fC (.int 0)) (Zc (f1 Zqk (fC (.int 1))) Zt)))) (Xe 5) Zcq)
    (Zal (fA Zly (Zc (f2 Xir (fV 4) (fC (.int 0))) Zt))))))))
noncomputable def Jx (ds:List D):R D:=(run 8 Zju ds).calm
noncomputable def Yy:FS:=
 (Zxl 6 (fV 8) (f2 Jp (Zoi (fV 6) (fV 8) (fC (.int 0))) (fC (.int 1))))
noncomputable def Yx:FS:=
  (Xt (sIf (Zwi (cE (Xb Xg (Zc (fV 7) Zt)))) (Zal (fC (.bl false))) sNx)
    (Ziv (Jj (fV 7)) (Xe 8) Yy))
noncomputable def Ju:FS:=
 (sIf (cOr (cE (f2 gNe (f2 gEq (Zoi (fV 6) (fV 8) (fC (.int 0))) (fA Zcc (Zc (fV 5) Zt))) (f2 gIn (fV 8) (fV 3)))) (cE (f2 gEq (Zoi (fV 6) (fV 8) (fC (.int 0))) (fC (.int 0))))) (Zal (fC (.bl false))) sNx)
noncomputable def Zdo:FS:=
  (Xt (Yt 5 (Xb Jx (Zc (fA Jt (Zc (fV 0) Zt)) (Zc (fA Jt (Zc (fV 1) Zt)) (Zc (fC (.int 200)) Zt)))))
    (Xt (Yt 6 (fC (.dtt [] [])))
    (Xt (Ziv (Jj (fV 5)) (Xe 7) Yx)
    (Xt (sIf (cOr (cE (f2 gNe (f1 Xev (fV 6)) (fA Zcc (Zc (fV 2) Zt)))) (cE (f2 Zcr (fV 4) (fV 5)))) (Zal (fC (.bl false))) sNx)
    (Xt (Ziv (Jj (fV 2)) (Xe 8) Ju)
    (Zal (f2 gEq (fA Zcc (Zc (fV 5) Zt)) (Xb Yg (Zc (fA Jt (Zc (fV 0) Zt)) (Zc (fA Jt (Zc (fV 1) Zt)) Zt))))))))))
noncomputable def Yc (ds:List D):R D:=(run 9 Zdo ds).calm
noncomputable def Zqb:FS:=
 (sIf (cOr (cE (f2 Zcr (fV 8) (fV 6))) (cE (f2 Zcr (fV 8) (fV 5)))) (Zal (fC (.bl false))) sNx)
noncomputable def Zpz:FS:=
  (Xt (Yt 12 (Xb Zlt (Zc (fA Jt (Zc (fV 2) Zt)) (Zc (fA Jt (Zc (fV 3) Zt)) (Zc (f2 gIx (fV 9) (fV 11)) Zt)))))
    (sIf (cOr (cE (f2 gNe (f2 gEq (fV 12) (fC (.int 0))) (f2 gIn (f2 gIx (fV 9) (fV 11)) (fV 6)))) (cOr (cE (f2 gLt (fV 12) (fC (.int 0)))) (cE (f2 gGt (fV 12) (fV 4))))) (Zal (fC (.bl false))) sNx))
noncomputable def q_law:FS:=
  (Xt (Yt 1 (fC (.int 40)))
    (Xt (sIf (cE (f2 gEq (f2 gIx (Xb Ya (Zc (fV 0) (Zc (fC (.int 2)) (Zc (fA Zae (Zc (fC (.int 8)) Zt)) Zt)))) (fC (.int 0))) (fC (.int 0)))) (Yt 1 (fC (.int 120))) sNx)
    (Xt (Xmm (Xb Zad (Zc (fV 0) (Zc (fC (.int 0)) (Zc (fV 1) (Zc (fC (.int 8)) Zt))))) (Xac (Zeu (Xe 2) (Zeu (Xe 3) Zzk))))
    (Xt (Xmm (Xb Zjq (Zc (fA Jt (Zc (fV 2) Zt)) (Zc (fA Jt (Zc (fV 3) Zt)) Zt))) (Xac (Zeu (Xe 4) (Zeu (Xe 5) Zzk))))
    (Xt (Yt 6 (Xb Zfv (Zc (fA Jt (Zc (fV 2) Zt)) (Zc (fA Jt (Zc (fV 3) Zt)) Zt))))
    (Xt (Yt 7 (Xb Zhx (Zc (fA Jt (Zc (fV 2) Zt)) (Zc (fA Jt (Zc (fV 3) Zt)) Zt))))
    (Xt (sIf (cOr (Zwi (cE (Xb Xg (Zc (fV 6) Zt)))) (Zwi (cE (Xb Xg (Zc (fV 7) Zt))))) (Zal (fC (.bl false))) sNx)
    (Xt (Ziv (Jj (fV 7)) (Xe 8) Zqb)
    (Xt (Yt 9 (Xb Xy (Zc (fA Jt (Zc (fV 2) Zt)) (Zc (fA Jt (Zc (fV 3) Zt)) Zt))))
    (Xt (Yt 10 (f2 Jp (fC (.int 1)) (f2 Xmc (fA Zcc (Zc (fV 9) Zt)) (fC (.int 40)))))
    (Xt (Ziv (Zvk (Zc (fC (.int 0)) (Zc (fA Zcc (Zc (fV 9) Zt)) (Zc (fV 10) Zt)))) (Xe 11) Zpz)
    (Xt (sIf (cE (f2 gGt (Xb Yg (Zc (fA Jt (Zc (fV 2) Zt)) (Zc (fA Jt (Zc (fV 3) Zt)) Zt))) (fC (.int 200)))) (Zal (fC (.bl true))) sNx)
    (Zal (Xb Yc (Zc (fV 2) (Zc (fV 3) (Zc (fV 6) (Zc (fV 7) (Zc (fV 5) Zt)))))))))))))))))))
noncomputable def Xix (ds:List D):R D:=(run 13 q_law ds).calm
section
variable {ns:List Int}{ks:List Kd}
noncomputable abbrev Bt:=List (List (List Pc))
noncomputable def bD (Bs:Bt):D:=.lst (Bs.map fun l=>.lst (l.map ctD))
noncomputable def ln (Bs:Bt)(b:Nat):Int:=((Bs.getD b []).length:Int)
noncomputable def phi (ns:List Int)(ks:List Kd)(Bs:Bt)(j:Nat):Int:=S j fun b=>ln Bs b*cb ns ks b
structure BI (ns:List Int)(Bs:Bt):Prop where
 len:Bs.length=ns.length+1
 cl:∀b,∀c∈Bs.getD b [],c.length+b≤ns.length
noncomputable def Znu (Bs:Bt)(b e:Nat)(p:List Pc):Bt:=Bs.set b (Bs.getD b []++(Bs.getD e []).map fun c=>p++c)
theorem Zdu {Bs:Bt}{b e:Nat}{p:List Pc}(hb:b<Bs.length)(i:Nat):(Znu Bs b e p).getD i []=if i=b then Bs.getD b []++(Bs.getD e []).map (fun c=>p++c) else Bs.getD i []:=by
 unfold Znu
 rw [getD_eq_getElem?_getD]
 by_cases h:i=b
 ·subst h
  rw [if_pos rfl,getElem?_set_self hb]
  rfl
 ·rw [if_neg h,getElem?_set_ne (fun z=>h z.symm),← getD_eq_getElem?_getD]
theorem Zze {Bs:Bt}{b e:Nat}{p:List Pc}(hb:b<Bs.length)(i:Nat):ln (Znu Bs b e p) i=ln Bs i+if i=b then ln Bs e else 0:=by
 unfold ln
 rw [Zdu hb]
 by_cases h:i=b
 ·subst h
  rw [if_pos rfl,if_pos rfl,length_append,length_map]
  omega
 ·rw [if_neg h,if_neg h]
  omega
theorem Xks {Bs:Bt}{b e j:Nat}{p:List Pc}(hb:b<Bs.length)(hj:b<j):phi ns ks (Znu Bs b e p) j=phi ns ks Bs j+ln Bs e*cb ns ks b:=by
 unfold phi
 rw [← Xmk hj (ln Bs e*cb ns ks b),Xdx]
 refine Jr fun i _=>?_
 rw [Zze hb]
 by_cases h:i=b
 ·subst h
  rw [if_pos rfl,if_pos rfl,Int.add_mul]
 ·rw [if_neg h,if_neg h,Int.add_zero,Int.add_zero]
theorem Xcy (Bs:Bt)(b:Nat):0≤ln Bs b:=natCast_nonneg _
theorem Zuk (hw:∀k∈ks,1≤k.w){Bs:Bt}{b:Nat}:∀{j:Nat},b<j→ln Bs b≤phi ns ks Bs j
 | j+1,h=>by
  have nn:∀j,0≤phi ns ks Bs j:=fun j=>by
   induction j with
   | zero=>exact Int.le_refl _
   | succ j ih=>exact add_nonneg ih (mul_nonneg (Xcy _ _) (Int.le_of_lt (Zjj hw j)))
  have e:phi ns ks Bs (j+1)=phi ns ks Bs j+ln Bs j*cb ns ks j:=rfl
  have h3:=mul_nonneg (Xcy Bs j) (Int.le_of_lt (Zjj (ns:=ns) hw j))
  by_cases hj:b<j
  ·have:=Zuk hw (Bs:=Bs) hj
   omega
  ·have ej:b=j:=by omega
   subst ej
   have h1:=Zjj (ns:=ns) hw b
   have h2:=nn b
   have h4:ln Bs b*1≤ln Bs b*cb ns ks b:=Int.mul_le_mul_of_nonneg_left h1 (Xcy _ _)
   omega
theorem Xtf {Bs:Bt}{e:Nat}(he:e<Bs.length){i:Int}(hi:i=(e:Int)):gIx (bD Bs) (.int i)=some (.lst ((Bs.getD e []).map ctD)):=Xso hi (by simp [he,List.getD])
theorem Zhp (c:List Pc):Xw (c.map fun p=>D.tup [.int p.1,.str p.2])=true:=Zbl (fun _=>rfl) c
theorem Xov {p c:List Pc}(h:p.length+c.length≤1000000):Jp (psD p) (ctD c)=some (ctD (p++c)):=by
 show (if (p.map pD).length+(c.map fun p=>D.tup [.int p.1,.str p.2]).length≤lim∧Xw (p.map pD)=true∧Xw (c.map fun p=>D.tup [.int p.1,.str p.2])=true then some (D.lst (p.map pD++c.map fun p=>D.tup [.int p.1,.str p.2])) else none)=_
 rw [if_pos ⟨by rw [length_map,length_map];exact h,Zhp p,Zhp c⟩]
 unfold ctD
 rw [map_append]
 rfl
theorem Xsf {Bs:Bt}{b e:Nat}{p:List Pc}(hb:b<Bs.length){i:Int}(hi:i=(b:Int))(hl:(Bs.getD b []).length+(Bs.getD e []).length≤1000000):Zgk (Zud ((Bs.getD e []).map fun c=>ctD (p++c))) [i] (bD Bs)=some (bD (Znu Bs b e p)):=by
 have e1:ixD (Bs.map fun l=>D.lst (l.map ctD)).length i=some b:=by
  rw [length_map,hi]
  unfold ixD
  rw [if_pos (by omega),if_pos (by omega)]
  rfl
 have e2:(Bs.map fun l=>D.lst (l.map ctD))[b]?=some (.lst ((Bs.getD b []).map ctD)):=by
  rw [getElem?_map,getD_eq_getElem?_getD,getElem?_eq_getElem hb]
  rfl
 show ((ixD (Bs.map fun l=>D.lst (l.map ctD)).length i).bind fun j=>(Bs.map fun l=>D.lst (l.map ctD))[j]?.bind fun d=>(Zgk (Zud ((Bs.getD e []).map fun c=>ctD (p++c))) [] d).map fun d'=>D.lst ((Bs.map fun l=>D.lst (l.map ctD)).set j d'))=_
 rw [e1]
 show ((Bs.map fun l=>D.lst (l.map ctD))[b]?.bind fun d=>(Zgk (Zud ((Bs.getD e []).map fun c=>ctD (p++c))) [] d).map fun d'=>D.lst ((Bs.map fun l=>D.lst (l.map ctD)).set b d'))=_
 rw [e2]
 show ((Zud ((Bs.getD e []).map fun c=>ctD (p++c)) ((Bs.getD b []).map ctD)).map D.lst).map (fun d'=>D.lst ((Bs.map fun l=>D.lst (l.map ctD)).set b d'))=_
 unfold Zud
 rw [if_pos (by rw [length_map,length_map];exact hl)]
 show some (D.lst ((Bs.map fun l=>D.lst (l.map ctD)).set b (D.lst ((Bs.getD b []).map ctD++(Bs.getD e []).map fun c=>ctD (p++c)))))=_
 unfold bD Znu
 rw [List.map_set,map_append,map_map]
 rfl
theorem Xjm {i:Nat}{k e:FE}{ρ:Env}{d d':D}{n:Int}{es:List D}(hi:ρ[i]?=some (some d))(hk:k ρ=.ok (.int n))(he:e ρ=.ok (.lst es))(h:Zgk (Zud es) [n] d=some d'):Zhn i k e ρ=.ok (.nx (ρ.set i (some d'))):=by
 unfold Zhn
 rw [hi]
 show (k ρ).calm.bind _=_
 rw [hk]
 show (e ρ).calm.bind _=_
 rw [he]
 show (match Zgk (Zud es) [n] d with | some d'=>R.ok (Fl.nx (ρ.set i (some d'))) | none=>.bad)=_
 rw [h]
theorem BI.add {Bs:Bt}{b e:Nat}{p:List Pc}(bi:BI ns Bs)(he:e≤ns.length)(hb:b<e)(hp:p.length≤1):BI ns (Znu Bs b e p):=by
 refine ⟨by unfold Znu;rw [length_set];exact bi.len,fun i c hc=>?_⟩
 have hl:=bi.len
 rw [Zdu (by omega)] at hc
 split at hc
 ·rename_i h
  rcases List.mem_append.mp hc with q | q
  ·rw [h]
   exact bi.cl b c q
  ·obtain ⟨d,hd,rfl⟩:=List.mem_map.mp q
   have:=bi.cl e d hd
   rw [length_append]
   omega
 ·exact bi.cl i c hc
noncomputable def Zqv (e:Nat)(r:List Stp)(Bs:Bt):Bt:=r.foldl (fun B s=>Znu B s.1.toNat e s.2) Bs
noncomputable def Zjs (ns:List Int)(ks:List Kd):Nat→Bt→Bt
 | 0,Bs=>Bs
 | j+1,Bs=>Zjs ns ks j (Zqv (j+1) (stL ns ks (j+1)) Bs)
theorem Zhd (hn:ns.length≤900)(hw:∀k∈ks,1≤k.w){A T M h:D}{e:Nat}(he:e≤ns.length){N:Int}(hN:N≤1000):∀(r:List Stp) (Bs:Bt) (o6 o7:Option D),BI ns Bs→(∀s∈r,0≤s.1∧s.1<e∧s.2.length≤1)→phi ns ks Bs e+ln Bs e*((r.map fun s=>cb ns ks s.1.toNat).sum:Int)=N→ln Bs e≤1000→
    ∃Bs' o6' o7',Zbr (Xac (Zeu (Xe 6) (Zeu (Xe 7) Zzk))) Zct (r.map stD) [some A,some T,some M,some h,some (bD Bs),some (.int e),o6,o7]=.ok (.nx [some A,some T,some M,some h,some (bD Bs'),some (.int e),o6',o7'])∧BI ns Bs'∧phi ns ks Bs' e=N∧Bs'=Zqv e r Bs
  | [],Bs,o6,o7,bi,_,hphi,_=>⟨Bs,o6,o7,rfl,bi,by simpa using hphi,rfl⟩
  | s::r,Bs,o6,o7,bi,hr,hphi,hle=>by
    obtain ⟨h1,h2,h3⟩:=hr s (.head _)
    have hl:=bi.len
    have hb:s.1.toNat<Bs.length:=by omega
    have hbe:s.1.toNat<e:=by omega
    rw [map_cons,sum_cons,mul_add] at hphi
    have pa:=Xks (ns:=ns) (ks:=ks) (Bs:=Bs) (b:=s.1.toNat) (e:=e) (j:=e) (p:=s.2) hb hbe
    have le:ln (Znu Bs s.1.toNat e s.2) e=ln Bs e:=by rw [Zze hb,if_neg (by omega),Int.add_zero]
    have nnr:0≤ln Bs e*((r.map fun s=>cb ns ks s.1.toNat).sum:Int):=mul_nonneg (Xcy _ _) (by
      have:∀r:List Stp,0≤((r.map fun s=>cb ns ks s.1.toNat).sum:Int):=fun r=>by
        induction r with
        | nil=>exact Int.le_refl _
        | cons s r ih=>rw [map_cons,sum_cons];exact add_nonneg (Int.le_of_lt (Zjj hw _)) ih
      exact this r)
    have p1:=Zuk (ns:=ns) hw (Bs:=Znu Bs s.1.toNat e s.2) hbe
    have p2:=Zze (Bs:=Bs) (b:=s.1.toNat) (e:=e) (p:=s.2) hb s.1.toNat
    rw [if_pos rfl] at p2
    have hsz:(Bs.getD s.1.toNat []).length+(Bs.getD e []).length≤1000000:=by
      have:ln Bs s.1.toNat+ln Bs e≤1000:=by omega
      unfold ln at this
      omega
    obtain ⟨Bs',o6',o7',q1,q2,q3,q4⟩:=Zhd hn hw (A:=A) (T:=T) (M:=M) (h:=h) he hN r (Znu Bs s.1.toNat e s.2) (some (.int s.1)) (some (psD s.2)) (bi.add he hbe h3) (fun x hx=>hr x (.tail _ hx)) (by rw [pa,le];omega) (by rw [le];exact hle)
    refine ⟨Bs',o6',o7',?_,q2,q3,q4⟩
    rw [map_cons,Zcv (ρ1:=[some A,some T,some M,some h,some (bD Bs),some (.int e),some (.int s.1),some (psD s.2)]) rfl]
    have cm:Zcg 8 1 (Jj (f2 gIx (fV 4) (fV 5))) (Xe 8) Ztz (f2 Jp (fV 7) (fV 8)) [some A,some T,some M,some h,some (bD Bs),some (.int e),some (.int s.1),some (psD s.2)]=.ok (.lst ((Bs.getD e []).map fun c=>ctD (s.2++c))):=by
      refine Zjt rfl (Jk (Zm rfl rfl (Xtf (e:=e) (by omega) rfl)) (by rw [length_map];show _≤1000000;omega)) (Zqx rfl fun c hc=>?_)
      have:=bi.cl e c hc
      exact Zm rfl rfl (Xov (by omega))
    rw [show Zct [some A,some T,some M,some h,some (bD Bs),some (.int e),some (.int s.1),some (psD s.2)]=_ from Xjm rfl rfl cm (Xsf hb (by omega) hsz)]
    exact q1
theorem Ztx (j:Nat):Zfs ((j+1:Nat):Int) (j+1)=((j+1:Nat):Int)::Zfs (j:Int) j:=by
 unfold Zfs
 rw [List.range_succ_eq_map,map_cons,map_map,show ((j+1:Nat):Int) - ((0:Nat):Int)=((j+1:Nat):Int) by omega]
 refine congrArg _ (map_congr_left fun k _=>?_)
 show ((j+1:Nat):Int) - ((k+1:Nat):Int)=_
 omega
theorem Xhv {e:Nat}:∀s∈stL ns ks e,s.2.length≤1:=fun s hs=>by
 unfold stL at hs
 rcases List.mem_append.mp hs with q | q
 ·split at q
  ·rw [List.mem_singleton.mp q]
   exact zero_le _
  ·cases q
 ·obtain ⟨k,_,rfl⟩:=List.mem_map.mp q
  exact le_refl _
theorem Xja (hk:ks.length≤1000)(e:Nat):(stL ns ks e).length≤10000:=by
 unfold stL
 rw [length_append,length_map]
 have h1:=length_filter_le (fun k=>decide (ht ns ks ((e:Int) - k.w).toNat+k.wo=ht ns ks e)) (ks.filter fun k=>good ns k ((e:Int) - k.w))
 have h2:=length_filter_le (fun k=>good ns k ((e:Int) - k.w)) ks
 have h3:(if ht ns ks (e - 1)=ht ns ks e then [((e:Int) - 1,([]:List (Int×Str)))] else []).length≤1:=by split<;>simp
 omega
theorem Zpw (hn:ns.length≤900)(hk:ks.length≤1000)(hw:∀k∈ks,1≤k.w){M:D}{N:Int}(hN:N≤1000):∀(j:Nat) (Bs:Bt) (o5 o6 o7:Option D),j≤ns.length→BI ns Bs→phi ns ks Bs (j+1)=N→
  ∃Bs' o5' o6' o7',Zbr (Xe 5) Zcq ((Zfs (j:Int) j).map D.int) [some (iD ns),some (tD ks),some M,some (iD (hts ns ks ns.length)),some (bD Bs),o5,o6,o7]=.ok (.nx [some (iD ns),some (tD ks),some M,some (iD (hts ns ks ns.length)),some (bD Bs'),o5',o6',o7'])∧BI ns Bs'∧phi ns ks Bs' 1=N∧Bs'=Zjs ns ks j Bs
 | 0,Bs,o5,o6,o7,_,bi,hphi=>⟨Bs,o5,o6,o7,rfl,bi,hphi,rfl⟩
 | j+1,Bs,o5,o6,o7,hj,bi,hphi=>by
  have e1:phi ns ks Bs (j+1+1)=phi ns ks Bs (j+1)+ln Bs (j+1)*cb ns ks (j+1):=rfl
  have hle:=Zuk (ns:=ns) hw (Bs:=Bs) (show j+1<j+1+1 by omega)
  have st:=Zqq (ns:=ns) hk hw (e:=j+1) (by omega) hj
  have hsl:=Xja (ns:=ns) (ks:=ks) hk (j+1)
  obtain ⟨B1,a6,a7,q1,q2,q3,rfl⟩:=Zhd hn hw (A:=iD ns) (T:=tD ks) (M:=M) (h:=iD (hts ns ks ns.length)) hj hN (stL ns ks (j+1)) Bs o6 o7 bi (fun s hs=>⟨(Zvu hw s hs).1,by have:=(Zvu hw s hs).2;omega,Xhv s hs⟩) (by rw [Zwy hw];omega) (by omega)
  obtain ⟨B2,b5,b6,b7,q4,q5,q6,q7⟩:=Zpw hn hk hw (M:=M) hN j _ (some (.int ((j+1:Nat):Int))) a6 a7 (by omega) q2 q3
  refine ⟨B2,b5,b6,b7,?_,q5,q6,q7⟩
  rw [Ztx,map_cons,Zcv (ρ1:=[some (iD ns),some (tD ks),some M,some (iD (hts ns ks ns.length)),some (bD Bs),some (.int ((j+1:Nat):Int)),o6,o7]) rfl]
  rw [show Zcq [some (iD ns),some (tD ks),some M,some (iD (hts ns ks ns.length)),some (bD Bs),some (.int ((j+1:Nat):Int)),o6,o7]=_ from Zch (Jk (Zs (Zd rfl (Zd rfl (Zd rfl (Zd rfl rfl)))) st) (by rw [length_map];show _≤1000000;omega)) q1]
  exact q4
end
theorem Zpv (c:List Pc):∀l:List (List Pc),(Xgq c l).length=l.length+1
 | []=>rfl
 | d::r=>by
  unfold Xgq
  split
  ·rfl
  ·rw [length_cons,Zpv c r,length_cons]
theorem Znd:∀l:List (List Pc),(Zez l).length=l.length
 | []=>rfl
 | c::r=>by rw [Zez,Zpv,Znd r,length_cons]
theorem Zlv:∀c:List Pc,Zmf (c.map fun p=>.tup [.int p.1,.str p.2])=some c
 | []=>rfl
 | p::r=>by
  show (Xok (.tup [.int p.1,.str p.2])).bind (fun c=>(Zmf (r.map fun p=>.tup [.int p.1,.str p.2])).bind fun cs=>some (c::cs))=_
  rw [Zlv r]
  rfl
theorem Znf:∀l:List (List Pc),Zno (l.map ctD)=some l
 | []=>rfl
 | c::r=>by
  show (Zmf (c.map fun p=>.tup [.int p.1,.str p.2])).bind (fun c=>(Zno (r.map ctD)).bind fun cs=>some (c::cs))=_
  rw [Zlv c,Znf r]
  rfl
theorem Xdc {l:List (List Pc)}(h:l.length≤1000):Zly [.lst (l.map ctD)]=some (.lst ((Zez l).map ctD)):=by
 show ((Zno (l.map ctD)).bind fun cs=>if cs.length≤1000 then some (D.lst ((Zez cs).map ctD)) else none)=_
 rw [Znf]
 exact if_pos h
theorem Xjn {i:Nat}{k e:FE}{ρ:Env}{d d' v:D}{n:Int}(hi:ρ[i]?=some (some d))(hk:k ρ=.ok (.int n))(he:e ρ=.ok v)(h:Zgk (Zua v) [n] d=some d'):Zpm i (Zc k Zt) e ρ=.ok (.nx (ρ.set i (some d'))):=by
 unfold Zpm
 rw [hi]
 show (Zc k Zt ρ).calm.bind _=_
 rw [Zd hk (xs:=[]) rfl]
 show (e ρ).calm.bind _=_
 rw [he]
 show (match Zgk (Zua v) [n] d with | some d'=>R.ok (Fl.nx (ρ.set i (some d'))) | none=>.bad)=_
 rw [h]
section
variable {ns:List Int}{ks:List Kd}
noncomputable def bs0 (n:Nat):Bt:=List.replicate n []++[[[]]]
theorem upd0 (n:Nat):Zgk (Zua (.lst [])) [-1] (.lst (List.replicate (n+1) (.lst [])))=some (bD (bs0 n)):=by
 have e1:ixD (List.replicate (n+1) (D.lst [])).length (-1)=some n:=by
  rw [length_replicate]
  unfold ixD
  rw [if_neg (by decide),if_pos (by omega)]
  congr 1
  omega
 have e2:(List.replicate (n+1) (D.lst []))[n]?=some (.lst []):=by
  rw [List.getElem?_replicate,if_pos (Nat.lt_succ_self n)]
 show ((ixD (List.replicate (n+1) (D.lst [])).length (-1)).bind fun j=>(List.replicate (n+1) (D.lst []))[j]?.bind fun d=>(Zgk (Zua (.lst [])) [] d).map fun d'=>D.lst ((List.replicate (n+1) (D.lst [])).set j d'))=_
 rw [e1]
 show ((List.replicate (n+1) (D.lst []))[n]?.bind fun d=>(Zgk (Zua (.lst [])) [] d).map fun d'=>D.lst ((List.replicate (n+1) (D.lst [])).set n d'))=_
 rw [e2]
 show some (D.lst ((List.replicate (n+1) (D.lst [])).set n (.lst [.lst []])))=_
 rw [List.replicate_succ',set_append_right _ _ (by rw [length_replicate];exact le_refl _),length_replicate,sub_self]
 unfold bD bs0
 rw [map_append,List.map_replicate]
 rfl
theorem Zjl (n b:Nat):(bs0 n).getD b []=if b=n then [[]] else []:=by
 unfold bs0
 rw [getD_eq_getElem?_getD]
 by_cases h:b<n
 ·rw [getElem?_append_left (by rw [length_replicate];exact h),List.getElem?_replicate,if_pos h,if_neg (by omega)]
  rfl
 ·rw [getElem?_append_right (by rw [length_replicate];omega),length_replicate]
  by_cases e:b=n
  ·subst e
   rw [sub_self,if_pos rfl]
   rfl
  ·obtain ⟨j,hj⟩:∃j,b - n=j+1:=⟨b - n - 1,by omega⟩
   rw [hj,if_neg e]
   rfl
theorem Xpy:BI ns (bs0 ns.length):=by
 refine ⟨by simp [bs0],fun b c hc=>?_⟩
 rw [Zjl] at hc
 split at hc
 ·rename_i h
  rw [List.mem_singleton.mp hc]
  show 0+b≤_
  omega
 ·cases hc
theorem Xma:phi ns ks (bs0 ns.length) (ns.length+1)=cb ns ks ns.length:=by
 have e:phi ns ks (bs0 ns.length) (ns.length+1)=phi ns ks (bs0 ns.length) ns.length+ln (bs0 ns.length) ns.length*cb ns ks ns.length:=rfl
 have z:phi ns ks (bs0 ns.length) ns.length=0:=S_ne fun i hi=>by
  unfold ln
  rw [Zjl,if_neg (by omega)]
  show (0:Int)*_=0
  rw [zero_mul]
 have o:ln (bs0 ns.length) ns.length=1:=by
  unfold ln
  rw [Zjl,if_pos rfl]
  rfl
 rw [e,z,o,Int.zero_add,one_mul]
theorem Zoq (hn:ns.length≤900)(hk:ks.length≤1000)(hw:∀k∈ks,1≤k.w){m:Int}(h1:cb ns ks ns.length≤m)(h2:cb ns ks ns.length≤200):∃L:List (List Pc),Jx [iD ns,tD ks,.int m]=.ok (.lst (L.map ctD))∧L=Zez ((Zjs ns ks ns.length (bs0 ns.length)).getD 0 [])∧(L.length:Int)=cb ns ks ns.length∧∀c∈L,c.length≤ns.length:=by
  obtain ⟨Bs,o5,o6,o7,q1,q2,q3,q4⟩:=Zpw hn hk hw (M:=.int m) (N:=cb ns ks ns.length) (by omega) ns.length (bs0 ns.length) none none none (le_refl _) Xpy Xma
  have e3:phi ns ks Bs 1=0+ln Bs 0*cb ns ks 0:=rfl
  rw [Zyc,Int.mul_one,Int.zero_add] at e3
  have hl:(((Bs.getD 0 []).length:Nat):Int)=cb ns ks ns.length:=e3.symm.trans q3
  refine ⟨Zez (Bs.getD 0 []),?_,by rw [q4],by rw [Znd];exact hl,fun c hc=>by
    have:=q2.cl 0 c ((L2.Zdb _).mem_iff.mp hc)
    omega⟩
  have hB:=q2.len
  have cm:Zcg 8 1 (Jj (fV 3)) (Xe 8) Ztz (fA Zae Zt) [some (iD ns),some (tD ks),some (.int m),some (iD (hts ns ks ns.length)),none,none,none,none]=.ok (.lst (List.replicate (ns.length+1) (.lst []))):=by
    refine Zjt rfl (Jk (xs:=(hts ns ks ns.length).map D.int) rfl (by rw [length_map,Zai];show _≤1000000;omega)) ?_
    have z:=Zqx (e:=fA Zae Zt) (ρ:=[some (iD ns),some (tD ks),some (.int m),some (iD (hts ns ks ns.length)),none,none,none,none]) (n:=8) (enc:=D.int) (v:=fun _=>.lst []) (xs:=hts ns ks ns.length) rfl fun c hc=>rfl
    rw [z,List.map_const',Zai]
  have rg:Zyt (Zc (fA Zcc (Zc (fV 0) Zt)) (Zc (fC (.int 0)) (Zc (f1 Zqk (fC (.int 1))) Zt))) [some (iD ns),some (tD ks),some (.int m),some (iD (hts ns ks ns.length)),some (bD (bs0 ns.length)),none,none,none]=.ok ((Zfs (ns.length:Int) ns.length).map D.int):=by
    unfold Zyt
    rw [Zd (Zkk rfl) (Zd (x:=.int 0) rfl (Zd (x:=.int (-1)) (xs:=[]) rfl rfl))]
    show (if (-1:Int)=-1∧-1000000000≤(ns.length:Int)∧(ns.length:Int)≤1000000000∧-1000000000≤(0:Int)∧(0:Int)≤1000000000∧((ns.length:Int) - 0).toNat≤lim then R.ok ((Zfs (ns.length:Int) ((ns.length:Int) - 0).toNat).map D.int) else .bad)=_
    rw [show ((ns.length:Int) - 0).toNat=ns.length by omega]
    exact if_pos ⟨rfl,by omega,by omega,by decide,by decide,by show _≤1000000;omega⟩
  have b:Zju ([iD ns,tD ks,D.int m].map some++List.replicate (8 - [iD ns,tD ks,D.int m].length) none)=.ok (.ret (.lst ((Zez (Bs.getD 0 [])).map ctD))):=
    Zq (Yu (Jl (Zm (Zs (Zd rfl (Zd rfl rfl)) (Zip hn hk hw)) rfl (Zug (p:=cb ns ks ns.length > m) (by omega)))) rfl) (Zq (Xf (Zs (Zd rfl (Zd rfl rfl)) (Zap ns ks hn hk hw))) (Zq (Xf cm) (Zq (Xjn rfl rfl rfl (upd0 _)) (Zq (Zch rg q1) (Jd (Zbs (Zd (Zm rfl rfl (show Xir (bD Bs) (.int 0)=_ from Xtf (e:=0) (by omega) rfl)) rfl) (Xdc (by omega))))))))
  unfold Jx run
  rw [b]
  rfl
noncomputable def fst? (b:Nat):List Pc→Option Str
 | []=>none
 | p::_=>if p.1=(b:Int) then some p.2 else none
noncomputable def tagOf (p:List Pc):Option Str:=p.head?.map (·.2)
structure BJ (ns:List Int)(ks:List Kd)(U:Nat→Option Str→Prop)(Bs:Bt):Prop where
 len:Bs.length=ns.length+1
 am:∀b,∀c∈Bs.getD b [],∀t f:Int,f≤b→amt ns ks c t f=some (t+(ht ns ks ns.length - ht ns ks b))
 ps:∀b,∀c∈Bs.getD b [],∀p∈c,(b:Int)≤p.1
 nd:∀b,(Bs.getD b []).Nodup
 us:∀b,∀c∈Bs.getD b [],b<ns.length→U b (fst? b c)
def VS (ns:List Int)(ks:List Kd)(e b:Nat)(p:List Pc):Prop:=(p=[]∧b+1=e∧ht ns ks b=ht ns ks e)∨∃k∈ks,p=[((b:Int),k.name)]∧good ns k b=true∧(b:Int)+k.w=e∧ht ns ks b+k.wo=ht ns ks e
theorem Zle:∀{ks:List Kd},(ks.map (·.name)).Nodup→∀{k:Kd},k∈ks→(ks.find? fun x=>x.name==k.name)=some k
 | [],_,_,h=>nomatch h
 | x::ks,nd,k,h=>by
  obtain ⟨n1,n2⟩:=List.nodup_cons.mp nd
  rw [find?_cons]
  rcases List.mem_cons.mp h with e | e
  ·rw [e,beq_self_eq_true]
  ·have:x.name≠k.name:=fun z=>n1 (by show x.name∈_;rw [z];exact mem_map_of_mem (f:=fun y:Kd=>y.name) e)
   rw [show (x.name==k.name)=false by simpa using this]
   exact Zle n2 e
theorem Zux {k j:Kd}(nd:(ks.map (·.name)).Nodup)(hk:k∈ks)(hj:j∈ks)(e:k.name=j.name):k=j:=by
 have h1:=Zle nd hk
 rw [e,Zle nd hj] at h1
 exact (Option.some.inj h1).symm
theorem VS.fst {e b:Nat}{p d:List Pc}(v:VS ns ks e b p)(hb:b<e)(hd:∀x∈d,(e:Int)≤x.1):fst? b (p++d)=tagOf p:=by
 rcases v with ⟨rfl,_,_⟩ | ⟨k,_,rfl,_⟩
 ·cases d with
  | nil=>rfl
  | cons x d =>
   have:=hd x (.head _)
   show (if x.1=(b:Int) then some x.2 else none)=none
   rw [if_neg (by omega)]
 ·show (if (b:Int)=(b:Int) then some k.name else none)=some k.name
  rw [if_pos rfl]
theorem BJ.add (nd:(ks.map (·.name)).Nodup){U:Nat→Option Str→Prop}{Bs:Bt}{e b:Nat}{p:List Pc}(bj:BJ ns ks U Bs)(v:VS ns ks e b p)(hb:b<e)(he:e≤ns.length)(hU:¬U b (tagOf p)):BJ ns ks (fun x t=>U x t∨(x=b∧t=tagOf p)) (Znu Bs b e p):=by
  have hl:=bj.len
  have hB:b<Bs.length:=by omega
  have new:∀c∈(Bs.getD e []).map (fun c=>p++c),∃d∈Bs.getD e [],c=p++d:=fun c hc=>by
    obtain ⟨d,hd,rfl⟩:=List.mem_map.mp hc
    exact ⟨d,hd,rfl⟩
  refine ⟨by unfold Znu;rw [length_set];exact hl,fun x c hc t f hf=>?_,fun x c hc q hq=>?_,fun x=>?_,fun x c hc hx=>?_⟩
  · rw [Zdu hB] at hc
    split at hc
    · rename_i z
      subst z
      rcases List.mem_append.mp hc with z | z
      · exact bj.am x c z t f hf
      · obtain ⟨d,hd,rfl⟩:=new c z
        rcases v with ⟨rfl,v1,v2⟩ | ⟨k,v0,rfl,v1,v2,v3⟩
        · rw [v2]
          exact bj.am e d hd t f (by omega)
        · show (match ks.find? fun j=>j.name==k.name with
            | none=>none
            | some k=>if (x:Int)<f∨good ns k x=false then none else amt ns ks d (t+k.wo) ((x:Int)+k.w))=_
          rw [Zle nd v0]
          show (if (x:Int)<f∨good ns k x=false then none else amt ns ks d (t+k.wo) ((x:Int)+k.w))=_
          rw [if_neg (by rw [v1];simp;omega),bj.am e d hd _ _ (by omega)]
          congr 1
          omega
    · exact bj.am x c hc t f hf
  · rw [Zdu hB] at hc
    split at hc
    · rename_i z
      subst z
      rcases List.mem_append.mp hc with z | z
      · exact bj.ps x c z q hq
      · obtain ⟨d,hd,rfl⟩:=new c z
        rcases List.mem_append.mp hq with z | z
        · rcases v with ⟨rfl,_⟩ | ⟨k,v0,rfl,_⟩
          · cases z
          · rw [List.mem_singleton.mp z]
            exact Int.le_refl _
        · have:=bj.ps e d hd q z
          omega
    · exact bj.ps x c hc q hq
  · rw [Zdu hB]
    split
    · rename_i z
      subst z
      refine List.nodup_append.mpr ⟨bj.nd x,?_,fun c hc d hd z=>?_⟩
      · refine List.Pairwise.map _ (fun c d h z=>h ?_) (bj.nd e)
        exact List.append_cancel_left z
      · subst z
        obtain ⟨d,hd',rfl⟩:=new _ hd
        have h1:=bj.us x _ hc (by omega)
        rw [v.fst hb (bj.ps e d hd')] at h1
        exact hU h1
    · exact bj.nd x
  · rw [Zdu hB] at hc
    split at hc
    · rename_i z
      subst z
      rcases List.mem_append.mp hc with z | z
      · exact .inl (bj.us x c z hx)
      · obtain ⟨d,hd,rfl⟩:=new c z
        exact .inr ⟨rfl,v.fst hb (bj.ps e d hd)⟩
    · exact .inl (bj.us x c hc hx)
theorem BJ.all (nd:(ks.map (·.name)).Nodup){e:Nat}(he:e≤ns.length):∀(r:List Stp) {U:Nat→Option Str→Prop} {Bs:Bt},BJ ns ks U Bs→(∀s∈r,VS ns ks e s.1.toNat s.2∧s.1.toNat<e)→(r.map fun s=>tagOf s.2).Nodup→(∀s∈r,¬U s.1.toNat (tagOf s.2))→
    BJ ns ks (fun b t=>U b t∨∃s∈r,b=s.1.toNat∧t=tagOf s.2) (Zqv e r Bs)
  | [],U,Bs,bj,_,_,_=>⟨bj.len,bj.am,bj.ps,bj.nd,fun b c hc hb=>.inl (bj.us b c hc hb)⟩
  | s::r,U,Bs,bj,hv,hn,hU=>by
    obtain ⟨n1,n2⟩:=List.nodup_cons.mp hn
    obtain ⟨v1,v2⟩:=hv s (.head _)
    have b1:=bj.add nd v1 v2 he (hU s (.head _))
    have b2:=BJ.all nd he r b1 (fun x hx=>hv x (.tail _ hx)) n2 (fun x hx z=>by
      rcases z with z | ⟨z1,z2⟩
      · exact hU x (.tail _ hx) z
      · exact n1 (by show tagOf s.2∈_;rw [← z2];exact mem_map_of_mem (f:=fun s:Stp=>tagOf s.2) hx))
    refine ⟨b2.len,b2.am,b2.ps,b2.nd,fun b c hc hb=>?_⟩
    rcases b2.us b c hc hb with (z | z) | ⟨x,hx,z⟩
    · exact .inl z
    · exact .inr ⟨s,.head _,z⟩
    · exact .inr ⟨x,.tail _ hx,z⟩
def Uj (ks:List Kd)(j b:Nat)(t:Option Str):Prop:=(t=none∧j<b+1)∨∃k∈ks,t=some k.name∧(j:Int)<(b:Int)+k.w
theorem Zqh (hw:∀k∈ks,1≤k.w){e:Nat}(h1:1≤e):∀s∈stL ns ks e,VS ns ks e s.1.toNat s.2∧s.1.toNat<e:=fun s hs=>by
 unfold stL at hs
 rcases List.mem_append.mp hs with q | q
 ·split at q
  ·rename_i h
   rw [List.mem_singleton.mp q]
   have e1:((e:Int) - 1).toNat=e - 1:=by omega
   show VS ns ks e ((e:Int) - 1).toNat []∧((e:Int) - 1).toNat<e
   rw [e1]
   exact ⟨.inl ⟨rfl,by omega,h⟩,by omega⟩
  ·cases q
 ·obtain ⟨k,hk,rfl⟩:=List.mem_map.mp q
  obtain ⟨hk,h2⟩:=List.mem_filter.mp hk
  obtain ⟨hk,h3⟩:=List.mem_filter.mp hk
  have bd:=Xs h3
  have hw1:=hw k hk
  have e1:(((e:Int) - k.w).toNat:Int)=(e:Int) - k.w:=by omega
  show VS ns ks e ((e:Int) - k.w).toNat [((e:Int) - k.w,k.name)]∧((e:Int) - k.w).toNat<e
  refine ⟨.inr ⟨k,hk,?_,?_,by omega,of_decide_eq_true h2⟩,by omega⟩
  ·rw [e1]
  ·rw [e1]
   exact h3
theorem Xpk (nd:(ks.map (·.name)).Nodup)(e:Nat):((stL ns ks e).map fun s=>tagOf s.2).Nodup:=by
 unfold stL
 rw [map_append]
 have h2:((((ks.filter fun k=>good ns k ((e:Int) - k.w)).filter fun k=>decide (ht ns ks ((e:Int) - k.w).toNat+k.wo=ht ns ks e)).map (kst e)).map fun s=>tagOf s.2)=(((ks.filter fun k=>good ns k ((e:Int) - k.w)).filter fun k=>decide (ht ns ks ((e:Int) - k.w).toNat+k.wo=ht ns ks e)).map (·.name)).map some:=by
  rw [map_map,map_map]
  rfl
 rw [h2]
 have h3:(((ks.filter fun k=>good ns k ((e:Int) - k.w)).filter fun k=>decide (ht ns ks ((e:Int) - k.w).toNat+k.wo=ht ns ks e)).map (·.name)).Nodup:=nd.sublist ((List.filter_sublist.trans List.filter_sublist).map _)
 refine List.nodup_append.mpr ⟨?_,List.Pairwise.map _ (fun a b h z=>h (Option.some.inj z)) h3,fun a ha b hb z=>?_⟩
 ·split
  ·exact List.nodup_cons.mpr ⟨not_mem_nil,nodup_nil⟩
  ·exact nodup_nil
 ·subst z
  obtain ⟨x,_,rfl⟩:=List.mem_map.mp hb
  split at ha
  ·exact nomatch (List.mem_singleton.mp ha)
  ·cases ha
theorem VS.notU (nd:(ks.map (·.name)).Nodup){e b:Nat}{p:List Pc}(v:VS ns ks e b p):¬Uj ks e b (tagOf p):=fun z=>by
 rcases v with ⟨rfl,v1,_⟩ | ⟨k,v0,rfl,v1,v2,v3⟩
 ·rcases z with ⟨_,z⟩ | ⟨j,_,z,_⟩
  ·omega
  ·cases z
 ·rcases z with ⟨z,_⟩ | ⟨j,hj,z,z2⟩
  ·cases z
  ·have z:some k.name=some j.name:=z
   have:=Zux nd v0 hj (Option.some.inj z)
   subst this
   omega
theorem VS.isU {e b j:Nat}{p:List Pc}(v:VS ns ks e b p)(hj:j<e):Uj ks j b (tagOf p):=by
 rcases v with ⟨rfl,v1,_⟩ | ⟨k,v0,rfl,v1,v2,v3⟩
 ·exact .inl ⟨rfl,by omega⟩
 ·exact .inr ⟨k,v0,rfl,by omega⟩
theorem BJ.out (nd:(ks.map (·.name)).Nodup)(hw:∀k∈ks,1≤k.w):∀(j:Nat) {Bs:Bt},j≤ns.length→BJ ns ks (Uj ks j) Bs→BJ ns ks (Uj ks 0) (Zjs ns ks j Bs)
 | 0,_,_,bj=>bj
 | j+1,Bs,hj,bj=>by
  have b1:=bj.all nd hj (stL ns ks (j+1)) (Zqh hw (by omega)) (Xpk nd _) (fun s hs=>((Zqh hw (by omega) s hs).1).notU nd)
  refine BJ.out nd hw j (by omega) ⟨b1.len,b1.am,b1.ps,b1.nd,fun b c hc hb=>?_⟩
  rcases b1.us b c hc hb with z | ⟨s,hs,rfl,z⟩
  ·rcases z with ⟨z1,z2⟩ | ⟨k,z0,z1,z2⟩
   ·exact .inl ⟨z1,by omega⟩
   ·exact .inr ⟨k,z0,z1,by omega⟩
  ·rw [z]
   exact (Zqh hw (by omega) s hs).1.isU (by omega)
theorem BJ.zero:BJ ns ks (Uj ks ns.length) (bs0 ns.length):=by
 have key:∀b,∀c∈(bs0 ns.length).getD b [],b=ns.length∧c=[]:=fun b c hc=>by
  rw [Zjl] at hc
  split at hc
  ·rename_i h
   exact ⟨h,List.mem_singleton.mp hc⟩
  ·cases hc
 refine ⟨by simp [bs0],fun b c hc t f hf=>?_,fun b c hc p hp=>?_,fun b=>?_,fun b c hc hb=>?_⟩
 ·obtain ⟨rfl,rfl⟩:=key b c hc
  show some t=_
  congr 1
  omega
 ·obtain ⟨rfl,rfl⟩:=key b c hc
  cases hp
 ·rw [Zjl]
  split
  ·exact List.nodup_cons.mpr ⟨not_mem_nil,nodup_nil⟩
  ·exact nodup_nil
 ·have:=(key b c hc).1
  omega
structure Best (ns:List Int)(ks:List Kd)(L:List (List Pc)):Prop where
 len:(L.length:Int)=cb ns ks ns.length
 am:∀c∈L,amt ns ks c 0 0=some (ht ns ks ns.length)
 up:L.Pairwise fun c d=>Zbv c d=true
 sh:∀c∈L,c.length≤ns.length
theorem Xkw (hw:∀k∈ks,1≤k.w){j:Nat}{c:Cut}(h:c∈Zcf ns ks j):c∈Zcf ns ks (j+1):=(Zbc ns ks hw j c).mpr (.inl h)
theorem Xbd (hw:∀k∈ks,1≤k.w){b e:Nat}{k:Kd}{d:List Pc}{v:Int}(hk:k∈ks)(hg:good ns k b=true)(he:(b:Int)+k.w=e)(h:(d,v)∈Zcf ns ks b):(d++[((b:Int),k.name)],v+k.wo)∈Zcf ns ks e:=by
 have hw1:=hw k hk
 obtain ⟨j,rfl⟩:∃j,e=j+1:=⟨e - 1,by omega⟩
 have eb:((j+1:Nat):Int) - k.w=(b:Int):=by omega
 refine (Zbc ns ks hw j _).mpr (.inr ⟨k,hk,by rw [eb];exact hg,(d,v),?_,by rw [eb]⟩)
 rw [eb]
 exact h
def BK (ns:List Int)(ks:List Kd)(Bs:Bt):Prop:=Bs.length=ns.length+1∧∀b,∀c∈Bs.getD b [],∀d v,(d,v)∈Zcf ns ks b→(d++c,v+(ht ns ks ns.length - ht ns ks b))∈Zcf ns ks ns.length
theorem BK.add (hw:∀k∈ks,1≤k.w){Bs:Bt}{e b:Nat}{p:List Pc}(bk:BK ns ks Bs)(v:VS ns ks e b p)(hb:b<e)(he:e≤ns.length):BK ns ks (Znu Bs b e p):=by
 have hl:=bk.1
 refine ⟨by unfold Znu;rw [length_set];exact hl,fun x c hc d w h=>?_⟩
 rw [Zdu (by omega)] at hc
 split at hc
 ·rename_i z
  subst z
  rcases List.mem_append.mp hc with z | z
  ·exact bk.2 x c z d w h
  ·obtain ⟨c',hc',rfl⟩:=List.mem_map.mp z
   rcases v with ⟨rfl,v1,v2⟩ | ⟨k,v0,rfl,v1,v2,v3⟩
   ·subst v1
    rw [v2]
    exact bk.2 (x+1) c' hc' d w (Xkw hw h)
   ·have:=bk.2 e c' hc' _ _ (Xbd hw v0 v1 v2 h)
    rw [append_assoc] at this
    rw [show w+(ht ns ks ns.length - ht ns ks x)=w+k.wo+(ht ns ks ns.length - ht ns ks e) by omega]
    exact this
 ·exact bk.2 x c hc d w h
theorem BK.all (hw:∀k∈ks,1≤k.w){e:Nat}(he:e≤ns.length):∀(r:List Stp) {Bs:Bt},BK ns ks Bs→(∀s∈r,VS ns ks e s.1.toNat s.2∧s.1.toNat<e)→BK ns ks (Zqv e r Bs)
 | [],_,bk,_=>bk
 | s::r,_,bk,hv=>BK.all hw he r (bk.add hw (hv s (.head _)).1 (hv s (.head _)).2 he) fun x hx=>hv x (.tail _ hx)
theorem BK.out (hw:∀k∈ks,1≤k.w):∀(j:Nat) {Bs:Bt},j≤ns.length→BK ns ks Bs→BK ns ks (Zjs ns ks j Bs)
 | 0,_,_,bk=>bk
 | j+1,_,hj,bk=>BK.out hw j (by omega) (bk.all hw hj _ (Zqh hw (by omega)))
theorem BK.zero:BK ns ks (bs0 ns.length):=by
 refine ⟨by simp [bs0],fun b c hc d v h=>?_⟩
 rw [Zjl] at hc
 split at hc
 ·rename_i e
  subst e
  rw [List.mem_singleton.mp hc,append_nil,show v+(ht ns ks ns.length - ht ns ks ns.length)=v by omega]
  exact h
 ·cases hc
theorem Zic {α:Type}[DecidableEq α]:∀{L M:List α},L.Nodup→(∀x∈L,x∈M)→M.length≤L.length→L.Perm M
 | [],M,_,_,h=>by
  have:M=[]:=List.length_eq_zero_iff.mp (Nat.le_zero.mp h)
  rw [this]
 | x::L,M,nd,hs,h=>by
  obtain ⟨n1,n2⟩:=List.nodup_cons.mp nd
  have hx:=hs x (.head _)
  have p:=List.perm_cons_erase hx
  refine (List.Perm.cons x (Zic n2 (fun y hy=>?_) ?_)).trans p.symm
  ·have hy':=hs y (.tail _ hy)
   exact (List.mem_erase_of_ne (fun e:y=x=>n1 (by rw [← e];exact hy))).mpr hy'
  ·have:=p.length_eq
   rw [length_cons] at this h
   omega
theorem Zog (nd:(ks.map (·.name)).Nodup)(hn:ns.length≤900)(hk:ks.length≤1000)(hw:∀k∈ks,1≤k.w){m:Int}(h1:cb ns ks ns.length≤m)(h2:cb ns ks ns.length≤200):∃L:List (List Pc),Jx [iD ns,tD ks,.int m]=.ok (.lst (L.map ctD))∧L.Perm ((Zgl ns ks ns.length).map (·.1)):=by
 obtain ⟨L,q1,q2,q3,q4⟩:=Zoq hn hk hw h1 h2
 have bj:=BJ.out nd hw ns.length (le_refl _) (BJ.zero (ns:=ns) (ks:=ks))
 have bk:=BK.out hw ns.length (le_refl _) (BK.zero (ns:=ns) (ks:=ks))
 have pm:L.Perm ((Zjs ns ks ns.length (bs0 ns.length)).getD 0 []):=by rw [q2];exact L2.Zdb _
 have bl:=Zha (ns:=ns) (ks:=ks) hw ns.length
 refine ⟨L,q1,Zic (pm.nodup_iff.mpr (bj.nd 0)) (fun c hc=>?_) (by rw [length_map];omega)⟩
 have h0:(([]:List Pc),(0:Int))∈Zcf ns ks 0:=.head _
 have:=bk.2 0 c (pm.mem_iff.mp hc) [] 0 h0
 rw [Zwz,show (0:Int)+(ht ns ks ns.length - 0)=ht ns ks ns.length by omega,List.nil_append] at this
 exact List.mem_map.mpr ⟨_,List.mem_filter.mpr ⟨this,decide_eq_true rfl⟩,rfl⟩
theorem Znt (hw:∀k∈ks,1≤k.w):∀j,j≤ns.length→∀c∈Zcf ns ks j,(∀p∈c.1,p.1<j∧∃x∈Zan ns ks ns.length,nm x=p)∧c.1.Nodup:=by
 intro j
 induction j using Nat.strongRecOn with
 | ind j ih =>
  intro hj c hc
  cases j with
  | zero =>
   rw [List.mem_singleton.mp (show c∈[(([]:List Pc),(0:Int))] from hc)]
   exact ⟨(fun p hp=>nomatch hp),nodup_nil⟩
  | succ j =>
   rcases (Zbc ns ks hw j c).mp hc with h | ⟨k,hk,hg,c',hc',rfl⟩
   ·obtain ⟨h1,h2⟩:=ih j (by omega) (by omega) c h
    exact ⟨fun p hp=>⟨by have:=(h1 p hp).1;omega,(h1 p hp).2⟩,h2⟩
   ·have hw1:=hw k hk
    have bd:=Xs hg
    obtain ⟨h1,h2⟩:=ih (((j+1:Nat):Int) - k.w).toNat (by omega) (by omega) c' hc'
    refine ⟨fun p hp=>?_,List.nodup_append.mpr ⟨h2,List.nodup_cons.mpr ⟨not_mem_nil,nodup_nil⟩,fun a ha b hb e=>?_⟩⟩
    ·rcases List.mem_append.mp hp with z | z
     ·exact ⟨by have:=(h1 p z).1;omega,(h1 p z).2⟩
     ·rw [List.mem_singleton.mp z]
      refine ⟨by show ((j+1:Nat):Int) - k.w<_;omega,((((j+1:Nat):Int) - k.w).toNat,k),?_,?_⟩
      ·refine List.mem_flatten.mpr ⟨Xnq ns ks (((j+1:Nat):Int) - k.w).toNat,mem_map_of_mem (List.mem_range.mpr (by omega)),mem_map_of_mem (List.mem_filter.mpr ⟨hk,?_⟩)⟩
       rw [show ((((j+1:Nat):Int) - k.w).toNat:Int)=((j+1:Nat):Int) - k.w by omega]
       exact hg
      ·show (((((j+1:Nat):Int) - k.w).toNat:Int),k.name)=_
       rw [show ((((j+1:Nat):Int) - k.w).toNat:Int)=((j+1:Nat):Int) - k.w by omega]
    ·rw [List.mem_singleton.mp hb] at e
     have:=(h1 a ha).1
     rw [e] at this
     have:((j+1:Nat):Int) - k.w<((((j+1:Nat):Int) - k.w).toNat:Int):=this
     omega
noncomputable def inL (L:List (List Pc))(p:Pc):Int:=(L.map fun c=>(c.count p:Int)).sum
theorem Xcd {l m:List Int}(h:l.Perm m):l.sum=m.sum:=by
 induction h with
 | nil=>rfl
 | cons x _ ih=>rw [sum_cons,sum_cons,ih]
 | swap x y l=>rw [sum_cons,sum_cons,sum_cons,sum_cons];omega
 | trans _ _ h1 h2=>rw [h1,h2]
theorem Zkr {L:List (List Pc)}(h:L.Perm ((Zgl ns ks ns.length).map (·.1)))(p:Pc):inL L p=occ ns ks p ns.length:=by
 unfold inL occ Zpa
 rw [Xcd (h.map fun c=>(c.count p:Int)),map_map]
 rfl
theorem Xjw {L:List (List Pc)}{p:Pc}:0<inL L p↔∃c∈L,p∈c:=by
 unfold inL
 induction L with
 | nil=>exact ⟨(fun h=>absurd h (Int.lt_irrefl 0)),fun ⟨c,hc,_⟩=>nomatch hc⟩
 | cons x L ih =>
  have nn:∀L:List (List Pc),0≤(L.map fun c=>(c.count p:Int)).sum:=fun L=>by
   induction L with
   | nil=>exact Int.le_refl _
   | cons x L ih=>rw [map_cons,sum_cons];omega
  have:=nn L
  rw [map_cons,sum_cons]
  constructor
  ·intro h
   by_cases hx:p∈x
   ·exact ⟨x,.head _,hx⟩
   ·rw [List.count_eq_zero.mpr hx] at h
    obtain ⟨c,h1,h2⟩:=ih.mp (by simpa using h)
    exact ⟨c,.tail _ h1,h2⟩
  ·rintro ⟨c,hc,hp⟩
   rcases List.mem_cons.mp hc with e | e
   ·subst e
    have:=List.count_pos_iff.mpr hp
    omega
   ·have:=ih.mpr ⟨c,e,hp⟩
    omega
theorem Xkf {L:List (List Pc)}{p:Pc}(hL:∀c∈L,c.Nodup):inL L p≤L.length∧(inL L p=L.length→∀c∈L,p∈c):=by
 unfold inL
 induction L with
 | nil=>exact ⟨Int.le_refl _,fun _ c hc=>nomatch hc⟩
 | cons x L ih =>
  obtain ⟨h1,h2⟩:=ih fun c hc=>hL c (.tail _ hc)
  rw [map_cons,sum_cons,length_cons]
  have hx:x.count p≤1:=List.nodup_iff_count.mp (hL x (.head _)) p
  refine ⟨by omega,fun h c hc=>?_⟩
  rcases List.mem_cons.mp hc with e | e
  ·subst e
   exact List.count_pos_iff.mp (by omega)
  ·exact h2 (by omega) c e
end
structure KI (m:Mp):Prop where
 nd:(m.map (·.1)).Nodup
 ps:∀x∈m,0<x.2
theorem Zou (p:Pc):∀m:Mp,Zub (mK m) (tk p)=true↔p∈m.map (·.1)
 | []=>⟨(fun h=>by cases h),fun h=>nomatch h⟩
 | x::m=>by
  have ih:=Zou p m
  have e:Zub (mK (x::m)) (tk p)=(decide (tk x.1=tk p)||Zub (mK m) (tk p)):=rfl
  rw [e,Bool.or_eq_true,ih,decide_eq_true_eq,map_cons,mem_cons]
  exact ⟨fun h=>h.imp (fun z=>(Zsm z).symm) id,fun h=>h.imp (fun z=>by rw [z]) id⟩
theorem KI.put {m:Mp}(k:KI m)(p:Pc){v:Int}(hv:0<v):KI (pt m p v):=by
  unfold pt
  split
  · refine ⟨?_,fun x hx=>?_⟩
    · rw [map_map,show ((fun x:Pc×Int=>x.1)∘Ziu p v)=fun x=>x.1 from funext fun x=>Zgr p v x]
      exact k.nd
    · obtain ⟨y,hy,rfl⟩:=List.mem_map.mp hx
      unfold Ziu
      split
      · exact hv
      · exact k.ps y hy
  · rename_i h
    have hp:p∉m.map (·.1):=fun z=>h ((Zou p m).mpr z)
    refine ⟨?_,fun x hx=>?_⟩
    · rw [map_append]
      refine List.nodup_append.mpr ⟨k.nd,List.nodup_cons.mpr ⟨not_mem_nil,nodup_nil⟩,fun a ha b hb e=>?_⟩
      rw [List.mem_singleton.mp hb] at e
      exact hp (by have e:a=p:=e
                   rw [← e];exact ha)
    · rcases List.mem_append.mp hx with z | z
      · exact k.ps x z
      · rw [List.mem_singleton.mp z]
        exact hv
theorem Zvg (q:Pc):∀{m:Mp},KI m→(0<lk m q↔q∈m.map (·.1))
 | [],_=>⟨(fun h=>absurd h (Int.lt_irrefl 0)),fun h=>nomatch h⟩
 | x::m,k=>by
  have k2:KI m:=⟨(List.nodup_cons.mp k.nd).2,fun y hy=>k.ps y (.tail _ hy)⟩
  have ih:=Zvg q k2
  have e:lkO (x::m) q=if x.1=q then some x.2 else lkO m q:=rfl
  unfold lk at ih ⊢
  rw [e,map_cons,mem_cons]
  by_cases h:x.1=q
  ·rw [if_pos h]
   exact ⟨fun _=>.inl h.symm,fun _=>k.ps x (.head _)⟩
  ·rw [if_neg h,ih]
   exact ⟨.inr,fun z=>z.resolve_left fun z=>h z.symm⟩
theorem lk_nn (q:Pc){m:Mp}(k:KI m):0≤lk m q:=by
 by_cases h:q∈m.map (·.1)
 ·exact Int.le_of_lt ((Zvg q k).mpr h)
 ·unfold lk
  rw [Zxv q m fun z=>h ((Zou q m).mp z)]
  exact Int.le_refl _
noncomputable abbrev E37 (a b c d e f:D)(m:Mp)(o7 o8:Option D):Env:=[some a,some b,some c,some d,some e,some f,some (mD m),o7,o8]
section
variable {ns:List Int}{ks:List Kd}{a b c d e f:D}
theorem Xrb {o7:Option D}:∀(cs:List Pc) (m:Mp) (o8:Option D),KI m→m.length+cs.length<1000000→
  ∃m' o8',Zbr (Xe 8) Yy (cs.map pD) (E37 a b c d e f m o7 o8)=.ok (.nx (E37 a b c d e f m' o7 o8'))∧(∀q,lk m' q=lk m q+(cs.count q:Int))∧KI m'∧m'.length≤m.length+cs.length
 | [],m,o8,k,_=>⟨m,o8,rfl,fun q=>by simp,k,le_refl _⟩
 | p::cs,m,o8,k,hl=>by
  rw [length_cons] at hl
  have h1:=Xpu m p (lk m p+1)
  have h0:=lk_nn p k
  obtain ⟨m',o8',h2,h3,h5,h4⟩:=Xrb (o7:=o7) cs (pt m p (lk m p+1)) (some (pD p)) (k.put p (by omega)) (by omega)
  refine ⟨m',o8',?_,fun q=>?_,h5,by rw [length_cons];omega⟩
  ·rw [map_cons,Zcv (ρ1:=E37 a b c d e f m o7 (some (pD p))) rfl,show Yy (E37 a b c d e f m o7 (some (pD p)))=_ from Xre (m:=m) (p:=p) rfl rfl (Zm (Xjt rfl rfl) rfl rfl) (by omega)]
   exact h2
  ·rw [h3,lk_pt,List.count_cons]
   by_cases e:q=p
   ·rw [if_pos e,if_pos (by rw [e];exact beq_self_eq_true _),e]
    omega
   ·rw [if_neg e,if_neg (fun z=>e (eq_of_beq z).symm)]
    omega
theorem Xhe:∀(L:List (List Pc)) (m:Mp) (o7 o8:Option D),KI m→(∀x∈L,x.length≤200)→m.length+200*L.length<1000000→
  ∃m' o7' o8',Zbr (Xe 7) Yx (L.map ctD) (E37 a b c d e f m o7 o8)=.ok (.nx (E37 a b c d e f m' o7' o8'))∧(∀q,lk m' q=lk m q+inL L q)∧KI m'
 | [],m,o7,o8,k,_,_=>⟨m,o7,o8,rfl,fun q=>by simp [inL],k⟩
 | x::L,m,o7,o8,k,hx,hl=>by
  rw [length_cons] at hl
  have h0:=hx x (.head _)
  obtain ⟨m1,o81,h1,h2,k1,h3⟩:=Xrb (a:=a) (b:=b) (c:=c) (d:=d) (e:=e) (f:=f) (o7:=some (ctD x)) x m o8 k (by omega)
  obtain ⟨m',o7',o8',h4,h5,k2⟩:=Xhe L m1 (some (ctD x)) o81 k1 (fun y hy=>hx y (.tail _ hy)) (by omega)
  refine ⟨m',o7',o8',?_,fun q=>?_,k2⟩
  ·rw [map_cons,Zcv (ρ1:=E37 a b c d e f m (some (ctD x)) o8) rfl,show Yx (E37 a b c d e f m (some (ctD x)) o8)=_ from Zq (Yu (Zig (b:=true) (Jl (Zs (Zd rfl rfl) (Zbq x (by omega))))) rfl) (Zch (Jk (xs:=x.map pD) rfl (by rw [length_map];show _≤1000000;omega)) h1)]
   exact h4
  ·rw [h5,h2]
   unfold inL
   rw [map_cons,sum_cons,Int.add_assoc]
theorem Zvt (nd:(ks.map (·.name)).Nodup):∀n,((Zan ns ks n).map nm).Nodup
 | 0=>nodup_nil
 | n+1=>by
  rw [Zhv,map_append]
  refine List.nodup_append.mpr ⟨Zvt nd n,?_,fun a ha b hb e=>?_⟩
  ·unfold Xnq
   rw [map_map]
   have h:((ks.filter fun k=>good ns k (n:Int)).map (·.name)).Nodup:=nd.sublist (List.filter_sublist.map _)
   rw [show (List.map (nm∘fun k=>(n,k)) (ks.filter fun k=>good ns k (n:Int)))=((ks.filter fun k=>good ns k (n:Int)).map (·.name)).map fun s=>((n:Int),s) by rw [map_map];rfl]
   exact List.Pairwise.map _ (fun a b h z=>h (Prod.mk.inj z).2) h
  ·subst e
   obtain ⟨x,hx,rfl⟩:=List.mem_map.mp ha
   obtain ⟨y,hy,e⟩:=List.mem_map.mp hb
   obtain ⟨k,_,rfl⟩:=List.mem_map.mp hy
   have h1:=(Zgh hx).1
   have:((n:Nat):Int)=((x.1:Nat):Int):=(Prod.mk.inj e).1
   omega
theorem Xgw (nd:(ks.map (·.name)).Nodup){x y:PK}(hx:x∈Zan ns ks ns.length)(hy:y∈Zan ns ks ns.length)(e:nm x=nm y):x=y:=by
 have h1:((x.1:Nat):Int)=((y.1:Nat):Int):=(Prod.mk.inj e).1
 have h2:=Zux nd (Zgh hx).2.1 (Zgh hy).2.1 (Prod.mk.inj e).2
 exact Prod.ext (by omega) h2
theorem Xqz (x:Pc)(xs:List Pc):gIn (pD x) (psD xs)=some (.bl (decide (x∈xs))):=by
 have h:=Zgw x xs
 have h1:=Zsi x
 have h2:=Zkw (f:=pD) Zsi xs
 unfold Zcr psD at h
 unfold gIn psD
 simp only [] at h ⊢
 rw [if_pos ⟨by omega,by omega⟩] at h ⊢
 have h:=congrArg (fun o:Option D=>o) h
 injection h with h
 injection h with h
 rw [show ((xs.map pD).any fun y=>eqv y (pD x))=decide (x∈xs) by rw [← Bool.not_not ((xs.map pD).any fun y=>eqv y (pD x)),h,Bool.not_not]]
theorem Zzd (nd:(ks.map (·.name)).Nodup){x:PK}(hx:x∈Zan ns ks ns.length):nm x∈(Zcj ns ks).map nm↔may ns ks x=true:=by
 constructor
 ·intro h
  obtain ⟨y,hy,e⟩:=List.mem_map.mp h
  obtain ⟨h1,h2⟩:=List.mem_filter.mp hy
  rw [← Xgw nd h1 hx e]
  exact h2
 ·exact fun h=>mem_map_of_mem (List.mem_filter.mpr ⟨hx,h⟩)
theorem Xbm (nd:(ks.map (·.name)).Nodup){x:PK}(hx:x∈Zcj ns ks):nm x∈(Jn ns ks).map nm↔must ns ks x=true:=by
 constructor
 ·intro h
  obtain ⟨y,hy,e⟩:=List.mem_map.mp h
  obtain ⟨h1,h2⟩:=List.mem_filter.mp hy
  rw [← Xgw nd (List.mem_filter.mp h1).1 (List.mem_filter.mp hx).1 e]
  exact h2
 ·exact fun h=>mem_map_of_mem (List.mem_filter.mpr ⟨hx,h⟩)
theorem Xta (m:Mp):Xev (mD m)=some (.int (m.length:Int)):=by
 show some (D.int ((mK m).length:Int))=_
 unfold mK
 rw [length_map]
theorem Zxa:∀{xs:List D} {n:Nat},(∀x∈xs,dep x≤n)→Zfl xs≤n
 | [],_,_=>zero_le _
 | x::xs,n,h=>by
  have h1:=h x (.head _)
  have h2:=Zxa fun y hy=>h y (.tail _ hy)
  show max (dep x) (Zfl xs)≤n
  omega
theorem Xik {L:List (List Pc)}{t:List Pc}(h:t∈L):Zcr (psD t) (.lst (L.map ctD))=some (.bl false):=by
 have d1:dep (psD t)≤2:=L2.Zup t
 have d2:Zfl (L.map ctD)≤2:=Zxa fun x hx=>by
  obtain ⟨c,_,rfl⟩:=List.mem_map.mp hx
  exact L2.Zup c
 show (if dep (psD t)≤20∧Zfl (L.map ctD)≤20 then some (D.bl (!((L.map ctD).any fun y=>eqv y (psD t)))) else none)=_
 rw [if_pos ⟨by omega,by omega⟩]
 have:((L.map ctD).any fun y=>eqv y (psD t))=true:=by
  rw [List.any_eq_true]
  refine ⟨ctD t,mem_map_of_mem h,?_⟩
  have:=Zld (d:=psD t) (by omega)
  unfold gEq at this
  rw [if_pos ⟨by omega,by omega⟩] at this
  injection this with this
  injection this
 rw [this]
 rfl
end
section
variable {ns:List Int}{ks:List Kd}
theorem Zuz {p q:Prop}[Decidable p][Decidable q](h:p↔q):gNe (.bl (decide p)) (.bl (decide q))=some (.bl false):=by
 rw [ne_bb]
 have:decide p=decide q:=by
  by_cases hp:p
  ·rw [decide_eq_true hp,decide_eq_true (h.mp hp)]
  ·rw [decide_eq_false hp,decide_eq_false fun z=>hp (h.mpr z)]
 rw [this,beq_self_eq_true]
 rfl
theorem Zpe {e:FE}{ρ:Env}{xs:List PK}(h:e ρ=.ok (nsD xs)):fA Zcc (Zc e Zt) ρ=.ok (.int (xs.length:Int)):=Zbs (Zd h rfl) (by show some (D.int (((xs.map nm).map pD).length:Int))=_;rw [Xgj])
theorem Zie (hn:ns.length≤200)(hk:ks.length≤8)(hw:∀k∈ks,1≤k.w)(nd:(ks.map (·.name)).Nodup){t:List Pc}(ht_:(t,ht ns ks ns.length)∈Zcf ns ks ns.length)(h2:cb ns ks ns.length≤200) :
  Yc [iD ns,tD ks,nsD (Zcj ns ks),nsD (Jn ns ks),psD t]=.ok (.bl true):=by
 obtain ⟨L,q1,pm⟩:=Zog (ns:=ns) nd (by omega) (by omega) hw (m:=200) h2 h2
 have bl:=Zha (ns:=ns) (ks:=ks) hw ns.length
 have hL:(L.length:Int)=cb ns ks ns.length:=by rw [pm.length_eq,length_map];exact bl
 have mem:∀c∈L,(c,ht ns ks ns.length)∈Zcf ns ks ns.length:=fun c hc=>by
  obtain ⟨x,hx,rfl⟩:=List.mem_map.mp (pm.mem_iff.mp hc)
  obtain ⟨h1,h2⟩:=List.mem_filter.mp hx
  rw [← of_decide_eq_true h2]
  exact h1
 have fit:=fun c hc=>Znt (ns:=ns) hw ns.length (le_refl _) (c,ht ns ks ns.length) (mem c hc)
 have hc:∀c∈L,c.length≤200:=fun c hc=>le_trans (Zpk ns ks hw _ _ (mem c hc)) hn
 have htL:t∈L:=pm.mem_iff.mpr (List.mem_map.mpr ⟨_,List.mem_filter.mpr ⟨ht_,decide_eq_true rfl⟩,rfl⟩)
 obtain ⟨m,o7,o8,p1,p2,ki⟩:=Xhe (a:=iD ns) (b:=tD ks) (c:=nsD (Zcj ns ks)) (d:=nsD (Jn ns ks)) (e:=psD t) (f:=.lst (L.map ctD)) L [] none none ⟨nodup_nil,fun _ h=>nomatch h⟩ hc (by show 0+_<_;omega)
 have lkm:∀q,lk m q=occ ns ks q ns.length:=fun q=>by
  rw [p2,← Zkr pm]
  exact Int.zero_add _
 have hml:m.length=(Zcj ns ks).length:=by
  have p:(m.map (·.1)).Perm ((Zcj ns ks).map nm):=by
   refine (List.perm_ext_iff_of_nodup ki.nd ((Zvt nd ns.length).sublist (List.filter_sublist.map _))).mpr fun q=>?_
   rw [← Zvg q ki,p2,show lk [] q+inL L q=inL L q from Int.zero_add _]
   constructor
   ·intro h
    obtain ⟨c,h1,h3⟩:=Xjw.mp h
    obtain ⟨x,hx,rfl⟩:=((fit c h1).1 q h3).2
    refine (Zzd nd hx).mpr ?_
    rw [← Zpl hw nd hx,decide_eq_true_eq,← Zkr pm]
    exact h
   ·intro h
    obtain ⟨x,hx,rfl⟩:=List.mem_map.mp h
    have hx':=(List.mem_filter.mp hx).1
    have h3:=(List.mem_filter.mp hx).2
    rw [← Zpl hw nd hx',decide_eq_true_eq,← Zkr pm] at h3
    exact h3
  have:=p.length_eq
  rw [length_map,length_map] at this
  exact this
 have hal:=Zoe (ns:=ns) (ks:=ks) (by omega) (by omega)
 have lenL:∀{ρ:Env},ρ[5]?=some (some (.lst (L.map ctD)))→fA Zcc (Zc (fV 5) Zt) ρ=.ok (.int (L.length:Int)):=fun {ρ} h=>by
  have h5:fV 5 ρ=.ok (.lst (L.map ctD)):=by unfold fV;rw [h]
  exact Zbs (Zd h5 rfl) (by show some (D.int ((L.map ctD).length:Int))=_;rw [length_map])
 have lp:V (Zbr (Xe 8) Ju ((Zcj ns ks).map fun x=>pD (nm x)) (E37 (iD ns) (tD ks) (nsD (Zcj ns ks)) (nsD (Jn ns ks)) (psD t) (.lst (L.map ctD)) m o7 o8)) (fun fl=>∃o,fl=.nx (E37 (iD ns) (tD ks) (nsD (Zcj ns ks)) (nsD (Jn ns ks)) (psD t) (.lst (L.map ctD)) m o7 o)):=by
  refine Znm (P:=fun r ρ=>(∀x∈r,x∈Zcj ns ks)∧∃o,ρ=E37 (iD ns) (tD ks) (nsD (Zcj ns ks)) (nsD (Jn ns ks)) (psD t) (.lst (L.map ctD)) m o7 o) (fun x r ρ q=>?_) (fun ρ q=>?_) ⟨fun x hx=>hx,o8,rfl⟩
  ·obtain ⟨hr,o,rfl⟩:=q
   have hx:=hr x (.head _)
   have hx':=(List.mem_filter.mp hx).1
   have pos:0<lk m (nm x):=by
    rw [lkm]
    refine of_decide_eq_true ?_
    rw [Zpl hw nd hx']
    exact (List.mem_filter.mp hx).2
   have iff:lk m (nm x)=(L.length:Int)↔nm x∈(Jn ns ks).map nm:=by
    rw [Xbm nd hx,lkm,Zoa hw nd hx',if_pos (List.mem_filter.mp hx).2,hL]
    unfold must
    rw [decide_eq_true_eq]
   refine V.of (a:=.nx (E37 (iD ns) (tD ks) (nsD (Zcj ns ks)) (nsD (Jn ns ks)) (psD t) (.lst (L.map ctD)) m o7 (some (pD (nm x))))) ?_ (by exact ⟨fun y hy=>hr y (.tail _ hy),_,rfl⟩)
   rw [Zat]
   exact Yu (Zdi (Jl (Zm (Zm (Xjt (m:=m) (p:=nm x) rfl rfl) (lenL rfl) (Zdx _ _)) (Zm rfl rfl (Xqz (nm x) ((Jn ns ks).map nm))) (Zuz iff))) (Jl (Zm (Xjt (m:=m) (p:=nm x) rfl rfl) rfl ((Zdx _ _).trans (Zug (by omega)))))) rfl
  ·obtain ⟨_,o,rfl⟩:=q
   exact ⟨o,rfl⟩
 obtain ⟨fl,e3,o,rfl⟩:=lp.ex
 have l1:=Zml ns
 have l2:Jt [tD ks]=some (tD ks):=by simp [Jt,tD,kD]
 have hcnt:=Zip (ns:=ns) (ks:=ks) (by omega) (by omega) hw
 have ca:∀{ρ:Env},ρ[0]?=some (some (iD ns))→ρ[1]?=some (some (tD ks))→fA Jt (Zc (fV 0) Zt) ρ=.ok (iD ns)∧fA Jt (Zc (fV 1) Zt) ρ=.ok (tD ks):=fun {ρ} h h'=>by
  have h5:fV 0 ρ=.ok (iD ns):=by unfold fV;rw [h]
  have h6:fV 1 ρ=.ok (tD ks):=by unfold fV;rw [h']
  exact ⟨Zbs (Zd h5 rfl) l1,Zbs (Zd h6 rfl) l2⟩
 have j1:Jj (fV 2) (E37 (iD ns) (tD ks) (nsD (Zcj ns ks)) (nsD (Jn ns ks)) (psD t) (.lst (L.map ctD)) m o7 o8)=.ok ((Zcj ns ks).map fun x=>pD (nm x)):=by
  refine Jk (xs:=(Zcj ns ks).map fun x=>pD (nm x)) ?_ (by rw [length_map];show _≤1000000;omega)
  show R.ok (nsD (Zcj ns ks))=_
  rw [Zfj]
 have hml':gNe (.int (m.length:Int)) (.int ((Zcj ns ks).length:Int))=some (.bl false):=by rw [hml];exact neX (by simp [dep])
 have hfin:gEq (.int (L.length:Int)) (.int (cb ns ks ns.length))=some (.bl true):=by rw [hL];exact Zld (by simp [dep])
 have hLl:L.length≤1000:=by omega
 exact Ji (Zq (Xf (Zs (Zd (ca rfl rfl).1 (Zd (ca rfl rfl).2 (Zd rfl rfl))) q1)) (Zq (Xf rfl) (Zq (Zch (Jk (xs:=L.map ctD) rfl (by rw [length_map];show _≤1000000;omega)) p1) (Zq (Yu (Zdi (Jl (Zm (Zcz rfl (Xta m)) (Zpe rfl) hml')) (Jl (Zm rfl rfl (Xik htL)))) rfl) (Zq (Zch j1 e3) (Jd (Zm (lenL rfl) (Zs (Zd (ca rfl rfl).1 (Zd (ca rfl rfl).2 rfl)) hcnt) hfin)))))))
theorem Xlg (hn:ns.length≤900)(hk:ks.length≤100)(hw:∀k∈ks,1≤k.w)(nd:(ks.map (·.name)).Nodup){x:PK}(hx:x∈Zan ns ks ns.length):Zlt [iD ns,tD ks,pD (nm x)]=.ok (.int (ht ns ks ns.length - (ht ns ks x.1+x.2.wo+rs ns ks (enN x)))):=by
 have hh:=Zap ns ks hn (by omega) hw
 have tt:=Xgo (ns:=ns) (ks:=ks) hn (by omega) hw
 have pp:=Zio hn hk hw
 obtain ⟨h1,h2,h3⟩:=Zgh hx
 obtain ⟨h4,h5⟩:=Zxk h3 (hw _ h2)
 have gw:Xj [tD ks,iD (hts ns ks ns.length),iD (hts ns.reverse ks ns.length).reverse,pD (nm x)]=.ok (.int (ht ns ks x.1+x.2.wo+rs ns ks (enN x))):=
  Ji (Jd (Zm (Zm (Zm rfl (Zm rfl rfl (Xqh _)) (Zts (e:=x.1) (by omega) rfl)) (Zm (Zs (Zd rfl (Zd (Zm rfl rfl (pD_1 _)) rfl)) (Zfi ks (by omega) nd h2)) rfl (Xlt _)) rfl) (Zm rfl (Zs (Zd rfl (Zd rfl rfl)) (Zxg (by omega) nd h2)) (Xom h4 h5)) rfl))
 have ni:Zcr (pD (nm x)) (nsD (Zan ns ks ns.length))=some (.bl false):=by
  have:=Zgw (nm x) ((Zan ns ks ns.length).map nm)
  rw [decide_eq_true (mem_map_of_mem hx)] at this
  exact this
 exact Ji (Zq (Yu (Jl (Zm rfl (Zs (Zd rfl (Zd rfl rfl)) pp) ni)) rfl) (Zq (Xf (Zs (Zd rfl (Zd rfl rfl)) hh)) (Jd (Zm (Zm rfl rfl Zrz) (Zs (Zd rfl (Zd rfl (Zd (Zs (Zd rfl (Zd rfl rfl)) tt) (Zd rfl rfl)))) gw) rfl))))
theorem Xhi (hw:∀k∈ks,1≤k.w):∀j,0≤ht ns ks j
 | 0=>Int.le_refl _
 | j+1=>Int.le_trans (Xhi hw j) (Zfk ns ks hw j)
theorem Xls (tb:Xla ks){x:PK}(hx:x∈Zan ns ks ns.length):0≤ht ns ks ns.length - (ht ns ks x.1+x.2.wo+rs ns ks (enN x))∧ht ns ks ns.length - (ht ns ks x.1+x.2.wo+rs ns ks (enN x))≤ht ns ks ns.length:=by
 have hw:∀k∈ks,1≤k.w:=fun k hk=>(tb.ok k hk).w1
 obtain ⟨h1,h2,h3⟩:=Zgh hx
 obtain ⟨h4,h5⟩:=Zxk h3 (hw _ h2)
 have s1:=Zdq ns ks hw h2 h3
 have s2:=Xbg (ns:=ns) hw h4
 have e1:((x.1:Nat):Int).toNat=x.1:=by omega
 have e2:(((x.1:Nat):Int)+x.2.w).toNat=enN x:=rfl
 rw [e1,e2] at s1
 have n1:=Xhi (ns:=ns) hw x.1
 have n2:0≤rs ns ks (enN x):=Xhi (ns:=ns.reverse) hw _
 have n3:=(tb.ok _ h2).o1
 omega
end
theorem Zte (ns:List Int)(hn:ns.length≤63):Xix [.scr ns]=.ok (.bl true):=by
 obtain ⟨os,hos,R⟩:=Zsa ns hn (i:=2) (by decide) (by decide) [8] (by decide) (by decide)
 obtain ⟨x,rfl⟩:∃x,os=[x]:=by
  have:=R.len
  match os,this with
  | [x],_=>exact ⟨x,rfl⟩
 obtain ⟨m,m0,m1,hif⟩:∃m:Int,0≤m∧m≤120∧sIf (cE (f2 gEq (f2 gIx (Xb Ya (Zc (fV 0) (Zc (fC (.int 2)) (Zc (fA Zae (Zc (fC (.int 8)) Zt)) Zt)))) (fC (.int 0))) (fC (.int 0)))) (Yt 1 (fC (.int 120))) sNx [some (.scr ns),some (.int 40),none,none,none,none,none,none,none,none,none,none,none]=.ok (.nx [some (.scr ns),some (.int m),none,none,none,none,none,none,none,none,none,none,none]):=by
  by_cases h:x=0
  ·exact ⟨120,by decide,by decide,Zci (Jl (Zm (Zm (Zs (Zd rfl (Zd rfl (Zd (Zbs (Zd rfl rfl) rfl) rfl))) hos) rfl (Xqc _ _)) rfl ((Zdx _ _).trans (Xlm h)))) (Xf rfl)⟩
  ·exact ⟨40,by decide,by decide,Yu (Jl (Zm (Zm (Zs (Zd rfl (Zd rfl (Zd (Zbs (Zd rfl rfl) rfl) rfl))) hos) rfl (Xqc _ _)) rfl ((Zdx _ _).trans (Zug h)))) rfl⟩
 obtain ⟨ws,ks,hd,hl,_,hk,tb⟩:=Zzr ns hn (i:=0) (m:=m) (c:=8) (by decide) (by decide) m0 (by omega) (by decide) (by decide)
 have hw:∀k∈ks,1≤k.w:=fun k hk=>(tb.ok k hk).w1
 have nd:=tb.nd
 obtain ⟨t,hb,ht_⟩:=Xky ws ks (by omega) (by omega) hw
 have hm:=Zyd (ns:=ws) (ks:=ks) (by omega) (by omega) hw nd
 have hmu:=Xbs (ns:=ws) (ks:=ks) (by omega) (by omega) hw nd
 have hp:=Zio (ns:=ws) (ks:=ks) (by omega) (by omega) hw
 have hc:=Zip (ns:=ws) (ks:=ks) (by omega) (by omega) hw
 have mlen:=Zoe (ns:=ws) (ks:=ks) (by omega) (by omega)
 have ulen:(Jn ws ks).length≤90000:=le_trans (length_filter_le _ _) mlen
 have ic1:=Zbq ((Zcj ws ks).map nm) (by rw [length_map];omega)
 have ic2:=Zbq ((Jn ws ks).map nm) (by rw [length_map];omega)
 have plen:(Zan ws ks ws.length).length≤1000:=by
  have h1:=Zer (ns:=ws) (ks:=ks) ws.length
  have h2:ws.length*ks.length≤120*8:=mul_le_mul (by omega) (by omega)
  omega
 have inTold:∀y∈Jn ws ks,nm y∈t:=fun y hy=>by
  obtain ⟨h1,h2⟩:=List.mem_filter.mp hy
  obtain ⟨h3,h4⟩:=List.mem_filter.mp h1
  have e:=Zoa hw nd h3
  rw [if_pos h4,of_decide_eq_true h2,← Zha hw] at e
  have pm:((Zgl ws ks ws.length).map (·.1)).Perm ((Zgl ws ks ws.length).map (·.1)):=.refl _
  have a:=Xkf (L:=(Zgl ws ks ws.length).map (·.1)) (p:=nm y) fun c hc=>by
   obtain ⟨z,hz,rfl⟩:=List.mem_map.mp hc
   exact (Znt (ns:=ws) hw ws.length (le_refl _) z (List.mem_filter.mp hz).1).2
  refine a.2 ?_ t (List.mem_map.mpr ⟨_,List.mem_filter.mpr ⟨ht_,decide_eq_true rfl⟩,rfl⟩)
  rw [Zkr pm,e,length_map]
 have l1:=Zml ws
 have l2:Jt [tD ks]=some (tD ks):=by simp [Jt,tD,kD]
 have ca:∀{ρ:Env},ρ[2]?=some (some (iD ws))→ρ[3]?=some (some (tD ks))→fA Jt (Zc (fV 2) Zt) ρ=.ok (iD ws)∧fA Jt (Zc (fV 3) Zt) ρ=.ok (tD ks):=fun {ρ} h h'=>by
  have h5:fV 2 ρ=.ok (iD ws):=by unfold fV;rw [h]
  have h6:fV 3 ρ=.ok (tD ks):=by unfold fV;rw [h']
  exact ⟨Zbs (Zd h5 rfl) l1,Zbs (Zd h6 rfl) l2⟩
 have lp1:V (Zbr (Xe 8) Zqb ((Jn ws ks).map fun x=>pD (nm x)) [some (.scr ns),some (.int m),some (iD ws),some (tD ks),some (.int (ht ws ks ws.length)),some (psD t),some (nsD (Zcj ws ks)),some (nsD (Jn ws ks)),none,none,none,none,none]) (fun fl=>∃o,fl=.nx [some (.scr ns),some (.int m),some (iD ws),some (tD ks),some (.int (ht ws ks ws.length)),some (psD t),some (nsD (Zcj ws ks)),some (nsD (Jn ws ks)),o,none,none,none,none]):=by
  refine Znm (P:=fun r ρ=>(∀x∈r,x∈Jn ws ks)∧∃o,ρ=[some (.scr ns),some (.int m),some (iD ws),some (tD ks),some (.int (ht ws ks ws.length)),some (psD t),some (nsD (Zcj ws ks)),some (nsD (Jn ws ks)),o,none,none,none,none]) (fun y r ρ q=>?_) (fun ρ q=>?_) ⟨fun x hx=>hx,none,rfl⟩
  ·obtain ⟨hr,o,rfl⟩:=q
   have hy:=hr y (.head _)
   refine V.of (a:=.nx [some (.scr ns),some (.int m),some (iD ws),some (tD ks),some (.int (ht ws ks ws.length)),some (psD t),some (nsD (Zcj ws ks)),some (nsD (Jn ws ks)),some (pD (nm y)),none,none,none,none]) ?_ (by exact ⟨fun z hz=>hr z (.tail _ hz),_,rfl⟩)
   rw [Zat]
   have n1:=Zgw (nm y) ((Zcj ws ks).map nm)
   rw [decide_eq_true (mem_map_of_mem (List.mem_filter.mp hy).1)] at n1
   have n2:=Zgw (nm y) t
   rw [decide_eq_true (inTold y hy)] at n2
   exact Yu (Zdi (Jl (Zm rfl rfl n1)) (Jl (Zm rfl rfl n2))) rfl
  ·obtain ⟨_,o,rfl⟩:=q
   exact ⟨o,rfl⟩
 obtain ⟨fl,e1,o,rfl⟩:=lp1.ex
 generalize hst:(1:Int)+((Zan ws ks ws.length).length:Int) / 40=st at *
 have st0:0<st∧st≤1000000:=by
  have:=Int.ediv_nonneg (natCast_nonneg (Zan ws ks ws.length).length) (show (0:Int)≤40 by decide)
  have:=Int.ediv_le_self 40 (natCast_nonneg (Zan ws ks ws.length).length)
  omega
 have lp2:V (Zbr (Xe 11) Zpz ((Zjc 0 st (Zdt 0 ((Zan ws ks ws.length).length:Int) st)).map D.int) [some (.scr ns),some (.int m),some (iD ws),some (tD ks),some (.int (ht ws ks ws.length)),some (psD t),some (nsD (Zcj ws ks)),some (nsD (Jn ws ks)),o,some (nsD (Zan ws ks ws.length)),some (.int st),none,none]) (fun fl=>∃a b,fl=.nx [some (.scr ns),some (.int m),some (iD ws),some (tD ks),some (.int (ht ws ks ws.length)),some (psD t),some (nsD (Zcj ws ks)),some (nsD (Jn ws ks)),o,some (nsD (Zan ws ks ws.length)),some (.int st),a,b]):=by
  refine Znm (P:=fun r ρ=>(∀i∈r,0≤i∧i<((Zan ws ks ws.length).length:Int))∧∃a b,ρ=[some (.scr ns),some (.int m),some (iD ws),some (tD ks),some (.int (ht ws ks ws.length)),some (psD t),some (nsD (Zcj ws ks)),some (nsD (Jn ws ks)),o,some (nsD (Zan ws ks ws.length)),some (.int st),a,b]) (fun i r ρ q=>?_) (fun ρ q=>?_) ⟨fun i hi=>?_,none,none,rfl⟩
  ·obtain ⟨hr,a,b,rfl⟩:=q
   obtain ⟨i0,i1⟩:=hr i (.head _)
   have hlt:i.toNat<(Zan ws ks ws.length).length:=by omega
   have hy:=getElem_mem hlt
   generalize hyy:(Zan ws ks ws.length)[i.toNat]=y at *
   have ix:gIx (nsD (Zan ws ks ws.length)) (.int i)=some (pD (nm y)):=Xso (k:=i.toNat) (by omega) (by rw [getElem?_map,getElem?_map,getElem?_eq_getElem hlt,hyy];rfl)
   have ls:=Xlg (ns:=ws) (ks:=ks) (by omega) (by omega) hw nd hy
   obtain ⟨b0,b1⟩:=Xls (ns:=ws) tb hy
   have iff:ht ws ks ws.length - (ht ws ks y.1+y.2.wo+rs ws ks (enN y))=0↔nm y∈(Zcj ws ks).map nm:=by
    rw [Zzd nd hy]
    unfold may
    rw [decide_eq_true_eq]
    omega
   refine V.of (a:=.nx [some (.scr ns),some (.int m),some (iD ws),some (tD ks),some (.int (ht ws ks ws.length)),some (psD t),some (nsD (Zcj ws ks)),some (nsD (Jn ws ks)),o,some (nsD (Zan ws ks ws.length)),some (.int st),some (.int i),some (.int (ht ws ks ws.length - (ht ws ks y.1+y.2.wo+rs ws ks (enN y))))]) ?_ (by exact ⟨fun z hz=>hr z (.tail _ hz),_,_,rfl⟩)
   rw [Zat]
   exact Zq (Xf (Zs (Zd (ca rfl rfl).1 (Zd (ca rfl rfl).2 (Zd (Zm rfl rfl ix) rfl))) ls)) (Yu (Zdi (Jl (Zm (Zm rfl rfl (Zdx _ _)) (Zm (Zm rfl rfl ix) rfl (Xqz (nm y) ((Zcj ws ks).map nm))) (Zuz iff))) (Zdi (Jl (Zm rfl rfl ((lt_ii _ _).trans (Zug (by omega))))) (Jl (Zm rfl rfl ((Xmp _ _).trans (Zug (by omega))))))) rfl)
  ·obtain ⟨_,a,b,rfl⟩:=q
   exact ⟨a,b,rfl⟩
  ·unfold Zjc at hi
   obtain ⟨k,hk',rfl⟩:=List.mem_map.mp hi
   have hk':=List.mem_range.mp hk'
   unfold Zdt at hk'
   split at hk'
   ·rename_i hpos
    have hd0:=Int.ediv_nonneg (show 0≤((Zan ws ks ws.length).length:Int) - 0 - 1 by omega) (Int.le_of_lt st0.1)
    have hle:(k:Int)≤(((Zan ws ks ws.length).length:Int) - 0 - 1) / st:=by omega
    have h1:=Int.mul_le_mul_of_nonneg_right hle (Int.le_of_lt st0.1)
    have h2:=Int.ediv_mul_le (((Zan ws ks ws.length).length:Int) - 0 - 1) (show st≠0 by omega)
    have h3:=mul_nonneg (natCast_nonneg k) (Int.le_of_lt st0.1)
    omega
   ·omega
 obtain ⟨fl,e2,a,b,rfl⟩:=lp2.ex
 have sN:Zdt 0 ((Zan ws ks ws.length).length:Int) st≤1000000:=by
  unfold Zdt
  split
  ·have:=Int.ediv_le_self st (show 0≤((Zan ws ks ws.length).length:Int) - 0 - 1 by omega)
   omega
  ·omega
 have rg:Zvk (Zc (fC (.int 0)) (Zc (fA Zcc (Zc (fV 9) Zt)) (Zc (fV 10) Zt))) [some (.scr ns),some (.int m),some (iD ws),some (tD ks),some (.int (ht ws ks ws.length)),some (psD t),some (nsD (Zcj ws ks)),some (nsD (Jn ws ks)),o,some (nsD (Zan ws ks ws.length)),some (.int st),none,none]=.ok ((Zjc 0 st (Zdt 0 ((Zan ws ks ws.length).length:Int) st)).map D.int):=by
  unfold Zvk
  rw [Zd (x:=.int 0) rfl (Zd (Zpe rfl) (Zd (x:=.int st) (xs:=[]) rfl rfl))]
  exact if_pos ⟨st0.1,st0.2,by decide,by decide,by omega,by omega,sN⟩
 have jm:Jj (fV 7) [some (.scr ns),some (.int m),some (iD ws),some (tD ks),some (.int (ht ws ks ws.length)),some (psD t),some (nsD (Zcj ws ks)),some (nsD (Jn ws ks)),none,none,none,none,none]=.ok ((Jn ws ks).map fun x=>pD (nm x)):=by
  refine Jk (xs:=(Jn ws ks).map fun x=>pD (nm x)) ?_ (by rw [length_map];show _≤1000000;omega)
  show Dl.R.ok (nsD (Jn ws ks))=_
  rw [Zfj]
 refine Ji (Zq (Xf rfl) (Zq hif (Zq (Xpi (Zs (Zd rfl (Zd rfl (Zd rfl (Zd rfl rfl)))) hd) rfl) (Zq (Xpi (Zs (Zd (ca rfl rfl).1 (Zd (ca rfl rfl).2 rfl)) hb) rfl) (Zq (Xf (Zs (Zd (ca rfl rfl).1 (Zd (ca rfl rfl).2 rfl)) hm)) (Zq (Xf (Zs (Zd (ca rfl rfl).1 (Zd (ca rfl rfl).2 rfl)) hmu)) (Zq (Yu (Zdi (Zig (b:=true) (Jl (Zs (Zd rfl rfl) ic1))) (Zig (b:=true) (Jl (Zs (Zd rfl rfl) ic2)))) rfl) (Zq (Zch jm e1) (Zq (Xf (Zs (Zd (ca rfl rfl).1 (Zd (ca rfl rfl).2 rfl)) hp)) (Zq (Xf (Zm rfl (Zm (Zpe rfl) rfl (div_ii (by decide) (by decide))) (by rw [← hst];rfl))) (Zq (Zch rg e2) ?_)))))))))))
 by_cases h200:cb ws ks ws.length > 200
 ·exact Zjm (Zci (Jl (Zm (Zs (Zd (ca rfl rfl).1 (Zd (ca rfl rfl).2 rfl)) hc) rfl ((Xmp _ _).trans (Xlm h200)))) (Jd rfl))
 ·have lr:=Zie (ns:=ws) (ks:=ks) (by omega) (by omega) hw nd ht_ (by omega)
  exact Zq (Yu (Jl (Zm (Zs (Zd (ca rfl rfl).1 (Zd (ca rfl rfl).2 rfl)) hc) rfl ((Xmp _ _).trans (Zug h200)))) rfl) (Jd (Zs (Zd rfl (Zd rfl (Zd rfl (Zd rfl (Zd rfl rfl))))) lr))
end Dl
set_option maxHeartbeats 4000000
namespace K37
open PySem PySem.Spec PyProof.Rows L2
open Dl (D R FE FT FA FO FS FI FB Fl)
noncomputable def top (i:Nat):Stmt:=PySem.Challenge.pw_selvage_k37_whole_pieces_of_the_best.main.body.getD i (.Pass ⟨0,0,0,0⟩)
noncomputable abbrev Zox:Stmt:=top 7
noncomputable abbrev Znw:Stmt:=top 8
noncomputable abbrev Zkn:Stmt:=top 10
noncomputable abbrev Xjg:Stmt:=top 12
noncomputable abbrev Zdp:Stmt:=top 13
noncomputable abbrev Zob:Stmt:=top 14
noncomputable abbrev Zkj:Stmt:=top 16
noncomputable abbrev Zfb:Stmt:=top 17
noncomputable abbrev Zlf:Stmt:=top 18
noncomputable abbrev Zwu:Stmt:=top 19
noncomputable abbrev Zfp:Stmt:=top 20
noncomputable abbrev Zby:Stmt:=top 21
noncomputable abbrev Xki:Stmt:=top 22
noncomputable abbrev Zea:Stmt:=top 24
noncomputable abbrev Zbe:Stmt:=top 25
noncomputable abbrev Zdr:Stmt:=top 26
noncomputable abbrev Zcp:Stmt:=top 27
noncomputable abbrev Zbg:Stmt:=top 29
noncomputable abbrev Zzv:Stmt:=top 30
noncomputable abbrev Zqa:Stmt:=top 31
noncomputable abbrev Xlw:Stmt:=top 32
noncomputable abbrev Zfo:Stmt:=top 34
noncomputable abbrev Zhi:Stmt:=top 35
noncomputable abbrev Zhs:Stmt:=top 36
noncomputable abbrev Zed:Stmt:=top 37
noncomputable abbrev Zfg:Stmt:=top 38
noncomputable abbrev Zfe:Stmt:=top 39
noncomputable abbrev Zdw:Stmt:=top 40
noncomputable abbrev Zbj:Stmt:=top 41
noncomputable abbrev Zah:Stmt:=top 42
noncomputable abbrev Jq:Stmt:=top 43
noncomputable abbrev Xnu:Stmt:=top 44
theorem Zqg:Zz ["roll","begin","end"] ["roll","begin","end"] (Zn Zox):=⟨rfl,rfl,rfl,by decide +kernel,rfl,by decide +kernel,by decide +kernel⟩
theorem Zsq:Zz ["roll"] ["roll"] (Zn Znw):=⟨rfl,rfl,rfl,by decide +kernel,rfl,by decide +kernel,by decide +kernel⟩
theorem Zmz:Zz ["table","name","kind"] ["table","name"] (Zn Zkn):=⟨rfl,rfl,rfl,by decide +kernel,rfl,by decide +kernel,by decide +kernel⟩
theorem Xgm:Zz ["roll","kind","place","end"] ["roll","kind","place"] (Zn Xjg):=⟨rfl,rfl,rfl,by decide +kernel,rfl,by decide +kernel,by decide +kernel⟩
theorem Zgf:Zz ["roll","table","pieces","place","kind"] ["roll","table"] (Zn Zdp):=⟨rfl,rfl,rfl,by decide +kernel,rfl,by decide +kernel,by decide +kernel⟩
theorem Zro:Zz ["table","piece"] ["table","piece"] (Zn Zob):=⟨rfl,rfl,rfl,by decide +kernel,rfl,by decide +kernel,by decide +kernel⟩
theorem Zsc:Zz ["roll","table","end"] ["roll","table","end"] (Zn Zkj):=⟨rfl,rfl,rfl,by decide +kernel,rfl,by decide +kernel,by decide +kernel⟩
theorem Zjk:Zz ["roll","table","tops","end","worths"] ["roll","table","tops"] (Zn Zfb):=⟨rfl,rfl,rfl,by decide +kernel,rfl,by decide +kernel,by decide +kernel⟩
theorem Zlj:Zz ["roll","table","tops"] ["roll","table"] (Zn Zlf):=⟨rfl,rfl,rfl,by decide +kernel,rfl,by decide +kernel,by decide +kernel⟩
theorem Zww:Zz ["roll","table"] ["roll","table"] (Zn Zwu):=⟨rfl,rfl,rfl,by decide +kernel,rfl,by decide +kernel,by decide +kernel⟩
theorem Zho:Zz ["roll","table","tops","end","kind"] ["roll","table","tops","end"] (Zn Zfp):=⟨rfl,rfl,rfl,by decide +kernel,rfl,by decide +kernel,by decide +kernel⟩
theorem Zdk:Zz ["roll","table","tops","end","pieces","kind"] ["roll","table","tops","end"] (Zn Zby):=⟨rfl,rfl,rfl,by decide +kernel,rfl,by decide +kernel,by decide +kernel⟩
theorem Xfq:Zz ["roll","table","tops"] ["roll","table"] (Zn Xki):=⟨rfl,rfl,rfl,by decide +kernel,rfl,by decide +kernel,by decide +kernel⟩
theorem Zfz:Zz ["roll","table","tops","end","steps","kind","begin"] ["roll","table","tops","end"] (Zn Zea):=⟨rfl,rfl,rfl,by decide +kernel,rfl,by decide +kernel,by decide +kernel⟩
theorem Zef:Zz ["roll","table","tops","numbers","end","steps"] ["roll","table"] (Zn Zbe):=⟨rfl,rfl,rfl,by decide +kernel,rfl,by decide +kernel,by decide +kernel⟩
theorem Zfy:Zz ["roll","table"] ["roll","table"] (Zn Zdr):=⟨rfl,rfl,rfl,by decide +kernel,rfl,by decide +kernel,by decide +kernel⟩
theorem Zjf:Zz ["roll","table","most","tops","behind","end","begin","pieces"] ["roll","table","most"] (Zn Zcp):=⟨rfl,rfl,rfl,by decide +kernel,rfl,by decide +kernel,by decide +kernel⟩
theorem Zda:Zz ["table","tops","rests","piece"] ["table","tops","rests","piece"] (Zn Zbg):=⟨rfl,rfl,rfl,by decide +kernel,rfl,by decide +kernel,by decide +kernel⟩
theorem Xgu:Zz ["roll","table","tops","rests"] ["roll","table"] (Zn Zzv):=⟨rfl,rfl,rfl,by decide +kernel,rfl,by decide +kernel,by decide +kernel⟩
theorem Zuh:Zz ["roll","table","ahead","behind"] ["roll","table"] (Zn Zqa):=⟨rfl,rfl,rfl,by decide +kernel,rfl,by decide +kernel,by decide +kernel⟩
theorem Xfz:Zz ["roll","table","piece","tops"] ["roll","table","piece"] (Zn Xlw):=⟨rfl,rfl,rfl,by decide +kernel,rfl,by decide +kernel,by decide +kernel⟩
theorem Zhg:Zz ["_law_script","_law_place","_law_seed","_law_cell_here"] ["_law_script","_law_place"] (Zn Zfo):=⟨rfl,rfl,rfl,by decide +kernel,rfl,by decide +kernel,by decide +kernel⟩
theorem Zjg:Zz ["_law_cell_here","_law_k","_law_one","_law_two"] ["_law_cell_here","_law_k"] (Zn Zhi):=⟨rfl,rfl,rfl,by decide +kernel,rfl,by decide +kernel,by decide +kernel⟩
theorem Zji:Zz ["_law_script","_law_place","_law_sizes","_law_cell_here","_law_left","_law_some","_law_k","_law_other"] ["_law_script","_law_place","_law_sizes"] (Zn Zhs):=⟨rfl,rfl,rfl,by decide +kernel,rfl,by decide +kernel,by decide +kernel⟩
theorem Zgd:Zz ["_law_script","_law_place","_law_most","_law_pool","_law_some","_law_flaw_here","_law_gain","_law_table_here","_law_k","_law_at","_law_width","_law_worth","_law_allowed","_law_name"] ["_law_script","_law_place","_law_most"] (Zn Zed):=⟨rfl,rfl,rfl,by decide +kernel,rfl,by decide +kernel,by decide +kernel⟩
theorem Zhu:Zz ["_law_script","_law_place","_law_most"] ["_law_script","_law_place","_law_most"] (Zn Zfg):=⟨rfl,rfl,rfl,by decide +kernel,rfl,by decide +kernel,by decide +kernel⟩
theorem Zij:Zz ["_law_script","_law_place","_law_most","_law_flaw_here","_law_some","_law_great","_law_roll_here","_law_k","_law_at","_law_weight"] ["_law_script","_law_place","_law_most","_law_flaw_here"] (Zn Zfe):=⟨rfl,rfl,rfl,by decide +kernel,rfl,by decide +kernel,by decide +kernel⟩
theorem Zfx:Zz ["_law_script","_law_place","_law_most","_law_kinds","_law_flaw_here"] ["_law_script","_law_place","_law_most","_law_kinds"] (Zn Zdw):=⟨rfl,rfl,rfl,by decide +kernel,rfl,by decide +kernel,by decide +kernel⟩
theorem Zcw:Zz ["_law_one"] ["_law_one"] (Zn Zbj):=⟨rfl,rfl,rfl,by decide +kernel,rfl,by decide +kernel,by decide +kernel⟩
theorem Zbm:Zz ["_law_found","_law_one"] ["_law_found"] (Zn Zah):=⟨rfl,rfl,rfl,by decide +kernel,rfl,by decide +kernel,by decide +kernel⟩
theorem Zax:Zz ["_law_roll_here","_law_table_here","_law_some","_law_every","_law_told","_law_listed","_law_held","_law_cutting","_law_piece"] ["_law_roll_here","_law_table_here","_law_some","_law_every","_law_told"] (Zn Jq):=⟨rfl,rfl,rfl,by decide +kernel,rfl,by decide +kernel,by decide +kernel⟩
theorem Xrd:Zz ["_law_script","_law_most","_law_roll_here","_law_table_here","_law_high","_law_told","_law_some","_law_every","_law_piece","_law_pieces","_law_step","_law_k","_law_found"] ["_law_script"] (Zn Xnu):=⟨rfl,rfl,rfl,by decide +kernel,rfl,by decide +kernel,by decide +kernel⟩
structure Txt (mg:Str→Option Value):Prop where
 sum:mg "sum"=none
 len:mg "len"=none
 list:mg "list"=none
 reversed:mg "reversed"=none
 range:mg "range"=none
 max:mg "max"=none
 sorted:mg "sorted"=none
 min:mg "min"=none
 isinstance:mg "isinstance"=none
 int:mg "int"=none
 bool:mg "bool"=none
 tuple:mg "tuple"=none
 str:mg "str"=none
section
variable {P:Program}{w:World}{K:Frag}{C:String→Addr}{mg:Str→Option Value}{base:Heap}{f:Addr}{fd:FuncData}
theorem Xeb (F:Fun K "spoilt" "spoilt" Zox f fd)(T:Txt mg):Zao P w K mg base CX0 7 f fd ["roll","begin","end"] (spD K C 3 2 Dl.Zde):=by
  refine F.okC Zqg (Γ':=[]) (Δ':=[]) rfl fun cdv A outer s H E hr=>?_
  have sc:=Zqg
  have hu:_+64<cLine:=hr.units
  exact ⟨_,(Zg [] [] (Jo (Xak (Zii (Xo Zss Zje (Zj 1) Ze (Xp _)) (Zii (Xo Zmv Zgb (Zj 2) (Xn (r:=Zba K) Xr Yw rfl T.len PySem.boot_len (Zb (Zj 0) Zh Za) (he:=Za)) (Xp _)) (Zep (Xo Zmv Zgb (Zj 1) (Zj 2) (Xp _)))))) (Zk Zgy) Xq)
      (Zk (Xc (Xn (r:=Xqr K) (Zrx rfl) Zys rfl T.sum PyProof.Rows.boot_sum (Zb (Xqv K (Zj 0) (Zpd (Zj 1)) (Zpd (Zj 2))) Zh Yf) (he:=Yf)))))⟩
theorem Xbn (F:Fun K "turned" "turned" Znw f fd)(T:Txt mg):Zao P w K mg base CX0 7 f fd ["roll"] (spD K C 1 2 Dl.Zca):=by
 refine F.okC Zsq (Γ':=[]) (Δ':=[]) rfl fun cdv A outer s H E hr=>?_
 have sc:=Zsq
 have hu:_+64<cLine:=hr.units
 exact ⟨_,(Zk (Xc (Zki K rfl T.list rfl T.reversed (Zj 0) Za)))⟩
theorem Zus (F:Fun K "kind_of" "kind_of" Zkn f fd)(T:Txt mg):Zao P w K mg base CX0 7 f fd ["table","name"] (spD K C 2 2 Dl.Zab):=by
  refine F.okC Zmz (Γ':=[]) (Δ':=[]) rfl fun cdv A outer s H E hr=>?_
  have sc:=Zmz
  have hu:_+64<cLine:=hr.units
  exact ⟨_,(Zg [] [] (Jv [] [] PassesOwn.never rfl (Yr (Zj 0)) (Yp (i:=2) (hN:=sc.nd) (hi:=rfl) (hx:=Or.inl rfl)) (Zk (Jo (Xo (r:=Zlh K) (Zaj hu) Zam (Zx K (Zj 2) Ze Zl) (Zj 1) (Xp _)) (Zk (Xc (Xm (Zj 2)))) Xq)))
      (Zk Zgy))⟩
theorem Zom (F:Fun K "_law_cell" "_law_cell" Zfo f fd)(T:Txt mg):Zao P w K mg base CX0 7 f fd ["_law_script","_law_place"] (spD K C 2 2 Dl.Jy):=by
  refine F.okC Zhg (Γ':=[]) (Δ':=[]) rfl fun cdv A outer s H E hr=>?_
  have sc:=Zhg
  have hu:_+64<cLine:=hr.units
  exact ⟨_,(Zg [] [] (Jo (Xo Zss Zje (Zj 1) (Xn (r:=Zba K) Xr Yw rfl T.len PySem.boot_len (Zb (Zj 0) Zh Za) (he:=Za)) (Xp _)) (Zk (Xc (Xm (Zx K (Zj 0) (Zj 1) Xk)))) Xq)
      (Zg [2] [2] (Zu (i:=2) sc.nd rfl (Or.inl rfl) Ze)
      (Zg [2] [2] (Jv [2] [2] PassesOwn.never rfl (Yr (Xqv K (Zj 0) Xje (Zpd Ze))) (Yp (i:=3) (hN:=sc.nd) (hi:=rfl) (hx:=Or.inl rfl)) (Zk (Zu (i:=2) sc.nd rfl (Or.inl rfl) (Zr Zbd Js (Zr Zw Zv (Zr Zw Zv (Zr Yn Ym (Zj 2) Ze) (Zr Zbd Js (Zj 3) Ze)) Ze) Ze))))
      (Zk (Xc (Zr Zbd Js (Zr Zw Zv (Zj 2) (Zr Yn Ym Ze (Zj 1))) Ze))))))⟩
theorem Ztf (F:Fun K "_law_mix" "_law_mix" Zhi f fd)(T:Txt mg):Zao P w K mg base CX0 7 f fd ["_law_cell_here","_law_k"] (spD K C 2 2 Dl.Zaq):=by
  refine F.okC Zjg (Γ':=[]) (Δ':=[]) rfl fun cdv A outer s H E hr=>?_
  have sc:=Zjg
  have hu:_+64<cLine:=hr.units
  exact ⟨_,(Zg [2] [2] (Zu (i:=2) sc.nd rfl (Or.inl rfl) (Zr Zbd Js (Zr Zew Zbx (Zr Zw Zv (Zr Zw Zv (Zr Zbd Js (Zj 0) Ze) (Zr Yn Ym Ze (Zj 1))) Ze) Ze) Ze))
      (Zg [2,3] [2,3] (Zu (i:=3) sc.nd rfl (Or.inl rfl) (Zr Zbd Js (Zr Zw Zv (Zr Zw Zv (Zr Yn Ym (Zj 2) Ze) (Zr Yn Ym (Zr Yn Ym Ze (Zj 1)) (Zj 1))) Ze) Ze))
      (Zk (Xc (Zr Zke Zpf (Zj 3) Ze)))))⟩
theorem Zhj (F:Fun K "_law_is_whole" "_law_is_whole" Zbj f fd)(T:Txt mg):Zao P w K mg base CX0 7 f fd ["_law_one"] (spD K C 1 2 Dl.Yk):=by
 refine F.okC Zcw (Γ':=[]) (Δ':=[]) rfl fun cdv A outer s H E hr=>?_
 have sc:=Zcw
 have hu:_+64<cLine:=hr.units
 exact ⟨_,(Zk (Xc (Xtp (Znr K (ty:="int") Xiq rfl T.isinstance rfl T.int PyProof.Rows.boot_int (Zj 0) Za) (Xsj (Xny (Znr K (ty:="bool") Xfh rfl T.isinstance rfl T.bool PyProof.Rows.boot_bool (Zj 0) Za))))))⟩
theorem Xst (F:Fun K "fits" "fits" Xjg f fd)(T:Txt mg)(Dspoilt:Def P w K mg base CX0 7 "spoilt" ["roll","begin","end"] (spD K C 3 2 Dl.Zde)):Zao P w K mg base CX0 8 f fd ["roll","kind","place"] (spD K C 3 2 Dl.Zga):=by
  refine F.okC Xgm (Γ':=[]) (Δ':=[]) rfl fun cdv A outer s H E hr=>?_
  have sc:=Xgm
  have hu:_+64<cLine:=hr.units
  exact ⟨_,(Zg [3] [3] (Zu (i:=3) sc.nd rfl (Or.inl rfl) (Zr Zw Zv (Zj 2) (Zx K (Zj 1) Ze Zl)))
      (Zg [3] [3] (Jo (Xak (Zii (Xo Zss Zje (Zj 2) Ze (Xp _)) (Zep (Xo Zmv Zgb (Zj 3) (Xn (r:=Zba K) Xr Yw rfl T.len PySem.boot_len (Zb (Zj 0) Zh Za) (he:=Za)) (Xp _))))) (Zk (Xc Zgn)) Xq)
      (Zk (Xc (Zjv Xpb Xgr (Zp Dspoilt (hr.mono (by decide)) rfl Xi (Zb (Zj 0) (Zb (Zj 2) (Zb (Zj 3) Zh Za) Za) Za) (he:=Za)) (Zx K (Zj 1) Ze Zl) (Xp _))))))⟩
theorem Xck (F:Fun K "end_of" "end_of" Zob f fd)(T:Txt mg)(Dkind_of:Def P w K mg base CX0 7 "kind_of" ["table","name"] (spD K C 2 2 Dl.Zab)):Zao P w K mg base CX0 8 f fd ["table","piece"] (spD K C 2 2 Dl.Zbb):=by
 refine F.okC Zro (Γ':=[]) (Δ':=[]) rfl fun cdv A outer s H E hr=>?_
 have sc:=Zro
 have hu:_+64<cLine:=hr.units
 exact ⟨_,(Zk (Xc (Zr Zw Zv (Zx K (Zj 1) Ze Zl) (Zx K (Zp Dkind_of (hr.mono (by decide)) rfl Xi (Zb (Zj 0) (Zb (Zx K (Zj 1) Ze Zl) Zh Yf) Za) (he:=Za)) Ze Zl))))⟩
theorem Zsv (F:Fun K "_law_row" "_law_row" Zhs f fd)(T:Txt mg)(D_law_cell:Def P w K mg base CX0 7 "_law_cell" ["_law_script","_law_place"] (spD K C 2 2 Dl.Jy))(D_law_mix:Def P w K mg base CX0 7 "_law_mix" ["_law_cell_here","_law_k"] (spD K C 2 2 Dl.Zaq)):Zao P w K mg base CX0 8 f fd ["_law_script","_law_place","_law_sizes"] (spD K C 3 2 Dl.Ya):=by
  refine F.okC Zji (Γ':=[]) (Δ':=[]) rfl fun cdv A outer s H E hr=>?_
  have sc:=Zji
  have hu:_+64<cLine:=hr.units
  exact ⟨_,(Zg [3] [3] (Zu (i:=3) sc.nd rfl (Or.inl rfl) (Zp D_law_cell (hr.mono (by decide)) rfl Xi (Zb (Zj 0) (Zb (Zj 1) Zh Za) Za) (he:=Za)))
      (Zg [3,4] [3,4] (Zu (i:=4) sc.nd rfl (Or.inl rfl) (Xm (Zj 3)))
      (Zg [3,4,5] [3,4,5] (Zu (i:=5) sc.nd rfl (Or.inl rfl) (Yl Zh))
      (Zg [3,4,5] [3,4,5] (Jv [3,4,5] [3,4,5] PassesOwn.never rfl (Zkc rfl T.range (Zb (Xn (r:=Zba K) Xr Yw rfl T.len PySem.boot_len (Zb (Zj 2) Zh Za) (he:=Za)) Zh Zo)) (Yp (i:=6) (hN:=sc.nd) (hi:=rfl) (hx:=Or.inl rfl)) (Zk (Jo (Xo Zss Zje (Zj 3) (Zr Zew Zbx Ze Ze) (Xp _)) (Zk (Zcn (i:=5) (he:=(Zr Zbd Js (Zp D_law_mix (hr.mono (by decide)) rfl Xi (Zb (Zj 3) (Zb (Zj 6) Zh Za) Za) (he:=Za)) (Zx K (Zj 2) (Zj 6) Xk))) (hse:=Xd))) (Zk (Jo (Xo Zmv Zgb (Zj 4) Ze (Xp _)) (Zg [3,4,5] [3,4,5] (Zcn (i:=5) (he:=(Zr Zbd Js (Zj 4) (Zx K (Zj 2) (Zj 6) Xk))) (hse:=Xd))
      (Zk (Zu (i:=4) sc.nd rfl (Or.inl rfl) (Zr Zke Zpf (Zj 4) (Zx K (Zj 2) (Zj 6) Xk))))) (Zbw [3,4,5,7] [3,4,5,7] (Zg [3,4,5,7] [3,4,5,7] (Zu (i:=7) sc.nd rfl (Or.inl rfl) (Zp D_law_cell (hr.mono (by decide)) rfl Xi (Zb (Zj 0) (Zb (Zr Zbd Js (Zr Zw Zv (Zr Zw Zv (Zj 1) Ze) (Zj 6)) Ze) Zh Xd) Za) (he:=Za)))
      (Zk (Zcn (i:=5) (he:=(Zr Zbd Js (Zp D_law_mix (hr.mono (by decide)) rfl Xi (Zb (Zj 7) (Zb (Zj 6) Zh Za) Za) (he:=Za)) (Zx K (Zj 2) (Zj 6) Xk))) (hse:=Xd))))))))))
      (Zk (Xc (Zol 5)))))))⟩
theorem Zfr (F:Fun K "_law_is_cutting" "_law_is_cutting" Zah f fd)(T:Txt mg)(D_law_is_whole:Def P w K mg base CX0 7 "_law_is_whole" ["_law_one"] (spD K C 1 2 Dl.Yk)):Zao P w K mg base CX0 8 f fd ["_law_found"] (spD K C 1 2 Dl.Xg):=by
  refine F.okC Zbm (Γ':=[]) (Δ':=[]) rfl fun cdv A outer s H E hr=>?_
  have sc:=Zbm
  have hu:_+64<cLine:=hr.units
  exact ⟨_,(Zg [] [] (Jo (Zhc (Zfa (Znr K (ty:="list") Xbr rfl T.isinstance rfl T.list PyProof.Rows.boot_list (Zj 0) Za))) (Zk (Xc Zgn)) Xq)
      (Zg [] [] (Jv [] [] PassesOwn.never rfl (Yr (Zj 0)) (Yp (i:=1) (hN:=sc.nd) (hi:=rfl) (hx:=Or.inl rfl)) (Zg [] [] (Jo (Xak (Zii (Zhc (Zfa (Znr K (ty:="tuple") kit_tuple rfl T.isinstance rfl T.tuple PyProof.Rows.boot_tuple (Zj 1) Za))) (Zep (Xo (r:=Xno K) (Zqs hu) Zpu (Xn (r:=Zba K) Xr Yw rfl T.len PySem.boot_len (Zb (Zj 1) Zh Za) (he:=Za)) Ze (Xp _))))) (Zk (Xc Zgn)) Xq)
      (Zk (Jo (Xak (Zii (Zhc (Zfa (Zp D_law_is_whole (hr.mono (by decide)) rfl Xi (Zb (Zx K (Zj 1) Ze Zl) Zh Yf) (he:=Yf)))) (Zep (Zhc (Zfa (Znr K (ty:="str") Xih rfl T.isinstance rfl T.str PyProof.Rows.boot_str (Zx K (Zj 1) Ze Zl) Yf)))))) (Zk (Xc Zgn)) Xq))))
      (Zk (Xc Zgn))))⟩
theorem Zmp (F:Fun K "all_pieces" "all_pieces" Zdp f fd)(T:Txt mg)(Dfits:Def P w K mg base CX0 8 "fits" ["roll","kind","place"] (spD K C 3 2 Dl.Zga)):Zao P w K mg base CX0 9 f fd ["roll","table"] (spD K C 2 2 Dl.Xy):=by
  refine F.okC Zgf (Γ':=[]) (Δ':=[]) rfl fun cdv A outer s H E hr=>?_
  have sc:=Zgf
  have hu:_+64<cLine:=hr.units
  exact ⟨_,(Zg [2] [2] (Zu (i:=2) sc.nd rfl (Or.inl rfl) (Yl Zh))
      (Zg [2] [2] (Jv [2] [2] PassesOwn.never rfl (Zkc rfl T.range (Zb (Xn (r:=Zba K) Xr Yw rfl T.len PySem.boot_len (Zb (Zj 0) Zh Za) (he:=Za)) Zh Zo)) (Yp (i:=3) (hN:=sc.nd) (hi:=rfl) (hx:=Or.inl rfl)) (Zk (Jv [2] [2] PassesOwn.never rfl (Yr (Zj 1)) (Yp (i:=4) (hN:=sc.nd) (hi:=rfl) (hx:=Or.inl rfl)) (Zk (Jo (Zfa (Zp Dfits (hr.mono (by decide)) rfl Xi (Zb (Zj 0) (Zb (Zj 4) (Zb (Zj 3) Zh Za) Za) Za) (he:=Za))) (Zk (Zcn (i:=2) (he:=(Zgj (Zi (Xm (Zj 3)) (Zi (Xm (Zx K (Zj 4) Ze Zl)) Zh Yf) Za))) (hse:=Zdg))) Xq)))))
      (Zk (Xc (Zol 2)))))⟩
theorem Xcf (F:Fun K "ending" "ending" Zkj f fd)(T:Txt mg)(Dfits:Def P w K mg base CX0 8 "fits" ["roll","kind","place"] (spD K C 3 2 Dl.Zga)):Zao P w K mg base CX0 9 f fd ["roll","table","end"] (spD K C 3 2 Dl.Yz):=by
 refine F.okC Zsc (Γ':=[]) (Δ':=[]) rfl fun cdv A outer s H E hr=>?_
 have sc:=Zsc
 have hu:_+64<cLine:=hr.units
 exact ⟨_,(Zk (Xc (Zif (n:=3) (Zn Zkj) ["roll","table","end"] ["roll","table","end"] ["kind"] ⟨rfl,by decide +kernel,by decide +kernel,by decide +kernel,by decide +kernel,by decide +kernel,rfl,by decide +kernel⟩ (Yr (Zj 1)) (fun _ _ _ _ _=>(Zec 3 (hN:=(by decide +kernel:List.Nodup (["roll","table","end","kind"]:List Str))))) (fun _ _ _ _ _=>Zof (Zfa (Zp Dfits (hr.mono (by decide)) rfl Xi (Zb (Zj 0 (hv:=Or.inr (Or.inl rfl))) (Zb (Zj 3 (hv:=Or.inl rfl)) (Zb (Zr Zeg Zbu (Zj 2 (hv:=Or.inr (Or.inl rfl))) (Zx K (Zj 3 (hv:=Or.inl rfl)) Ze Zl)) Zh Xd) Za) Za) (he:=Za)))) (fun _ _ _ _ _=>(Xm (Zj 3 (hv:=Or.inl rfl)))))))⟩
theorem Zhl (F:Fun K "greatest_with" "greatest_with" Zbg f fd)(T:Txt mg)(Dend_of:Def P w K mg base CX0 8 "end_of" ["table","piece"] (spD K C 2 2 Dl.Zbb))(Dkind_of:Def P w K mg base CX0 7 "kind_of" ["table","name"] (spD K C 2 2 Dl.Zab)):Zao P w K mg base CX0 9 f fd ["table","tops","rests","piece"] (spD K C 4 2 Dl.Xj):=by
 refine F.okC Zda (Γ':=[]) (Δ':=[]) rfl fun cdv A outer s H E hr=>?_
 have sc:=Zda
 have hu:_+64<cLine:=hr.units
 exact ⟨_,(Zk (Xc (Zr Zw Zv (Zr Zw Zv (Zx K (Zj 1) (Zx K (Zj 3) Ze Zl) Jg) (Zx K (Zp Dkind_of (hr.mono (by decide)) rfl Xi (Zb (Zj 0) (Zb (Zx K (Zj 3) Ze Zl) Zh Yf) Za) (he:=Za)) Ze Zl)) (Zx K (Zj 2) (Zp Dend_of (hr.mono (by decide)) rfl Xi (Zb (Zj 0) (Zb (Zj 3) Zh Za) Za) (he:=Za)) Zjo))))⟩
theorem Zmc (F:Fun K "_law_table" "_law_table" Zed f fd)(T:Txt mg)(D_law_row:Def P w K mg base CX0 8 "_law_row" ["_law_script","_law_place","_law_sizes"] (spD K C 3 2 Dl.Ya)):Zao P w K mg base CX0 9 f fd ["_law_script","_law_place","_law_most"] (spD K C 3 2 Dl.Zac):=by
  refine F.okC Zgd (Γ':=[]) (Δ':=[]) rfl fun cdv A outer s H E hr=>?_
  have sc:=Zgd
  have hu:_+64<cLine:=hr.units
  exact ⟨_,(Zg [3] [3] (Zu (i:=3) sc.nd rfl (Or.inl rfl) (Yl (Zi Zak (Zi Zak (Zi Zak (Zi Zak (Zi Zak (Zi Zak (Zi Zak (Zi Zak (Zi Zak (Zi Zak Zh Zf) Zf) Zf) Zf) Zf) Zf) Zf) Zf) Zf) Zf)))
      (Zg [3] [3] (Zu (i:=3) sc.nd rfl (Or.inl rfl) (Zr Zw Zv (Zj 3) (Yl (Zi Zak (Zi Zak (Zi Zak (Zi Zak (Zi Zak (Zi Zak Zh Zf) Zf) Zf) Zf) Zf) Zf))))
      (Zg [3,4] [3,4] (Zu (i:=4) sc.nd rfl (Or.inl rfl) (Zp D_law_row (hr.mono (by decide)) rfl Xi (Zb (Zj 0) (Zb (Zj 1) (Zb (Zr Zw Zv (Yl (Zi (Zr Zw Zv (Zj 2) Ze) (Zi Ze (Zi Ze (Zi Ze (Zi Ze (Zi Ze Zh Zf) Zf) Zf) Zf) Zf) Xd)) (Zr Yn Ym (Yl (Zi Ze (Zi Ze (Zi Ze Zh Zf) Zf) Zf)) (Zj 2))) Zh Xd) Za) Za) (he:=Za)))
      (Zg [3,4,5] [3,4,5] (Zu (i:=5) sc.nd rfl (Or.inl rfl) (Xm (Zx K (Yl (Zi Ze (Zi Ze (Zi Ze (Zi (Zr Zew Zbx Ze Ze) Zh Xd) Zf) Zf) Zf)) (Zx K (Zj 4) Ze Zl) Jg)))
      (Zg [3,4,5,6] [3,4,5,6] (Zu (i:=6) sc.nd rfl (Or.inl rfl) (Xm (Zx K (Yl (Zi Ze (Zi Ze (Zi (Zr Zew Zbx Ze Ze) (Zi (Zr Yn Ym Ze (Zr Zew Zbx Ze Ze)) Zh Xd) Xd) Zf) Zf)) (Zx K (Zj 4) Ze Zl) Jg)))
      (Zg [3,4,5,6,7] [3,4,5,6,7] (Zu (i:=7) sc.nd rfl (Or.inl rfl) (Yl Zh))
      (Zg [3,4,5,6,7] [3,4,5,6,7] (Jv [3,4,5,6,7] [3,4,5,6,7] PassesOwn.never rfl (Zkc rfl T.range (Zb (Zx K (Zj 4) Ze Zl) Zh Yf)) (Yp (i:=8) (hN:=sc.nd) (hi:=rfl) (hx:=Or.inl rfl)) (Zbw [3,4,5,6,7,9,10,11,12,13] [3,4,5,6,7,9,10,11,12,13] (Zg [3,4,5,6,7,9] [3,4,5,6,7,9] (Zu (i:=9) sc.nd rfl (Or.inl rfl) (Zr Zw Zv (Zr Yn Ym Ze (Zj 8)) Ze))
      (Zg [3,4,5,6,7,9,10] [3,4,5,6,7,9,10] (Zu (i:=10) sc.nd rfl (Or.inl rfl) (Xm (Zx K (Zov (Zb Ze (Zb Ze (Zb Ze (Zb Ze (Zb Ze (Zb Ze (Zb Ze (Zb Ze (Zb Ze (Zb Ze (Zb (Zx K (Yl (Zi Ze (Zi Ze Zh Zf) Zf)) (Zr Zbd Js (Zj 8) Ze) plain_bin) Zh Yf) Zf) Zf) Zf) Zf) Zf) Zf) Zf) Zf) Zf) Zf)) (Zx K (Zj 4) (Zj 9) Xk) Jg)))
      (Zg [3,4,5,6,7,9,10,11] [3,4,5,6,7,9,10,11] (Zu (i:=11) sc.nd rfl (Or.inl rfl) (Zr Zw Zv Ze (Zx K (Zj 4) (Zr Zw Zv (Zj 9) Ze) plain_bin)))
      (Zg [3,4,5,6,7,9,10,11] [3,4,5,6,7,9,10,11] (Jo (Xo (r:=Zlh K) (Zaj hu) Zam (Zx K (Zj 4) Ze Zl) Ze (Xp _)) (Zk (Zu (i:=11) sc.nd rfl (Or.inl rfl) (Zr Zw Zv (Zr Yn Ym Ze (Zj 10)) (Zr Zbd Js (Zx K (Zj 4) (Zr Zw Zv (Zj 9) Ze) plain_bin) Ze)))) Xq)
      (Zg [3,4,5,6,7,9,10,11] [3,4,5,6,7,9,10,11] (Jo (Xo (r:=Zlh K) (Zaj hu) Zam (Zx K (Zj 4) Ze Zl) Ze (Xp _)) (Zk (Zu (i:=11) sc.nd rfl (Or.inl rfl) (Zr Zw Zv Ze (Zr Zbd Js (Zx K (Zj 4) (Zr Zw Zv (Zj 9) Ze) plain_bin) Ze)))) Xq)
      (Zg [3,4,5,6,7,9,10,11] [3,4,5,6,7,9,10,11] (Jo (Xo (r:=Zlh K) (Zaj hu) Zam (Zx K (Zj 4) Ze Zl) Ze (Xp _)) (Zk (Zu (i:=11) sc.nd rfl (Or.inl rfl) (Xm (Zj 10)))) Xq)
      (Zg [3,4,5,6,7,9,10,11,12] [3,4,5,6,7,9,10,11,12] (Zu (i:=12) sc.nd rfl (Or.inl rfl) (Xn (r:=Xdm) (Zlu rfl) Zyv rfl T.min PyProof.Rows.boot_min (Zb (Zr Yn Ym (Zx K (Yl (Zi Ze (Zi Ze (Zi Ze (Zi Ze (Zi Ze (Zi Ze Zh Zf) Zf) Zf) Zf) Zf) Zf)) (Zx K (Zj 4) (Zr Zw Zv (Zj 9) Ze) plain_bin) Jg) (Zj 5)) (Zb (Zr Zeg Zbu (Zr Zew Zbx Ze Ze) Ze) Zh Xd) Xd) (he:=Xd)))
      (Zg [3,4,5,6,7,9,10,11,12,13] [3,4,5,6,7,9,10,11,12,13] (Zu (i:=13) sc.nd rfl (Or.inl rfl) (Xm (Zx K (Zj 3) (Zr Zbd Js (Zr Zw Zv (Zx K (Zj 4) Ze Zl) (Zr Yn Ym (Zr Zw Zv (Zr Yn Ym Ze (Zx K (Zj 4) Ze Zl)) Ze) (Zj 8))) Ze) plain_bin)))
      (Zk (Zcn (i:=7) (he:=(Zgj (Zi (Xm (Zj 13)) (Zi (Xm (Zj 10)) (Zi (Xn (r:=Xdm) (Zlu rfl) Zyv rfl T.min PyProof.Rows.boot_min (Zb (Zr Yn Ym (Zj 11) (Zj 6)) (Zb (Zr Zew Zbx Ze Ze) Zh Xd) Xd) (he:=Xd)) (Zi (Xm (Zj 12)) Zh Za) Zo) Za) Za))) (hse:=Zdg)))))))))))))
      (Zk (Xc (Zol 7))))))))))⟩
theorem Zpb (F:Fun K "_law_flaw" "_law_flaw" Zfg f fd)(T:Txt mg)(D_law_row:Def P w K mg base CX0 8 "_law_row" ["_law_script","_law_place","_law_sizes"] (spD K C 3 2 Dl.Ya)):Zao P w K mg base CX0 9 f fd ["_law_script","_law_place","_law_most"] (spD K C 3 2 Dl.Zaz):=by
 refine F.okC Zhu (Γ':=[]) (Δ':=[]) rfl fun cdv A outer s H E hr=>?_
 have sc:=Zhu
 have hu:_+64<cLine:=hr.units
 exact ⟨_,(Zk (Xc (Xm (Zx K (Yl (Zi Ze (Zi Ze (Zi Ze (Zi (Zr Zew Zbx Ze Ze) Zh Xd) Zf) Zf) Zf)) (Zx K (Zp D_law_row (hr.mono (by decide)) rfl Xi (Zb (Zj 0) (Zb (Zj 1) (Zb (Yl (Zi (Zr Zw Zv (Zj 2) Ze) (Zi Ze Zh Zf) Xd)) Zh Zcs) Za) Za) (he:=Za)) Ze Zl) Jg))))⟩
theorem Zph (F:Fun K "_law_roll" "_law_roll" Zfe f fd)(T:Txt mg)(D_law_row:Def P w K mg base CX0 8 "_law_row" ["_law_script","_law_place","_law_sizes"] (spD K C 3 2 Dl.Ya)):Zao P w K mg base CX0 9 f fd ["_law_script","_law_place","_law_most","_law_flaw_here"] (spD K C 4 2 Dl.Zav):=by
  refine F.okC Zij (Γ':=[]) (Δ':=[]) rfl fun cdv A outer s H E hr=>?_
  have sc:=Zij
  have hu:_+64<cLine:=hr.units
  exact ⟨_,(Zg [4] [4] (Zu (i:=4) sc.nd rfl (Or.inl rfl) (Zp D_law_row (hr.mono (by decide)) rfl Xi (Zb (Zj 0) (Zb (Zj 1) (Zb (Zr Zw Zv (Yl (Zi (Zr Zw Zv (Zj 2) Ze) (Zi Ze (Zi Ze Zh Zf) Zf) Xd)) (Zr Yn Ym (Yl (Zi Ze (Zi Ze Zh Zf) Zf)) (Zj 2))) Zh Xd) Za) Za) (he:=Za)))
      (Zg [4,5] [4,5] (Zu (i:=5) sc.nd rfl (Or.inl rfl) (Zr Yn Ym Ze (Zj 3)))
      (Zg [4,5] [4,5] (Jo (Xo (r:=Zlh K) (Zaj hu) Zam (Zx K (Zj 4) Ze Zl) Ze (Xp _)) (Zk (Zu (i:=5) sc.nd rfl (Or.inl rfl) (Zr Zew Zbx Ze Ze))) Xq)
      (Zg [4,5,6] [4,5,6] (Zu (i:=6) sc.nd rfl (Or.inl rfl) (Yl Zh))
      (Zg [4,5,6] [4,5,6] (Jv [4,5,6] [4,5,6] PassesOwn.never rfl (Zkc rfl T.range (Zb (Zx K (Zj 4) Ze Zl) Zh Yf)) (Yp (i:=7) (hN:=sc.nd) (hi:=rfl) (hx:=Or.inl rfl)) (Zbw [4,5,6,8,9] [4,5,6,8,9] (Zg [4,5,6,8] [4,5,6,8] (Zu (i:=8) sc.nd rfl (Or.inl rfl) (Zr Zw Zv (Zr Yn Ym Ze (Zj 7)) Ze))
      (Zg [4,5,6,8,9] [4,5,6,8,9] (Zu (i:=9) sc.nd rfl (Or.inl rfl) Ze)
      (Zg [4,5,6,8,9] [4,5,6,8,9] (Jo (Xo Zss Zje (Zx K (Zj 4) (Zj 8) Xk) (Zx K (Yl (Zi Ze (Zi Ze (Zi Ze (Zi Ze Zh Zf) Zf) Zf) Zf)) (Zx K (Zj 4) Ze Zl) Jg) (Xp _)) (Zk (Zu (i:=9) sc.nd rfl (Or.inl rfl) (Xm (Zx K (Zov (Zb (Zj 3) (Zb (Zj 3) (Zb (Zr Yn Ym Ze (Zj 3)) (Zb (Zr Yn Ym Ze (Zj 3)) (Zb (Zj 5) Zh Za) Xd) Xd) Za) Za)) (Zx K (Zj 4) (Zr Zw Zv (Zj 8) Ze) plain_bin) Jg)))) Xq)
      (Zk (Zcn (i:=6) (he:=(Xm (Zj 9))) (hse:=Za))))))))
      (Zk (Xc (Zol 6))))))))⟩
theorem Ztu (F:Fun K "next_top" "next_top" Zfb f fd)(T:Txt mg)(Dending:Def P w K mg base CX0 9 "ending" ["roll","table","end"] (spD K C 3 2 Dl.Yz)):Zao P w K mg base CX0 10 f fd ["roll","table","tops"] (spD K C 3 2 Dl.Zbn):=by
  refine F.okC Zjk (Γ':=[]) (Δ':=[]) rfl fun cdv A outer s H E hr=>?_
  have sc:=Zjk
  have hu:_+64<cLine:=hr.units
  exact ⟨_,(Zg [3] [3] (Zu (i:=3) sc.nd rfl (Or.inr rfl) (Xn (r:=Zba K) Xr Yw rfl T.len PySem.boot_len (Zb (Zj 2) Zh Za) (he:=Za)))
      (Zg [3,4] [3,4] (Zxj (i:=4) (n:=5) (Zn Zfb) ["roll","table","tops","end","worths"] ["roll","table","tops","end","worths"] ["kind"] ⟨rfl,by decide +kernel,by decide +kernel,by decide +kernel,by decide +kernel,by decide +kernel,rfl,by decide +kernel⟩ rfl rfl (Yr (Zp Dending (hr.mono (by decide)) rfl Xi (Zb (Zj 0) (Zb (Zj 1) (Zb (Zj 3) Zh Za) Za) Za) (he:=Za))) (fun _ _ _ _ _=>(Zec 5 (hN:=(by decide +kernel:List.Nodup (["roll","table","tops","end","worths","kind"]:List Str))))) (fun _ _ _ _ _=>Zkm) (fun _ _ _ _ _=>(Zr Zw Zv (Zx K (Zj 2 (hv:=Or.inr (Or.inl rfl))) (Zr Zeg Zbu (Zj 3 (hv:=Or.inr (Or.inl rfl))) (Zx K (Zj 5 (hv:=Or.inl rfl)) Ze Zl)) plain_bin) (Zx K (Zj 5 (hv:=Or.inl rfl)) Ze Zl))))
      (Zk (Xc (Xn (r:=Zxy K) (Zwv rfl) Xhl rfl T.max PyProof.Rows.boot_max (Zb (Zr Zw Zv (Zov (Zb (Zx K (Zj 2) (Zft Ze) Zcb) Zh Yf)) (Zj 4)) Zh Xd) (he:=Xd))))))⟩
theorem Znz (F:Fun K "last_kind" "last_kind" Zfp f fd)(T:Txt mg)(Dending:Def P w K mg base CX0 9 "ending" ["roll","table","end"] (spD K C 3 2 Dl.Yz)):Zao P w K mg base CX0 10 f fd ["roll","table","tops","end"] (spD K C 4 2 Dl.Jz):=by
  refine F.okC Zho (Γ':=[]) (Δ':=[]) rfl fun cdv A outer s H E hr=>?_
  have sc:=Zho
  have hu:_+64<cLine:=hr.units
  exact ⟨_,(Zg [] [] (Jo (Xo (r:=Zlh K) (Zaj hu) Zam (Zx K (Zj 2) (Zj 3) Xk) (Zx K (Zj 2) (Zr Zeg Zbu (Zj 3) Ze) plain_bin) (Xp _)) (Zk (Xc Zza)) Xq)
      (Zg [] [] (Jv [] [] PassesOwn.never rfl (Yr (Zp Dending (hr.mono (by decide)) rfl Xi (Zb (Zj 0) (Zb (Zj 1) (Zb (Zj 3) Zh Za) Za) Za) (he:=Za))) (Yp (i:=4) (hN:=sc.nd) (hi:=rfl) (hx:=Or.inl rfl)) (Zk (Jo (Xo (r:=Zlh K) (Zaj hu) Zam (Zr Zw Zv (Zx K (Zj 2) (Zr Zeg Zbu (Zj 3) (Zx K (Zj 4) Ze Zl)) plain_bin) (Zx K (Zj 4) Ze Zl)) (Zx K (Zj 2) (Zj 3) Xk) (Xp _)) (Zk (Xc (Xm (Zj 4)))) Xq)))
      (Zk (Xc Zza))))⟩
theorem Zna (F:Fun K "best_steps" "best_steps" Zea f fd)(T:Txt mg)(Dending:Def P w K mg base CX0 9 "ending" ["roll","table","end"] (spD K C 3 2 Dl.Yz)):Zao P w K mg base CX0 10 f fd ["roll","table","tops","end"] (spD K C 4 2 Dl.Yv):=by
  refine F.okC Zfz (Γ':=[]) (Δ':=[]) rfl fun cdv A outer s H E hr=>?_
  have sc:=Zfz
  have hu:_+64<cLine:=hr.units
  exact ⟨_,(Zg [4] [4] (Zu (i:=4) sc.nd rfl (Or.inl rfl) (Yl Zh))
      (Zg [4] [4] (Jo (Xo (r:=Zlh K) (Zaj hu) Zam (Zx K (Zj 2) (Zr Zeg Zbu (Zj 3) Ze) plain_bin) (Zx K (Zj 2) (Zj 3) Xk) (Xp _)) (Zk (Zcn (i:=4) (he:=(Zgj (Zi (Zr Zeg Zbu (Zj 3) Ze) (Zi (Yl Zh) Zh Zcs) Xd))) (hse:=Zdg))) Xq)
      (Zg [4] [4] (Jv [4] [4] PassesOwn.never rfl (Yr (Zp Dending (hr.mono (by decide)) rfl Xi (Zb (Zj 0) (Zb (Zj 1) (Zb (Zj 3) Zh Za) Za) Za) (he:=Za))) (Yp (i:=5) (hN:=sc.nd) (hi:=rfl) (hx:=Or.inl rfl)) (Zbw [4,6] [4,6] (Zg [4,6] [4,6] (Zu (i:=6) sc.nd rfl (Or.inl rfl) (Zr Zeg Zbu (Zj 3) (Zx K (Zj 5) Ze Zl)))
      (Zk (Jo (Xo (r:=Zlh K) (Zaj hu) Zam (Zr Zw Zv (Zx K (Zj 2) (Zj 6) Xk) (Zx K (Zj 5) Ze Zl)) (Zx K (Zj 2) (Zj 3) Xk) (Xp _)) (Zk (Zcn (i:=4) (he:=(Zgj (Zi (Xm (Zj 6)) (Zi (Yl (Zi (Zgj (Zi (Xm (Zj 6)) (Zi (Xm (Zx K (Zj 5) Ze Zl)) Zh Yf) Za)) Zh Zdg)) Zh Zcs) Za))) (hse:=Zdg))) Xq)))))
      (Zk (Xc (Zol 4))))))⟩
theorem Znb (F:Fun K "_law_drawn" "_law_drawn" Zdw f fd)(T:Txt mg)(D_law_flaw:Def P w K mg base CX0 9 "_law_flaw" ["_law_script","_law_place","_law_most"] (spD K C 3 2 Dl.Zaz))(D_law_roll:Def P w K mg base CX0 9 "_law_roll" ["_law_script","_law_place","_law_most","_law_flaw_here"] (spD K C 4 2 Dl.Zav))(D_law_table:Def P w K mg base CX0 9 "_law_table" ["_law_script","_law_place","_law_most"] (spD K C 3 2 Dl.Zac)):Zao P w K mg base CX0 10 f fd ["_law_script","_law_place","_law_most","_law_kinds"] (spD K C 4 2 Dl.Zad):=by
  refine F.okC Zfx (Γ':=[]) (Δ':=[]) rfl fun cdv A outer s H E hr=>?_
  have sc:=Zfx
  have hu:_+64<cLine:=hr.units
  exact ⟨_,(Zg [4] [4] (Zu (i:=4) sc.nd rfl (Or.inl rfl) (Zp D_law_flaw (hr.mono (by decide)) rfl Xi (Zb (Zj 0) (Zb (Zj 1) (Zb (Zj 3) Zh Za) Za) Za) (he:=Za)))
      (Zk (Xc (Zgj (Zi (Zp D_law_roll (hr.mono (by decide)) rfl Xi (Zb (Zj 0) (Zb (Zr Zw Zv (Zj 1) Ze) (Zb (Zj 2) (Zb (Zj 4) Zh Za) Za) Xd) Za) (he:=Za)) (Zi (Zp D_law_table (hr.mono (by decide)) rfl Xi (Zb (Zj 0) (Zb (Zj 1) (Zb (Zj 3) Zh Za) Za) Za) (he:=Za)) Zh Zo) Zo)))))⟩
theorem Zzh (F:Fun K "heights" "heights" Zlf f fd)(T:Txt mg)(Dnext_top:Def P w K mg base CX0 10 "next_top" ["roll","table","tops"] (spD K C 3 2 Dl.Zbn)):Zao P w K mg base CX0 11 f fd ["roll","table"] (spD K C 2 2 Dl.Xv):=by
  refine F.okC Zlj (Γ':=[]) (Δ':=[]) rfl fun cdv A outer s H E hr=>?_
  have sc:=Zlj
  have hu:_+64<cLine:=hr.units
  exact ⟨_,(Zg [2] [2] (Zu (i:=2) sc.nd rfl (Or.inl rfl) (Yl (Zi Ze Zh Zf)))
      (Zg [2] [2] (Zqm 100000 PassesOwn.never (Xo Xpb Xgr (Xn (r:=Zba K) Xr Yw rfl T.len PySem.boot_len (Zb (Zj 2) Zh Za) (he:=Za)) (Xn (r:=Zba K) Xr Yw rfl T.len PySem.boot_len (Zb (Zj 0) Zh Za) (he:=Za)) (Xp _)) (Zk (Zcn (i:=2) (he:=(Zp Dnext_top (hr.mono (by decide)) rfl Xi (Zb (Zj 0) (Zb (Zj 1) (Zb (Zj 2) Zh Za) Za) Za) (he:=Za))) (hse:=Zo))))
      (Zk (Xc (Zol 2)))))⟩
theorem Zja (F:Fun K "told_cutting" "told_cutting" Zby f fd)(T:Txt mg)(Dlast_kind:Def P w K mg base CX0 10 "last_kind" ["roll","table","tops","end"] (spD K C 4 2 Dl.Jz)):Zao P w K mg base CX0 11 f fd ["roll","table","tops","end"] (spD K C 4 2 Dl.Je):=by
  refine F.okC Zdk (Γ':=[]) (Δ':=[]) rfl fun cdv A outer s H E hr=>?_
  have sc:=Zdk
  have hu:_+64<cLine:=hr.units
  exact ⟨_,(Zg [4] [4] (Zu (i:=4) sc.nd rfl (Or.inl rfl) (Yl Zh))
      (Zg [4] [4] (Zqm 100000 PassesOwn.never (Xo Zmv Zgb (Zj 3) Ze (Xp _)) (Zbw [3,4,5] [3,4,5] (Zg [4,5] [4,5] (Zu (i:=5) sc.nd rfl (Or.inl rfl) (Zp Dlast_kind (hr.mono (by decide)) rfl Xi (Zb (Zj 0) (Zb (Zj 1) (Zb (Zj 2) (Zb (Zj 3) Zh Za) Za) Za) Za) (he:=Za)))
      (Zk (Jo (Xo Xor Xos (Zj 5) Zza (Xp _)) (Zk (Xfk (i:=3) Zzg Xgy sc.nd rfl (Or.inl rfl) Ze)) (Zg [3,4,5] [3,4,5] (Xfk (i:=3) Zzg Xgy sc.nd rfl (Or.inl rfl) (Zx K (Zj 5) Ze Zl))
      (Zk (Zcn (i:=4) (he:=(Zgj (Zi (Xm (Zj 3)) (Zi (Xm (Zx K (Zj 5) Ze Zl)) Zh Yf) Za))) (hse:=Zdg)))))))))
      (Zk (Xc (Zki K rfl T.list rfl T.reversed (Zj 4) Za)))))⟩
theorem Xio (F:Fun K "tails" "tails" Zwu f fd)(T:Txt mg)(Dheights:Def P w K mg base CX0 11 "heights" ["roll","table"] (spD K C 2 2 Dl.Xv))(Dturned:Def P w K mg base CX0 7 "turned" ["roll"] (spD K C 1 2 Dl.Zca)):Zao P w K mg base CX0 12 f fd ["roll","table"] (spD K C 2 2 Dl.Zdv):=by
 refine F.okC Zww (Γ':=[]) (Δ':=[]) rfl fun cdv A outer s H E hr=>?_
 have sc:=Zww
 have hu:_+64<cLine:=hr.units
 exact ⟨_,(Zk (Xc (Zki K rfl T.list rfl T.reversed (Zp Dheights (hr.mono (by decide)) rfl Xi (Zb (Zp Dturned (hr.mono (by decide)) rfl Xi (Zb (Zj 0) Zh Za) (he:=Za)) (Zb (Zj 1) Zh Za) Zo) (he:=Zo)) Zo)))⟩
theorem Xsl (F:Fun K "best" "best" Xki f fd)(T:Txt mg)(Dheights:Def P w K mg base CX0 11 "heights" ["roll","table"] (spD K C 2 2 Dl.Xv))(Dtold_cutting:Def P w K mg base CX0 11 "told_cutting" ["roll","table","tops","end"] (spD K C 4 2 Dl.Je)):Zao P w K mg base CX0 12 f fd ["roll","table"] (spD K C 2 2 Dl.Zjq):=by
  refine F.okC Xfq (Γ':=[]) (Δ':=[]) rfl fun cdv A outer s H E hr=>?_
  have sc:=Xfq
  have hu:_+64<cLine:=hr.units
  exact ⟨_,(Zg [2] [2] (Zu (i:=2) sc.nd rfl (Or.inl rfl) (Zp Dheights (hr.mono (by decide)) rfl Xi (Zb (Zj 0) (Zb (Zj 1) Zh Za) Za) (he:=Za)))
      (Zk (Xc (Zgj (Zi (Xm (Zx K (Zj 2) (Zft Ze) Zcb)) (Zi (Zp Dtold_cutting (hr.mono (by decide)) rfl Xi (Zb (Zj 0) (Zb (Zj 1) (Zb (Zj 2) (Zb (Xn (r:=Zba K) Xr Yw rfl T.len PySem.boot_len (Zb (Zj 0) Zh Za) (he:=Za)) Zh Zo) Za) Za) Za) (he:=Za)) Zh Zo) Yf)))))⟩
theorem Zkd (F:Fun K "best_counts" "best_counts" Zbe f fd)(T:Txt mg)(Dheights:Def P w K mg base CX0 11 "heights" ["roll","table"] (spD K C 2 2 Dl.Xv))(Dbest_steps:Def P w K mg base CX0 10 "best_steps" ["roll","table","tops","end"] (spD K C 4 2 Dl.Yv)):Zao P w K mg base CX0 12 f fd ["roll","table"] (spD K C 2 2 Dl.Yh):=by
  refine F.okC Zef (Γ':=[]) (Δ':=[]) rfl fun cdv A outer s H E hr=>?_
  have sc:=Zef
  have hu:_+64<cLine:=hr.units
  exact ⟨_,(Zg [2] [2] (Zu (i:=2) sc.nd rfl (Or.inl rfl) (Zp Dheights (hr.mono (by decide)) rfl Xi (Zb (Zj 0) (Zb (Zj 1) Zh Za) Za) (he:=Za)))
      (Zg [2,3] [2,3] (Zu (i:=3) sc.nd rfl (Or.inr rfl) (Yl (Zi Ze Zh Zf)))
      (Zg [2,3] [2,3] (Jv [2,3] [2,3] PassesOwn.never rfl (Xkd rfl T.range (Zb Ze (Zb (Zr Zw Zv (Xn (r:=Zba K) Xr Yw rfl T.len PySem.boot_len (Zb (Zj 0) Zh Za) (he:=Za)) Ze) Zh Xd) Zf)) (Yp (i:=4) (hN:=sc.nd) (hi:=rfl) (hx:=Or.inl rfl)) (Zbw [2,3,5] [2,3,5] (Zg [2,3,5] [2,3,5] (Zu (i:=5) sc.nd rfl (Or.inl rfl) (Zp Dbest_steps (hr.mono (by decide)) rfl Xi (Zb (Zj 0) (Zb (Zj 1) (Zb (Zj 2) (Zb (Zj 4) Zh Za) Za) Za) Za) (he:=Za)))
      (Zk (Zcn (i:=3) (he:=(Xn (r:=Xqr K) (Zrx rfl) Zys rfl T.sum PyProof.Rows.boot_sum (Zb (Zif (n:=6) (Zn Zbe) ["roll","table","tops","numbers","end","steps"] ["roll","table","tops","numbers","end","steps"] ["step"] ⟨rfl,by decide +kernel,by decide +kernel,by decide +kernel,by decide +kernel,by decide +kernel,rfl,by decide +kernel⟩ (Yr (Zj 5)) (fun _ _ _ _ _=>(Zec 6 (hN:=(by decide +kernel:List.Nodup (["roll","table","tops","numbers","end","steps","step"]:List Str))))) (fun _ _ _ _ _=>Zkm) (fun _ _ _ _ _=>(Xm (Zx K (Zj 3 (hv:=Or.inr (Or.inl rfl))) (Zx K (Zj 6 (hv:=Or.inl rfl)) Ze Zl) Jg)))) Zh Zid) (he:=Zid))) (hse:=Zo))))))
      (Zk (Xc (Zol 3))))))⟩
theorem Zmq (F:Fun K "best_count" "best_count" Zdr f fd)(T:Txt mg)(Dbest_counts:Def P w K mg base CX0 12 "best_counts" ["roll","table"] (spD K C 2 2 Dl.Yh)):Zao P w K mg base CX0 13 f fd ["roll","table"] (spD K C 2 2 Dl.Yg):=by
 refine F.okC Zfy (Γ':=[]) (Δ':=[]) rfl fun cdv A outer s H E hr=>?_
 have sc:=Zfy
 have hu:_+64<cLine:=hr.units
 exact ⟨_,(Zk (Xc (Xm (Zx K (Zp Dbest_counts (hr.mono (by decide)) rfl Xi (Zb (Zj 0) (Zb (Zj 1) Zh Za) Za) (he:=Za)) (Zft Ze) Zcb))))⟩
theorem Xps (F:Fun K "mays" "mays" Zzv f fd)(T:Txt mg)(Dheights:Def P w K mg base CX0 11 "heights" ["roll","table"] (spD K C 2 2 Dl.Xv))(Dtails:Def P w K mg base CX0 12 "tails" ["roll","table"] (spD K C 2 2 Dl.Zdv))(Dall_pieces:Def P w K mg base CX0 9 "all_pieces" ["roll","table"] (spD K C 2 2 Dl.Xy))(Dgreatest_with:Def P w K mg base CX0 9 "greatest_with" ["table","tops","rests","piece"] (spD K C 4 2 Dl.Xj)):Zao P w K mg base CX0 13 f fd ["roll","table"] (spD K C 2 2 Dl.Zfv):=by
  refine F.okC Xgu (Γ':=[]) (Δ':=[]) rfl fun cdv A outer s H E hr=>?_
  have sc:=Xgu
  have hu:_+64<cLine:=hr.units
  exact ⟨_,(Zg [2] [2] (Zu (i:=2) sc.nd rfl (Or.inr rfl) (Zp Dheights (hr.mono (by decide)) rfl Xi (Zb (Zj 0) (Zb (Zj 1) Zh Za) Za) (he:=Za)))
      (Zg [2,3] [2,3] (Zu (i:=3) sc.nd rfl (Or.inr rfl) (Zp Dtails (hr.mono (by decide)) rfl Xi (Zb (Zj 0) (Zb (Zj 1) Zh Za) Za) (he:=Za)))
      (Zk (Xc (Zif (n:=4) (Zn Zzv) ["roll","table","tops","rests"] ["roll","table","tops","rests"] ["piece"] ⟨rfl,by decide +kernel,by decide +kernel,by decide +kernel,by decide +kernel,by decide +kernel,rfl,by decide +kernel⟩ (Yr (Zp Dall_pieces (hr.mono (by decide)) rfl Xi (Zb (Zj 0) (Zb (Zj 1) Zh Za) Za) (he:=Za))) (fun _ _ _ _ _=>(Zec 4 (hN:=(by decide +kernel:List.Nodup (["roll","table","tops","rests","piece"]:List Str))))) (fun _ _ _ _ _=>Zof (Xo (r:=Zlh K) (Zaj hu) Zam (Zp Dgreatest_with (hr.mono (by decide)) rfl Xi (Zb (Zj 1 (hv:=Or.inr (Or.inl rfl))) (Zb (Zj 2 (hv:=Or.inr (Or.inl rfl))) (Zb (Zj 3 (hv:=Or.inr (Or.inl rfl))) (Zb (Zj 4 (hv:=Or.inl rfl)) Zh Za) Za) Za) Za) (he:=Za)) (Zx K (Zj 2 (hv:=Or.inr (Or.inl rfl))) (Zft Ze) Zcb) (Xp _))) (fun _ _ _ _ _=>(Xm (Zj 4 (hv:=Or.inl rfl)))))))))⟩
theorem Xpq (F:Fun K "loss" "loss" Xlw f fd)(T:Txt mg)(Dheights:Def P w K mg base CX0 11 "heights" ["roll","table"] (spD K C 2 2 Dl.Xv))(Dall_pieces:Def P w K mg base CX0 9 "all_pieces" ["roll","table"] (spD K C 2 2 Dl.Xy))(Dgreatest_with:Def P w K mg base CX0 9 "greatest_with" ["table","tops","rests","piece"] (spD K C 4 2 Dl.Xj))(Dtails:Def P w K mg base CX0 12 "tails" ["roll","table"] (spD K C 2 2 Dl.Zdv)):Zao P w K mg base CX0 13 f fd ["roll","table","piece"] (spD K C 3 2 Dl.Zlt):=by
  refine F.okC Xfz (Γ':=[]) (Δ':=[]) rfl fun cdv A outer s H E hr=>?_
  have sc:=Xfz
  have hu:_+64<cLine:=hr.units
  exact ⟨_,(Zg [] [] (Jo (Xo (r:=Zzj K true) (Zev hu) Zeq (Zj 2) (Zp Dall_pieces (hr.mono (by decide)) rfl Xi (Zb (Zj 0) (Zb (Zj 1) Zh Za) Za) (he:=Za)) rfl) (Zk Zgy) Xq)
      (Zg [3] [3] (Zu (i:=3) sc.nd rfl (Or.inl rfl) (Zp Dheights (hr.mono (by decide)) rfl Xi (Zb (Zj 0) (Zb (Zj 1) Zh Za) Za) (he:=Za)))
      (Zk (Xc (Zr Zeg Zbu (Zx K (Zj 3) (Zft Ze) Zcb) (Zp Dgreatest_with (hr.mono (by decide)) rfl Xi (Zb (Zj 1) (Zb (Zj 3) (Zb (Zp Dtails (hr.mono (by decide)) rfl Xi (Zb (Zj 0) (Zb (Zj 1) Zh Za) Za) (he:=Za)) (Zb (Zj 2) Zh Za) Zo) Za) Za) (he:=Za)))))))⟩
theorem Ztc (F:Fun K "all_best" "all_best" Zcp f fd)(T:Txt mg)(Dheights:Def P w K mg base CX0 11 "heights" ["roll","table"] (spD K C 2 2 Dl.Xv))(Dbest_count:Def P w K mg base CX0 13 "best_count" ["roll","table"] (spD K C 2 2 Dl.Yg))(Dbest_steps:Def P w K mg base CX0 10 "best_steps" ["roll","table","tops","end"] (spD K C 4 2 Dl.Yv)):Zao P w K mg base CX0 14 f fd ["roll","table","most"] (spD K C 3 2 Dl.Jx):=by
  refine F.okC Zjf (Γ':=[]) (Δ':=[]) rfl fun cdv A outer s H E hr=>?_
  have sc:=Zjf
  have hu:_+64<cLine:=hr.units
  exact ⟨_,(Zg [] [] (Jo (Xo Zmv Zgb (Zp Dbest_count (hr.mono (by decide)) rfl Xi (Zb (Zj 0) (Zb (Zj 1) Zh Za) Za) (he:=Za)) (Zj 2) (Xp _)) (Zk Zgy) Xq)
      (Zg [3] [3] (Zu (i:=3) sc.nd rfl (Or.inl rfl) (Zp Dheights (hr.mono (by decide)) rfl Xi (Zb (Zj 0) (Zb (Zj 1) Zh Za) Za) (he:=Za)))
      (Zg [3,4] [3,4] (Zxj (i:=4) (n:=8) (Zn Zcp) ["roll","table","most","tops","behind","end","begin","pieces"] ["roll","table","most","tops","behind","end","begin","pieces"] ["top"] ⟨rfl,by decide +kernel,by decide +kernel,by decide +kernel,by decide +kernel,by decide +kernel,rfl,by decide +kernel⟩ rfl rfl (Yr (Zj 3)) (fun _ _ _ _ _=>(Zec 8 (hN:=(by decide +kernel:List.Nodup (["roll","table","most","tops","behind","end","begin","pieces","top"]:List Str))))) (fun _ _ _ _ _=>Zkm) (fun _ _ _ _ _=>(Yl Zh)))
      (Zg [3,4] [3,4] (Xeo (i:=4) (Zft Ze) Zcb (Yl Zh) Zcs)
      (Zg [3,4] [3,4] (Jv [3,4] [3,4] PassesOwn.never rfl (Xji rfl T.range (Zb (Xn (r:=Zba K) Xr Yw rfl T.len PySem.boot_len (Zb (Zj 0) Zh Za) (he:=Za)) (Zb Ze (Zb (Zft Ze) Zh Xmj) Zf) Zo)) (Yp (i:=5) (hN:=sc.nd) (hi:=rfl) (hx:=Or.inl rfl)) (Zk (Jv [3,4] [3,4] PassesOwn.never rfl (Yr (Zp Dbest_steps (hr.mono (by decide)) rfl Xi (Zb (Zj 0) (Zb (Zj 1) (Zb (Zj 3) (Zb (Zj 5) Zh Za) Za) Za) Za) (he:=Za))) (Xsm rfl (Zsb (Yp (i:=6) (hN:=sc.nd) (hi:=rfl) (hx:=Or.inl rfl)) (Zsb (Yp (i:=7) (hN:=sc.nd) (hi:=rfl) (hx:=Or.inr rfl)) Xjl))) (Zk (Xcb (i:=4) (Zj 6) Xk (Zif (n:=8) (Zn Zcp) ["roll","table","most","tops","behind","end","begin","pieces"] ["roll","table","most","tops","behind","end","begin","pieces"] ["later"] ⟨rfl,by decide +kernel,by decide +kernel,by decide +kernel,by decide +kernel,by decide +kernel,rfl,by decide +kernel⟩ (Yr (Zx K (Zj 4) (Zj 5) Xk)) (fun _ _ _ _ _=>(Zec 8 (hN:=(by decide +kernel:List.Nodup (["roll","table","most","tops","behind","end","begin","pieces","later"]:List Str))))) (fun _ _ _ _ _=>Zkm) (fun _ _ _ _ _=>(Zr Zw Zv (Zj 7 (hv:=Or.inr (Or.inl rfl))) (Zj 8 (hv:=Or.inl rfl))))) Zid)))))
      (Zk (Xc (Zxe K hu rfl T.sorted (Xrt K 4 Ze Zl) Yf))))))))⟩
theorem Xmd (F:Fun K "musts" "musts" Zqa f fd)(T:Txt mg)(Dbest_counts:Def P w K mg base CX0 12 "best_counts" ["roll","table"] (spD K C 2 2 Dl.Yh))(Dmays:Def P w K mg base CX0 13 "mays" ["roll","table"] (spD K C 2 2 Dl.Zfv))(Dturned:Def P w K mg base CX0 7 "turned" ["roll"] (spD K C 1 2 Dl.Zca))(Dend_of:Def P w K mg base CX0 8 "end_of" ["table","piece"] (spD K C 2 2 Dl.Zbb)):Zao P w K mg base CX0 14 f fd ["roll","table"] (spD K C 2 2 Dl.Zhx):=by
  refine F.okC Zuh (Γ':=[]) (Δ':=[]) rfl fun cdv A outer s H E hr=>?_
  have sc:=Zuh
  have hu:_+64<cLine:=hr.units
  exact ⟨_,(Zg [2] [2] (Zu (i:=2) sc.nd rfl (Or.inr rfl) (Zp Dbest_counts (hr.mono (by decide)) rfl Xi (Zb (Zj 0) (Zb (Zj 1) Zh Za) Za) (he:=Za)))
      (Zg [2,3] [2,3] (Zu (i:=3) sc.nd rfl (Or.inr rfl) (Zki K rfl T.list rfl T.reversed (Zp Dbest_counts (hr.mono (by decide)) rfl Xi (Zb (Zp Dturned (hr.mono (by decide)) rfl Xi (Zb (Zj 0) Zh Za) (he:=Za)) (Zb (Zj 1) Zh Za) Zo) (he:=Zo)) Zo))
      (Zk (Xc (Zif (n:=4) (Zn Zqa) ["roll","table","ahead","behind"] ["roll","table","ahead","behind"] ["piece"] ⟨rfl,by decide +kernel,by decide +kernel,by decide +kernel,by decide +kernel,by decide +kernel,rfl,by decide +kernel⟩ (Yr (Zp Dmays (hr.mono (by decide)) rfl Xi (Zb (Zj 0) (Zb (Zj 1) Zh Za) Za) (he:=Za))) (fun _ _ _ _ _=>(Zec 4 (hN:=(by decide +kernel:List.Nodup (["roll","table","ahead","behind","piece"]:List Str))))) (fun _ _ _ _ _=>Zof (Xo (r:=Zlh K) (Zaj hu) Zam (Zr Xmi Xbf (Zx K (Zj 2 (hv:=Or.inr (Or.inl rfl))) (Zx K (Zj 4 (hv:=Or.inl rfl)) Ze Zl) Jg) (Zx K (Zj 3 (hv:=Or.inr (Or.inl rfl))) (Zp Dend_of (hr.mono (by decide)) rfl Xi (Zb (Zj 1 (hv:=Or.inr (Or.inl rfl))) (Zb (Zj 4 (hv:=Or.inl rfl)) Zh Za) Za) (he:=Za)) Zjo)) (Zx K (Zj 2 (hv:=Or.inr (Or.inl rfl))) (Zft Ze) Zcb) (Xp _))) (fun _ _ _ _ _=>(Xm (Zj 4 (hv:=Or.inl rfl)))))))))⟩
theorem Zeb (F:Fun K "_law_listed_right" "_law_listed_right" Jq f fd)(T:Txt mg)(Dall_best:Def P w K mg base CX0 14 "all_best" ["roll","table","most"] (spD K C 3 2 Dl.Jx))(Dbest_count:Def P w K mg base CX0 13 "best_count" ["roll","table"] (spD K C 2 2 Dl.Yg))(D_law_is_cutting:Def P w K mg base CX0 8 "_law_is_cutting" ["_law_found"] (spD K C 1 2 Dl.Xg)):Zao P w K mg base CX0 15 f fd ["_law_roll_here","_law_table_here","_law_some","_law_every","_law_told"] (spD K C 5 2 Dl.Yc):=by
  refine F.okC Zax (Γ':=[]) (Δ':=[]) rfl fun cdv A outer s H E hr=>?_
  have sc:=Zax
  have hu:_+64<cLine:=hr.units
  exact ⟨_,(Zg [5] [5] (Zu (i:=5) sc.nd rfl (Or.inl rfl) (Zp Dall_best (hr.mono (by decide)) rfl Xi (Zb (Xu (r:=Zbo K) (Xl rfl) Yj rfl T.list PyProof.Rows.boot_list (Zb (Zj 0) Zh Za) (he:=Za)) (Zb (Xu (r:=Zbo K) (Xl rfl) Yj rfl T.list PyProof.Rows.boot_list (Zb (Zj 1) Zh Za) (he:=Za)) (Zb Ze Zh Zf) Zo) Zo) (he:=Zo)))
      (Zg [5,6] [5,6] (Zu (i:=6) sc.nd rfl (Or.inl rfl) Xmu)
      (Zg [6] [6] (Jv [6] [6] PassesOwn.never rfl (Yr (Zj 5)) (Yp (i:=7) (hN:=sc.nd) (hi:=rfl) (hx:=Or.inl rfl)) (Zg [6] [6] (Jo (Zhc (Zfa (Zp D_law_is_cutting (hr.mono (by decide)) rfl Xi (Zb (Zj 7) Zh Za) (he:=Za)))) (Zk (Xc Zgn)) Xq)
      (Zk (Jv [6] [6] PassesOwn.never rfl (Yr (Zj 7)) (Yp (i:=8) (hN:=sc.nd) (hi:=rfl) (hx:=Or.inl rfl)) (Zk (Xlf (i:=6) (he:=(Zr Zw Zv (Zor (Zj 6) (Zj 8) Ze hu) Ze)) (hk:=(Zj 8)) (hu:=hu)))))))
      (Zg [6] [6] (Jo (Xak (Zii (Xo (r:=Xno K) (Zqs hu) Zpu (Xmb rfl T.len (Zj 6) Za) (Xn (r:=Zba K) Xr Yw rfl T.len PySem.boot_len (Zb (Zj 2) Zh Za) (he:=Za)) (Xp _)) (Zep (Xo (r:=Zzj K true) (Zev hu) Zeq (Zj 4) (Zj 5) rfl)))) (Zk (Xc Zgn)) Xq)
      (Zg [6] [6] (Jv [6] [6] PassesOwn.never rfl (Yr (Zj 2)) (Yp (i:=8) (hN:=sc.nd) (hi:=rfl) (hx:=Or.inl rfl)) (Zk (Jo (Xak (Zii (Xo (r:=Xno K) (Zqs hu) Zpu (Zjv (r:=Zlh K) (Zaj hu) Zam (Zor (Zj 6) (Zj 8) Ze hu) (Xn (r:=Zba K) Xr Yw rfl T.len PySem.boot_len (Zb (Zj 5) Zh Za) (he:=Za)) (Xp _)) (Zjv (r:=Zzj K false) (Xfr hu) Xhf (Zj 8) (Zj 3) rfl) (Xp _)) (Zep (Xo (r:=Zlh K) (Zaj hu) Zam (Zor (Zj 6) (Zj 8) Ze hu) Ze (Xp _))))) (Zk (Xc Zgn)) Xq)))
      (Zk (Xc (Zjv (r:=Zlh K) (Zaj hu) Zam (Xn (r:=Zba K) Xr Yw rfl T.len PySem.boot_len (Zb (Zj 5) Zh Za) (he:=Za)) (Zp Dbest_count (hr.mono (by decide)) rfl Xi (Zb (Xu (r:=Zbo K) (Xl rfl) Yj rfl T.list PyProof.Rows.boot_list (Zb (Zj 0) Zh Za) (he:=Za)) (Zb (Xu (r:=Zbo K) (Xl rfl) Yj rfl T.list PyProof.Rows.boot_list (Zb (Zj 1) Zh Za) (he:=Za)) Zh Zo) Zo) (he:=Zo)) (Xp _)))))))))⟩
theorem oklaw (F:Fun K "law" "law" Xnu f fd)(T:Txt mg)(D_law_drawn:Def P w K mg base CX0 10 "_law_drawn" ["_law_script","_law_place","_law_most","_law_kinds"] (spD K C 4 2 Dl.Zad))(Dbest:Def P w K mg base CX0 12 "best" ["roll","table"] (spD K C 2 2 Dl.Zjq))(Dmays:Def P w K mg base CX0 13 "mays" ["roll","table"] (spD K C 2 2 Dl.Zfv))(Dmusts:Def P w K mg base CX0 14 "musts" ["roll","table"] (spD K C 2 2 Dl.Zhx))(Dall_pieces:Def P w K mg base CX0 9 "all_pieces" ["roll","table"] (spD K C 2 2 Dl.Xy))(D_law_listed_right:Def P w K mg base CX0 15 "_law_listed_right" ["_law_roll_here","_law_table_here","_law_some","_law_every","_law_told"] (spD K C 5 2 Dl.Yc))(Dloss:Def P w K mg base CX0 13 "loss" ["roll","table","piece"] (spD K C 3 2 Dl.Zlt))(Dbest_count:Def P w K mg base CX0 13 "best_count" ["roll","table"] (spD K C 2 2 Dl.Yg))(D_law_row:Def P w K mg base CX0 8 "_law_row" ["_law_script","_law_place","_law_sizes"] (spD K C 3 2 Dl.Ya))(D_law_is_cutting:Def P w K mg base CX0 8 "_law_is_cutting" ["_law_found"] (spD K C 1 2 Dl.Xg)):Zao P w K mg base CX0 16 f fd ["_law_script"] (spD K C 1 2 Dl.Xix):=by
  refine F.okC Xrd (Γ':=[]) (Δ':=[]) rfl fun cdv A outer s H E hr=>?_
  have sc:=Xrd
  have hu:_+64<cLine:=hr.units
  exact ⟨_,(Zg [1] [1] (Zu (i:=1) sc.nd rfl (Or.inl rfl) Ze)
      (Zg [1] [1] (Jo (Xo (r:=Zlh K) (Zaj hu) Zam (Zx K (Zp D_law_row (hr.mono (by decide)) rfl Xi (Zb (Zj 0) (Zb Ze (Zb (Yl (Zi Ze Zh Zf)) Zh Zcs) Zf) Za) (he:=Za)) Ze Zl) Ze (Xp _)) (Zk (Zu (i:=1) sc.nd rfl (Or.inl rfl) Ze)) Xq)
      (Zg [1,2,3] [1,2,3] (Zmi rfl (Zp D_law_drawn (hr.mono (by decide)) rfl Xi (Zb (Zj 0) (Zb Ze (Zb (Zj 1) (Zb Ze Zh Zf) Za) Zf) Za) (he:=Za)) (Zkx (i:=2) sc.nd rfl (Or.inl rfl) (Zkx (i:=3) sc.nd rfl (Or.inl rfl) Xgx)))
      (Zg [1,2,3,4,5] [1,2,3,4,5] (Zmi rfl (Zp Dbest (hr.mono (by decide)) rfl Xi (Zb (Xu (r:=Zbo K) (Xl rfl) Yj rfl T.list PyProof.Rows.boot_list (Zb (Zj 2) Zh Za) (he:=Za)) (Zb (Xu (r:=Zbo K) (Xl rfl) Yj rfl T.list PyProof.Rows.boot_list (Zb (Zj 3) Zh Za) (he:=Za)) Zh Zo) Zo) (he:=Zo)) (Zkx (i:=4) sc.nd rfl (Or.inl rfl) (Zkx (i:=5) sc.nd rfl (Or.inl rfl) Xgx)))
      (Zg [1,2,3,4,5,6] [1,2,3,4,5,6] (Zu (i:=6) sc.nd rfl (Or.inl rfl) (Zp Dmays (hr.mono (by decide)) rfl Xi (Zb (Xu (r:=Zbo K) (Xl rfl) Yj rfl T.list PyProof.Rows.boot_list (Zb (Zj 2) Zh Za) (he:=Za)) (Zb (Xu (r:=Zbo K) (Xl rfl) Yj rfl T.list PyProof.Rows.boot_list (Zb (Zj 3) Zh Za) (he:=Za)) Zh Zo) Zo) (he:=Zo)))
      (Zg [1,2,3,4,5,6,7] [1,2,3,4,5,6,7] (Zu (i:=7) sc.nd rfl (Or.inl rfl) (Zp Dmusts (hr.mono (by decide)) rfl Xi (Zb (Xu (r:=Zbo K) (Xl rfl) Yj rfl T.list PyProof.Rows.boot_list (Zb (Zj 2) Zh Za) (he:=Za)) (Zb (Xu (r:=Zbo K) (Xl rfl) Yj rfl T.list PyProof.Rows.boot_list (Zb (Zj 3) Zh Za) (he:=Za)) Zh Zo) Zo) (he:=Zo)))
      (Zg [1,2,3,4,5,6,7] [1,2,3,4,5,6,7] (Jo (Xak (Zii (Zhc (Zfa (Zp D_law_is_cutting (hr.mono (by decide)) rfl Xi (Zb (Zj 6) Zh Za) (he:=Za)))) (Zep (Zhc (Zfa (Zp D_law_is_cutting (hr.mono (by decide)) rfl Xi (Zb (Zj 7) Zh Za) (he:=Za))))))) (Zk (Xc Zgn)) Xq)
      (Zg [1,2,3,4,5,6] [1,2,3,4,5,6] (Jv [1,2,3,4,5,6] [1,2,3,4,5,6] PassesOwn.never rfl (Yr (Zj 7)) (Yp (i:=8) (hN:=sc.nd) (hi:=rfl) (hx:=Or.inl rfl)) (Zk (Jo (Xak (Zii (Xo (r:=Zzj K true) (Zev hu) Zeq (Zj 8) (Zj 6) rfl) (Zep (Xo (r:=Zzj K true) (Zev hu) Zeq (Zj 8) (Zj 5) rfl)))) (Zk (Xc Zgn)) Xq)))
      (Zg [1,2,3,4,5,6,9] [1,2,3,4,5,6,9] (Zu (i:=9) sc.nd rfl (Or.inl rfl) (Zp Dall_pieces (hr.mono (by decide)) rfl Xi (Zb (Xu (r:=Zbo K) (Xl rfl) Yj rfl T.list PyProof.Rows.boot_list (Zb (Zj 2) Zh Za) (he:=Za)) (Zb (Xu (r:=Zbo K) (Xl rfl) Yj rfl T.list PyProof.Rows.boot_list (Zb (Zj 3) Zh Za) (he:=Za)) Zh Zo) Zo) (he:=Zo)))
      (Zg [1,2,3,4,5,6,9,10] [1,2,3,4,5,6,9,10] (Zu (i:=10) sc.nd rfl (Or.inl rfl) (Zr Zw Zv Ze (Zr Zke Zpf (Xn (r:=Zba K) Xr Yw rfl T.len PySem.boot_len (Zb (Zj 9) Zh Za) (he:=Za)) Ze)))
      (Zg [1,2,3,4,5,6,9,10] [1,2,3,4,5,6,9,10] (Jv [1,2,3,4,5,6,9,10] [1,2,3,4,5,6,9,10] PassesOwn.never rfl (Xjb rfl T.range (Zb Ze (Zb (Xn (r:=Zba K) Xr Yw rfl T.len PySem.boot_len (Zb (Zj 9) Zh Za) (he:=Za)) (Zb (Zj 10) Zh Za) Zo) Zf)) (Yp (i:=11) (hN:=sc.nd) (hi:=rfl) (hx:=Or.inl rfl)) (Zbw [1,2,3,4,5,6,9,10,12] [1,2,3,4,5,6,9,10,12] (Zg [1,2,3,4,5,6,9,10,12] [1,2,3,4,5,6,9,10,12] (Zu (i:=12) sc.nd rfl (Or.inl rfl) (Zp Dloss (hr.mono (by decide)) rfl Xi (Zb (Xu (r:=Zbo K) (Xl rfl) Yj rfl T.list PyProof.Rows.boot_list (Zb (Zj 2) Zh Za) (he:=Za)) (Zb (Xu (r:=Zbo K) (Xl rfl) Yj rfl T.list PyProof.Rows.boot_list (Zb (Zj 3) Zh Za) (he:=Za)) (Zb (Zx K (Zj 9) (Zj 11) Xk) Zh Yf) Zo) Zo) (he:=Zo)))
      (Zk (Jo (Xak (Zii (Xo (r:=Xno K) (Zqs hu) Zpu (Zjv (r:=Zlh K) (Zaj hu) Zam (Zj 12) Ze (Xp _)) (Zjv (r:=Zzj K false) (Xfr hu) Xhf (Zx K (Zj 9) (Zj 11) Xk) (Zj 6) rfl) (Xp _)) (Zii (Xo Zss Zje (Zj 12) Ze (Xp _)) (Zep (Xo Zmv Zgb (Zj 12) (Zj 4) (Xp _)))))) (Zk (Xc Zgn)) Xq)))))
      (Zg [1,2,3,4,5,6,9,10] [1,2,3,4,5,6,9,10] (Jo (Xo Zmv Zgb (Zp Dbest_count (hr.mono (by decide)) rfl Xi (Zb (Xu (r:=Zbo K) (Xl rfl) Yj rfl T.list PyProof.Rows.boot_list (Zb (Zj 2) Zh Za) (he:=Za)) (Zb (Xu (r:=Zbo K) (Xl rfl) Yj rfl T.list PyProof.Rows.boot_list (Zb (Zj 3) Zh Za) (he:=Za)) Zh Zo) Zo) (he:=Zo)) Ze (Xp _)) (Zk (Xc Zgn)) Xq)
      (Zk (Xc (Zp D_law_listed_right (hr.mono (by decide)) rfl Xi (Zb (Zj 2) (Zb (Zj 3) (Zb (Zj 6) (Zb (Zj 7) (Zb (Zj 5) Zh Za) Za) Za) Za) Za) (he:=Za))))))))))))))))⟩
end
noncomputable def Xim (K:Frag):Sp:=fun vs H Q _=>∃(a:Addr) (ns:List Int),vs=[.ref a]∧FzL K H a (ns.map V.int)∧ns.length≤63∧∀H',Q (.bl true) H'
theorem fz_of {K:Frag}{H:Hp}{a:Addr}{xs:List V}(hO:Only H)(h:SqL K H a xs):FzL K H a xs:=by
 rcases h with (h | h) | h
 ·rcases hO a with z | ⟨o,ys,z⟩
  ·rw [h] at z;cases z
  ·rw [h] at z;cases z
 ·exact .inl h
 ·exact .inr h
theorem Xeh (ns:List Int)(h:ns.length≤63):Dl.Xix [.scr ns]=.ok (.bl true):=Dl.Zte ns h
theorem all_mk {l:PySem.W.OpenLaw}{w:World}{K:Frag}{h:Heap}{mg:Str→Option Value}{fa f1 f2 f3 f4 f5 f6 f7 f8 f9 f10 f11 f12 f13 f14 f15 f16 f17 f18 f19 f20 f21 f22 f23 f24 f25 f26 f27 f28 f29 f30 f31 f32:Addr}(X:K.In h)(G:h.Ns mainGlobals mg)(hfa:mg "law"=some (.ref fa))
  {fd1 fd2 fd3 fd4 fd5 fd6 fd7 fd8 fd9 fd10 fd11 fd12 fd13 fd14 fd15 fd16 fd17 fd18 fd19 fd20 fd21 fd22 fd23 fd24 fd25 fd26 fd27 fd28 fd29 fd30 fd31 fd32:FuncData}
  (a1:nsIn K mainGlobals "spoilt"=some (some (.ref f1))) (F1:Fun K "spoilt" "spoilt" Zox f1 fd1)
  (a2:nsIn K mainGlobals "turned"=some (some (.ref f2))) (F2:Fun K "turned" "turned" Znw f2 fd2)
  (a3:nsIn K mainGlobals "kind_of"=some (some (.ref f3))) (F3:Fun K "kind_of" "kind_of" Zkn f3 fd3)
  (a4:nsIn K mainGlobals "fits"=some (some (.ref f4))) (F4:Fun K "fits" "fits" Xjg f4 fd4)
  (a5:nsIn K mainGlobals "all_pieces"=some (some (.ref f5))) (F5:Fun K "all_pieces" "all_pieces" Zdp f5 fd5)
  (a6:nsIn K mainGlobals "end_of"=some (some (.ref f6))) (F6:Fun K "end_of" "end_of" Zob f6 fd6)
  (a7:nsIn K mainGlobals "ending"=some (some (.ref f7))) (F7:Fun K "ending" "ending" Zkj f7 fd7)
  (a8:nsIn K mainGlobals "next_top"=some (some (.ref f8))) (F8:Fun K "next_top" "next_top" Zfb f8 fd8)
  (a9:nsIn K mainGlobals "heights"=some (some (.ref f9))) (F9:Fun K "heights" "heights" Zlf f9 fd9)
  (a10:nsIn K mainGlobals "tails"=some (some (.ref f10))) (F10:Fun K "tails" "tails" Zwu f10 fd10)
  (a11:nsIn K mainGlobals "last_kind"=some (some (.ref f11))) (F11:Fun K "last_kind" "last_kind" Zfp f11 fd11)
  (a12:nsIn K mainGlobals "told_cutting"=some (some (.ref f12))) (F12:Fun K "told_cutting" "told_cutting" Zby f12 fd12)
  (a13:nsIn K mainGlobals "best"=some (some (.ref f13))) (F13:Fun K "best" "best" Xki f13 fd13)
  (a14:nsIn K mainGlobals "best_steps"=some (some (.ref f14))) (F14:Fun K "best_steps" "best_steps" Zea f14 fd14)
  (a15:nsIn K mainGlobals "best_counts"=some (some (.ref f15))) (F15:Fun K "best_counts" "best_counts" Zbe f15 fd15)
  (a16:nsIn K mainGlobals "best_count"=some (some (.ref f16))) (F16:Fun K "best_count" "best_count" Zdr f16 fd16)
  (a17:nsIn K mainGlobals "all_best"=some (some (.ref f17))) (F17:Fun K "all_best" "all_best" Zcp f17 fd17)
  (a18:nsIn K mainGlobals "greatest_with"=some (some (.ref f18))) (F18:Fun K "greatest_with" "greatest_with" Zbg f18 fd18)
  (a19:nsIn K mainGlobals "mays"=some (some (.ref f19))) (F19:Fun K "mays" "mays" Zzv f19 fd19)
  (a20:nsIn K mainGlobals "musts"=some (some (.ref f20))) (F20:Fun K "musts" "musts" Zqa f20 fd20)
  (a21:nsIn K mainGlobals "loss"=some (some (.ref f21))) (F21:Fun K "loss" "loss" Xlw f21 fd21)
  (a22:nsIn K mainGlobals "_law_cell"=some (some (.ref f22))) (F22:Fun K "_law_cell" "_law_cell" Zfo f22 fd22)
  (a23:nsIn K mainGlobals "_law_mix"=some (some (.ref f23))) (F23:Fun K "_law_mix" "_law_mix" Zhi f23 fd23)
  (a24:nsIn K mainGlobals "_law_row"=some (some (.ref f24))) (F24:Fun K "_law_row" "_law_row" Zhs f24 fd24)
  (a25:nsIn K mainGlobals "_law_table"=some (some (.ref f25))) (F25:Fun K "_law_table" "_law_table" Zed f25 fd25)
  (a26:nsIn K mainGlobals "_law_flaw"=some (some (.ref f26))) (F26:Fun K "_law_flaw" "_law_flaw" Zfg f26 fd26)
  (a27:nsIn K mainGlobals "_law_roll"=some (some (.ref f27))) (F27:Fun K "_law_roll" "_law_roll" Zfe f27 fd27)
  (a28:nsIn K mainGlobals "_law_drawn"=some (some (.ref f28))) (F28:Fun K "_law_drawn" "_law_drawn" Zdw f28 fd28)
  (a29:nsIn K mainGlobals "_law_is_whole"=some (some (.ref f29))) (F29:Fun K "_law_is_whole" "_law_is_whole" Zbj f29 fd29)
  (a30:nsIn K mainGlobals "_law_is_cutting"=some (some (.ref f30))) (F30:Fun K "_law_is_cutting" "_law_is_cutting" Zah f30 fd30)
  (a31:nsIn K mainGlobals "_law_listed_right"=some (some (.ref f31))) (F31:Fun K "_law_listed_right" "_law_listed_right" Jq f31 fd31)
  (a32:nsIn K mainGlobals "law"=some (some (.ref f32))) (F32:Fun K "law" "law" Xnu f32 fd32)
  (z1:nsIn K mainGlobals "sum"=some none)
  (z2:nsIn K mainGlobals "len"=some none)
  (z3:nsIn K mainGlobals "list"=some none)
  (z4:nsIn K mainGlobals "reversed"=some none)
  (z5:nsIn K mainGlobals "range"=some none)
  (z6:nsIn K mainGlobals "max"=some none)
  (z7:nsIn K mainGlobals "sorted"=some none)
  (z8:nsIn K mainGlobals "min"=some none)
  (z9:nsIn K mainGlobals "isinstance"=some none)
  (z10:nsIn K mainGlobals "int"=some none)
  (z11:nsIn K mainGlobals "bool"=some none)
  (z12:nsIn K mainGlobals "tuple"=some none)
  (z13:nsIn K mainGlobals "str"=some none)
  : ∃fd:FuncData,(∀(s:Shared) (v:Value),BindsTo s fd ⟨[v],[]⟩ [("_law_script",v)])∧∀base:Heap,K.In base→base.Ns mainGlobals mg→Zao l.prog w K mg base CX0 16 fa fd ["_law_script"] (Xim K):=by
 have e:=hfa.symm.trans (mg_of X G a32)
 cases e
 have T:Txt mg:=⟨mg_none_of X G z1,mg_none_of X G z2,mg_none_of X G z3,mg_none_of X G z4,mg_none_of X G z5,mg_none_of X G z6,mg_none_of X G z7,mg_none_of X G z8,mg_none_of X G z9,mg_none_of X G z10,mg_none_of X G z11,mg_none_of X G z12,mg_none_of X G z13⟩
 obtain ⟨oc,od,kV,doc,pm,an,cdv,ct,osl,rfl,lk,hcd⟩:=F32.ex
 refine ⟨fnOf "law" "law" (Zhz Xnu) (Zcm Xnu) (Zn Xnu) .none kV doc pm an cdv ct,fun s v=>.of_eq rfl,fun base _ _=>?_⟩
 have b1:=F1.binds (ps:=["roll","begin","end"]) fun _ _ _ _ _ _=>Ziy (fun _ _ _=>rfl)
 have Dspoilt:Def l.prog w K mg base CX0 7 "spoilt" ["roll","begin","end"] (spD K (fun _=>0) 3 2 Dl.Zde):=⟨f1,_,mg_of X G a1,F1.kp,b1,Xeb F1 T⟩
 have b2:=F2.binds (ps:=["roll"]) fun _ _ _ _ _ _=>Xbe (fun _=>rfl)
 have Dturned:Def l.prog w K mg base CX0 7 "turned" ["roll"] (spD K (fun _=>0) 1 2 Dl.Zca):=⟨f2,_,mg_of X G a2,F2.kp,b2,Xbn F2 T⟩
 have b3:=F3.binds (ps:=["table","name"]) fun _ _ _ _ _ _=>Zfd (fun _ _=>rfl)
 have Dkind_of:Def l.prog w K mg base CX0 7 "kind_of" ["table","name"] (spD K (fun _=>0) 2 2 Dl.Zab):=⟨f3,_,mg_of X G a3,F3.kp,b3,Zus F3 T⟩
 have b22:=F22.binds (ps:=["_law_script","_law_place"]) fun _ _ _ _ _ _=>Zfd (fun _ _=>rfl)
 have D_law_cell:Def l.prog w K mg base CX0 7 "_law_cell" ["_law_script","_law_place"] (spD K (fun _=>0) 2 2 Dl.Jy):=⟨f22,_,mg_of X G a22,F22.kp,b22,Zom F22 T⟩
 have b23:=F23.binds (ps:=["_law_cell_here","_law_k"]) fun _ _ _ _ _ _=>Zfd (fun _ _=>rfl)
 have D_law_mix:Def l.prog w K mg base CX0 7 "_law_mix" ["_law_cell_here","_law_k"] (spD K (fun _=>0) 2 2 Dl.Zaq):=⟨f23,_,mg_of X G a23,F23.kp,b23,Ztf F23 T⟩
 have b29:=F29.binds (ps:=["_law_one"]) fun _ _ _ _ _ _=>Xbe (fun _=>rfl)
 have D_law_is_whole:Def l.prog w K mg base CX0 7 "_law_is_whole" ["_law_one"] (spD K (fun _=>0) 1 2 Dl.Yk):=⟨f29,_,mg_of X G a29,F29.kp,b29,Zhj F29 T⟩
 have b4:=F4.binds (ps:=["roll","kind","place"]) fun _ _ _ _ _ _=>Ziy (fun _ _ _=>rfl)
 have Dfits:Def l.prog w K mg base CX0 8 "fits" ["roll","kind","place"] (spD K (fun _=>0) 3 2 Dl.Zga):=⟨f4,_,mg_of X G a4,F4.kp,b4,Xst F4 T Dspoilt⟩
 have b6:=F6.binds (ps:=["table","piece"]) fun _ _ _ _ _ _=>Zfd (fun _ _=>rfl)
 have Dend_of:Def l.prog w K mg base CX0 8 "end_of" ["table","piece"] (spD K (fun _=>0) 2 2 Dl.Zbb):=⟨f6,_,mg_of X G a6,F6.kp,b6,Xck F6 T Dkind_of⟩
 have b24:=F24.binds (ps:=["_law_script","_law_place","_law_sizes"]) fun _ _ _ _ _ _=>Ziy (fun _ _ _=>rfl)
 have D_law_row:Def l.prog w K mg base CX0 8 "_law_row" ["_law_script","_law_place","_law_sizes"] (spD K (fun _=>0) 3 2 Dl.Ya):=⟨f24,_,mg_of X G a24,F24.kp,b24,Zsv F24 T D_law_cell D_law_mix⟩
 have b30:=F30.binds (ps:=["_law_found"]) fun _ _ _ _ _ _=>Xbe (fun _=>rfl)
 have D_law_is_cutting:Def l.prog w K mg base CX0 8 "_law_is_cutting" ["_law_found"] (spD K (fun _=>0) 1 2 Dl.Xg):=⟨f30,_,mg_of X G a30,F30.kp,b30,Zfr F30 T D_law_is_whole⟩
 have b5:=F5.binds (ps:=["roll","table"]) fun _ _ _ _ _ _=>Zfd (fun _ _=>rfl)
 have Dall_pieces:Def l.prog w K mg base CX0 9 "all_pieces" ["roll","table"] (spD K (fun _=>0) 2 2 Dl.Xy):=⟨f5,_,mg_of X G a5,F5.kp,b5,Zmp F5 T Dfits⟩
 have b7:=F7.binds (ps:=["roll","table","end"]) fun _ _ _ _ _ _=>Ziy (fun _ _ _=>rfl)
 have Dending:Def l.prog w K mg base CX0 9 "ending" ["roll","table","end"] (spD K (fun _=>0) 3 2 Dl.Yz):=⟨f7,_,mg_of X G a7,F7.kp,b7,Xcf F7 T Dfits⟩
 have b18:=F18.binds (ps:=["table","tops","rests","piece"]) fun _ _ _ _ _ _=>Zoh (fun _ _ _ _=>rfl)
 have Dgreatest_with:Def l.prog w K mg base CX0 9 "greatest_with" ["table","tops","rests","piece"] (spD K (fun _=>0) 4 2 Dl.Xj):=⟨f18,_,mg_of X G a18,F18.kp,b18,Zhl F18 T Dend_of Dkind_of⟩
 have b25:=F25.binds (ps:=["_law_script","_law_place","_law_most"]) fun _ _ _ _ _ _=>Ziy (fun _ _ _=>rfl)
 have D_law_table:Def l.prog w K mg base CX0 9 "_law_table" ["_law_script","_law_place","_law_most"] (spD K (fun _=>0) 3 2 Dl.Zac):=⟨f25,_,mg_of X G a25,F25.kp,b25,Zmc F25 T D_law_row⟩
 have b26:=F26.binds (ps:=["_law_script","_law_place","_law_most"]) fun _ _ _ _ _ _=>Ziy (fun _ _ _=>rfl)
 have D_law_flaw:Def l.prog w K mg base CX0 9 "_law_flaw" ["_law_script","_law_place","_law_most"] (spD K (fun _=>0) 3 2 Dl.Zaz):=⟨f26,_,mg_of X G a26,F26.kp,b26,Zpb F26 T D_law_row⟩
 have b27:=F27.binds (ps:=["_law_script","_law_place","_law_most","_law_flaw_here"]) fun _ _ _ _ _ _=>Zoh (fun _ _ _ _=>rfl)
 have D_law_roll:Def l.prog w K mg base CX0 9 "_law_roll" ["_law_script","_law_place","_law_most","_law_flaw_here"] (spD K (fun _=>0) 4 2 Dl.Zav):=⟨f27,_,mg_of X G a27,F27.kp,b27,Zph F27 T D_law_row⟩
 have b8:=F8.binds (ps:=["roll","table","tops"]) fun _ _ _ _ _ _=>Ziy (fun _ _ _=>rfl)
 have Dnext_top:Def l.prog w K mg base CX0 10 "next_top" ["roll","table","tops"] (spD K (fun _=>0) 3 2 Dl.Zbn):=⟨f8,_,mg_of X G a8,F8.kp,b8,Ztu F8 T Dending⟩
 have b11:=F11.binds (ps:=["roll","table","tops","end"]) fun _ _ _ _ _ _=>Zoh (fun _ _ _ _=>rfl)
 have Dlast_kind:Def l.prog w K mg base CX0 10 "last_kind" ["roll","table","tops","end"] (spD K (fun _=>0) 4 2 Dl.Jz):=⟨f11,_,mg_of X G a11,F11.kp,b11,Znz F11 T Dending⟩
 have b14:=F14.binds (ps:=["roll","table","tops","end"]) fun _ _ _ _ _ _=>Zoh (fun _ _ _ _=>rfl)
 have Dbest_steps:Def l.prog w K mg base CX0 10 "best_steps" ["roll","table","tops","end"] (spD K (fun _=>0) 4 2 Dl.Yv):=⟨f14,_,mg_of X G a14,F14.kp,b14,Zna F14 T Dending⟩
 have b28:=F28.binds (ps:=["_law_script","_law_place","_law_most","_law_kinds"]) fun _ _ _ _ _ _=>Zoh (fun _ _ _ _=>rfl)
 have D_law_drawn:Def l.prog w K mg base CX0 10 "_law_drawn" ["_law_script","_law_place","_law_most","_law_kinds"] (spD K (fun _=>0) 4 2 Dl.Zad):=⟨f28,_,mg_of X G a28,F28.kp,b28,Znb F28 T D_law_flaw D_law_roll D_law_table⟩
 have b9:=F9.binds (ps:=["roll","table"]) fun _ _ _ _ _ _=>Zfd (fun _ _=>rfl)
 have Dheights:Def l.prog w K mg base CX0 11 "heights" ["roll","table"] (spD K (fun _=>0) 2 2 Dl.Xv):=⟨f9,_,mg_of X G a9,F9.kp,b9,Zzh F9 T Dnext_top⟩
 have b12:=F12.binds (ps:=["roll","table","tops","end"]) fun _ _ _ _ _ _=>Zoh (fun _ _ _ _=>rfl)
 have Dtold_cutting:Def l.prog w K mg base CX0 11 "told_cutting" ["roll","table","tops","end"] (spD K (fun _=>0) 4 2 Dl.Je):=⟨f12,_,mg_of X G a12,F12.kp,b12,Zja F12 T Dlast_kind⟩
 have b10:=F10.binds (ps:=["roll","table"]) fun _ _ _ _ _ _=>Zfd (fun _ _=>rfl)
 have Dtails:Def l.prog w K mg base CX0 12 "tails" ["roll","table"] (spD K (fun _=>0) 2 2 Dl.Zdv):=⟨f10,_,mg_of X G a10,F10.kp,b10,Xio F10 T Dheights Dturned⟩
 have b13:=F13.binds (ps:=["roll","table"]) fun _ _ _ _ _ _=>Zfd (fun _ _=>rfl)
 have Dbest:Def l.prog w K mg base CX0 12 "best" ["roll","table"] (spD K (fun _=>0) 2 2 Dl.Zjq):=⟨f13,_,mg_of X G a13,F13.kp,b13,Xsl F13 T Dheights Dtold_cutting⟩
 have b15:=F15.binds (ps:=["roll","table"]) fun _ _ _ _ _ _=>Zfd (fun _ _=>rfl)
 have Dbest_counts:Def l.prog w K mg base CX0 12 "best_counts" ["roll","table"] (spD K (fun _=>0) 2 2 Dl.Yh):=⟨f15,_,mg_of X G a15,F15.kp,b15,Zkd F15 T Dheights Dbest_steps⟩
 have b16:=F16.binds (ps:=["roll","table"]) fun _ _ _ _ _ _=>Zfd (fun _ _=>rfl)
 have Dbest_count:Def l.prog w K mg base CX0 13 "best_count" ["roll","table"] (spD K (fun _=>0) 2 2 Dl.Yg):=⟨f16,_,mg_of X G a16,F16.kp,b16,Zmq F16 T Dbest_counts⟩
 have b19:=F19.binds (ps:=["roll","table"]) fun _ _ _ _ _ _=>Zfd (fun _ _=>rfl)
 have Dmays:Def l.prog w K mg base CX0 13 "mays" ["roll","table"] (spD K (fun _=>0) 2 2 Dl.Zfv):=⟨f19,_,mg_of X G a19,F19.kp,b19,Xps F19 T Dheights Dtails Dall_pieces Dgreatest_with⟩
 have b21:=F21.binds (ps:=["roll","table","piece"]) fun _ _ _ _ _ _=>Ziy (fun _ _ _=>rfl)
 have Dloss:Def l.prog w K mg base CX0 13 "loss" ["roll","table","piece"] (spD K (fun _=>0) 3 2 Dl.Zlt):=⟨f21,_,mg_of X G a21,F21.kp,b21,Xpq F21 T Dheights Dall_pieces Dgreatest_with Dtails⟩
 have b17:=F17.binds (ps:=["roll","table","most"]) fun _ _ _ _ _ _=>Ziy (fun _ _ _=>rfl)
 have Dall_best:Def l.prog w K mg base CX0 14 "all_best" ["roll","table","most"] (spD K (fun _=>0) 3 2 Dl.Jx):=⟨f17,_,mg_of X G a17,F17.kp,b17,Ztc F17 T Dheights Dbest_count Dbest_steps⟩
 have b20:=F20.binds (ps:=["roll","table"]) fun _ _ _ _ _ _=>Zfd (fun _ _=>rfl)
 have Dmusts:Def l.prog w K mg base CX0 14 "musts" ["roll","table"] (spD K (fun _=>0) 2 2 Dl.Zhx):=⟨f20,_,mg_of X G a20,F20.kp,b20,Xmd F20 T Dbest_counts Dmays Dturned Dend_of⟩
 have b31:=F31.binds (ps:=["_law_roll_here","_law_table_here","_law_some","_law_every","_law_told"]) fun _ _ _ _ _ _=>allN5 (fun _ _ _ _ _=>rfl)
 have D_law_listed_right:Def l.prog w K mg base CX0 15 "_law_listed_right" ["_law_roll_here","_law_table_here","_law_some","_law_every","_law_told"] (spD K (fun _=>0) 5 2 Dl.Yc):=⟨f31,_,mg_of X G a31,F31.kp,b31,Zeb F31 T Dall_best Dbest_count D_law_is_cutting⟩
 exact (oklaw (C:=fun _=>0) F32 T D_law_drawn Dbest Dmays Dmusts Dall_pieces D_law_listed_right Dloss Dbest_count D_law_row D_law_is_cutting).imp fun vs H Q E h=>by
  obtain ⟨a,ns,rfl,hz,hl,q⟩:=h
  refine ⟨[.scr ns],[],rfl,⟨.ref a,[],[],[],rfl,⟨a,rfl,hz,rfl⟩,⟨rfl,rfl⟩,rfl⟩,?_⟩
  rw [Xeh ns hl]
  rintro v H' _ ⟨B,r,_⟩
  obtain ⟨rfl,_⟩:=r
  exact q H'
theorem walk {l:PySem.W.OpenLaw}{q:Program}{loose:List Str}{XP:(Str→Option Value)→Heap→Prop}{YP:World→Heap→Prop}{d:DefRec}{K:Params→Frag}(hn:l.most=some 63)(hdf:d.params.defaults=[])
    (hY:∀(w:World) (h:Heap),YP w h→(K w.params).In h)
    (F:∀(w:World) (mg:Str→Option Value) (fa:Addr) (h:Heap),(K w.params).In h→h.Ns mainGlobals mg→mg d.name=some (.ref fa)→
      ∃fd:FuncData,(∀(s:Shared) (u:Value),BindsTo s fd ⟨[u],[]⟩ [("_law_script",u)])∧∀base:Heap,(K w.params).In base→base.Ns mainGlobals mg→Zao l.prog w (K w.params) mg base CX0 16 fa fd ["_law_script"] (Xim (K w.params))) :
    PySem.W.WalkO q loose XP YP l.row.toRowW d [] (fun f vs=>PySem.call f vs):=
  L2.Xmg (n:=63) (k:=16) (x:="_law_script") (CX:=fun _=>CX0) (sp:=fun w=>Xim (K w.params)) hn (by decide) hdf ⟨rfl,by decide,by decide,rfl⟩ hY F (fun _ H a ns hl hO hS=>⟨a,ns,rfl,fz_of hO hS,hl,fun _=>rfl⟩) fun _ _ _ _ _ z=>z
end K37
open PySem PySem.W PyProof.Rows
set_option maxRecDepth 100000 in
set_option maxHeartbeats 0 in
theorem PySem.Challenge.cw_selvage_k37_whole_pieces_of_the_best_holds : PySem.Challenge.rw_selvage_k37_whole_pieces_of_the_best.Holds := by
 w_on;o_law;z_head;(case hw=>w_witness2)
 k_fill
 refine L2.Xbu (fun _=>by kernel_rfl) (K37.walk (l:=PySem.Challenge.rw_selvage_k37_whole_pieces_of_the_best) rfl rfl (fun w h Y=>Y) ?F)
 case F =>
  intro w mg fa h KX G hmg
  refine' K37.all_mk KX G hmg ?a1 (L2.Xz ?l1 ?c1 ?k1) ?a2 (L2.Xz ?l2 ?c2 ?k2) ?a3 (L2.Xz ?l3 ?c3 ?k3) ?a4 (L2.Xz ?l4 ?c4 ?k4) ?a5 (L2.Xz ?l5 ?c5 ?k5) ?a6 (L2.Xz ?l6 ?c6 ?k6) ?a7 (L2.Xz ?l7 ?c7 ?k7) ?a8 (L2.Xz ?l8 ?c8 ?k8) ?a9 (L2.Xz ?l9 ?c9 ?k9) ?a10 (L2.Xz ?l10 ?c10 ?k10) ?a11 (L2.Xz ?l11 ?c11 ?k11) ?a12 (L2.Xz ?l12 ?c12 ?k12) ?a13 (L2.Xz ?l13 ?c13 ?k13) ?a14 (L2.Xz ?l14 ?c14 ?k14) ?a15 (L2.Xz ?l15 ?c15 ?k15) ?a16 (L2.Xz ?l16 ?c16 ?k16) ?a17 (L2.Xz ?l17 ?c17 ?k17) ?a18 (L2.Xz ?l18 ?c18 ?k18) ?a19 (L2.Xz ?l19 ?c19 ?k19) ?a20 (L2.Xz ?l20 ?c20 ?k20) ?a21 (L2.Xz ?l21 ?c21 ?k21) ?a22 (L2.Xz ?l22 ?c22 ?k22) ?a23 (L2.Xz ?l23 ?c23 ?k23) ?a24 (L2.Xz ?l24 ?c24 ?k24) ?a25 (L2.Xz ?l25 ?c25 ?k25) ?a26 (L2.Xz ?l26 ?c26 ?k26) ?a27 (L2.Xz ?l27 ?c27 ?k27) ?a28 (L2.Xz ?l28 ?c28 ?k28) ?a29 (L2.Xz ?l29 ?c29 ?k29) ?a30 (L2.Xz ?l30 ?c30 ?k30) ?a31 (L2.Xz ?l31 ?c31 ?k31) ?a32 (L2.Xz ?l32 ?c32 ?k32) ?z1 ?z2 ?z3 ?z4 ?z5 ?z6 ?z7 ?z8 ?z9 ?z10 ?z11 ?z12 ?z13
  case a1|l1|c1|k1|a2|l2|c2|k2|a3|l3|c3|k3|a4|l4|c4|k4|a5|l5|c5|k5|a6|l6|c6|k6|a7|l7|c7|k7|a8|l8|c8|k8|a9|l9|c9|k9|a10|l10|c10|k10|a11|l11|c11|k11|a12|l12|c12|k12|a13|l13|c13|k13|a14|l14|c14|k14|a15|l15|c15|k15|a16|l16|c16|k16|a17|l17|c17|k17|a18|l18|c18|k18|a19|l19|c19|k19|a20|l20|c20|k20|a21|l21|c21|k21|a22|l22|c22|k22|a23|l23|c23|k23|a24|l24|c24|k24|a25|l25|c25|k25|a26|l26|c26|k26|a27|l27|c27|k27|a28|l28|c28|k28|a29|l29|c29|k29|a30|l30|c30|k30|a31|l31|c31|k31|a32|l32|c32|k32|z1|z2|z3|z4|z5|z6|z7|z8|z9|z10|z11|z12|z13=>k_is
