import PyProof.Rows.All
import Wide.All
import OpenK.AllK
import Wide.FinOn
import PyProof.EqAt
import PyProof.EqKinds
import PyProof.TupleCall
import KE.KDictSum
import KE.KRevIter
import PySem.Challenge.RW_pursebench_k80_whole_all_judges_agree
set_option Elab.async false
set_option linter.all false
local macro_rules | `(tactic| o_shape)=>`(tactic| first | exact Or.inl rfl | exact Or.inr rfl)
local macro_rules | `(tactic| o_reads)=>`(tactic| exact ⟨rfl,rfl,by repeat' (first | exact True.intro | rfl | o_shape | refine ⟨?_,?_⟩),by decide,rfl,by decide⟩)
set_option bootstrap.genMatcherCode false
set_option genSizeOf false
set_option genSizeOfSpec false
open List (all_eq_true all_map any_eq_true append_nil drop_of_length_le ext_getElem filterMap_cons filter_cons filter_sublist find?_some forIn_cons getElem?_eq_getElem getElem?_map getElem?_set_ne getElem?_set_self getElem_map getElem_mem getElem_of_mem length_append length_cons length_filter_le length_map map_append map_congr_left map_cons map_map map_nil map_take mem_append_right mem_cons mem_cons_of_mem mem_cons_self mem_of_getElem? nil_append nodup_cons not_mem_nil of_mem_zip pairwise_cons size_toArray sum_cons take_of_length_le take_sublist)
open Option (getD_none getD_some)
open Nat (dvd_trans le_of_lt le_refl le_succ le_trans lt_irrefl lt_of_le_of_lt lt_of_lt_of_le lt_succ_of_lt lt_succ_self lt_trans min_eq_left min_eq_right mod_lt mul_comm mul_le_mul_right mul_ne_zero mul_pos ne_of_gt ne_of_lt pow_add pow_le_pow_right zero_le)
open Array (getElem?_toList length_toList)
open PySem.W (Frag codeIn fnOf keepIn mg_none_of mg_of nsIn)
set_option maxRecDepth 100000
namespace L2
open PySem PySem.Spec PyProof.Rows
abbrev Key:=Sum Int Str
def keyIs:Key->Value->Bool
 | .inl k,v=>Value.isInt k v
 | .inr x,v=>Value.isStrOf x v
def keyH (w:World):Key->Int
 | .inl k=>hashInt k
 | .inr x=>hashStr w x
theorem keyIs_shape:∀ {k:Key} {v:Value},keyIs k v=true->(∃ i t,k=Sum.inl i/\v=Value.int i t) \/ (∃ x t,k=Sum.inr x/\v=Value.str x t)
 | .inl i,v,h=>by
  obtain ⟨t,e⟩:=Value.isInt_shape (k:=i) (v:=v) h;exact .inl ⟨i,t,rfl,e⟩
 | .inr x,v,h=>by
  obtain ⟨t,e⟩:=Value.isStrOf_shape (x:=x) (v:=v) h;exact .inr ⟨x,t,rfl,e⟩
theorem key_ll (a b:Int):decide ((Sum.inl a:Key)=Sum.inl b)=(a == b):=by
 by_cases e:a=b
 ·subst e; simp
 ·have h:¬ (Sum.inl a:Key)=Sum.inl b:=fun q=>e (Sum.inl.inj q)
  rw [decide_eq_false h];exact (beq_eq_false_iff_ne.mpr e).symm
theorem key_rr (a b:Str):decide ((Sum.inr a:Key)=Sum.inr b)=decide (a=b):=by
 by_cases e:a=b
 ·subst e; simp
 ·have h:¬ (Sum.inr a:Key)=Sum.inr b:=fun q=>e (Sum.inr.inj q)
  rw [decide_eq_false h,decide_eq_false e]
theorem key_lr (a:Int) (b:Str):decide ((Sum.inl a:Key)=Sum.inr b)=false:=decide_eq_false (fun q=>nomatch q)
theorem key_rl (a:Str) (b:Int):decide ((Sum.inr a:Key)=Sum.inl b)=false:=decide_eq_false (fun q=>nomatch q)
def mixKind (prog:Program) (w:World):PySem.KeyKind prog w Key where
 is:=keyIs
 hash:=keyH w
 inj:=fun v a b ha hb=>by
  rcases keyIs_shape ha with ⟨i,t,rfl,rfl⟩ | ⟨x,t,rfl,rfl⟩
  ·rcases keyIs_shape hb with ⟨j,u,rfl,e⟩ | ⟨y,u,rfl,e⟩
   ·injection e with e1 _; rw [e1]
   ·exact nomatch e
  ·rcases keyIs_shape hb with ⟨j,u,rfl,e⟩ | ⟨y,u,rfl,e⟩
   ·exact nomatch e
   ·injection e with e1 _; rw [e1]
 byValue:=fun k v h=>by
  rcases keyIs_shape h with ⟨i,t,rfl,rfl⟩ | ⟨x,t,rfl,rfl⟩ <;> rfl
 pyHash:=fun hv h=>by
  rcases keyIs_shape hv with ⟨i,t,rfl,rfl⟩ | ⟨x,t,rfl,rfl⟩
  ·exact wpAny_pyHash_int h
  ·exact wpAny_pyHash_str h
 eqBool:=fun hu hv h=>by
  rcases keyIs_shape hu with ⟨i,t,rfl,rfl⟩ | ⟨x,t,rfl,rfl⟩
  ·rcases keyIs_shape hv with ⟨j,u,rfl,rfl⟩ | ⟨y,u,rfl,rfl⟩
   ·rw [key_ll] at h; exact wpAny_eqBool_int h
   ·rw [key_lr] at h; exact SeqAt.EqAt.int_str i t y u _ _ _ _ h
  ·rcases keyIs_shape hv with ⟨j,u,rfl,rfl⟩ | ⟨y,u,rfl,rfl⟩
   ·rw [key_rl] at h; exact SeqAt.EqAt.str_int x t j u _ _ _ _ h
   ·rw [key_rr] at h; exact wpAny_eqBool_str h
 «strs»:=fun k x t v h=>by
  rcases keyIs_shape h with ⟨i,u,rfl,e⟩ | ⟨y,u,rfl,e⟩
  ·exact nomatch e
  ·injection e with e1 _
   subst e1;cases v <;> rfl
end L2
namespace L2
open PySem PySem.Spec PyProof.Rows
inductive V where
 | non | bl (b:Bool) | int (i:Int) | str (x:Str) | byt (b:Array UInt8) | flt (b:UInt64) | ref (a:Addr) | ty (n:String)
 deriving DecidableEq
def RelV:V->Value->Prop
 | .non,u=>u=Value.none
 | .bl b,u=>u=Value.bool b
 | .int i,u=>∃ t,u=Value.int i t
 | .str x,u=>∃ t,u=Value.str x t
 | .byt b,u=>∃ t,u=Value.bytes b t
 | .flt b,u=>∃ t,u=Value.float b t
 | .ref a,u=>u=Value.ref a
 | .ty n,u=>u=Value.type n
abbrev Vals:List V->List Value->Prop:=Paired RelV
theorem Vals.length {xs:List V} {us:List Value} (r:Vals xs us):xs.length=us.length:=Paired.length r
theorem Vals.get:∀ {xs:List V} {us:List Value} {i:Nat} {x:V},Vals xs us->xs[i]?=some x->∃ u,us[i]?=some u/\RelV x u
 | _,_,_,_,.nil,e=>by simp at e
 | _,_,0,_,.cons r _,e=>by simp at e; subst e; exact ⟨_,rfl,r⟩
 | _,_,i + 1,x,.cons _ t,e=>by
  obtain ⟨u,h1,h2⟩:=Vals.get (i:=i) (x:=x) t (by simpa using e);exact ⟨u,by simpa using h1,h2⟩
theorem Vals.set {x:V} {u:Value} (r:RelV x u):∀ {xs:List V} {us:List Value} (i:Nat),Vals xs us->Vals (xs.set i x) (us.set i u)
 | _,_,_,.nil=>.nil
 | _,_,0,.cons _ t=>.cons r t
 | _,_,i + 1,.cons q t=>.cons q (Vals.set r i t)
theorem Vals.append:∀ {xs ys:List V} {us ws:List Value},Vals xs us->Vals ys ws->Vals (xs++ys) (us++ws)
 | _,_,_,_,.nil,s=>s
 | _,_,_,_,.cons r t,s=>.cons r (Vals.append t s)
theorem Vals.take:∀ {xs:List V} {us:List Value} (n:Nat),Vals xs us->Vals (xs.take n) (us.take n)
 | _,_,0,_=>.nil
 | _,_,_ + 1,.nil=>.nil
 | _,_,n + 1,.cons r t=>.cons r (Vals.take n t)
theorem Vals.drop:∀ {xs:List V} {us:List Value} (n:Nat),Vals xs us->Vals (xs.drop n) (us.drop n)
 | _,_,0,r=>r
 | _,_,_ + 1,.nil=>.nil
 | _,_,n + 1,.cons _ t=>Vals.drop n t
def RelO:Option V->Option Value->Prop
 | some v,some u=>RelV v u
 | none,none=>True
 | _,_=>False
def KV {κ:Type}:List (κ × V)->List (κ × Value)->Prop:=Paired fun (p:κ × V) (q:κ × Value)=>p.1=q.1/\RelV p.2 q.2
def kV:Key->V
 | .inl i=>.int i
 | .inr x=>.str x
inductive HO where
 | lst (xs:List V)
 | tup (xs:List V)
 | dK (kvs:List (Key × V)) | dT (kvs:List (List Key × V))
 | set (S:Int->Bool) (n:Nat)
 | ins (C dx:Addr) (fs:List (Str × V))
 | own (x:Addr)
 | xd (fs:List (Str × V))
 | met (f x:Addr)
 | rng (lo hi:Int)
 | frz (o:Obj) (u:HO)
 | tbl (ps:Array Value)
 | ext (φ:Heap->Prop)
abbrev Hp:=Addr->Option HO
def upd (H:Hp) (a:Addr) (o:HO):Hp:=fun b=>if b=a then some o else H b
theorem upd_same {H:Hp} {a:Addr} {o:HO}:upd H a o a=some o:=by unfold upd; rw [if_pos rfl]
theorem upd_ne {H:Hp} {a b:Addr} {o:HO} (h:b ≠ a):upd H a o b=H b:=by unfold upd; rw [if_neg h]
theorem aqch {H:Hp} {a b:Addr} {o u:HO} (h:H a=some o) (h':H b=some u) (d:o ≠ u):a ≠ b:=by
 intro e; subst e; rw [h] at h'; exact d (Option.some.inj h')
theorem ne_of_none {H:Hp} {a b:Addr} {o:HO} (h:H a=some o) (h':H b=none):a ≠ b:=by
 intro e; subst e; rw [h] at h'; cases h'
section
variable (P:Program) (w:World)
def ObjOk (H:Hp) (h:Heap) (a:Addr):HO->Prop
 | .lst xs=>xs.length <= sizeLine/\∃ (its:List Value) (n:Nat),Vals xs its/\h.get? a=some { cls:=.type "list",data:=.seq its.toArray n }
 | .tup xs=>xs.length <= sizeLine/\∃ its:List Value,Vals xs its/\IsTup h a its.toArray
 | .dK kvs=>kvs.length <= sizeLine/\(a == sysModules)=false/\∃ vs,KV kvs vs/\h.DictOf (mixKind P w) a vs
 | .dT kvs=>kvs.length <= sizeLine/\(a == sysModules)=false/\∃ xs:List (List Key × Addr × Value),
   Paired (fun (p:List Key × V) (q:List Key × Addr × Value)=>p.1=q.1/\H q.2.1=some (.tup (p.1.map kV))/\RelV p.2 q.2.2) kvs xs /\
   ∃ o es ep,h.get? a=some o/\o.ExactDict/\o.data=.dict es ep/\es.toList=xs.map (entryOfKey (tupleKind (mixKind P w)))/\(xs.map (·.1)).Nodup
 | .set S n=>h.SetOf (intKind P w) a S n
 | .ins C dx fs=>H dx=some (.own a)/\fs.length <= 1000/\dx ≠ a/\h.get? a=some (PySem.W.instObj C dx) /\
   ∃ mA,h.Ns1 dx mA/\(∀ f,RelO (fs.lookup f) (mA f))/\PySem.Within mA (fs.map (·.1))
 | .own _=>∃ o,h.get? a=some o
 | .xd fs=>∃ mA,h.Ns1 a mA/\∀ f,RelO (fs.lookup f) (mA f)
 | .rng lo hi=>∃ t u v,h.get? a=some { cls:=.type "range",data:=.fields #[.int lo t,.int hi u,.int 1 v] }
 | .frz o u=>h.get? a=some o/\ObjOk H h a u
 | .tbl ps=>h.get? a=some { cls:=.none,data:=.fields ps }
 | .met f x=>h.get? a=some (PySem.W.methodObj (.ref f) (.ref x))
 | .ext φ=>φ h/\(∃ o,h.get? a=some o)/\∀ h1 h2:Heap,φ h1->(∀ o,h1.get? a=some o->h2.get? a=some o)->φ h2
def HOk (H:Hp) (h:Heap):Prop:=∀ a o,H a=some o->ObjOk P w H h a o
end
section
variable {P:Program} {w:World} {H H':Hp} {h h':Heap} {a:Addr} {o:HO}
theorem ObjOk.lt (x:ObjOk P w H h a o):a < h.objs.size:=by
 cases o with
 | lst xs=>obtain ⟨_,_,_,_,e⟩:=x; exact Heap.lt_size e
 | tup xs=>obtain ⟨_,_,_,p⟩:=x; exact p.lt
 | dK kvs=>obtain ⟨_,_,_,_,o,_,_,e,_⟩:=x; exact Heap.lt_size e
 | dT kvs=>obtain ⟨_,_,_,_,o,_,_,e,_⟩:=x; exact Heap.lt_size e
 | set S n=>obtain ⟨o,_,_,_,e,_⟩:=x; exact Heap.lt_size e
 | ins C dx fs=>obtain ⟨_,_,_,e,_⟩:=x; exact Heap.lt_size e
 | own y=>obtain ⟨_,e⟩:=x; exact Heap.lt_size e
 | xd fs=>obtain ⟨_,⟨_,_,_,e,_⟩,_⟩:=x; exact Heap.lt_size e
 | rng lo hi=>obtain ⟨_,_,_,e⟩:=x; exact Heap.lt_size e
 | frz ob u=>obtain ⟨e,_⟩:=x; exact Heap.lt_size e
 | tbl ps=>exact Heap.lt_size (show h.get? a=some _ from x)
 | met f y=>exact Heap.lt_size (show h.get? a=some _ from x)
 | ext φ=>obtain ⟨_,⟨_,e⟩,_⟩:=x; exact Heap.lt_size e
theorem Paired.mapP {α β:Type} {F G:α->β->Prop}:∀ {l₁:List α} {l₂:List β},Paired F l₁ l₂->(∀ a b,F a b->G a b)->Paired G l₁ l₂
 | _,_,.nil,_=>.nil
 | _,_,.cons r t,f=>.cons (f _ _ r) (Paired.mapP t f)
theorem ObjOk.stay (x:ObjOk P w H h a o) (k:∀ b u,(b=a \/ H b=some (.own a))->h.get? b=some u->h'.get? b=some u)
  (ho:∀ b,H b=some (.own a)->H' b=some (.own a)) (ht:∀ b xs,H b=some (.tup xs)->H' b=some (.tup xs)):ObjOk P w H' h' a o:=by
 induction o with
 | lst xs=>obtain ⟨z,its,n,r,e⟩:=x; exact ⟨z,its,n,r,k _ _ (.inl rfl) e⟩
 | tup xs=>obtain ⟨z,its,r,ob,e,c⟩:=x; exact ⟨z,its,r,ob,k _ _ (.inl rfl) e,c⟩
 | dK kvs=>obtain ⟨z,y,vs,r,ob,es,ep,e,c⟩:=x; exact ⟨z,y,vs,r,ob,es,ep,k _ _ (.inl rfl) e,c⟩
 | dT kvs =>
  obtain ⟨z,y,xs,r,ob,es,ep,e,c⟩:=x;exact ⟨z,y,xs,Paired.mapP r fun p q z=>⟨z.1,ht _ _ z.2.1,z.2.2⟩,ob,es,ep,k _ _ (.inl rfl) e,c⟩
 | set S n=>obtain ⟨ob,es,ep,t,e,c⟩:=x; exact ⟨ob,es,ep,t,k _ _ (.inl rfl) e,c⟩
 | ins C dx fs =>
  obtain ⟨d,z,ne,e,mA,⟨od,es,ep,e2,c⟩,r⟩:=x;exact ⟨ho _ d,z,ne,k _ _ (.inl rfl) e,mA,⟨od,es,ep,k _ _ (.inr d) e2,c⟩,r⟩
 | own y=>obtain ⟨ob,e⟩:=x; exact ⟨ob,k _ _ (.inl rfl) e⟩
 | xd fs=>obtain ⟨mA,⟨od,es,ep,e,c⟩,r⟩:=x; exact ⟨mA,⟨od,es,ep,k _ _ (.inl rfl) e,c⟩,r⟩
 | rng lo hi=>obtain ⟨t,u,v,e⟩:=x; exact ⟨t,u,v,k _ _ (.inl rfl) e⟩
 | frz ob u ih=>obtain ⟨e,q⟩:=x; exact ⟨k _ _ (.inl rfl) e,ih q⟩
 | tbl ps =>
  have e:h.get? a=some { cls:=.none,data:=.fields ps }:=x;show h'.get? a=some { cls:=.none,data:=.fields ps };exact k a _ (.inl rfl) e
 | met f y =>
  have e:h.get? a=some (PySem.W.methodObj (.ref f) (.ref y)):=x;show h'.get? a=some (PySem.W.methodObj (.ref f) (.ref y));exact k a _ (.inl rfl) e
 | ext φ=>obtain ⟨p,⟨o,e⟩,st⟩:=x; exact ⟨st _ _ p fun o q=>k _ _ (.inl rfl) q,⟨o,k _ _ (.inl rfl) e⟩,st⟩
theorem HOk.lt (x:HOk P w H h) (e:H a=some o):a < h.objs.size:=(x a o e).lt
theorem HOk.fresh (x:HOk P w H h) (e:h.objs.size <= a):H a=none:=by
 cases q:H a with
 | none=>rfl
 | some u=>exact absurd (lt_of_lt_of_le (x.lt q) e) (lt_irrefl _)
theorem HOk.kept (x:HOk P w H h) (k:∀ b u,h.get? b=some u->h'.get? b=some u):HOk P w H h':=fun a o e =>
 (x a o e).stay (fun b u _ q=>k b u q) (fun _ q=>q) fun _ _ q=>q
theorem HOk.laid (x:HOk P w H h) (k:∀ b u,h.get? b=some u->h'.get? b=some u) (hp:h.objs.size <= a) (new:ObjOk P w (upd H a o) h' a o):HOk P w (upd H a o) h':=fun b u e=>by
 have hn:=x.fresh hp
 by_cases hb:b=a
 ·subst hb; rw [upd_same] at e; cases e; exact new
 ·rw [upd_ne hb] at e
  exact (x b u e).stay (fun c v _ q=>k c v q) (fun c q=>by rw [upd_ne (ne_of_none q hn)]; exact q) fun c xs q=>by rw [upd_ne (ne_of_none q hn)]; exact q
end
def Rd (H:Hp) (a:Addr) (u:HO):Prop:=H a=some u \/ ∃ o,H a=some (.frz o u)
theorem Rd.of {H:Hp} {a:Addr} {u:HO} (h:H a=some u):Rd H a u:=.inl h
theorem Rd.ok {P:Program} {w:World} {H:Hp} {h:Heap} {a:Addr} {u:HO} (r:Rd H a u) (x:HOk P w H h):ObjOk P w H h a u:=by
 rcases r with r | ⟨o,r⟩
 ·exact x a u r
 ·obtain ⟨_,q⟩:=x a _ r
  exact q
def Mut:Option HO->Prop
 | some (.lst _)=>True
 | some (.dK _)=>True
 | some (.dT _)=>True
 | some (.set _ _)=>True
 | some (.ins _ _ _)=>True
 | some (.ext _)=>True
 | _=>False
section
variable {P:Program} {w:World} {H:Hp} {h h':Heap} {x e:Addr} {o':HO}
theorem HOk.write (ok:HOk P w H h) (mu:Mut (H x)) (he:e=x \/ H e=some (.own x)) (k:∀ b u,b ≠ e->h.get? b=some u->h'.get? b=some u) (heo:∃ u,h'.get? e=some u)
  (new:ObjOk P w (upd H x o') h' x o'):HOk P w (upd H x o') h':=fun b u q=>by
 have nown:∀ c y,H c=some (.own y)->c ≠ x:=fun c y r z=>by subst z; rw [r] at mu; exact mu
 have ntup:∀ c xs,H c=some (.tup xs)->c ≠ x:=fun c xs r z=>by subst z; rw [r] at mu; exact mu
 by_cases hb:b=x
 ·subst hb; rw [upd_same] at q; cases q; exact new
 ·rw [upd_ne hb] at q
  by_cases hbe:b=e
  ·have q':H b=some (.own x):=by
    rcases he with z | z
    ·exact absurd (hbe.trans z) hb
    ·rw [hbe]; exact z
   rw [q] at q'; cases q';obtain ⟨v,hv⟩:=heo;exact ⟨v,by rw [hbe]; exact hv⟩
  ·refine (ok b u q).stay (fun c v hc r=>k c v ?_ r) (fun c r=>by rw [upd_ne (nown c b r)]; exact r) fun c xs r=>by rw [upd_ne (ntup c xs r)]; exact r
   rcases hc with rfl | hc
   ·exact hbe
   ·rintro rfl
    rcases he with z | z
    ·exact nown c b hc z
    ·rw [hc] at z; cases z; exact hb rfl
end
structure Un (fs ex:List Addr) (H H':Hp) (h h':Heap):Prop where
 keep:∀ b o,h.get? b=some o->H b=none->b ∉ fs->b ∉ ex->h'.get? b=some o
 slot:∀ b o,h.get? b=some o->H b=none->b∈fs->b ∉ ex->∃ sl,h'.get? b=some { o with slots:=sl }
 free:∀ b o,h.get? b=some o->H b=none->b ∉ ex->H' b=none
 there:∀ b o,h.get? b=some o->b ∉ ex->∃ o',h'.get? b=some o'
 tups:∀ b xs,H b=some (.tup xs)->H' b=some (.tup xs)
 frzs:∀ b o u,H b=some (.frz o u)->H' b=some (.frz o u)
 tbls:∀ b ps,H b=some (.tbl ps)->∃ more,H' b=some (.tbl (ps++more))
section
variable {fs fs' ex ex':List Addr} {H H1 H2:Hp} {h h1 h2 h':Heap} {a x e:Addr} {o:HO}
theorem Un.any (u:Un fs ex H H1 h h1) {b:Addr} {ob:Obj} (q:h.get? b=some ob) (n:H b=none) (hx:b ∉ ex):∃ sl,h1.get? b=some { ob with slots:=sl }:=by
 by_cases hb:b∈fs
 ·exact u.slot b ob q n hb hx
 ·exact ⟨ob.slots,u.keep b ob q n hb hx⟩
theorem Un.trans (a:Un fs ex H H1 h h1) (b:Un fs ex H1 H2 h1 h2):Un fs ex H H2 h h2 where
 keep:=fun c ob q n hc hx=>b.keep c ob (a.keep c ob q n hc hx) (a.free c ob q n hx) hc hx
 slot:=fun c ob q n hc hx=>by
  obtain ⟨sl,e1⟩:=a.slot c ob q n hc hx;obtain ⟨sl',e2⟩:=b.slot c _ e1 (a.free c ob q n hx) hc hx;exact ⟨sl',e2⟩
 free:=fun c ob q n hx=>by
  obtain ⟨o',e1⟩:=a.there c ob q hx;exact b.free c o' e1 (a.free c ob q n hx) hx
 there:=fun c ob q hx=>by
  obtain ⟨o',e1⟩:=a.there c ob q hx;exact b.there c o' e1 hx
 tups:=fun c xs q=>b.tups c xs (a.tups c xs q)
 frzs:=fun c ob xs q=>b.frzs c ob xs (a.frzs c ob xs q)
 tbls:=fun c ps q=>by
  obtain ⟨m1,e1⟩:=a.tbls c ps q;obtain ⟨m2,e2⟩:=b.tbls c _ e1;exact ⟨m1++m2,by rw [e2,Array.append_assoc]⟩
theorem Un.kept (k:∀ b u,h.get? b=some u->h'.get? b=some u):Un fs ex H H h h' :=
 ⟨fun b ob q _ _ _=>k b ob q,fun b ob q _ _ _=>⟨ob.slots,k b ob q⟩,fun _ _ _ n _=>n,fun b ob q _=>⟨ob,k b ob q⟩,fun _ _ q=>q,fun _ _ _ q=>q,fun _ ps q=>⟨#[],by rw [q]; simp⟩⟩
theorem Un.refl:Un fs ex H H h h:=Un.kept fun _ _ q=>q
theorem Un.laid (k:∀ b u,h.get? b=some u->h'.get? b=some u) (hp:h.objs.size <= a) (hn:H a=none):Un fs ex H (upd H a o) h h' where
 keep:=fun b u q _ _ _=>k b u q
 slot:=fun b u q _ _ _=>⟨u.slots,k b u q⟩
 free:=fun b u q n _=>by rw [upd_ne (ne_of_lt (lt_of_lt_of_le (Heap.lt_size q) hp))]; exact n
 there:=fun b u q _=>⟨u,k b u q⟩
 tups:=fun b xs q=>by rw [upd_ne (ne_of_none q hn)]; exact q
 frzs:=fun b u xs q=>by rw [upd_ne (ne_of_none q hn)]; exact q
 tbls:=fun b ps q=>⟨#[],by rw [upd_ne (ne_of_none q hn),q]; simp⟩
theorem Un.write (mu:Mut (H x)) (he:e=x \/ H e=some (.own x)) (k:∀ b u,b ≠ e->h.get? b=some u->h'.get? b=some u) (heo:∃ u,h'.get? e=some u):Un fs ex H (upd H x o) h h':=by
 have hx:∀ b,H b=none->b ≠ x:=fun b n z=>by subst z; rw [n] at mu; exact mu
 have hb:∀ b,H b=none->b ≠ e:=fun b n z=>by
  subst z;rcases he with r | r
  ·exact hx b n r
  ·rw [n] at r; cases r
 have hm:∀ b u,H b=some u->¬ Mut (some u)->b ≠ x:=fun b u q nm z=>by subst z; rw [q] at mu; exact nm mu
 refine ⟨fun b u q n _ _=>k b u (hb b n) q,fun b u q n _ _=>⟨u.slots,k b u (hb b n) q⟩,fun b u q n _=>by rw [upd_ne (hx b n)]; exact n,fun b u q _=>?_,
  fun b xs q=>by rw [upd_ne (hm b _ q fun z=>z)]; exact q,fun b u xs q=>by rw [upd_ne (hm b _ q fun z=>z)]; exact q,fun b ps q=>⟨#[],by rw [upd_ne (hm b _ q fun z=>z),q]; simp⟩⟩
 by_cases hbe:b=e
 ·subst hbe; exact heo
 ·exact ⟨u,k b u hbe q⟩
theorem Un.mono (u:Un fs ex H H1 h h1) (hs:∀ b∈fs,b∈fs') (hx:∀ b∈ex,b∈ex'):Un fs' ex' H H1 h h1 :=
 ⟨fun b ob q n hb he=>u.keep b ob q n (fun z=>hb (hs b z)) fun z=>he (hx b z),fun _ _ q n _ he=>u.any q n fun z=>he (hx _ z),fun b ob q n he=>u.free b ob q n fun z=>he (hx b z),fun b ob q he=>u.there b ob q fun z=>he (hx b z),u.tups,u.frzs,u.tbls⟩
end
def trk (h:Heap) (H:Hp):List Addr:=(List.range h.objs.size).filter fun a=>(H a).isSome
def hidT (h:Heap) (H:Hp):Heap:=PySem.W.hideAll h (trk h H)
theorem hidT_size (h:Heap) (H:Hp):(hidT h H).objs.size=h.objs.size:=PySem.W.hideAll_size _ _
theorem hidT_get {h:Heap} {H:Hp} {b:Addr} {o:Obj} (e:h.get? b=some o) (n:H b=none):(hidT h H).get? b=some o :=
 PySem.W.hideAll_get _ e fun hm=>by
  have q:(H b).isSome=true:=(List.mem_filter.mp hm).2;rw [n] at q; simp at q
theorem of_hidT {h:Heap} {H:Hp} {b:Addr} {o:Obj} (e:(hidT h H).get? b=some o):h.get? b=some o/\H b=none:=by
 have e':h.get? b=some o:=PySem.W.of_hideAll (trk h H) e;refine ⟨e',?_⟩;cases q:H b with
 | none=>rfl
 | some x =>
  have hm:b∈trk h H:=List.mem_filter.mpr ⟨List.mem_range.mpr (Heap.lt_size e'),by simp [q]⟩;have z:(hidT h H).get? b=none:=PySem.W.hideAll_none (trk h H) hm;rw [z] at e; cases e
def allNews (g h:Heap) (L:Addr):List (Addr × Obj):=(List.range h.objs.size).filterMap fun a=>if a=L \/ (g.get? a).isSome=true then none else (h.get? a).map fun o=>(a,o)
def rest (g h:Heap) (L d:Addr):List (Addr × Obj):=(allNews g h L).filter fun p=>decide (p.1 ≠ d)
end L2
namespace L2
open PySem PySem.Spec PyProof.Rows
structure Mod (K:Frag) (mg:Str->Option Value) (base:Heap):Prop where
 kin:K.In base
 glob:base.Ns mainGlobals mg
 blt:∃ mb,base.Ns builtinsNs mb/\∀ x:Str,x ≠ "__name__"->mb x=bootBuiltins x
 nolimit:base.NoLimit
structure Cx where
 prog:Program
 w:World
 K:Frag
 mg:Str->Option Value
 base:Heap
 A:Around
 N:List Str
 s₀:Shared
 H₀:Hp
 env:Env
 outer:List Env
 stack:List Env
 ex:List Addr
 fn:Str->Bool
 calm:Bool
 pn:List (Addr × Obj)
 xe:Value->Shared->Prop
def frs (l:List Env):List Addr:=l.filterMap (·.frame)
abbrev Cx.fs (X:Cx):List Addr:=frs X.outer
def Vis (sc:Scope) (x:Str):Prop:=sc.names.lookup x=some .local \/ sc.names.lookup x=some .cell \/ sc.names.lookup x=some .free
def Loc (sc:Scope) (x:Str):Prop:=sc.names.lookup x=some .local \/ sc.names.lookup x=some .cell
def Look (env:Env) (h:Heap) (m:Str->Option Value) (x:Str) (u:Value):Prop :=
 (env.kindOf x=some .local/\m x=some u) \/ ((env.kindOf x=some .cell \/ env.kindOf x=some .free)/\∃ c,env.cells.lookup x=some c/\h.IsCell c (some u))
structure Cx.Ok (X:Cx):Prop where
 mod:Mod X.K X.mg X.base
 kind:X.env.scope.kind=.function
 glob:X.env.globals=mainGlobals
 blt:X.env.builtins=builtinsNs
 above:X.s₀.heap.objs.size <= X.env.locals
 inj:∀ x y c,X.env.cells.lookup x=some c->X.env.cells.lookup y=some c->x=y
 has:∀ x,(X.env.kindOf x=some .cell \/ X.env.kindOf x=some .free)->∃ c,X.env.cells.lookup x=some c
 cab:∀ x c,X.fn x=true->X.env.cells.lookup x=some c->X.s₀.heap.objs.size <= c
 hd:X.calm=true->X.A.handled=none
 frames:X.A.frames=some X.stack
 stk:X.stack=X.outer \/ (X.stack=X.env :: X.outer/\X.env.frame=some X.env.locals)
 exf:∀ b∈X.ex,b ≠ X.env.locals/\∀ x c,X.env.cells.lookup x=some c->c ≠ b
 bs:∀ b o,X.base.get? b=some o->X.s₀.heap.get? b=some o/\X.H₀ b=none
 bsz:X.base.objs.size <= X.s₀.heap.objs.size
 noex:∀ b o,X.base.get? b=some o->b ∉ X.ex
 exfs:∀ b∈X.ex,b ∉ X.fs
 funs:X.s₀.heap.FunFrames X.base X.outer
 frf:∀ b∈X.fs,X.H₀ b=none
structure Inv (X:Cx) (pins:List (Addr × Obj)) (σ:List (Option V)) (H:Hp) (s:Shared):Prop where
 ok:X.Ok
 os:s.os=X.s₀.os
 bare:AllBare s.gens
 base:Un X.fs X.ex X.H₀ H X.s₀.heap s.heap
 loc:∃ m,s.heap.Ns X.env.locals m/\∀ (i:Nat) (x:Str) (v:V),X.N[i]?=some x->σ[i]?=some (some v)->Vis X.env.scope x->∃ u,RelV v u/\Look X.env s.heap m x u
 cell:∀ x c,X.env.cells.lookup x=some c->∃ v,s.heap.IsCell c v
 free:H X.env.locals=none
 freeC:∀ x c,X.env.cells.lookup x=some c->H c=none
 pin:∀ p∈X.pn++pins,s.heap.get? p.1=some p.2/\H p.1=none/\p.1 ≠ X.env.locals/\p.1 ∉ X.fs/\∀ v,p.2.data ≠ .cell v
 hok:HOk X.prog X.w H s.heap
 len:σ.length=X.N.length
section
variable {X:Cx} {pins:List (Addr × Obj)} {σ:List (Option V)} {H H':Hp} {s:Shared} {h':Heap}
theorem Cx.Ok.nofr (ok:X.Ok) {b:Addr} {o:Obj} (e:X.base.get? b=some o):b ∉ X.fs:=fun hb=>by
 have:=(ok.funs.mem hb).1
 rw [e] at this; cases this
theorem Inv.bs (I:Inv X pins σ H s):∀ b o,X.base.get? b=some o->s.heap.get? b=some o/\H b=none:=fun b o e =>
 ⟨I.base.keep b o (I.ok.bs b o e).1 (I.ok.bs b o e).2 (I.ok.nofr e) (I.ok.noex b o e),I.base.free b o (I.ok.bs b o e).1 (I.ok.bs b o e).2 (I.ok.noex b o e)⟩
theorem Inv.bk (I:Inv X pins σ H s):∀ b o,X.base.get? b=some o->s.heap.get? b=some o:=fun b o e=>(I.bs b o e).1
theorem Inv.mod (I:Inv X pins σ H s):Mod X.K X.mg X.base:=I.ok.mod
theorem Inv.kIn (I:Inv X pins σ H s):X.K.In s.heap:=I.ok.mod.kin.keeps I.bk
theorem Inv.nolimit (I:Inv X pins σ H s):s.heap.NoLimit:=I.ok.mod.nolimit.keeps I.bk
theorem Inv.lt (I:Inv X pins σ H s):X.env.locals < s.heap.objs.size:=let ⟨_,hn,_⟩:=I.loc; hn.lt
theorem Inv.sz (I:Inv X pins σ H s):X.s₀.heap.objs.size <= s.heap.objs.size:=le_trans I.ok.above (le_of_lt I.lt)
theorem Inv.nofs (I:Inv X pins σ H s) {a:Addr} (h:s.heap.objs.size <= a):a ∉ X.fs:=fun hb=>by
 obtain ⟨_,o,ho,_⟩:=I.ok.funs.mem hb;exact absurd (lt_of_lt_of_le (Heap.lt_size ho) (le_trans I.sz h)) (lt_irrefl _)
theorem Inv.cne (I:Inv X pins σ H s):∀ x c,X.env.cells.lookup x=some c->c ≠ X.env.locals:=fun x c e z=>by
 obtain ⟨v,o,ho,hd⟩:=I.cell x c e;obtain ⟨m,⟨o',es,ep,ho',hd',_⟩,_⟩:=I.loc;rw [z,ho'] at ho; cases ho; rw [hd'] at hd; cases hd
theorem Inv.funs (I:Inv X pins σ H s):s.heap.FunFrames X.base X.outer:=by
 have all:∀ (l:List Env),(∀ b∈frs l,b∈X.fs)->X.s₀.heap.FunFrames X.base l->s.heap.FunFrames X.base l:=by
  intro l
  induction l with
  | nil=>intro _ _; trivial
  | cons env r ih =>
   intro hs hl;obtain ⟨hk,⟨L,o,hf,hn,ho,hd⟩,hr⟩:=hl;have hL:L∈X.fs:=hs L (by unfold frs; rw [filterMap_cons,hf]; exact mem_cons_self);obtain ⟨sl,e⟩:=I.base.slot L o ho (I.ok.frf L hL) hL fun z=>I.ok.exfs L z hL;exact ⟨hk,⟨L,_,hf,hn,e,hd⟩,ih (fun b hb=>hs b (by unfold frs; rw [filterMap_cons,hf]; exact mem_cons_of_mem _ hb)) hr⟩
 exact all X.outer (fun _ hb=>hb) I.ok.funs
theorem Inv.stack (I:Inv X pins σ H s):s.heap.FunFrames X.base X.stack:=by
 rcases I.ok.stk with e | ⟨e,hf⟩
 ·rw [e]; exact I.funs
 ·rw [e]
  obtain ⟨m,hn,_⟩:=I.loc;refine .cons (by rw [I.ok.kind]; decide) hf hn ?_ I.funs;exact Heap.get?_none_of_le (le_trans I.ok.bsz I.ok.above)
theorem Inv.stkSub (I:Inv X pins σ H s):∀ b∈frs X.stack,b∈X.env.locals :: X.fs:=fun b hb=>by
 rcases I.ok.stk with e | ⟨e,hf⟩
 ·rw [e] at hb; exact mem_cons_of_mem _ hb
 ·rw [e] at hb
  unfold frs at hb;rw [filterMap_cons,hf] at hb;exact hb
theorem Inv.stkFree (I:Inv X pins σ H s):∀ b∈frs X.stack,H b=none:=fun b hb=>by
 rcases List.mem_cons.mp (I.stkSub b hb) with e | hb
 ·rw [e]; exact I.free
 ·obtain ⟨_,o,ho,_⟩:=I.ok.funs.mem hb
  exact I.base.free b o ho (I.ok.frf b hb) fun z=>I.ok.exfs b z hb
theorem Inv.step {g':Array GenState} {t':Nat} {d':Drawn} {ch:List Addr} (I:Inv X pins σ H s)
  (hch:∀ b∈ch,(b∈X.ex \/ X.s₀.heap.objs.size <= b)/\b ≠ X.env.locals/\(∀ x c,X.env.cells.lookup x=some c->c ≠ b)/\∀ p∈X.pn++pins,p.1 ≠ b)
  (keep:∀ b o,b ≠ X.env.locals->b ∉ X.fs->b ∉ ch->s.heap.get? b=some o->H b=none->h'.get? b=some o)
  (slot:∀ b o,b ≠ X.env.locals->b∈X.fs->b ∉ ch->s.heap.get? b=some o->H b=none->∃ sl,h'.get? b=some { o with slots:=sl }) (free:∀ b o,b ∉ ch->s.heap.get? b=some o->H b=none->H' b=none)
  (there:∀ b o,b ∉ ch->s.heap.get? b=some o->∃ o',h'.get? b=some o')
  (tups:∀ b xs,H b=some (.tup xs)->H' b=some (.tup xs)) (frzs:∀ b o u,H b=some (.frz o u)->H' b=some (.frz o u)) (tbls:∀ b ps,H b=some (.tbl ps)->∃ more,H' b=some (.tbl (ps++more)))
  (ns:∀ m,s.heap.Ns X.env.locals m->h'.Ns X.env.locals m) (hok:HOk X.prog X.w H' h') (hg:AllBare g') :
  Inv X pins σ H' { s with heap:=h',gens:=g',drawn:=d',toks:=t' }:=by
 have neL:∀ b o,X.s₀.heap.get? b=some o->b ≠ X.env.locals:=fun b o e=>ne_of_lt (lt_of_lt_of_le (Heap.lt_size e) I.ok.above);have neC:∀ b o,X.s₀.heap.get? b=some o->b ∉ X.ex->b ∉ ch:=fun b o e hx hb=>by
  rcases (hch b hb).1 with z | z
  ·exact hx z
  ·exact absurd (lt_of_lt_of_le (Heap.lt_size e) z) (lt_irrefl _)
 have cellK:∀ x c,X.env.cells.lookup x=some c->∀ v,s.heap.IsCell c v->h'.IsCell c v:=fun x c e v ⟨o,ho,hd⟩=>by
  have nch:c ∉ ch:=fun z=>(hch c z).2.2.1 x c e rfl
  by_cases hc:c∈X.fs
  ·obtain ⟨sl,q⟩:=slot c o (I.cne x c e) hc nch ho (I.freeC x c e)
   exact ⟨_,q,hd⟩
  ·exact ⟨o,keep c o (I.cne x c e) hc nch ho (I.freeC x c e),hd⟩
 refine ⟨I.ok,I.os,hg,⟨fun b o e n hb hx=>?_,fun b o e n hb hx=>?_,fun b o e n hx=>?_,fun b o e hx=>?_,fun b xs e=>tups b xs (I.base.tups b xs e),fun b o xs e=>frzs b o xs (I.base.frzs b o xs e),fun b ps e=>?_⟩,?_,fun x c e=>?_,?_,fun x c e=>?_,fun p hp=>?_,hok,I.len⟩
 ·exact keep b o (neL b o e) hb (neC b o e hx) (I.base.keep b o e n hb hx) (I.base.free b o e n hx)
 ·obtain ⟨sl,e1⟩:=I.base.slot b o e n hb hx
  obtain ⟨sl',e2⟩:=slot b _ (neL b o e) hb (neC b o e hx) e1 (I.base.free b o e n hx);exact ⟨sl',e2⟩
 ·obtain ⟨o',e1⟩:=I.base.there b o e hx
  exact free b o' (neC b o e hx) e1 (I.base.free b o e n hx)
 ·obtain ⟨o',e1⟩:=I.base.there b o e hx
  exact there b o' (neC b o e hx) e1
 ·obtain ⟨m1,e1⟩:=I.base.tbls b ps e
  obtain ⟨m2,e2⟩:=tbls b _ e1;exact ⟨m1++m2,by rw [e2,Array.append_assoc]⟩
 ·obtain ⟨m,hn,hl⟩:=I.loc
  refine ⟨m,ns m hn,fun i x v e1 e2 e3=>?_⟩;obtain ⟨u,r,l⟩:=hl i x v e1 e2 e3;refine ⟨u,r,?_⟩;rcases l with l | ⟨k,c,e,z⟩
  ·exact .inl l
  ·exact .inr ⟨k,c,e,cellK x c e _ z⟩
 ·obtain ⟨v,z⟩:=I.cell x c e
  exact ⟨v,cellK x c e v z⟩
 ·obtain ⟨m,⟨o,_,_,ho,_⟩,_⟩:=I.loc
  exact free _ o (fun z=>(hch _ z).2.1 rfl) ho I.free
 ·obtain ⟨v,o,ho,hd⟩:=I.cell x c e
  exact free c o (fun z=>(hch c z).2.2.1 x c e rfl) ho (I.freeC x c e)
 ·obtain ⟨e,n,ne,nf,d⟩:=I.pin p hp
  have nch:p.1 ∉ ch:=fun z=>(hch p.1 z).2.2.2 p hp rfl;exact ⟨keep p.1 p.2 ne nf nch e n,free p.1 p.2 nch e n,ne,nf,d⟩
theorem Inv.un {t':Nat} (I:Inv X pins σ H s) (u:Un X.fs [] H H' s.heap h') (hok:HOk X.prog X.w H' h'):Inv X pins σ H' { s with heap:=h',toks:=t' }:=by
 obtain ⟨m,⟨o,es,ep,ho,r⟩,_⟩:=id I.loc;obtain ⟨sl,hL⟩:=u.any ho I.free (by simp);exact I.step (g':=s.gens) (d':=s.drawn) (ch:=[]) (fun _ z=>nomatch z) (fun b o _ hb _ e n=>u.keep b o e n hb (by simp)) (fun b o _ hb _ e n=>u.slot b o e n hb (by simp)) (fun b o _ e n=>u.free b o e n (by simp)) (fun b o _ e=>u.there b o e (by simp)) u.tups u.frzs u.tbls (fun m' hm=>by
  obtain ⟨o',es',ep',ho',r'⟩:=hm;rw [ho] at ho'; cases ho';exact ⟨_,es',ep',hL,r'⟩) hok I.bare
theorem Inv.call {g':Array GenState} {t':Nat} {d':Drawn} {ch:List Addr} (I:Inv X pins σ H s) (u:Un (frs X.stack) ch H H' s.heap h') (hok:HOk X.prog X.w H' h') (hg:AllBare g')
  (hch:∀ b∈ch,(b∈X.ex \/ X.s₀.heap.objs.size <= b)/\b ≠ X.env.locals/\(∀ x c,X.env.cells.lookup x=some c->c ≠ b)/\∀ p∈X.pn++pins,p.1 ≠ b) :
  Inv X pins σ H' { s with heap:=h',gens:=g',drawn:=d',toks:=t' }:=by
 obtain ⟨m,⟨o,es,ep,ho,r⟩,_⟩:=id I.loc;obtain ⟨sl,hL⟩:=u.any ho I.free fun z=>(hch _ z).2.1 rfl;exact I.step (ch:=ch) hch (fun b o hL hb hc e n=>u.keep b o e n (fun z=>(List.mem_cons.mp (I.stkSub b z)).elim hL hb) hc) (fun b o _ _ hc e n=>u.any e n hc) (fun b o hc e n=>u.free b o e n hc) (fun b o hc e=>u.there b o e hc) u.tups u.frzs u.tbls (fun m' hm=>by
  obtain ⟨o',es',ep',ho',r'⟩:=hm;rw [ho] at ho'; cases ho';exact ⟨_,es',ep',hL,r'⟩) hok hg
theorem Inv.turned {t':Nat} {it:Addr} (I:Inv X pins σ H s) (k:∀ b o,b ≠ it->s.heap.get? b=some o->h'.get? b=some o) (hn:H it=none) (hL:it ≠ X.env.locals)
  (h1:it∈X.ex \/ X.s₀.heap.objs.size <= it) (h2:∀ x c,X.env.cells.lookup x=some c->c ≠ it) (h3:∀ p∈X.pn++pins,p.1 ≠ it):Inv X pins σ H { s with heap:=h',toks:=t' }:=by
 have nit:∀ b u,H b=some u->b ≠ it:=fun b u e z=>by rw [z,hn] at e; cases e
 refine I.step (g':=s.gens) (d':=s.drawn) (ch:=[it]) (fun b hb=>?_) (fun b o _ _ hc e _=>k b o (fun z=>hc (by simp [z])) e) (fun b o _ _ hc e _=>⟨o.slots,k b o (fun z=>hc (by simp [z])) e⟩) (fun _ _ _ _ n=>n)
  (fun b o hc e=>⟨o,k b o (fun z=>hc (by simp [z])) e⟩) (fun _ _ e=>e) (fun _ _ _ e=>e) (fun b ps e=>⟨#[],by rw [e]; simp⟩) (fun m hm=>?_) (fun b u e=>?_) I.bare
 ·have e:b=it:=by simpa using hb
  subst e;exact ⟨h1,hL,h2,h3⟩
 ·obtain ⟨o,es,ep,ho,r⟩:=hm
  exact ⟨o,es,ep,k _ o (Ne.symm hL) ho,r⟩
 ·refine (I.hok b u e).stay (fun c v hc q=>k c v ?_ q) (fun _ q=>q) fun _ _ q=>q
  rcases hc with z | z
  ·rw [z]; exact nit b u e
  ·exact nit c _ z
theorem Inv.tok (I:Inv X pins σ H s) (t:Nat):Inv X pins σ H { s with toks:=t }:=I.un (h':=s.heap) (t':=t) Un.refl I.hok
theorem Inv.kept {t':Nat} (I:Inv X pins σ H s) (k:∀ b u,s.heap.get? b=some u->h'.get? b=some u):Inv X pins σ H { s with heap:=h',toks:=t' }:=I.un (Un.kept k) (I.hok.kept k)
theorem Inv.laid {a:Addr} {o:HO} {t':Nat} (I:Inv X pins σ H s) (k:∀ b u,s.heap.get? b=some u->h'.get? b=some u) (hp:s.heap.objs.size <= a) (new:ObjOk X.prog X.w (upd H a o) h' a o) :
  Inv X pins σ (upd H a o) { s with heap:=h',toks:=t' }:=I.un (Un.laid k hp (I.hok.fresh hp)) (I.hok.laid k hp new)
theorem Inv.write {x e:Addr} {o:HO} {t':Nat} (I:Inv X pins σ H s) (mu:Mut (H x)) (he:e=x \/ H e=some (.own x)) (k:∀ b u,b ≠ e->s.heap.get? b=some u->h'.get? b=some u) (heo:∃ u,h'.get? e=some u)
  (new:ObjOk X.prog X.w (upd H x o) h' x o):Inv X pins σ (upd H x o) { s with heap:=h',toks:=t' }:=I.un (Un.write mu he k heo) (I.hok.write mu he k heo new)
theorem Inv.pins_of {pins':List (Addr × Obj)} (I:Inv X pins σ H s) (h:∀ p∈pins',s.heap.get? p.1=some p.2/\H p.1=none/\p.1 ≠ X.env.locals/\p.1 ∉ X.fs/\∀ v,p.2.data ≠ .cell v):Inv X pins' σ H s :=
 ⟨I.ok,I.os,I.bare,I.base,I.loc,I.cell,I.free,I.freeC,fun p hp=>(List.mem_append.mp hp).elim (fun z=>I.pin p (List.mem_append_left _ z)) (h p),I.hok,I.len⟩
theorem nodup_ix {N:List Str} (hN:N.Nodup) {i j:Nat} {x:Str} (a:N[i]?=some x) (b:N[j]?=some x):i=j:=by
 obtain ⟨h1,e1⟩:=List.getElem?_eq_some_iff.mp a;obtain ⟨h2,e2⟩:=List.getElem?_eq_some_iff.mp b;exact (List.getElem_inj hN).mp (e1.trans e2.symm)
theorem store_ok2 {M:Model} {A:Around} {E:Value->Shared->Prop} {i:Nat} {x:Str} {v:V} {u:Value} {Q:Unit->Shared->Prop} (I:Inv X pins σ H s) (hN:X.N.Nodup) (hi:X.N[i]?=some x) (hx:Loc X.env.scope x) (r:RelV v u)
  (h:∀ s',Inv X pins (σ.set i (some v)) H s'->(∃ a,Heap.SameBut a s.heap s'.heap/\(a=X.env.locals \/ X.env.cells.lookup x=some a))->Q () s') (hf:X.fn x=true \/ X.env.scope.names.lookup x=some .local:=by first | exact .inl rfl | exact .inr rfl | assumption):wpAny M A (storeName X.env x u) Q E s:=by
 obtain ⟨m,hn,hl⟩:=id I.loc;have hcls:(X.env.scope.kind == .class || (X.env.scope.kind == .module && X.env.locals != X.env.globals))=false:=by rw [I.ok.kind]; rfl
 have hiσ:i < σ.length:=by rw [I.len]; exact (List.getElem?_eq_some_iff.mp hi).1
 have cne:=I.cne;have tracked:∀ {a:Addr} {h':Heap},(∃ o,s.heap.get? a=some o/\H a=none)->Heap.SameBut a s.heap h'->HOk X.prog X.w H h':=fun {a h'} ha hs b ob e=>by
  obtain ⟨_,_,hfree⟩:=ha;refine (I.hok b ob e).stay (fun c w' hc q=>(hs.2 c ?_).trans q) (fun _ q=>q) fun _ _ q=>q;rintro rfl;rcases hc with rfl | hc
  ·rw [hfree] at e; cases e
  ·rw [hfree] at hc; cases hc
 rcases hx with hk | hk
 ·refine wpAny_storeName_local hk hn (fun h' hn' hs=>?_) hcls
  obtain ⟨oL,_,_,hoL,_⟩:=id hn;refine h _ ⟨I.ok,I.os,I.bare,⟨fun b o e n hb hx=>?_,fun b o e n hb hx=>?_,I.base.free,fun b o e hx=>?_,I.base.tups,I.base.frzs,I.base.tbls⟩,⟨_,hn',fun j y v' e1 e2 e3=>?_⟩,fun y c e=>?_,I.free,I.freeC,fun p hp=>?_,tracked ⟨oL,hoL,I.free⟩ hs,by simpa using I.len⟩ ⟨_,hs,.inl rfl⟩
  ·exact (hs.2 b (ne_of_lt (lt_of_lt_of_le (Heap.lt_size e) I.ok.above))).trans (I.base.keep b o e n hb hx)
  ·obtain ⟨sl,e1⟩:=I.base.slot b o e n hb hx
   exact ⟨sl,(hs.2 b (ne_of_lt (lt_of_lt_of_le (Heap.lt_size e) I.ok.above))).trans e1⟩
  ·obtain ⟨o',e1⟩:=I.base.there b o e hx
   exact ⟨o',(hs.2 b (ne_of_lt (lt_of_lt_of_le (Heap.lt_size e) I.ok.above))).trans e1⟩
  ·by_cases hj:j=i
   ·subst hj
    rw [hi] at e1; cases e1;rw [getElem?_set_self hiσ] at e2;cases e2;exact ⟨u,r,.inl ⟨hk,by simp⟩⟩
   ·rw [getElem?_set_ne (Ne.symm hj)] at e2
    obtain ⟨u',r',q⟩:=hl j y v' e1 e2 e3;refine ⟨u',r',?_⟩;rcases q with ⟨k,e⟩ | ⟨k,c,e,z⟩
    ·refine .inl ⟨k,?_⟩
     have:y ≠ x:=fun e=>hj (nodup_ix hN e1 (e ▸ hi))
     simp [this,e]
    ·exact .inr ⟨k,c,e,z.sameBut hs (cne y c e)⟩
  ·obtain ⟨w',z⟩:=I.cell y c e
   exact ⟨w',z.sameBut hs (cne y c e)⟩
  ·obtain ⟨e,n,ne,nf,d⟩:=I.pin p hp
   exact ⟨(hs.2 p.1 ne).trans e,n,ne,nf,d⟩
 ·have hfn:X.fn x=true:=by
   rcases hf with z | z
   ·exact z
   ·rw [z] at hk; cases hk
  obtain ⟨c,hc⟩:=I.ok.has x (.inl hk);obtain ⟨w',z⟩:=I.cell x c hc;refine wpAny_storeName_cell I.ok.kind hk hc z (fun h' hc' hs=>?_);obtain ⟨oc,hoc,hocd⟩:=id z;refine h { s with heap:=h' } ⟨I.ok,I.os,I.bare,⟨fun b o e n hb hx=>?_,fun b o e n hb hx=>?_,I.base.free,fun b o e hx=>?_,I.base.tups,I.base.frzs,I.base.tbls⟩,⟨m,hn.sameBut hs (Ne.symm (cne x c hc)),fun j y v' e1 e2 e3=>?_⟩,fun y c' e=>?_,I.free,I.freeC,fun p hp=>?_,tracked ⟨oc,hoc,I.freeC x c hc⟩ hs,by simpa using I.len⟩ ⟨c,hs,.inr hc⟩
  ·exact (hs.2 b (ne_of_lt (lt_of_lt_of_le (Heap.lt_size e) (I.ok.cab x c hfn hc)))).trans (I.base.keep b o e n hb hx)
  ·obtain ⟨sl,e1⟩:=I.base.slot b o e n hb hx
   exact ⟨sl,(hs.2 b (ne_of_lt (lt_of_lt_of_le (Heap.lt_size e) (I.ok.cab x c hfn hc)))).trans e1⟩
  ·obtain ⟨o',e1⟩:=I.base.there b o e hx
   exact ⟨o',(hs.2 b (ne_of_lt (lt_of_lt_of_le (Heap.lt_size e) (I.ok.cab x c hfn hc)))).trans e1⟩
  ·by_cases hj:j=i
   ·subst hj
    rw [hi] at e1; cases e1;rw [getElem?_set_self hiσ] at e2;cases e2;exact ⟨u,r,.inr ⟨.inl hk,c,hc,hc'⟩⟩
   ·rw [getElem?_set_ne (Ne.symm hj)] at e2
    obtain ⟨u',r',q⟩:=hl j y v' e1 e2 e3;refine ⟨u',r',?_⟩;rcases q with q | ⟨k,c',e,z'⟩
    ·exact .inl q
    ·refine .inr ⟨k,c',e,z'.sameBut hs ?_⟩
     rintro rfl;exact hj (nodup_ix hN e1 (I.ok.inj _ _ _ e hc ▸ hi))
  ·by_cases hcc:c'=c
   ·subst hcc; exact ⟨_,hc'⟩
   ·obtain ⟨w2,z2⟩:=I.cell y c' e
    exact ⟨w2,z2.sameBut hs hcc⟩
  ·obtain ⟨e,n,ne,nf,d⟩:=I.pin p hp
   refine ⟨(hs.2 p.1 ?_).trans e,n,ne,nf,d⟩;intro q;rw [q,hoc] at e;have q':oc=p.2:=Option.some.inj e;exact d w' (by rw [<- q']; exact hocd)
theorem store_ok {M:Model} {A:Around} {E:Value->Shared->Prop} {i:Nat} {x:Str} {v:V} {u:Value} {Q:Unit->Shared->Prop} (I:Inv X pins σ H s) (hN:X.N.Nodup) (hi:X.N[i]?=some x) (hx:Loc X.env.scope x) (r:RelV v u)
  (h:∀ s',Inv X pins (σ.set i (some v)) H s'->Q () s') (hf:X.fn x=true \/ X.env.scope.names.lookup x=some .local:=by first | exact .inl rfl | exact .inr rfl | assumption):wpAny M A (storeName X.env x u) Q E s :=
 store_ok2 I hN hi hx r (fun s' I' _=>h s' I') hf
theorem Inv.call' {s':Shared} {ch:List Addr} (I:Inv X pins σ H s) (ho:s'.os=s.os) (u:Un (frs X.stack) ch H H' s.heap s'.heap) (hok:HOk X.prog X.w H' s'.heap) (hg:AllBare s'.gens)
  (hch:∀ b∈ch,(b∈X.ex \/ X.s₀.heap.objs.size <= b)/\b ≠ X.env.locals/\(∀ x c,X.env.cells.lookup x=some c->c ≠ b)/\∀ p∈X.pn++pins,p.1 ≠ b):Inv X pins σ H' s':=by
 obtain ⟨h',g',d',t',o'⟩:=s';have e:o'=s.os:=ho;subst e;exact I.call (g':=g') (t':=t') (d':=d') u hok hg hch
end
abbrev XK:=Value->Option Addr->Hp->Prop
abbrev St:=List (Option V)
abbrev VK:=V->Hp->Prop
abbrev TE:=St->Hp->VK->Prop
abbrev TT:=St->Hp->(Bool->Hp->Prop)->Prop
abbrev TA:=St->Hp->(List V->Hp->Prop)->Prop
structure Ends where
 nx:St->Hp->Prop
 rt:VK
 bk:St->Hp->Prop:=fun _ _=>False
 ct:St->Hp->Prop:=fun _ _=>False
abbrev TS:=Ends->St->Hp->Prop
def EP (X:Cx) (pins:List (Addr × Obj)) (σ:St) (Q:VK) (u:Value) (s':Shared):Prop:=∃ v H',Inv X pins σ H' s'/\RelV v u/\Q v H'
def TP (X:Cx) (pins:List (Addr × Obj)) (σ:St) (Q:Bool->Hp->Prop) (b:Bool) (s':Shared):Prop:=∃ H',Inv X pins σ H' s'/\Q b H'
def AP (X:Cx) (pins:List (Addr × Obj)) (σ:St) (Q:List V->Hp->Prop) (us:List Value) (s':Shared):Prop:=∃ vs H',Inv X pins σ H' s'/\Vals vs us/\Q vs H'
def SP (X:Cx) (pins:List (Addr × Obj)) (D:Ends) (f:Flow) (s':Shared):Prop :=
 match f with
 | .next=>∃ σ' H',Inv X pins σ' H' s'/\D.nx σ' H'
 | .brk=>∃ σ' H',Inv X pins σ' H' s'/\D.bk σ' H'
 | .cont=>∃ σ' H',Inv X pins σ' H' s'/\D.ct σ' H'
 | .ret u=>∃ v σ' H',Inv X pins σ' H' s'/\RelV v u/\D.rt v H'
def PE (X:Cx) (e:Expr) (t:TE):Prop :=
 ∀ (pins:List (Addr × Obj)) (s:Shared) (σ:St) (H:Hp) (Q:VK),Inv X pins σ H s->t σ H Q->wpAny (model X.prog X.w) X.A (eval e X.env) (EP X pins σ Q) X.xe s
def PT (X:Cx) (e:Expr) (t:TT):Prop :=
 ∀ (pins:List (Addr × Obj)) (s:Shared) (σ:St) (H:Hp) (Q:Bool->Hp->Prop),Inv X pins σ H s->t σ H Q->wpAny (model X.prog X.w) X.A (isTrue e X.env (eval e X.env)) (TP X pins σ Q) X.xe s
def PW (X:Cx) (e:Expr) (t:TT):Prop :=
 ∀ (whole:Sem Value) (pins:List (Addr × Obj)) (s:Shared) (σ:St) (H:Hp) (Q:Bool->Hp->Prop),Inv X pins σ H s->t σ H Q->wpAny (model X.prog X.w) X.A (isTrue e X.env whole) (TP X pins σ Q) X.xe s
def PA (X:Cx) (es:List Expr) (t:TA):Prop :=
 ∀ (pos:Pos) (pins:List (Addr × Obj)) (s:Shared) (σ:St) (H:Hp) (Q:List V->Hp->Prop),Inv X pins σ H s->t σ H Q->wpAny (model X.prog X.w) X.A (spliced (backTo pos (starEach es X.env))) (AP X pins σ Q) X.xe s
def PS (X:Cx) (st:Stmt) (t:TS):Prop :=
 ∀ (pins:List (Addr × Obj)) (s:Shared) (σ:St) (H:Hp) (D:Ends),Inv X pins σ H s->t D σ H->wpAny (model X.prog X.w) X.A (exec st X.env) (SP X pins D) X.xe s
def PSs (X:Cx) (st:List Stmt) (t:TS):Prop :=
 ∀ (pins:List (Addr × Obj)) (s:Shared) (σ:St) (H:Hp) (D:Ends),Inv X pins σ H s->t D σ H->wpAny (model X.prog X.w) X.A (execs st X.env) (SP X pins D) X.xe s
theorem thn {α:Type} {t:Sem α} {Q Q':α->Shared->Prop} {M:Model} {A:Around} {E:Value->Shared->Prop} {s:Shared} (h:wpAny M A t Q E s) (hQ:∀ a s,Q a s->Q' a s):wpAny M A t Q' E s:=wpAny_mono h hQ fun _ _ x=>x
end L2
namespace L2
open PySem PySem.Spec PyProof.Rows
section
variable {X:Cx}
def tVar (i:Nat):TE:=fun σ H Q=>∃ v,σ[i]?=some (some v)/\Q v H
def tC (v:V):TE:=fun _ H Q=>Q v H
theorem pe_var {i:Nat} {x:Str} {pos:Pos} (hN:X.N[i]?=some x) (hv:Vis X.env.scope x) (hd:(x == ("__debug__":Str))=false:=by decide) (hcd:(x == ("__classdict__":Str))=false:=by decide):PE X (.Name x pos) (tVar i):=by
 intro pins s σ H Q I h;obtain ⟨v,e,h⟩:=h;obtain ⟨m,hn,hl⟩:=I.loc;obtain ⟨u,r,l⟩:=hl i x v hN e hv;have fin:EP X pins σ Q u s:=⟨v,H,I,r,h⟩;rcases l with ⟨hk,hm⟩ | ⟨hk,c,hc,hcell⟩
 ·exact wpAny_Name (wpAny_loadName_local I.ok.kind hk hn hm fin) hd
 ·rcases hk with hk | hk
  ·exact wpAny_Name (wpAny_loadName_cell I.ok.kind hk hc hcell fin) hd
  ·exact wpAny_Name (wpAny_loadName_free I.ok.kind hk hc hcell fin hcd) hd
theorem pe_int {i j pos}:PE X (.Constant (.int i) j pos) (tC (.int i)):=fun _ _ _ H _ I h=>wpAny_Constant_int ⟨.int i,H,I.tok _,⟨_,rfl⟩,h⟩
theorem pe_bl {b j pos}:PE X (.Constant (.bool b) j pos) (tC (.bl b)):=fun _ _ _ H _ I h=>Constant_bool ⟨.bl b,H,I,rfl,h⟩
theorem pe_non {j pos}:PE X (.Constant .none j pos) (tC .non):=fun _ _ _ H _ I h=>Constant_none ⟨.non,H,I,rfl,h⟩
def Gl (X:Cx) (x:Str):Prop:=X.env.kindOf x=some .globalImplicit
theorem ld_glob {E:Value->Shared->Prop} {pins:List (Addr × Obj)} {s:Shared} {σ:St} {H:Hp} {x:Str} {u:Value} {pos:Pos} {Q:Value->Shared->Prop} (I:Inv X pins σ H s) (hg:Gl X x) (hm:X.mg x=some u) (h:Q u s)
  (hd:(x == ("__debug__":Str))=false:=by decide):wpAny (model X.prog X.w) X.A (eval (.Name x pos) X.env) Q E s :=
 Calls.Name_function_global I.ok.kind hg (Calls.loadGlobal_global (by rw [I.ok.glob]; exact I.mod.glob.keeps I.bk) hm h) hd
theorem ld_blt {E:Value->Shared->Prop} {pins:List (Addr × Obj)} {s:Shared} {σ:St} {H:Hp} {x:Str} {u:Value} {pos:Pos} {Q:Value->Shared->Prop} (I:Inv X pins σ H s) (hg:Gl X x) (hm:X.mg x=none) (hv:bootBuiltins x=some u) (h:Q u s)
  (hn:x ≠ "__name__":=by decide) (hd:(x == ("__debug__":Str))=false:=by decide):wpAny (model X.prog X.w) X.A (eval (.Name x pos) X.env) Q E s:=by
 obtain ⟨mb,h1,h2⟩:=I.mod.blt;exact Calls.Name_function_global I.ok.kind hg (Calls.loadGlobal_builtin (by rw [I.ok.glob]; exact I.mod.glob.keeps I.bk) hm (by rw [I.ok.blt]; exact h1.keeps I.bk) ((h2 x hn).trans hv) h) hd
theorem pe_glob {x:Str} {v:V} {u:Value} {pos:Pos} (hg:Gl X x) (hm:X.mg x=some u) (r:RelV v u) (hd:(x == ("__debug__":Str))=false:=by decide):PE X (.Name x pos) (tC v) :=
 fun _ _ _ H _ I h=>ld_glob I hg hm ⟨v,H,I,r,h⟩ hd
theorem pe_bltn {x:Str} {v:V} {u:Value} {pos:Pos} (hg:Gl X x) (hm:X.mg x=none) (hv:bootBuiltins x=some u) (r:RelV v u) (hn:x ≠ "__name__":=by decide) (hd:(x == ("__debug__":Str))=false:=by decide):PE X (.Name x pos) (tC v) :=
 fun _ _ _ H _ I h=>ld_blt I hg hm hv ⟨v,H,I,r,h⟩ hn hd
variable {a b:Expr} {ta tb:TE} {pos:Pos}
def tB (t:TE):TT:=fun σ H Q=>t σ H fun x H1=>∃ c,x=.bl c/\Q c H1
theorem pt_val {e:Expr} {t:TE} (h:PE X e t) (he:∀ whole,isTrue e X.env whole=(do let v <- whole; standAt e.pos; holding [v] (truthy v)):=by intro _; rfl):PT X e (tB t):=by
 intro pins s σ H Q I hw;refine isTrue_plain (thn (h pins s σ H _ I hw) fun v s1 hQ=>?_) (he _);obtain ⟨x,H1,I1,r1,q1⟩:=hQ;obtain ⟨d,rfl,q⟩:=q1;cases r1;exact wpAny_truthy_bool ⟨H1,I1,q⟩
variable {tA tB':TT} {rest:List Expr}
def tAnd (t u:TT):TT:=fun σ H Q=>t σ H fun c H1=>if c=true then u σ H1 Q else Q false H1
def tOr (t u:TT):TT:=fun σ H Q=>t σ H fun c H1=>if c=true then Q true H1 else u σ H1 Q
def tNot (t:TT):TT:=fun σ H Q=>t σ H fun c H1=>Q (!c) H1
theorem pw_and1 (ha:PT X a tA):PW X (.BoolOp .And [a] pos) tA:=by
 intro wh pins s σ H Q I h;refine isTrue_and (thn (ha pins s σ H Q I h) fun c s1 e=>?_);cases c with
 | true=>exact isTrue_and_nil e
 | false=>exact e
theorem pw_or1 (ha:PT X a tA):PW X (.BoolOp .Or [a] pos) tA:=by
 intro wh pins s σ H Q I h;refine isTrue_or (thn (ha pins s σ H Q I h) fun c s1 e=>?_);cases c with
 | false=>exact isTrue_or_nil e
 | true=>exact e
theorem pw_and (ha:PT X a tA) (hb:PW X (.BoolOp .And (b :: rest) pos) tB'):PW X (.BoolOp .And (a :: b :: rest) pos) (tAnd tA tB'):=by
 intro wh pins s σ H Q I h;refine isTrue_and (thn (ha pins s σ H _ I h) fun c s1 hQ=>?_);obtain ⟨H1,I1,q1⟩:=hQ;cases c with
 | true=>exact hb wh pins s1 σ H1 Q I1 q1
 | false=>exact ⟨H1,I1,q1⟩
theorem pw_or (ha:PT X a tA) (hb:PW X (.BoolOp .Or (b :: rest) pos) tB'):PW X (.BoolOp .Or (a :: b :: rest) pos) (tOr tA tB'):=by
 intro wh pins s σ H Q I h;refine isTrue_or (thn (ha pins s σ H _ I h) fun c s1 hQ=>?_);obtain ⟨H1,I1,q1⟩:=hQ;cases c with
 | true=>exact ⟨H1,I1,q1⟩
 | false=>exact hb wh pins s1 σ H1 Q I1 q1
theorem pt_not (ha:PT X a tA):PT X (.UnaryOp .Not a pos) (tNot tA):=by
 intro pins s σ H Q I h;exact isTrue_not (ha pins s σ H (fun c H1=>Q (!c) H1) I h)
def tAndV (ta tb:TE):TE:=fun σ H Q=>ta σ H fun x H1=>∃ c,x=.bl c/\if c=true then tb σ H1 Q else Q (.bl false) H1
def tNotV (ta:TE):TE:=fun σ H Q=>ta σ H fun x H1=>∃ c,x=.bl c/\Q (.bl (!c)) H1
theorem pe_one {op} {t:TE} (h:PE X a t):PE X (.BoolOp op [a] pos) t:=fun pins s σ H Q I hw=>BoolOp_one (h pins s σ H Q I hw)
theorem pe_and (ha:PE X a ta) (hb:PE X (.BoolOp .And (b :: rest) pos) tb):PE X (.BoolOp .And (a :: b :: rest) pos) (tAndV ta tb):=by
 intro pins s σ H Q I h;refine BoolOp_and (thn (ha pins s σ H _ I h) fun v s1 hQ=>?_);obtain ⟨x,H1,I1,r1,q1⟩:=hQ;obtain ⟨c,rfl,q1⟩:=q1;cases r1;refine wpAny_truthy_bool ?_;cases c with
 | true=>exact hb pins s1 σ H1 Q I1 q1
 | false=>exact ⟨.bl false,H1,I1,rfl,q1⟩
theorem pe_not (ha:PE X a ta):PE X (.UnaryOp .Not a pos) (tNotV ta):=by
 intro pins s σ H Q I h;refine UnaryOp_ (thn (ha pins s σ H _ I h) fun v s1 hQ=>?_);obtain ⟨x,H1,I1,r1,q1⟩:=hQ;obtain ⟨c,rfl,q1⟩:=q1;cases r1;exact not_of (wpAny_truthy_bool ⟨.bl (!c),H1,I1,rfl,q1⟩)
def tIf (t:TT) (ta tb:TE):TE:=fun σ H Q=>t σ H fun c H1=>if c=true then ta σ H1 Q else tb σ H1 Q
theorem pe_ifExp {c:Expr} (hc:PT X c tA) (ha:PE X a ta) (hb:PE X b tb):PE X (.IfExp c a b pos) (tIf tA ta tb):=by
 intro pins s σ H Q I h;refine wpAny_IfExp (thn (hc pins s σ H _ I h) fun d s1 hQ=>?_);obtain ⟨H1,I1,q1⟩:=hQ;cases d with
 | true=>exact ha pins s1 σ H1 Q I1 q1
 | false=>exact hb pins s1 σ H1 Q I1 q1
end
end L2
namespace L2
open PySem PySem.Spec PyProof.Rows
def SqL (K:Frag) (H:Hp) (a:Addr) (xs:List V):Prop :=
 Rd H a (.lst xs) \/
  ∃ (o:Obj) (its:Array Value) (n:Nat),K.lookup a=some o/\o.cls=.type "list"/\o.dict=none/\o.data=.seq its n/\its.size <= sizeLine/\Vals xs its.toList
def SqT (K:Frag) (H:Hp) (a:Addr) (xs:List V):Prop :=
 Rd H a (.tup xs) \/
  ∃ (o:Obj) (its:Array Value) (n:Nat),K.lookup a=some o/\o.cls=.type "tuple"/\o.data=.seq its n/\its.size <= sizeLine/\Vals xs its.toList
def absV:Value->Option V
 | .none=>some .non
 | .bool b=>some (.bl b)
 | .int i _=>some (.int i)
 | .str x _=>some (.str x)
 | .bytes b _=>some (.byt b)
 | .float b _=>some (.flt b)
 | .ref a=>some (.ref a)
 | .type n=>some (.ty n)
 | _=>none
theorem RelV.abs {x:V} {u:Value} (r:RelV x u):absV u=some x:=by
 cases x with
 | non=>cases r; rfl
 | bl _=>cases r; rfl
 | int _=>obtain ⟨t,rfl⟩:=r; rfl
 | str _=>obtain ⟨t,rfl⟩:=r; rfl
 | byt _=>obtain ⟨t,rfl⟩:=r; rfl
 | flt _=>obtain ⟨t,rfl⟩:=r; rfl
 | ref _=>cases r; rfl
 | ty _=>cases r; rfl
theorem RelV.inj {x y:V} {u:Value} (r:RelV x u) (q:RelV y u):x=y:=Option.some.inj (r.abs.symm.trans q.abs)
theorem Vals.inj:∀ {xs ys:List V} {us:List Value},Vals xs us->Vals ys us->xs=ys
 | _,_,_,.nil,.nil=>rfl
 | _,_,_,.cons r t,.cons r' t'=>by rw [r.inj r',Vals.inj t t']
section
variable {X:Cx} {pins:List (Addr × Obj)} {σ:St} {H:Hp} {s:Shared} {a:Addr} {xs ys:List V}
theorem SqL.of {K:Frag} (h:H a=some (.lst xs)):SqL K H a xs:=.inl (.inl h)
theorem SqT.of {K:Frag} (h:H a=some (.tup xs)):SqT K H a xs:=.inl (.inl h)
theorem Inv.list (I:Inv X pins σ H s) (h:SqL X.K H a xs):∃ its:List Value,Vals xs its/\PlainL s.heap a its.toArray/\xs.length <= sizeLine:=by
 rcases h with h | ⟨o,its,n,hk,hc,hd,hs,hz,r⟩
 ·obtain ⟨z,its,n,r,e⟩:=h.ok I.hok
  exact ⟨its,r,⟨_,n,e,rfl,rfl,rfl⟩,z⟩
 ·refine ⟨its.toList,r,⟨o,n,I.kIn a o hk,hc,hd,by simpa using hs⟩,?_⟩
  have e:=r.length;simp only [length_toList] at e;omega
theorem Inv.tuple (I:Inv X pins σ H s) (h:SqT X.K H a xs):∃ its:List Value,Vals xs its/\IsTup s.heap a its.toArray/\xs.length <= sizeLine:=by
 rcases h with h | ⟨o,its,n,hk,hc,hs,hz,r⟩
 ·obtain ⟨z,its,r,p⟩:=h.ok I.hok
  exact ⟨its,r,p,z⟩
 ·refine ⟨its.toList,r,⟨o,I.kIn a o hk,hc,n,by simpa using hs⟩,?_⟩
  have e:=r.length;simp only [length_toList] at e;omega
theorem Inv.list_inj (I:Inv X pins σ H s) (h:SqL X.K H a xs) (h':SqL X.K H a ys):xs=ys:=by
 obtain ⟨its,r,⟨o,n,e,_,_,d⟩,_⟩:=I.list h;obtain ⟨its',r',⟨o',n',e',_,_,d'⟩,_⟩:=I.list h';rw [e] at e'; cases e';rw [d] at d';injection d' with d1 _
 have:its=its':=by simpa using congrArg Array.toList d1
 subst this;exact r.inj r'
end
abbrev Cx.wish (X:Cx) (E:Value->Shared->Prop):Cx:={ X with xe:=E }
abbrev Cx.nox (X:Cx):Cx:=X.wish fun _ _=>False
theorem Cx.Ok.wish {X:Cx} (ok:X.Ok) (E:Value->Shared->Prop):(X.wish E).Ok :=
 ⟨ok.mod,ok.kind,ok.glob,ok.blt,ok.above,ok.inj,ok.has,ok.cab,ok.hd,ok.frames,ok.stk,ok.exf,ok.bs,ok.bsz,ok.noex,ok.exfs,ok.funs,ok.frf⟩
theorem Cx.Ok.unwish {X:Cx} {E:Value->Shared->Prop} (ok:(X.wish E).Ok):X.Ok :=
 ⟨ok.mod,ok.kind,ok.glob,ok.blt,ok.above,ok.inj,ok.has,ok.cab,ok.hd,ok.frames,ok.stk,ok.exf,ok.bs,ok.bsz,ok.noex,ok.exfs,ok.funs,ok.frf⟩
section
variable {X:Cx} {pins:List (Addr × Obj)} {σ:St} {H:Hp} {s:Shared} {E:Value->Shared->Prop}
theorem Inv.wish (I:Inv X pins σ H s) (E:Value->Shared->Prop):Inv (X.wish E) pins σ H s:=⟨I.ok.wish E,I.os,I.bare,I.base,I.loc,I.cell,I.free,I.freeC,I.pin,I.hok,I.len⟩
theorem Inv.unwish (I:Inv (X.wish E) pins σ H s):Inv X pins σ H s:=⟨I.ok.unwish,I.os,I.bare,I.base,I.loc,I.cell,I.free,I.freeC,I.pin,I.hok,I.len⟩
theorem SP.unwish {D:Ends} {f:Flow} {s':Shared} (h:SP (X.wish E) pins D f s'):SP X pins D f s':=by
 cases f with
 | next=>obtain ⟨σ',H',I,q⟩:=h; exact ⟨σ',H',I.unwish,q⟩
 | brk=>obtain ⟨σ',H',I,q⟩:=h; exact ⟨σ',H',I.unwish,q⟩
 | cont=>obtain ⟨σ',H',I,q⟩:=h; exact ⟨σ',H',I.unwish,q⟩
 | ret u=>obtain ⟨v,σ',H',I,r,q⟩:=h; exact ⟨v,σ',H',I.unwish,r,q⟩
theorem PE.nox {e:Expr} {t:TE} (h:PE X.nox e t):PE X e t:=fun pins s σ H Q I hw =>
 wpAny_mono (h pins s σ H Q (I.wish _) hw) (fun _ _ ⟨v,H',I',r,q⟩=>⟨v,H',I'.unwish,r,q⟩) fun _ _ z=>False.elim z
theorem PT.nox {e:Expr} {t:TT} (h:PT X.nox e t):PT X e t:=fun pins s σ H Q I hw =>
 wpAny_mono (h pins s σ H Q (I.wish _) hw) (fun _ _ ⟨H',I',q⟩=>⟨H',I'.unwish,q⟩) fun _ _ z=>False.elim z
theorem PSs.nox {st:List Stmt} {t:TS} (h:PSs X.nox st t):PSs X st t:=fun pins s σ H D I hw =>
 wpAny_mono (h pins s σ H D (I.wish _) hw) (fun _ _ q=>q.unwish) fun _ _ z=>False.elim z
end
section
variable {X:Cx} {st:Stmt} {rest:List Stmt} {t u:TS} {e:Expr} {te:TE} {pos:Pos}
def tNext:TS:=fun D σ H=>D.nx σ H
def tSeq (t u:TS):TS:=fun D σ H=>t { D with nx:=u D } σ H
theorem pss_nil:PSs X [] tNext:=fun _ _ σ H _ I h=>wpAny_execs_nil ⟨σ,H,I,h⟩
theorem pss_cons (h1:PS X st t) (h2:PSs X rest u):PSs X (st :: rest) (tSeq t u):=by
 intro pins s σ H D I h;refine wpAny_execs_cons (thn (h1 pins s σ H { D with nx:=u D } I h) fun f s1 q=>?_);cases f with
 | next =>
  obtain ⟨σ',H',I',q⟩:=q;exact h2 pins s1 σ' H' D I' q
 | ret v=>exact q
 | brk=>exact q
 | cont=>exact q
theorem pss_one (h1:PS X st t):PSs X [st] t:=by
 intro pins s σ H D I h;refine wpAny_execs_cons (thn (h1 pins s σ H D I h) fun f s1 q=>?_);cases f with
 | next=>exact wpAny_execs_nil q
 | ret v=>exact q
 | brk=>exact q
 | cont=>exact q
theorem Inv.quiet {pins:List (Addr × Obj)} {σ:St} {H:Hp} {s:Shared} (I:Inv X pins σ H s):interactive X.env=false:=by simp [interactive,I.ok.kind]
def tDrop (te:TE):TS:=fun D σ H=>te σ H fun _ H1=>D.nx σ H1
theorem ps_expr (he:PE X e te) (hs:swapsWith e none pos.line X.env=pure false:=by rfl):PS X (.Expr e pos) (tDrop te):=by
 intro pins s σ H D I h;exact wpAny_Expr_any (thn (he pins s σ H _ I h) fun v s1 ⟨x,H1,I1,r1,q1⟩=>⟨σ,H1,I1,q1⟩) I.quiet hs
def tRet (te:TE):TS:=fun D σ H=>te σ H D.rt
theorem ps_ret (he:PE X e te):PS X (.Return (some e) pos) (tRet te):=by
 intro pins s σ H D I h;exact wpAny_Return_some (thn (he pins s σ H _ I h) fun v s1 ⟨x,H1,I1,r1,q1⟩=>⟨x,σ,H1,I1,r1,q1⟩)
def tIfS (c:TT) (t u:TS):TS:=fun D σ H=>c σ H fun b H1=>if b=true then t D σ H1 else u D σ H1
theorem ps_if {c:Expr} {a b:List Stmt} {tc:TT} (hc:PT X c tc) (ha:PSs X a t) (hb:PSs X b u):PS X (.If c a b pos) (tIfS tc t u):=by
 intro pins s σ H D I h;refine wpAny_If (thn (hc pins s σ H _ I h) fun d s1 hQ=>?_);obtain ⟨H1,I1,q1⟩:=hQ;cases d with
 | true=>exact ha pins s1 σ H1 D I1 q1
 | false=>exact hb pins s1 σ H1 D I1 q1
def tNever:TS:=fun _ _ _=>False
theorem ps_never:PS X st tNever:=fun _ _ _ _ _ _ h=>h.elim
end
abbrev TG:=V->St->Hp->(St->Hp->Prop)->Prop
abbrev TGs:=List V->St->Hp->(St->Hp->Prop)->Prop
def PG (X:Cx) (target:Expr) (t:TG):Prop :=
 ∀ (pins:List (Addr × Obj)) (s:Shared) (σ:St) (H:Hp) (v:V) (u:Value) (Q:St->Hp->Prop),Inv X pins σ H s->RelV v u->t v σ H Q ->
  wpAny (model X.prog X.w) X.A (assign target X.env u) (fun _ s'=>∃ σ' H',Inv X pins σ' H' s'/\Q σ' H') X.xe s
def PGs (X:Cx) (ts:List Expr) (t:TGs):Prop :=
 ∀ (pins:List (Addr × Obj)) (s:Shared) (σ:St) (H:Hp) (vs:List V) (us:List Value) (Q:St->Hp->Prop),Inv X pins σ H s->Vals vs us->t vs σ H Q ->
  wpAny (model X.prog X.w) X.A (assignInOrder ((assignEach ts X.env).map (·.2)) us) (fun _ s'=>∃ σ' H',Inv X pins σ' H' s'/\Q σ' H') X.xe s
abbrev TSet:=V->V->V->Hp->(Hp->Prop)->Prop
def PSet (X:Cx) (t:TSet):Prop :=
 ∀ (pins:List (Addr × Obj)) (s:Shared) (σ:St) (H:Hp) (o i v:V) (ov iv u:Value) (Q:Hp->Prop),Inv X pins σ H s->RelV o ov->RelV i iv->RelV v u->t o i v H Q ->
  wpAny (model X.prog X.w) X.A (setItem ov iv u) (fun _ s'=>∃ H',Inv X pins σ H' s'/\Q H') X.xe s
section
variable {X:Cx} {pos:Pos}
def gName (i:Nat):TG:=fun v σ H Q=>Q (σ.set i (some v)) H
theorem pg_name {i:Nat} {x:Str} (hN:X.N.Nodup) (hi:X.N[i]?=some x) (hx:Loc X.env.scope x) (hf:X.fn x=true \/ X.env.scope.names.lookup x=some .local:=by first | exact .inl rfl | exact .inr rfl | assumption):PG X (.Name x pos) (gName i):=by
 intro pins s σ H v u Q I r h;exact wpAny_assign_Name (store_ok I hN hi hx r (fun s' I'=>⟨_,H,I',h⟩) hf)
def gNil:TGs:=fun vs σ H Q=>vs=[]/\Q σ H
def gCons (t:TG) (u:TGs):TGs:=fun vs σ H Q=>∃ v r,vs=v :: r/\t v σ H fun σ' H'=>u r σ' H' Q
theorem pgs_nil:PGs X [] gNil:=by
 intro pins s σ H vs us Q I r h;obtain ⟨e,h⟩:=h;subst e;cases r;exact assignInOrder_nil ⟨σ,H,I,h⟩
theorem pgs_cons {e:Expr} {es:List Expr} {t:TG} {u:TGs} (h1:PG X e t) (h2:PGs X es u)
  (hs:(assignEach (e :: es) X.env).map (·.2)=assign e X.env :: (assignEach es X.env).map (·.2):=by rfl):PGs X (e :: es) (gCons t u):=by
 intro pins s σ H vs us Q I r h;obtain ⟨v,vr,e1,h⟩:=h;subst e1;cases r with
 | cons r rr =>
  rw [hs];refine assignInOrder_cons (thn (h1 pins s σ H _ _ _ I r h) fun _ s1 hQ=>?_);obtain ⟨σ1,H1,I1,q1⟩:=hQ;exact h2 pins s1 σ1 H1 _ _ Q I1 rr q1
def gTup (K:Frag) (n:Nat) (t:TGs):TG:=fun v σ H Q=>∃ a xs,v=.ref a/\SqT K H a xs/\xs.length=n/\t xs σ H Q
theorem pg_tup {es:List Expr} {k:Nat} {t:TGs} {n:Nat} (hc:X.calm=true) (h:PGs X es t)
  (hn:(assignEach es X.env).length=n:=by rfl) (hst:(assignEach es X.env).findIdx? (·.1)=none:=by rfl):PG X (.Tuple es k pos) (gTup X.K n t):=by
 intro pins s σ H v u Q I r hw;obtain ⟨a,xs,e1,hq,hl,hw⟩:=hw;subst e1;cases r;obtain ⟨its,rv,ht,hz⟩:=I.tuple hq;refine assign_Tuple_tuple (I.ok.hd hc) ht (by simp [hn,<- hl,rv.length]) hst fun h' hx=>?_;have I1:Inv X pins σ H { s with heap:=h' }:=I.kept (t':=s.toks) fun b o e=>hx b o (ne_of_lt (Heap.lt_size e)) e;exact h pins _ σ H xs _ Q I1 (by simpa using rv) hw
def gSub (to ti:TE) (t:TSet):TG:=fun v σ H Q=>to σ H fun o H1=>ti σ H1 fun i H2=>t o i v H2 fun H3=>Q σ H3
theorem pg_sub {o i:Expr} {to ti:TE} {t:TSet} (ho:PE X o to) (hi:PE X i ti) (hs:PSet X t)
  (ha:∀ v,assign (.Subscript o i pos) X.env v=(do
   let ov <- holding [v] (eval o X.env)
   let iv <- holding [v,ov] (eval i X.env)
   standAt pos
   holding [v,ov,iv] (setItem ov iv v)
   release [v,ov,iv] []):=by intro _; rfl):PG X (.Subscript o i pos) (gSub to ti t):=by
 intro pins s σ H v u Q I r h;rw [ha];refine wpAny_bind (wpAny_holding (thn (ho pins s σ H _ I h) fun ov s1 hQ=>?_));obtain ⟨x,H1,I1,r1,q1⟩:=hQ;refine wpAny_bind (wpAny_holding (thn (hi pins s1 σ H1 _ I1 q1) fun iv s2 hQ=>?_));obtain ⟨y,H2,I2,r2,q2⟩:=hQ;refine wpAny_bind (wpAny_standAt (wpAny_bind (wpAny_holding (thn (hs pins s2 σ H2 x y v ov iv u _ I2 r1 r2 r q2) fun _ s3 hQ=>?_))));obtain ⟨H3,I3,q3⟩:=hQ;exact wpAny_release ⟨σ,H3,I3,q3⟩
def tAsg (te:TE) (g:TG):TS:=fun D σ H=>te σ H fun x H1=>g x σ H1 D.nx
theorem ps_asg {tg e:Expr} {te:TE} {g:TG} (he:PE X e te) (hg:PG X tg g) (hs:swapsWithSole [tg] e pos.line X.env=pure false:=by rfl) (hw:swappedStores [tg] e X.env=pure none:=by rfl)
  (h1:(assignEach [tg] X.env).map (·.2)=[assign tg X.env]:=by rfl):PS X (.Assign [tg] e pos) (tAsg te g):=by
 intro pins s σ H D I h;refine wpAny_Assign_stores (thn (he pins s σ H _ I h) fun v s1 hQ=>?_) hs hw;obtain ⟨x,H1,I1,r1,q1⟩:=hQ;rw [h1];exact thn (hg pins s1 σ H1 x v _ I1 r1 q1) fun _ s2 q=>q
theorem ps_set {i:Nat} {x:Str} {e:Expr} {te:TE} {pos':Pos} (hN:X.N.Nodup) (hi:X.N[i]?=some x) (hx:Loc X.env.scope x) (he:PE X e te) (hs:swapsWith e (some (.Name x pos')) pos.line X.env=pure false:=by rfl) (hf:X.fn x=true \/ X.env.scope.names.lookup x=some .local:=by first | exact .inl rfl | exact .inr rfl | assumption) :
  PS X (.Assign [.Name x pos'] e pos) (tAsg te (gName i)):=by
 intro pins s σ H D I h;refine wpAny_Assign_Name (thn (he pins s σ H _ I h) fun v s1 hQ=>?_) hs;obtain ⟨y,H1,I1,r1,q1⟩:=hQ;exact store_ok I1 hN hi hx r1 (fun s2 I2=>⟨_,H1,I2,q1⟩) hf
end
section
variable {X:Cx} {pos:Pos}
def tWhile (c:TT) (tb:TS):TS:=fun D σ H=>∃ W:Nat->St->Hp->Prop,(∃ m,W m σ H)/\∀ m σ H,W m σ H ->
 c σ H fun b H1=>if b=true then ∃ N:St->Hp->Prop,(∀ σ' H',N σ' H'->∃ m',m' < m/\W m' σ' H')/\tb { D with nx:=N,ct:=N,bk:=D.nx } σ H1 else D.nx σ H1
theorem ps_while {c:Expr} {body:List Stmt} {tc:TT} {tb:TS} (hp:PassesOwn (model X.prog X.w) X.A X.env X.xe) (hc:PT X c tc) (hb:PSs X body tb):PS X (.While c body [] pos) (tWhile tc tb):=by
 intro pins s σ H D I h;obtain ⟨W,⟨m0,w0⟩,turn⟩:=h;refine wpAny_While (codeAny_whileLoop (fun n s'=>∃ σ' H',Inv X pins σ' H' s'/\W n σ' H') ?_ m0 ⟨σ,H,I,w0⟩);rintro n s1 ⟨σ1,H1,I1,w1⟩;refine wpAny_passesOwn hp (thn (hc pins s1 σ1 H1 _ I1 (turn n σ1 H1 w1)) fun b s2 hQ=>?_);obtain ⟨H2,I2,q2⟩:=hQ;cases b with
 | true =>
  obtain ⟨N,hN,q2⟩:=q2;rw [if_pos rfl];refine wpAny_passesOwn hp (thn (hb pins s2 σ1 H2 _ I2 q2) fun f s3 q3=>?_);cases f with
  | next =>
   obtain ⟨σ3,H3,I3,n3⟩:=q3;obtain ⟨m',hm,w3⟩:=hN σ3 H3 n3;exact ⟨m',hm,σ3,H3,I3,w3⟩
  | cont =>
   obtain ⟨σ3,H3,I3,n3⟩:=q3;obtain ⟨m',hm,w3⟩:=hN σ3 H3 n3;exact ⟨m',hm,σ3,H3,I3,w3⟩
  | brk=>exact q3
  | ret v=>exact q3
 | false =>
  rw [if_neg Bool.false_ne_true];exact wpAny_execs_nil ⟨σ1,H2,I2,q2⟩
end
structure It where
 go:Nat->Hp->Prop
 yld:Nat->Hp->V->Hp->Prop
 stop:Nat->Hp->Prop
def FpOk (X:Cx) (pins:List (Addr × Obj)) (H:Hp) (b:Addr):Prop :=
 H b=none/\b ≠ X.env.locals/\b ∉ X.fs/\(b∈X.ex \/ X.s₀.heap.objs.size <= b)/\(∀ x c,X.env.cells.lookup x=some c->c ≠ b)/\∀ p∈X.pn++pins,p.1 ≠ b
theorem Inv.fpOk {X:Cx} {pins:List (Addr × Obj)} {σ:St} {H H':Hp} {s:Shared} {b:Addr} (I:Inv X pins σ H s) (hb:s.heap.objs.size <= b) (hn:H' b=none):FpOk X pins H' b:=by
 refine ⟨hn,ne_of_gt (lt_of_lt_of_le I.lt hb),I.nofs hb,.inr (le_trans I.sz hb),fun x c e z=>?_,fun p hp z=>?_⟩
 ·obtain ⟨v,q⟩:=I.cell x c e
  exact absurd (lt_of_lt_of_le q.lt (by rw [z]; exact hb)) (lt_irrefl _)
 ·exact absurd (lt_of_lt_of_le (Heap.lt_size (I.pin p hp).1) (by rw [z]; exact hb)) (lt_irrefl _)
structure Turn (P:Program) (w:World) (K:Frag) (tg:Expr) (J:It) (fp:List Addr) (it:Addr) (tn:Nat->Heap->Prop):Prop where
 mem:it∈fp
 obj:∀ i h,tn i h->∀ b∈fp,∃ o,h.get? b=some o/\∀ v,o.data ≠ .cell v
 keep:∀ i h h',tn i h->(∀ b∈fp,∀ o,h.get? b=some o->h'.get? b=some o)->tn i h'
 item:∀ (X:Cx),X.prog=P->X.w=w->X.K=K->X.calm=true->∀ (i:Nat) (pins:List (Addr × Obj)) (s:Shared) (σ:St) (H:Hp) (E:Value->Shared->Prop),Inv X pins σ H s->(∀ b∈fp,FpOk X pins H b)->tn i s.heap->J.go i H ->
  wpAny (model P w) X.A (pyNext (.ref it)) (fun r s1=>∃ u,r=some u /\
   wpAny (model P w) X.A (letOwnedTupleGo tg (.ref it) u) (fun _ s2=>∃ x H',Inv X pins σ H' s2/\RelV x u/\J.yld i H x H'/\tn (i + 1) s2.heap/\∀ b∈fp,H' b=none) E s1) E s
 done:∀ (X:Cx),X.prog=P->X.w=w->X.K=K->X.calm=true->∀ (i:Nat) (pins:List (Addr × Obj)) (s:Shared) (σ:St) (H:Hp) (E:Value->Shared->Prop),Inv X pins σ H s->(∀ b∈fp,FpOk X pins H b)->tn i s.heap->J.stop i H ->
  wpAny (model P w) X.A (pyNext (.ref it)) (fun r s1=>r=none/\Inv X pins σ H s1) E s
 self:∀ (A:Around) (i:Nat) (s:Shared) (Q:Value->Shared->Prop) (E:Value->Shared->Prop),tn i s.heap->Q (.ref it) s->wpAny (model P w) A (pyIter (.ref it)) Q E s
abbrev TI:=St->Hp->(It->Hp->Prop)->Prop
def PIE (X:Cx) (pins:List (Addr × Obj)) (σ:St) (tg:Expr) (R:It->Hp->Prop) (itv:Value) (s2:Shared):Prop :=
 ∃ (it:Addr) (fp:List Addr) (tn:Nat->Heap->Prop) (J:It) (H':Hp),itv=.ref it/\Inv X pins σ H' s2/\Turn X.prog X.w X.K tg J fp it tn/\tn 0 s2.heap/\(∀ b∈fp,FpOk X pins H' b)/\R J H'
def PI (X:Cx) (tg iter:Expr) (wi:TI):Prop :=
 ∀ (pins:List (Addr × Obj)) (s:Shared) (σ:St) (H:Hp) (R:It->Hp->Prop),Inv X pins σ H s->wi σ H R ->
  wpAny (model X.prog X.w) X.A (eval iter X.env) (fun v s1=>wpAny (model X.prog X.w) X.A (pyIter v) (PIE X pins σ tg R) X.xe s1) X.xe s
theorem go_of {M:Model} {A:Around} {E:Value->Shared->Prop} {s:Shared} {tg:Expr} {it:Addr} {u:Value} {o:Obj} {n:String} {vs:Array Value} {Q:Unit->Shared->Prop} (ho:s.heap.get? it=some o) (hc:o.cls=.type n) (hd:o.data=.fields vs)
  (hn:["enumerate","zip","dict_itemiterator","dict_reverseitemiterator","odict_iterator","itertools.zip_longest","itertools.pairwise"].contains n=false) (hQ:Q () s):wpAny M A (letOwnedTupleGo tg (.ref it) u) Q E s:=by
 unfold letOwnedTupleGo;cases tg <;> first
  | exact wpAny_pure hQ
  | (cases u <;> first
    | exact wpAny_pure hQ
    | (refine wpAny_bind (wpAny_load ho ?_)
       rw [hc,hd];show wpAny M A (if (["enumerate","zip","dict_itemiterator","dict_reverseitemiterator","odict_iterator","itertools.zip_longest","itertools.pairwise"].contains n && vs[0]? == some (rawInt _))=true then _ else _) Q E s;rw [if_neg (by intro h; rw [hn,Bool.false_and] at h; cases h)];exact wpAny_pure hQ))
def Itl (K:Frag) (a:Addr):It :=
 ⟨fun i H=>∃ xs x,SqL K H a xs/\xs[i]?=some x,fun i H x H'=>H'=H/\∀ xs,SqL K H a xs->xs[i]?=some x,fun i H=>∃ xs,SqL K H a xs/\xs.length <= i⟩
def Itr (lo:Int) (n:Nat):It:=⟨fun i _=>i < n,fun i H x H'=>H'=H/\x=.int (lo + i),fun i _=>n <= i⟩
theorem turn_list {P:Program} {w:World} {K:Frag} {tg:Expr} (a it:Addr):Turn P w K tg (Itl K a) [it] it (fun i h=>h.IsListIter it a i) where
 mem:=by simp
 obj:=fun i h st b hb=>by
  have e:b=it:=by simpa using hb
  subst e;obtain ⟨o,e,c,d⟩:=st;exact ⟨o,e,fun v z=>by rw [d] at z; cases z⟩
 keep:=fun i h h' st k=>st.at fun o e=>k it (by simp) o e
 item:=by
  intro X hP hw hK hc i pins s σ H E I hf st hg;subst hP hw hK;obtain ⟨xs,x,hq,hx⟩:=hg;obtain ⟨its,rv,p,hz⟩:=I.list hq;obtain ⟨u,hu,ru⟩:=rv.get hx;obtain ⟨f0,f1,f2,f3,f4,f5⟩:=hf it (by simp);refine wpAny_pyNext_list_item st p.isList (x:=u) (by simpa using hu) fun h' st' sb=>?_;have I1:Inv X pins σ H { s with heap:=h' }:=I.turned (t':=s.toks) (fun b o hb e=>(sb.2 b hb).trans e) f0 f1 f3 f4 f5;obtain ⟨o,e,c,d⟩:=id st';exact ⟨u,rfl,go_of (s:={ s with heap:=h' }) e c d (by decide) ⟨x,H,I1,ru,⟨rfl,fun ys hy=>by rw [I.list_inj hy hq]; exact hx⟩,st',fun b hb=>(hf b hb).1⟩⟩
 done:=by
  intro X hP hw hK hc i pins s σ H E I hf st hg;subst hP hw hK;obtain ⟨xs,hq,hx⟩:=hg;obtain ⟨its,rv,p,hz⟩:=I.list hq;obtain ⟨f0,f1,f2,f3,f4,f5⟩:=hf it (by simp);have hl:=rv.length;exact wpAny_pyNext_list_end (I.ok.hd hc) st p.isList (by simp; omega) fun h' eb=>⟨rfl,I.turned (t':=s.toks) (fun b o hb e=>eb b o hb e) f0 f1 f3 f4 f5⟩
 self:=fun _ _ _ _ _ st h=>wpAny_pyIter_listiter st h
theorem turn_range {P:Program} {w:World} {K:Frag} {tg:Expr} (it:Addr) (lo:Int) (n:Nat):Turn P w K tg (Itr lo n) [it] it (fun i h=>IsRangeIter h it (lo + (i:Nat) * 1) ((n:Int) - (i:Nat)) 1) where
 mem:=by simp
 obj:=fun i h st b hb=>by
  have e:b=it:=by simpa using hb
  subst e;exact ⟨_,st,fun v z=>by
   have z':Data.fields _=Data.cell v:=z;cases z'⟩
 keep:=fun i h h' st k=>k it (by simp) _ st
 item:=by
  intro X hP hw hK hc i pins s σ H E I hf st hg;subst hP hw hK;obtain ⟨f0,f1,f2,f3,f4,f5⟩:=hf it (by simp);have W:=Walks.range (prog:=X.prog) (w:=X.w) (I.ok.hd hc) it lo 1 n;refine W.item i s _ _ hg st fun v h' tk hv st' kk=>?_;obtain ⟨t,rfl⟩:=hv;have I1:Inv X pins σ H { s with heap:=h',toks:=tk }:=I.turned (fun b o hb e=>kk b o (by simpa using hb) e) f0 f1 f3 f4 f5;refine ⟨_,rfl,go_of (s:={ s with heap:=h',toks:=tk }) (n:="range_iterator") st' rfl rfl (by decide) ⟨.int (lo + i),H,I1,⟨t,?_⟩,⟨rfl,rfl⟩,st',fun b hb=>(hf b hb).1⟩⟩;rw [Int.mul_one]
 done:=by
  intro X hP hw hK hc i pins s σ H E I hf st hg;subst hP hw hK;obtain ⟨f0,f1,f2,f3,f4,f5⟩:=hf it (by simp);exact wpAny_pyNext_range_end (I.ok.hd hc) st (by have:n <= i:=hg; omega) fun h' eb=>⟨rfl,I.turned (t':=s.toks) (fun b o hb e=>eb b o hb e) f0 f1 f3 f4 f5⟩
 self:=fun _ _ _ _ _ st h=>wpAny_pyIter_rangeiter st h
end L2
namespace L2
open PySem PySem.Spec PyProof.Rows
section
variable {X:Cx} {tg:Expr}
def iList (K:Frag) (tl:TE):TI:=fun σ H R=>tl σ H fun x H1=>∃ a,x=.ref a/\(∃ xs,SqL K H1 a xs)/\R (Itl K a) H1
theorem pi_list {l:Expr} {tl:TE} (hl:PE X l tl):PI X tg l (iList X.K tl):=by
 intro pins s σ H R I h;refine thn (hl pins s σ H _ I h) fun v s1 hQ=>?_;obtain ⟨x,H1,I1,r1,q1⟩:=hQ;obtain ⟨a,e,⟨xs,hq⟩,q⟩:=q1;subst e;cases r1;obtain ⟨its,rv,p,hz⟩:=I1.list hq;refine wpAny_pyIter_list p.isList ?_;refine ⟨s1.heap.objs.size,[s1.heap.objs.size],_,_,H1,rfl,I1.kept (t':=s1.toks) fun b o e=>Heap.get?_push_of_some _ e,turn_list a _,⟨_,Heap.get?_push_size _ rfl,rfl,rfl⟩,fun b hb=>?_,q⟩;have e:b=s1.heap.objs.size:=by simpa using hb
 subst e;exact I1.fpOk (le_refl _) (I1.hok.fresh (le_refl _))
theorem range_it {pins:List (Addr × Obj)} {σ:St} {H:Hp} {s:Shared} {R:It->Hp->Prop} {E:Value->Shared->Prop} {lo hi:Int} {t u v:Tok} {tk:Nat} (I:Inv X pins σ H s) (h1:-(2 ^ 62) <= lo) (h2:lo < 2 ^ 62) (h3:-(2 ^ 62) <= hi) (h4:hi < 2 ^ 62)
  (q:R (Itr lo (hi - lo).toNat) H):wpAny (model X.prog X.w) X.A (pyIter (.ref s.heap.objs.size)) (PIE X pins σ tg R) E { s with heap:=s.heap.push { cls:=.type "range",data:=.fields #[.int lo t,.int hi u,.int 1 v] },toks:=tk }:=by
 refine wpAny_pyIter_range (IsRange.new ..) (small_one h1 h2 h3 h4) ?_;have I1:Inv X pins σ H { s with heap:=s.heap.push { cls:=.type "range",data:=.fields #[.int lo t,.int hi u,.int 1 v] },toks:=tk }:=I.kept fun b o e=>Heap.get?_push_of_some _ e;refine ⟨(s.heap.push { cls:=.type "range",data:=.fields #[.int lo t,.int hi u,.int 1 v] }).objs.size,[(s.heap.push { cls:=.type "range",data:=.fields #[.int lo t,.int hi u,.int 1 v] }).objs.size],_,_,H,rfl,
  I1.kept (t':=tk) fun b o e=>Heap.get?_push_of_some _ e,turn_range _ lo (hi - lo).toNat,?_,fun b hb=>?_,q⟩
 ·have e1:lo + ((0:Nat):Int) * 1=lo:=by simp
  have e2:(((hi - lo).toNat:Nat):Int) - ((0:Nat):Int)=Builtin.Range.rangeSize lo hi 1:=by rw [rangeSize_one]; split <;> omega
  show IsRangeIter _ _ (lo + ((0:Nat):Int) * 1) ((((hi - lo).toNat:Nat):Int) - ((0:Nat):Int)) 1;rw [e1,e2];exact Heap.get?_push_size _ rfl
 ·have e:b=(s.heap.push { cls:=.type "range",data:=.fields #[.int lo t,.int hi u,.int 1 v] }).objs.size:=by simpa using hb
  subst e;exact I1.fpOk (le_refl _) (I1.hok.fresh (le_refl _))
def iRng1 (ta:TA):TI:=fun σ H R=>ta σ H fun vs H1=>∃ j:Int,vs=[.int j]/\-(2 ^ 62) <= j/\j < 2 ^ 62/\R (Itr 0 j.toNat) H1
theorem pi_range1 {a:Expr} {ta:TA} {p pos:Pos} (hg:Gl X "range") (hm:X.mg "range"=none) (ha:PA X [a] ta) (hs:starEach [a] X.env=[(false,eval a X.env)]:=by rfl):PI X tg (.Call (.Name "range" p) [a] [] pos) (iRng1 ta):=by
 intro pins s σ H R I h;refine Call_ (ld_blt I hg hm boot_range (PyProof.Rows.callWith_type1 (thn (ha pos pins s σ H _ I h) fun us s1 hQ=>?_) hs rfl));obtain ⟨vs,H1,I1,r1,q1⟩:=hQ;obtain ⟨j,e,q1,q2,q⟩:=q1;subst e;cases r1 with
 | cons r rr =>
  cases rr;obtain ⟨t,rfl⟩:=r;exact call_range_1 (range_it I1 (by omega) (by omega) q1 q2 (by simpa using q))
def tFor (wi:TI) (g:TG) (tb:TS):TS:=fun D σ H=>wi σ H fun J H1=>∃ W:Nat->Nat->St->Hp->Prop,(∃ m,W 0 m σ H1)/\∀ i m σ H,W i m σ H ->
 (J.stop i H/\D.nx σ H) \/ (J.go i H/\∃ N:St->Hp->Prop,(∀ σ' H',N σ' H'->∃ m',m' < m/\W (i + 1) m' σ' H')/\∀ x H',J.yld i H x H'->g x σ H' fun σ2 H2=>tb { D with nx:=N,ct:=N,bk:=D.nx } σ2 H2)
def pinsAt (fp:List Addr) (h:Heap):List (Addr × Obj):=fp.filterMap fun b=>(h.get? b).map fun o=>(b,o)
theorem mem_pinsAt {fp:List Addr} {h:Heap} {b:Addr} {o:Obj} (hb:b∈fp) (e:h.get? b=some o):(b,o)∈pinsAt fp h:=List.mem_filterMap.mpr ⟨b,hb,by rw [e]; rfl⟩
theorem of_pinsAt {fp:List Addr} {h:Heap} {p:Addr × Obj} (hp:p∈pinsAt fp h):p.1∈fp/\h.get? p.1=some p.2:=by
 obtain ⟨b,hb,e⟩:=List.mem_filterMap.mp hp;cases q:h.get? b with
 | none=>rw [q] at e; cases e
 | some o =>
  rw [q] at e;have e':(b,o)=p:=Option.some.inj e;subst e';exact ⟨hb,q⟩
theorem Inv.pinned {pins:List (Addr × Obj)} {σ:St} {H:Hp} {s:Shared} {fp:List Addr} (I:Inv X pins σ H s) (hf:∀ b∈fp,FpOk X pins H b) (ho:∀ b∈fp,∃ o,s.heap.get? b=some o/\∀ v,o.data ≠ .cell v):Inv X (pins++pinsAt fp s.heap) σ H s :=
 I.pins_of fun p hp=>(List.mem_append.mp hp).elim (fun z=>I.pin p (mem_append_right _ z)) fun z=>by
  obtain ⟨hb,e⟩:=of_pinsAt z;obtain ⟨f0,f1,f2,_⟩:=hf p.1 hb;obtain ⟨o,e',d⟩:=ho p.1 hb;rw [e] at e'; cases e';exact ⟨e,f0,f1,f2,d⟩
theorem Inv.unpinned {pins pl:List (Addr × Obj)} {σ:St} {H:Hp} {s:Shared} (I:Inv X (pins++pl) σ H s):Inv X pins σ H s:=I.pins_of fun p hp=>I.pin p (mem_append_right _ (List.mem_append_left _ hp))
theorem ps_for {iter:Expr} {body:List Stmt} {wi:TI} {g:TG} {tb:TS} {pos:Pos} (hp:PassesOwn (model X.prog X.w) X.A X.env X.xe) (hc:X.calm=true) (hi:PI X tg iter wi) (hg:PG X tg g) (hb:PSs X body tb)
  (hs:∀ x,foldedSetIterable iter X.env x=pure x:=by intro _; rfl):PS X (.For tg iter body [] pos) (tFor wi g tb):=by
 intro pins s σ H D I h;refine wpAny_For (thn (hi pins s σ H _ I h) fun v s1 h1=>thn h1 fun itv s2 h2=>?_) hs;obtain ⟨it,fp,tn,J,H2,e,I2,T,st2,f2,W,⟨m0,w0⟩,turn⟩:=h2;subst e;have stat:∀ {H':Hp},(∀ b∈fp,H' b=none)->∀ b∈fp,FpOk X pins H' b:=fun hn b hb=>⟨hn b hb,(f2 b hb).2⟩;refine codeAny_forLoop_any (fun n s'=>∃ i σ' H',Inv X pins σ' H' s'/\tn i s'.heap/\(∀ b∈fp,H' b=none)/\W i n σ' H') ?_ m0 ⟨0,σ,H2,I2,st2,fun b hb=>(f2 b hb).1,w0⟩;rintro n s3 ⟨i,σ3,H3,I3,st3,fr3,w3⟩;rcases turn i n σ3 H3 w3 with ⟨stop,qn⟩ | ⟨go,N,hN,step⟩
 ·refine wpAny_passesOwn hp (thn (T.done X rfl rfl rfl hc i pins s3 σ3 H3 X.xe I3 (stat fr3) st3 stop) fun r s4 hQ=>?_)
  obtain ⟨hr,I4⟩:=hQ;subst hr;exact wpAny_execs_nil ⟨σ3,H3,I4,qn⟩
 ·refine wpAny_passesOwn hp (thn (T.item X rfl rfl rfl hc i pins s3 σ3 H3 X.xe I3 (stat fr3) st3 go) fun r s4 hQ=>?_)
  obtain ⟨u,hr,h4⟩:=hQ;subst hr;refine wpAny_passesOwn hp (thn h4 fun _ s5 hQ=>?_);obtain ⟨x,H5,I5,r5,y5,st5,fr5⟩:=hQ;have I5':=I5.pinned (stat fr5) (T.obj _ _ st5);refine wpAny_passesOwn hp (thn (hg _ s5 σ3 H5 x u _ I5' r5 (step x H5 y5)) fun _ s6 hQ=>?_);obtain ⟨σ6,H6,I6,q6⟩:=hQ;refine wpAny_passesOwn hp (thn (hb _ s6 σ6 H6 _ I6 q6) fun f s7 q7=>?_);have again:∀ {σ7:St} {H7:Hp},Inv X (pins++pinsAt fp s5.heap) σ7 H7 s7->N σ7 H7->∃ m,m < n/\∃ i σ' H',Inv X pins σ' H' s7/\tn i s7.heap/\(∀ b∈fp,H' b=none)/\W i m σ' H':=fun {σ7 H7} I7 n7=>by
   obtain ⟨m',hm,w7⟩:=hN σ7 H7 n7;refine ⟨m',hm,i + 1,σ7,H7,I7.unpinned,T.keep _ _ _ st5 fun b hb o e=>(I7.pin (b,o) (mem_append_right _ (mem_append_right _ (mem_pinsAt hb e)))).1,fun b hb=>?_,w7⟩;obtain ⟨o,e,d⟩:=T.obj _ _ st5 b hb;exact (I7.pin (b,o) (mem_append_right _ (mem_append_right _ (mem_pinsAt hb e)))).2.1
  cases f with
  | next=>obtain ⟨σ7,H7,I7,n7⟩:=q7; exact again I7 n7
  | cont=>obtain ⟨σ7,H7,I7,n7⟩:=q7; exact again I7 n7
  | brk=>obtain ⟨σ7,H7,I7,q7⟩:=q7; exact ⟨σ7,H7,I7.unpinned,q7⟩
  | ret v=>obtain ⟨x7,σ7,H7,I7,r7,q7⟩:=q7; exact ⟨x7,σ7,H7,I7.unpinned,r7,q7⟩
end
end L2
namespace L2
open PySem PySem.Spec PyProof.Rows
abbrev R2:=V->V->Hp->VK->Prop
def OpR (X:Cx) (f:Value->Value->Sem Value) (r:R2):Prop :=
 ∀ (pins:List (Addr × Obj)) (s:Shared) (σ:St) (H:Hp) (x y:V) (v u:Value) (Q:VK),Inv X pins σ H s->RelV x v->RelV y u->r x y H Q ->
  wpAny (model X.prog X.w) X.A (f v u) (EP X pins σ Q) X.xe s
def UnR (X:Cx) (f:Value->Sem Value) (r:V->Hp->VK->Prop):Prop :=
 ∀ (pins:List (Addr × Obj)) (s:Shared) (σ:St) (H:Hp) (x:V) (v:Value) (Q:VK),Inv X pins σ H s->RelV x v->r x H Q ->
  wpAny (model X.prog X.w) X.A (f v) (EP X pins σ Q) X.xe s
def CallR (X:Cx) (f:Value) (r:List V->Hp->VK->Prop):Prop :=
 ∀ (pins:List (Addr × Obj)) (s:Shared) (σ:St) (H:Hp) (xs:List V) (us:List Value) (Q:VK),Inv X pins σ H s->Vals xs us->r xs H Q ->
  wpAny (model X.prog X.w) X.A (call f us) (EP X pins σ Q) X.xe s
def tOp (r:R2) (ta tb:TE):TE:=fun σ H Q=>ta σ H fun x H1=>tb σ H1 fun y H2=>r x y H2 Q
def tUn (r:V->Hp->VK->Prop) (ta:TE):TE:=fun σ H Q=>ta σ H fun x H1=>r x H1 Q
def rI (C:Int->Int->Prop) (g:Int->Int->V):R2:=fun x y H Q=>∃ i j,x=.int i/\y=.int j/\C i j/\Q (g i j) H
def rI0 (g:Int->Int->V):R2:=fun x y H Q=>∃ i j,x=.int i/\y=.int j/\Q (g i j) H
def rU (g:Int->V):V->Hp->VK->Prop:=fun x H Q=>∃ i,x=.int i/\Q (g i) H
section
variable {X:Cx} {a b c:Expr} {ta tb tc:TE} {pos:Pos}
theorem binT (ha:PE X a ta) (hb:PE X b tb) {pins:List (Addr × Obj)} {s:Shared} {σ:St} {H:Hp} {R:V->V->Hp->Prop} (I:Inv X pins σ H s)
  (h:ta σ H fun x H1=>tb σ H1 fun y H2=>R x y H2) {Q:Value->Shared->Prop} {f:Value->Value->Sem Value}
  (hf:∀ v u s2 x y H2,Inv X pins σ H2 s2->RelV x v->RelV y u->R x y H2->wpAny (model X.prog X.w) X.A (f v u) Q X.xe s2) :
  wpAny (model X.prog X.w) X.A (eval a X.env) (fun v s₁=>wpAny (model X.prog X.w) X.A (eval b X.env) (fun u s₂=>wpAny (model X.prog X.w) X.A (f v u) Q X.xe s₂) X.xe s₁) X.xe s:=by
 refine thn (ha pins s σ H _ I h) fun v s1 hQ=>?_;obtain ⟨x,H1,I1,r1,q1⟩:=hQ;refine thn (hb pins s1 σ H1 _ I1 q1) fun u s2 hQ=>?_;obtain ⟨y,H2,I2,r2,q2⟩:=hQ;exact hf v u s2 x y H2 I2 r1 r2 q2
theorem pe_op {op:Operator} {r:R2} (ho:OpR X (binaryOp op) r) (ha:PE X a ta) (hb:PE X b tb):PE X (.BinOp a op b pos) (tOp r ta tb):=by
 intro pins s σ H Q I h;exact wpAny_BinOp (binT ha hb I h fun v u s2 x y H2 I2 rx ry q=>ho pins s2 σ H2 x y v u Q I2 rx ry q)
theorem pe_un {op:UnaryOp} {r:V->Hp->VK->Prop} (ho:UnR X (unaryOp op) r) (ha:PE X a ta):PE X (.UnaryOp op a pos) (tUn r ta):=by
 intro pins s σ H Q I h;exact UnaryOp_ (thn (ha pins s σ H _ I h) fun v s1 ⟨x,H1,I1,r1,q1⟩=>ho pins s1 σ H1 x v Q I1 r1 q1)
theorem opI {f:Value->Value->Sem Value} {C:Int->Int->Prop} {g:Int->Int->Int}
  (rule:∀ (i j:Int) (t u:Tok) (s:Shared) (Q:Value->Shared->Prop) (E:Value->Shared->Prop),C i j->Q (.int (g i j) s.toks) { s with toks:=s.toks + 1 }->wpAny (model X.prog X.w) X.A (f (.int i t) (.int j u)) Q E s) :
  OpR X f (rI C fun i j=>.int (g i j)):=by
 intro pins s σ H x y v u Q I rx ry h;obtain ⟨i,j,rfl,rfl,hc,q⟩:=h;obtain ⟨t,rfl⟩:=rx;obtain ⟨t',rfl⟩:=ry;exact rule i j t t' s _ _ hc ⟨.int (g i j),H,I.tok _,⟨_,rfl⟩,q⟩
theorem opI0 {f:Value->Value->Sem Value} {g:Int->Int->Int}
  (rule:∀ (i j:Int) (t u:Tok) (s:Shared) (Q:Value->Shared->Prop) (E:Value->Shared->Prop),Q (.int (g i j) s.toks) { s with toks:=s.toks + 1 }->wpAny (model X.prog X.w) X.A (f (.int i t) (.int j u)) Q E s) :
  OpR X f (rI0 fun i j=>.int (g i j)):=by
 intro pins s σ H x y v u Q I rx ry h;obtain ⟨i,j,rfl,rfl,q⟩:=h;obtain ⟨t,rfl⟩:=rx;obtain ⟨t',rfl⟩:=ry;exact rule i j t t' s _ _ ⟨.int (g i j),H,I.tok _,⟨_,rfl⟩,q⟩
theorem opB0 {f:Value->Value->Sem Value} {g:Int->Int->Bool}
  (rule:∀ (i j:Int) (t u:Tok) (s:Shared) (Q:Value->Shared->Prop) (E:Value->Shared->Prop),Q (.bool (g i j)) s->wpAny (model X.prog X.w) X.A (f (.int i t) (.int j u)) Q E s) :
  OpR X f (rI0 fun i j=>.bl (g i j)):=by
 intro pins s σ H x y v u Q I rx ry h;obtain ⟨i,j,rfl,rfl,q⟩:=h;obtain ⟨t,rfl⟩:=rx;obtain ⟨t',rfl⟩:=ry;exact rule i j t t' s _ _ ⟨.bl (g i j),H,I,rfl,q⟩
def CPow (i j:Int):Prop:=0 <= j/\j <= 1000000/\i.natAbs < 2 ^ 64
def CMul (i j:Int):Prop:=(-(2 ^ 64) < i/\i < 2 ^ 64) \/ (-(2 ^ 64) < j/\j < 2 ^ 64)
theorem CMul.ok {i j:Int} (h:CMul i j):IntMulOk i j:=by
 rcases h with ⟨h1,h2⟩ | ⟨h1,h2⟩
 ·exact .of_left (intBits_le_64 h1 h2)
 ·exact .of_right (intBits_le_64 h1 h2)
theorem op_add:OpR X (binaryOp .Add) (rI0 fun i j=>.int (i + j)):=opI0 fun _ _ _ _ _ _ _ q=>add_int q
theorem op_sub:OpR X (binaryOp .Sub) (rI0 fun i j=>.int (i - j)):=opI0 fun _ _ _ _ _ _ _ q=>sub_int q
theorem op_modN:OpR X (binaryOp .Mod) (rI (fun _ j=>j ≠ 0) fun i j=>.int (i.fmod j)):=opI fun _ _ _ _ _ _ _ hc q=>mod_int' hc q
theorem op_pow:OpR X (binaryOp .Pow) (rI CPow fun i j=>.int (i ^ j.toNat)):=opI fun _ _ _ _ _ _ _ hc q=>pow_int_small hc.1 hc.2.1 hc.2.2 q
theorem unI {f:Value->Sem Value} {g:Int->Int}
  (rule:∀ (i:Int) (t:Tok) (s:Shared) (Q:Value->Shared->Prop) (E:Value->Shared->Prop),Q (.int (g i) s.toks) { s with toks:=s.toks + 1 }->wpAny (model X.prog X.w) X.A (f (.int i t)) Q E s) :
  UnR X f (rU fun i=>.int (g i)):=by
 intro pins s σ H x v Q I rx h;obtain ⟨i,rfl,q⟩:=h;obtain ⟨t,rfl⟩:=rx;exact rule i t s _ _ ⟨.int (g i),H,I.tok _,⟨_,rfl⟩,q⟩
theorem un_neg:UnR X (unaryOp .USub) (rU fun i=>.int (-i)):=unI fun _ _ _ _ _ q=>neg_int q
end
section
variable {X:Cx} {a b c:Expr} {ta tb tc:TE} {pos:Pos}
theorem fin_bl {pins:List (Addr × Obj)} {σ:St} {H:Hp} {s:Shared} {Q:VK} {k k':Bool} (I:Inv X pins σ H s) (q:Q (.bl k) H) (e:k=k'):EP X pins σ Q (.bool k') s:=by
 subst e;exact ⟨.bl k,H,I,rfl,q⟩
theorem op_lt:OpR X (compareOp .Lt) (rI0 fun i j=>.bl (decide (i < j))):=opB0 fun _ _ _ _ _ _ _ q=>lt_int q
theorem op_le:OpR X (compareOp .LtE) (rI0 fun i j=>.bl (decide (i <= j))):=opB0 fun _ _ _ _ _ _ _ q=>le_int q
theorem op_ge:OpR X (compareOp .GtE) (rI0 fun i j=>.bl (decide (j <= i))):=opB0 fun _ _ _ _ _ _ _ q=>ge_int q
theorem op_isN:OpR X (compareOp .Is) (fun x y H Q=>y=.non/\Q (.bl (decide (x=.non))) H):=by
 intro pins s σ H x y v u Q I rx ry h;obtain ⟨rfl,q⟩:=h;cases ry;refine is_none_gen (fin_bl I q ?_);cases x <;> first
  | (cases rx; rfl)
  | (obtain ⟨t,rfl⟩:=rx; rfl)
theorem op_notN:OpR X (compareOp .IsNot) (fun x y H Q=>y=.non/\Q (.bl (!decide (x=.non))) H):=by
 intro pins s σ H x y v u Q I rx ry h;obtain ⟨rfl,q⟩:=h;cases ry;refine isnot_none_gen (fin_bl I q ?_);cases x <;> first
  | (cases rx; rfl)
  | (obtain ⟨t,rfl⟩:=rx; rfl)
theorem OpR.or {f:Value->Value->Sem Value} {r r':R2} (h:OpR X f r) (h':OpR X f r'):OpR X f (fun x y H Q=>r x y H Q \/ r' x y H Q):=by
 intro pins s σ H x y v u Q I rx ry q;rcases q with q | q
 ·exact h pins s σ H x y v u Q I rx ry q
 ·exact h' pins s σ H x y v u Q I rx ry q
theorem nomark (b:Expr) {op:CmpOp} (h:op ≠ .In:=by decide) (h2:op ≠ .NotIn:=by decide):behindInMarks op b=false:=by
 have e1:(op == CmpOp.In)=false:=by cases op <;> first | rfl | exact absurd rfl h
 have e2:(op == CmpOp.NotIn)=false:=by cases op <;> first | rfl | exact absurd rfl h2
 cases b <;> simp [behindInMarks,e1,e2]
theorem pe_cmpR {op:CmpOp} {r:R2} (ho:OpR X (compareOp op) r) (ha:PE X a ta) (hb:PE X b tb) (hm:behindInMarks op b=false):PE X (.Compare a [op] [b] pos) (tOp r ta tb):=by
 intro pins s σ H Q I h;exact wpAny_Compare1 (binT ha hb I h fun v u s2 x y H2 I2 rx ry q=>ho pins s2 σ H2 x y v u Q I2 rx ry q) hm
def tTest (t:TE):TT:=fun σ H Q=>t σ H fun x H'=>∃ k,x=.bl k/\Q k H'
theorem pt_cmpR {op:CmpOp} {r:R2} (ho:OpR X (compareOp op) r) (ha:PE X a ta) (hb:PE X b tb) (hm:behindInMarks op b=false):PT X (.Compare a [op] [b] pos) (tTest (tOp r ta tb)):=by
 intro pins s σ H Q I h;refine wpAny_isTrue_Compare1 (thn (ha pins s σ H _ I h) fun v s1 ⟨x,H1,I1,r1,q1⟩=>thn (hb pins s1 σ H1 _ I1 q1) fun u s2 ⟨y,H2,I2,r2,q2⟩ =>
  thn (ho pins s2 σ H2 x y v u _ I2 r1 r2 q2) fun c s3 ⟨z,H3,I3,r3,k,e,q3⟩=>?_) hm
 subst e;cases r3;exact wpAny_truthy_bool ⟨H3,I3,q3⟩
theorem line63:(sizeLine:Nat) < 2 ^ 63:=by rw [sizeLine_eq]; decide
theorem op_add_str:OpR X (binaryOp .Add) (fun x y H Q=>∃ i j,x=.str i/\y=.str j/\i.length + j.length <= sizeLine/\Q (.str (i++j)) H):=by
 intro pins s σ H x y v u Q I rx ry h;obtain ⟨i,j,rfl,rfl,hz,q⟩:=h;obtain ⟨t,rfl⟩:=rx;obtain ⟨t',rfl⟩:=ry;exact add_str (fun t' tk=>⟨.str (i++j),H,I.tok _,⟨_,rfl⟩,q⟩) hz
theorem vals1 {x:V} {us:List Value} (r:Vals [x] us):∃ u,us=[u]/\RelV x u:=by
 cases r with
 | cons r1 r2=>cases r2; exact ⟨_,rfl,r1⟩
theorem vals2 {x y:V} {us:List Value} (r:Vals [x,y] us):∃ u w',us=[u,w']/\RelV x u/\RelV y w':=by
 cases r with
 | cons r1 r2 =>
  cases r2 with
  | cons r3 r4=>cases r4; exact ⟨_,_,rfl,r1,r3⟩
theorem call_abs:CallR X (.builtin "abs") (fun xs H Q=>∃ i,xs=[.int i]/\Q (.int (if i < 0 then -i else i)) H):=by
 intro pins s σ H xs us Q I r h;obtain ⟨i,rfl,q⟩:=h;obtain ⟨u,rfl,t,rfl⟩:=vals1 r;exact call_abs_int fun u tk=>⟨.int (if i < 0 then -i else i),H,I.tok _,⟨_,rfl⟩,q⟩
theorem call_min2 (hc:X.calm=true):CallR X (.builtin "min") (fun xs H Q=>∃ i j,xs=[.int i,.int j]/\Q (.int (if j < i then j else i)) H):=by
 intro pins s σ H xs us Q I r h;obtain ⟨i,j,rfl,q⟩:=h;obtain ⟨u,w',rfl,⟨t,rfl⟩,⟨t',rfl⟩⟩:=vals2 r;refine min_two_ints (I.ok.hd hc) fun h' tk k=>⟨_,H,I.kept k,?_,q⟩
 by_cases hj:j < i
 ·rw [if_pos hj,if_pos hj]; exact ⟨_,rfl⟩
 ·rw [if_neg hj,if_neg hj]; exact ⟨_,rfl⟩
end
end L2
namespace L2
open PySem PySem.Spec PyProof.Rows
structure ObjM (h:Heap) (x dx C:Addr) (mA:Str->Option Value):Prop where
 obj:h.get? x=some (PySem.W.instObj C dx)
 ns:h.Ns1 dx mA
 ne:dx ≠ x
theorem lookIn_ns {h:Heap} {dx:Addr} {mA:Str->Option Value} (n:h.Ns1 dx mA):∃ od,h.get? dx=some od/\∀ name,PySem.W.lookIn name od=some (mA name):=by
 obtain ⟨o,es,ep,ho,hd,hk,_,hm⟩:=n;refine ⟨o,ho,fun name=>?_⟩;have e:=hm name;unfold nsFind findBy at e;rw [<- Array.find?_toList] at e;unfold PySem.W.lookIn;rw [hd];dsimp only;split
 ·rename_i y q
  rw [q] at e;exact congrArg some e
 ·rename_i q
  rw [q] at e;have a:es.toList.any (·.refKey)=false:=by
   rw [List.any_eq_false];intro y hy;obtain ⟨z,t,hkey⟩:=hk y (Array.mem_toList_iff.mp hy);simp [DictEntry.refKey,hkey]
  have a':¬ es.toList.any (·.refKey)=true:=by rw [a]; exact Bool.false_ne_true
  rw [if_neg a'];exact congrArg some e
theorem ObjM.look {h:Heap} {x dx C:Addr} {mA:Str->Option Value} (I:ObjM h x dx C mA):∃ od,PySem.W.InstAt h x (PySem.W.instObj C dx) C (some od)/\∀ name,PySem.W.lookIn name od=some (mA name) :=
 let ⟨od,ho,hl⟩:=lookIn_ns I.ns
 ⟨od,⟨I.obj,rfl,rfl,ho⟩,hl⟩
section
variable {prog:Program} {w:World} {A:Around} {E:Value->Shared->Prop} {s:Shared} {K:Frag} {x dx C f:Addr} {mA:Str->Option Value} {name:Str} {v:Value}
end
section
variable {P:Program} {w:World} {H H':Hp} {h h':Heap} {a C dx:Addr} {fs fs':List (Str × V)}
end
structure Cls (K:Frag) (C:Addr):Prop where
 pg:PySem.W.plainGet K C Str.empty=true
 hd:PySem.W.hasDictIn K C=true
 po:PySem.W.plainOver K C=true
 sa:PySem.W.findIn K (.ref C) "__setattr__"=some (some (.builtin "object.__setattr__"))
theorem Cls.get {K:Frag} {C:Addr} (c:Cls K C) (f:Str):PySem.W.plainGet K C f=true:=c.pg
structure Con (K:Frag) (C:Addr) (f:Str) (v:V) (u:Value):Prop where
 at_:PySem.W.findIn K (.ref C) f=some (some u)
 rel:RelV v u
 get:PySem.W.specialIn K u "__get__"=some none
 cp:PySem.W.copiedNames.contains f=false
structure Meth (K:Frag) (C:Addr) (m:Str) (f:Addr):Prop where
 at_:PySem.W.findIn K (.ref C) m=some (some (.ref f))
 fn:PySem.W.isFn K (.ref f)=true
 kp:keepIn K (.ref f)=true
section
variable {X:Cx} {pins:List (Addr × Obj)} {σ:St} {H:Hp} {s:Shared} {a C dx:Addr} {fs:List (Str × V)} {f:Str} {v:V} {A:Around} {E:Value->Shared->Prop}
theorem Inv.made (I:Inv X pins σ H s):Inv X pins σ (upd (upd H s.heap.objs.size (.own (s.heap.objs.size + 1))) (s.heap.objs.size + 1) (.ins C s.heap.objs.size []))
  { s with heap:=(s.heap.push PySem.W.emptyDict).push (PySem.W.instObj C s.heap.objs.size) }:=by
 have e1:(s.heap.push PySem.W.emptyDict).get? s.heap.objs.size=some PySem.W.emptyDict:=Heap.get?_push_size s.heap rfl;have e2:((s.heap.push PySem.W.emptyDict).push (PySem.W.instObj C s.heap.objs.size)).get? (s.heap.objs.size + 1)=some (PySem.W.instObj C s.heap.objs.size):=by
  have:=Heap.get?_push_size (s.heap.push PySem.W.emptyDict) (o:=PySem.W.instObj C s.heap.objs.size) rfl
  rwa [Heap.size_push] at this
 have e3:(s.heap.push PySem.W.emptyDict).Ns s.heap.objs.size (fun _=>none):=⟨PySem.W.emptyDict,#[],_,e1,rfl,(fun e he=>absurd he (by simp)),fun _=>rfl⟩;have I1:=I.laid (a:=s.heap.objs.size) (o:=.own (s.heap.objs.size + 1)) (h':=s.heap.push PySem.W.emptyDict) (t':=s.toks) (fun b u q=>Heap.get?_push_of_some _ q) (le_refl _) ⟨_,e1⟩;refine I1.laid (a:=s.heap.objs.size + 1) (o:=.ins C s.heap.objs.size []) (t':=s.toks) (fun b u q=>Heap.get?_push_of_some _ q) (Nat.le_of_eq (Heap.size_push _ _)) ?_;have ne:s.heap.objs.size ≠ s.heap.objs.size + 1:=ne_of_lt (lt_succ_self _);refine ⟨by rw [upd_ne ne,upd_same],zero_le _,ne,e2,fun _=>none,(Heap.Ns1.of_empty e3).at fun o q=>Heap.get?_push_of_some _ q,fun _=>True.intro,fun y hy=>absurd rfl hy⟩
end
section
variable {X:Cx} {o e value:Expr} {f:Str} {pos pos' tpos:Pos} {ta tv:TE}
end
section
variable {X:Cx} {pins:List (Addr × Obj)} {σ:St} {H:Hp} {s:Shared} {A:Around} {E:Value->Shared->Prop} {Q:Value->Shared->Prop} {c:Value} {b:Bool}
inductive TyOf (K:Frag) (H:Hp):V->Value->Prop where
 | non:TyOf K H .non (.type "NoneType")
 | bl (x:Bool):TyOf K H (.bl x) (.type "bool")
 | int (i:Int):TyOf K H (.int i) (.type "int")
 | str (x:Str):TyOf K H (.str x) (.type "str")
 | flt (x:UInt64):TyOf K H (.flt x) (.type "float")
 | lst {a:Addr} {xs:List V} (e:H a=some (.lst xs)):TyOf K H (.ref a) (.type "list")
 | frz {a:Addr} {o:Obj} {xs:List V} (e:H a=some (.frz o (.lst xs))):TyOf K H (.ref a) (.type "list")
 | tup {a:Addr} {xs:List V} (e:H a=some (.tup xs)):TyOf K H (.ref a) (.type "tuple")
 | dK {a:Addr} {kvs:List (Key × V)} (e:H a=some (.dK kvs)):TyOf K H (.ref a) (.type "dict")
 | dT {a:Addr} {kvs:List (List Key × V)} (e:H a=some (.dT kvs)):TyOf K H (.ref a) (.type "dict")
 | ins {a C dx:Addr} {fs:List (Str × V)} (e:H a=some (.ins C dx fs)) (cl:Cls K C) (ha:PySem.W.findIn K (.ref C) "__class__"=some (some (.builtin "object.__class__")))
   (hn:PySem.W.specialIn K (.builtin "object.__class__") "__get__"=some (some (.builtin "getset_descriptor.__get__"))) (htk:PySem.W.takesIn K (.builtin "object.__class__")=some true)
   (hm:PySem.W.mroIn K C (.type "object")=some true):TyOf K H (.ref a) (.ref C)
end
end L2
namespace L2
open PySem PySem.Spec PyProof.Rows
structure Room (k:Nat) (A:Around):Prop where
 hd:A.handled=none
 dp:A.depth + 3 * k + 5 < recursionLimit
 un:A.units + 16 * k + 200 < cLine
theorem Room.mono {j k:Nat} {A:Around} (r:Room k A) (h:j <= k):Room j A:=⟨r.hd,by have:=r.dp; omega,by have:=r.un; omega⟩
theorem Room.deeper {k:Nat} {A:Around} (r:Room (k + 1) A) (env:Env):Room k (A.deeper env) :=
 ⟨r.hd,by have:=r.dp; show A.depth + 1 + 3 * k + 5 < _; omega,by have:=r.un; show A.units + 3 + 16 * k + 200 < _; omega⟩
theorem Room.in1 {k:Nat} {A:Around} (r:Room (k + 1) A):Room k A.in1 :=
 ⟨r.hd,by have:=r.dp; show A.depth + 3 * k + 5 < _; omega,by have:=r.un; show A.units + 1 + 16 * k + 200 < _; omega⟩
theorem Room.depth {k:Nat} {A:Around} (r:Room k A):A.depth < recursionLimit:=by have:=r.dp; omega
theorem Room.units {k:Nat} {A:Around} (r:Room k A):A.units + 64 < cLine:=by have:=r.un; omega
def tNil:TA:=fun _ H Q=>Q [] H
def tCons (ta:TE) (tr:TA):TA:=fun σ H Q=>ta σ H fun x H1=>tr σ H1 fun xs H2=>Q (x :: xs) H2
section
variable {X:Cx} {e:Expr} {es:List Expr} {te:TE} {t:TA} {pos:Pos}
theorem pa_nil:PA X [] tNil:=fun _ _ _ _ H Q I h=>Calls.spliced_nil ⟨[],H,I,.nil,h⟩
theorem pa_cons (ha:PE X e te) (hr:PA X es t) (hs:starEach (e :: es) X.env=(false,eval e X.env) :: starEach es X.env:=by rfl):PA X (e :: es) (tCons te t):=by
 intro pos pins s σ H Q I h;rw [hs];show wpAny _ _ (spliced ((false,eval e X.env) :: backTo pos (starEach es X.env))) _ _ s;refine Calls.spliced_cons (thn (ha pins s σ H _ I h) fun u s1 hQ=>?_);obtain ⟨x,H1,I1,r1,q1⟩:=hQ;exact thn (hr pos pins s1 σ H1 _ I1 q1) fun us s2 ⟨xs,H2,I2,r2,q2⟩=>⟨x :: xs,H2,I2,.cons r1 r2,q2⟩
def tTup (t:TA):TE:=fun σ H Q=>t σ H fun xs H1=>xs.length <= sizeLine/\∀ p,H1 p=none->Q (.ref p) (upd H1 p (.tup xs))
def tLst (t:TA):TE:=fun σ H Q=>t σ H fun xs H1=>xs.length <= sizeLine/\∀ p,H1 p=none->Q (.ref p) (upd H1 p (.lst xs))
theorem pe_tup {x1} (h:PA X es t):PE X (.Tuple es x1 pos) (tTup t):=by
 intro pins s σ H Q I hq;refine wpAny_Tuple_spliced (thn (h pos pins s σ H _ I hq) fun us s1 ⟨xs,H1,I1,r,z,q⟩=>⟨by rw [<- r.length]; exact z,?_⟩);have hf:H1 s1.heap.objs.size=none:=I1.hok.fresh (le_refl _);refine ⟨.ref s1.heap.objs.size,upd H1 s1.heap.objs.size (.tup xs),I1.laid (t':=s1.toks) (fun b u e=>Heap.get?_push_of_some _ e) (le_refl _) ?_,rfl,q _ hf⟩;exact ⟨z,us,r,⟨_,Heap.get?_push_size _ rfl,rfl,_,rfl⟩⟩
theorem pe_lst (h:PA X es t):PE X (.List es pos) (tLst t):=by
 intro pins s σ H Q I hq;refine wpAny_List_spliced (thn (h pos pins s σ H _ I hq) fun us s1 ⟨xs,H1,I1,r,z,q⟩=>⟨by rw [<- r.length]; exact z,?_⟩);have hf:H1 s1.heap.objs.size=none:=I1.hok.fresh (le_refl _);refine ⟨.ref s1.heap.objs.size,upd H1 s1.heap.objs.size (.lst xs),I1.laid (t':=s1.toks) (fun b u e=>Heap.get?_push_of_some _ e) (le_refl _) ?_,rfl,q _ hf⟩;exact ⟨z,us,0,r,Heap.get?_push_size _ rfl⟩
end
abbrev Sp:=List V->Hp->VK->XK->Prop
abbrev CXT:=List Env->Hp->Shared->XK->Value->Shared->Prop
structure Env0 (P:Program) (w:World) (K:Frag) (mg:Str->Option Value) (base:Heap) (A:Around) (outer:List Env) (s:Shared) (H:Hp):Prop where
 frames:A.frames=some outer
 mod:Mod K mg base
 bs:∀ b o,base.get? b=some o->s.heap.get? b=some o/\H b=none
 bsz:base.objs.size <= s.heap.objs.size
 funs:s.heap.FunFrames base outer
 frf:∀ b∈frs outer,H b=none
 hok:HOk P w H s.heap
 bare:AllBare s.gens
def CE (outer:List Env) (P:Program) (w:World) (H:Hp) (s:Shared) (Q:VK) (u:Value) (s':Shared):Prop :=
 ∃ v H',s'.os=s.os/\AllBare s'.gens/\Un (frs outer) [] H H' s.heap s'.heap/\HOk P w H' s'.heap/\RelV v u/\Q v H'
def CR (CX:CXT) (outer:List Env) (P:Program) (w:World) (H:Hp) (s:Shared) (Q:VK) (E:XK) (r:Result) (s':Shared):Prop :=
 match r with
 | .ok (.ret u)=>CE outer P w H s Q u s'
 | .ok _=>False
 | .error e=>CX outer H s E e s'
structure FnOk (P:Program) (w:World) (K:Frag) (mg:Str->Option Value) (base:Heap) (CX:CXT) (k:Nat) (f:Addr) (fd:FuncData) (ps:List Str) (sp:Sp):Prop where
 len:∀ vs H Q E,sp vs H Q E->vs.length=ps.length
 run:∀ (A:Around) (outer:List Env) (s:Shared) (H:Hp) (args:Args) (us:List Value) (vs:List V) (Q:VK) (E:XK),Room k A->Env0 P w K mg base A outer s H->BindsTo s fd args (ps.zip us)->Vals vs us->sp vs H Q E ->
  codeAny (model P w) A (.call (.ref f) args) (CR CX outer P w H s Q E) s
theorem FnOk.mono {P:Program} {w:World} {K:Frag} {mg:Str->Option Value} {base:Heap} {CX:CXT} {j k:Nat} {f:Addr} {fd:FuncData} {ps:List Str} {sp:Sp} (F:FnOk P w K mg base CX j f fd ps sp) (h:j <= k) :
  FnOk P w K mg base CX k f fd ps sp:=⟨F.len,fun A outer s H args us vs Q E hr=>F.run A outer s H args us vs Q E (hr.mono h)⟩
theorem FnOk.imp {P:Program} {w:World} {K:Frag} {mg:Str->Option Value} {base:Heap} {CX:CXT} {k:Nat} {f:Addr} {fd:FuncData} {ps:List Str} {sp sp':Sp} (F:FnOk P w K mg base CX k f fd ps sp)
  (h:∀ vs H Q E,sp' vs H Q E->sp vs H Q E):FnOk P w K mg base CX k f fd ps sp' :=
 ⟨fun vs H Q E q=>F.len vs H Q E (h _ _ _ _ q),fun A outer s H args us vs Q E hr he hb hv hs=>F.run A outer s H args us vs Q E hr he hb hv (h _ _ _ _ hs)⟩
theorem Env0.in1 {P:Program} {w:World} {K:Frag} {mg:Str->Option Value} {base:Heap} {A:Around} {outer:List Env} {s:Shared} {H:Hp} (e:Env0 P w K mg base A outer s H) :
  Env0 P w K mg base A.in1 outer s H:=⟨e.frames,e.mod,e.bs,e.bsz,e.funs,e.frf,e.hok,e.bare⟩
section
variable {X:Cx} {pins:List (Addr × Obj)} {σ:St} {H:Hp} {s s':Shared}
theorem Inv.env0 (I:Inv X pins σ H s):Env0 X.prog X.w X.K X.mg X.base X.A X.stack s H :=
 ⟨I.ok.frames,I.ok.mod,I.bs,le_trans I.ok.bsz I.sz,I.stack,I.stkFree,I.hok,I.bare⟩
theorem Inv.after {Q:VK} {u:Value} (I:Inv X pins σ H s) (h:CE X.stack X.prog X.w H s Q u s'):EP X pins σ Q u s':=by
 obtain ⟨v,H',os,bare,un,hok,r,q⟩:=h;obtain ⟨hh,g,d,t,os'⟩:=s';obtain rfl:os'=s.os:=os;exact ⟨v,H',I.call (h':=hh) (g':=g) (d':=d) (t':=t) (ch:=[]) un hok bare (fun b z=>absurd z (by simp)),r,q⟩
end
def tCall (sp:Sp) (dvs:List V) (E:XK) (t:TA):TE:=fun σ H Q=>t σ H fun vs H1=>sp (vs++dvs) H1 Q E
def Binds (K:Frag) (fd:FuncData) (ps:List Str) (ds:List Value):Prop :=
 ∀ (s:Shared) (us:List Value),K.In s.heap->(us++ds).length=ps.length->BindsTo s fd ⟨us,[]⟩ (ps.zip (us++ds))
theorem Binds.all {K:Frag} {fd:FuncData} {ps:List Str} (h:∀ us:List Value,us.length=ps.length->bindArgs fd ⟨us,[]⟩=pure (ps.zip us)):Binds K fd ps []:=fun s us _ hl=>by
 rw [append_nil] at hl ⊢;exact .of_eq (h us hl)
def Passes (CX:CXT) (X:Cx) (E:XK):Prop:=∀ (pins:List (Addr × Obj)) (σ:St) (H:Hp) (s:Shared) (e:Value) (s':Shared),Inv X pins σ H s->CX X.stack H s E e s'->X.xe e s'
section
variable {X:Cx} {CX:CXT} {k:Nat} {f C:Addr} {fd:FuncData} {ps:List Str} {sp:Sp} {dvs:List V} {ds:List Value} {E:XK} {x m:Str} {p pos apos:Pos} {e o:Expr} {es:List Expr} {ta:TE} {t:TA}
theorem run_fn {pins:List (Addr × Obj)} {σ:St} {H:Hp} {s:Shared} {Q:VK} {us:List Value} {vs:List V} (F:FnOk X.prog X.w X.K X.mg X.base CX k f fd ps sp) (hr:Room k X.A) (hb:Binds X.K fd ps ds) (hd:Vals dvs ds) (hx:Passes CX X E)
  (I:Inv X pins σ H s) (r:Vals vs us) (h:sp (vs++dvs) H Q E):wpAny (model X.prog X.w) X.A (call (.ref f) us) (EP X pins σ Q) X.xe s:=by
 have r2:Vals (vs++dvs) (us++ds):=r.append hd;have hl:(us++ds).length=ps.length:=by rw [<- r2.length]; exact F.len _ _ _ _ h
 refine wpAny_call (codeAny_mono (F.run X.A X.stack s H ⟨us,[]⟩ (us++ds) (vs++dvs) Q E hr I.env0 (hb s us I.kIn hl) r2 h) fun r s' hq=>?_);cases r with
 | error e=>exact hx pins σ H s e s' I hq
 | ok fl =>
  cases fl with
  | ret u=>exact I.after hq
  | next=>exact False.elim hq
  | brk=>exact False.elim hq
  | cont=>exact False.elim hq
theorem pe_call (F:FnOk X.prog X.w X.K X.mg X.base CX k f fd ps sp) (hr:Room k X.A) (hg:Gl X x) (hm:X.mg x=some (.ref f)) (hk:keepIn X.K (.ref f)=true) (hb:Binds X.K fd ps ds) (hd:Vals dvs ds) (hx:Passes CX X E)
  (ha:PA X (e :: es) t) (hdb:(x == ("__debug__":Str))=false:=by decide) (he:starEach (e :: es) X.env=(false,eval e X.env) :: starEach es X.env:=by rfl) (hpl:(backTo pos (starEach es X.env)).any (·.1)=false:=by rfl) :
  PE X (.Call (.Name x p) (e :: es) [] pos) (tCall sp dvs E t):=by
 intro pins s σ H Q I h;refine wpAny_Call_Name_kw (ld_glob I hg hm ?_ hdb);refine PySem.W.callWith_K (h₀:=X.base) I.ok.mod.kin hk (thn (ha pos pins s σ H _ I h) fun us s1 ⟨vs,H1,I1,r,q⟩=>⟨I1.kIn,?_⟩) he hpl;exact run_fn F hr hb hd hx I1 r q
structure Mk (K:Frag) (C f:Addr):Prop where
 makes:PySem.W.makesIn K C=true
 init:PySem.W.findIn K (.ref C) "__init__"=some (some (.ref f))
 fn:PySem.W.isFn K (.ref f)=true
 kp:keepIn K (.ref C)=true
end
section
variable {X:Cx} {CX:CXT} {k:Nat} {f C:Addr} {fd:FuncData} {ps ks:List Str} {sp:Sp} {E:XK} {x m:Str} {p pos apos kpos:Pos} {e o:Expr} {es:List Expr} {kws:List Keyword} {te ta:TE} {t tk:TA} {nm:Option Str}
structure KBinds (K:Frag) (fd:FuncData) (ps ks:List Str) (g:List Value->List Value->List Value) (gV:List V->List V->List V):Prop where
 to:∀ (s:Shared) (us ws:List Value),K.In s.heap->(g us ws).length=ps.length->BindsTo s fd ⟨us,ks.zip ws⟩ (ps.zip (g us ws))
 rel:∀ {vs:List V} {us:List Value} {zs:List V} {ws:List Value},Vals vs us->Vals zs ws->Vals (gV vs zs) (g us ws)
variable {g:List Value->List Value->List Value} {gV:List V->List V->List V}
end
structure FnScope (N P:List Str) (sc:Scope):Prop where
 kind:sc.kind=.function
 co:sc.isCoroutine=false
 gen:sc.isGenerator=false
 nd:N.Nodup
 pre:N.take P.length=P
 par:∀ x∈P,sc.names.lookup x=some .local \/ sc.names.lookup x=some .cell
 nofree:∀ y∈sc.names,y.2 ≠ .free
theorem bindL_out {kindOf:Str->Option NameKind} {x:Str}:∀ {binds:List (Str × Value)} {m:Str->Option Value},(∀ v,(x,v) ∉ binds)->bindL kindOf binds m x=m x
 | [],_,_=>rfl
 | (n,v) :: r,m,h=>by
  unfold bindL;rw [bindL_out fun w hw=>h w (mem_cons_of_mem _ hw)];split
  ·have:x ≠ n:=by rintro rfl; exact h v mem_cons_self
   simp [this]
  ·rfl
theorem bindC_out {kindOf:Str->Option NameKind} {x:Str}:∀ {binds:List (Str × Value)} {m:Str->Option Value},(∀ v,(x,v) ∉ binds)->bindC kindOf binds m x=m x
 | [],_,_=>rfl
 | (n,v) :: r,m,h=>by
  unfold bindC;rw [bindC_out fun w hw=>h w (mem_cons_of_mem _ hw)];split
  ·rfl
  ·have:x ≠ n:=by rintro rfl; exact h v mem_cons_self
   simp [this]
theorem bindL_get {kindOf:Str->Option NameKind} {x:Str} {v:Value}:∀ {P:List Str} {vs:List Value} {i:Nat} {m:Str->Option Value},P.Nodup->P[i]?=some x->vs[i]?=some v->kindOf x=some .local ->
  bindL kindOf (P.zip vs) m x=some v
 | [],_,_,_,_,h,_,_=>by simp at h
 | _ :: _,[],_,_,_,_,h,_=>by simp at h
 | p :: P,w :: vs,0,m,nd,h1,h2,hk=>by
  simp at h1 h2; subst h1; subst h2;show bindL kindOf ((p,w) :: P.zip vs) m p=_;unfold bindL;rw [bindL_out fun v hv=>(List.nodup_cons.mp nd).1 (of_mem_zip hv).1,if_pos hk]
  simp
 | p :: P,w :: vs,i + 1,m,nd,h1,h2,hk=>by
  show bindL kindOf ((p,w) :: P.zip vs) m x=_;unfold bindL;exact bindL_get (i:=i) (List.nodup_cons.mp nd).2 (by simpa using h1) (by simpa using h2) hk
theorem bindC_get {kindOf:Str->Option NameKind} {x:Str} {v:Value}:∀ {P:List Str} {vs:List Value} {i:Nat} {m:Str->Option Value},P.Nodup->P[i]?=some x->vs[i]?=some v->kindOf x ≠ some .local ->
  bindC kindOf (P.zip vs) m x=some v
 | [],_,_,_,_,h,_,_=>by simp at h
 | _ :: _,[],_,_,_,_,h,_=>by simp at h
 | p :: P,w :: vs,0,m,nd,h1,h2,hk=>by
  simp at h1 h2; subst h1; subst h2;show bindC kindOf ((p,w) :: P.zip vs) m p=_;unfold bindC;rw [bindC_out fun v hv=>(List.nodup_cons.mp nd).1 (of_mem_zip hv).1,if_neg hk]
  simp
 | p :: P,w :: vs,i + 1,m,nd,h1,h2,hk=>by
  show bindC kindOf ((p,w) :: P.zip vs) m x=_;unfold bindC;exact bindC_get (i:=i) (List.nodup_cons.mp nd).2 (by simpa using h1) (by simpa using h2) hk
def start (N:List Str) (vs:List V):St:=vs.map some++List.replicate (N.length - vs.length) none
def cxOf (CX:CXT) (P:Program) (w:World) (K:Frag) (mg:Str->Option Value) (base:Heap) (N:List Str) (qual:Str) (scope:Scope) (f:Addr) (cd:Value) (A:Around) (outer:List Env) (s:Shared) (H:Hp) (E:XK):Cx where
 prog:=P
 w:=w
 K:=K
 mg:=mg
 base:=base
 A:=A.deeper (envOfC qual scope s.heap.objs.size f cd)
 N:=N
 s₀:=s
 H₀:=H
 env:=envOfC qual scope s.heap.objs.size f cd
 outer:=outer
 stack:=envOfC qual scope s.heap.objs.size f cd :: outer
 ex:=[]
 calm:=true
 fn:=fun _=>true
 pn:=[]
 xe:=fun e s'=>wpAny (model P w) (A.deeper (envOfC qual scope s.heap.objs.size f cd)) (leaving (envOfC qual scope s.heap.objs.size f cd) e) (fun _ s''=>CX outer H s E e s'') (fun e' s''=>CX outer H s E e' s'') s'
theorem cell_has {sc:Scope} {n:Nat} {x:Str} (h:sc.names.lookup x=some .cell):∃ c,(cellsFrom n sc.names []).lookup x=some c:=by
 have q:=PySem.W.cellsFrom_some sc.names n [] (.inl h);exact Option.isSome_iff_exists.mp q
theorem inv_start {CX:CXT} {P:Program} {w:World} {K:Frag} {mg:Str->Option Value} {base:Heap} {N ps:List Str} {qual:Str} {scope:Scope} {f:Addr} {cd:Value} {A:Around} {outer:List Env} {s s1:Shared} {H:Hp} {E:XK} {us:List Value} {vs:List V}
  (S:FnScope N ps scope) (hd:A.handled=none) (e0:Env0 P w K mg base A outer s H) (hl:vs.length=ps.length) (r:Vals vs us)
  (x:InCallC s s.heap.objs.size (bindL (envOfC qual scope s.heap.objs.size f cd).kindOf (ps.zip us) fun _=>none) (cellsFrom (s.heap.objs.size + 1) scope.names []) (bindC (envOfC qual scope s.heap.objs.size f cd).kindOf (ps.zip us) fun _=>none) s1) :
  Inv (cxOf CX P w K mg base N qual scope f cd A outer s H E) [] (start N vs) H s1:=by
 have hpl:ps.length <= N.length:=by have:=congrArg List.length S.pre; rw [List.length_take] at this; omega
 obtain ⟨h1,tk,rfl,hk⟩:=x.done;have noA:∀ b:Addr,b ∉ (cxOf CX P w K mg base N qual scope f cd A outer s H E).ex:=fun b z=>absurd (show b∈([]:List Addr) from z) (by simp);refine ⟨⟨e0.mod,S.kind,rfl,rfl,le_refl _,fun y z c h1 h2=>?_,fun y hy=>?_,fun y c _ h=>?_,fun _=>hd,Around.frames_deeper e0.frames,.inr ⟨rfl,rfl⟩,fun b z=>absurd z (noA b),e0.bs,e0.bsz,fun b _ _=>noA b,fun b z=>absurd z (noA b),e0.funs,e0.frf⟩,
  rfl,e0.bare,Un.kept hk,⟨_,x.toInCall.ns,fun i y v h1 h2 h3=>?_⟩,fun y c h=>⟨_,x.cell y c h⟩,e0.hok.fresh (le_refl _),fun y c h=>?_,fun p hp=>absurd (show p∈([]:List (Addr × Obj)) from hp) (by simp),e0.hok.kept hk,?_⟩
 ·exact name_of_addr x.apart (PySem.mem_of_lookup h1) (PySem.mem_of_lookup h2)
 ·have hy:scope.names.lookup y=some .cell \/ scope.names.lookup y=some .free:=hy
  rcases hy with hy | hy
  ·exact cell_has hy
  ·exact absurd rfl (S.nofree _ (PySem.mem_of_lookup hy))
 ·exact le_of_lt (x.above y c (PySem.mem_of_lookup h))
 ·have hi:i < vs.length:=by
   unfold start at h2
   by_cases hi:i < vs.length
   ·exact hi
   ·rw [List.getElem?_append_right (by simpa using hi)] at h2
    rw [List.getElem?_replicate] at h2;split at h2 <;> cases h2
  have ha:vs[i]?=some v:=by
   unfold start at h2;rw [List.getElem?_append_left (by simpa using hi),getElem?_map] at h2;cases e:vs[i]? with
   | none=>rw [e] at h2; cases h2
   | some a=>rw [e] at h2; cases h2; rfl
  obtain ⟨u,hu,rv⟩:=r.get ha;have hp:ps[i]?=some y:=by
   rw [<- S.pre,List.getElem?_take_of_lt (by omega)]; exact h1
  have ndP:ps.Nodup:=by rw [<- S.pre]; exact S.nd.sublist (take_sublist _ _)
  refine ⟨u,rv,?_⟩;rcases S.par y (mem_of_getElem? hp) with k | k
  ·exact .inl ⟨k,bindL_get ndP hp hu k⟩
  ·obtain ⟨c,e⟩:=cell_has (n:=s.heap.objs.size + 1) k
   refine .inr ⟨.inl k,c,e,?_⟩;have q:=x.cell y c e;rw [bindC_get ndP hp hu (by show scope.names.lookup y ≠ _; rw [k]; decide)] at q;exact q
 ·exact e0.hok.fresh (le_of_lt (x.above y c (PySem.mem_of_lookup h)))
 ·unfold start
  show _=N.length;rw [length_append,length_map,List.length_replicate];omega
theorem fn_of {CX:CXT} {P:Program} {w:World} {K:Frag} {mg:Str->Option Value} {base:Heap} {k:Nat} {f:Addr} {name qual:Str} {params:Arguments} {body:List Stmt} {scope:Scope} {dV kV doc pm cdv ct oc:Value} {an od:Option Addr}
  {osl:Array (Option Value)} {N ps:List Str} {sp:Sp} (lk:K.lookup f=some ⟨oc,od,.func (fnOf name qual params body scope dV kV doc pm an cdv ct),osl⟩) (hcd:codeIn K cdv qual=true) (S:FnScope N ps scope)
  (len:∀ vs H Q E,sp vs H Q E->vs.length=ps.length)
  (hbody:∀ (A:Around) (outer:List Env) (s:Shared) (H:Hp) (vs:List V) (Q:VK) (E:XK),Room k (A.deeper (envOfC qual scope s.heap.objs.size f cdv))->sp vs H Q E ->
   ∃ t,PSs (cxOf CX P w K mg base N qual scope f cdv A outer s H E) body t/\t { nx:=fun _ H'=>Q .non H',rt:=Q } (start N vs) H) :
  FnOk P w K mg base CX (k + 1) f (fnOf name qual params body scope dV kV doc pm an cdv ct) ps sp:=by
 refine ⟨len,fun A outer s H args us vs Q E hr e0 hb r hsp=>?_⟩;have hl:=len _ _ _ _ hsp;have KX:K.In s.heap:=e0.mod.kin.keeps fun b o e=>(e0.bs b o e).1;have lim:s.heap.NoLimit:=e0.mod.nolimit.keeps fun b o e=>(e0.bs b o e).1;have hkind:∀ y∈ps.zip us,scope.names.lookup y.1=some .local \/ (scope.names.lookup y.1=some .cell/\((cellsFrom (s.heap.objs.size + 1) scope.names []).lookup y.1).isSome=true):=fun ⟨n,v⟩ hy=>by
  rcases S.par n (of_mem_zip hy).1 with q | q
  ·exact .inl q
  ·exact .inr ⟨q,PySem.W.cellsFrom_some _ _ _ (.inl q)⟩
 refine codeAny_call_function hr.depth (KX _ _ lk) rfl S.co S.gen rfl (PySem.W.codeRec_of KX hcd) (hb _ _ _ _ ?_);refine wpAny_newFunctionEnv_cells S.kind hkind fun env he s1 x=>?_;subst he;refine ⟨lim.keeps x.toInCall.keep,codeAny_func ?_⟩;obtain ⟨t,ht,hq⟩:=hbody A outer s H vs Q E (hr.deeper _) hsp;have I:Inv (cxOf CX P w K mg base N qual scope f cdv A outer s H E) [] (start N vs) H s1:=inv_start S hr.hd e0 hl r x;refine wpAny_mono (ht [] s1 (start N vs) H _ I hq) (fun fl s' hs=>?_) fun e s' hs=>hs;have fin:∀ {σ':St} {H':Hp} {v:V} {u:Value},Inv (cxOf CX P w K mg base N qual scope f cdv A outer s H E) [] σ' H' s'->RelV v u->Q v H'->CE outer P w H s Q u s' :=
  fun {σ' H' v u} J rv q=>⟨v,H',J.os,J.bare,J.base,J.hok,rv,q⟩
 cases fl with
 | ret u =>
  obtain ⟨v,σ',H',J,rv,q⟩:=hs;exact fin J rv q
 | next =>
  obtain ⟨σ',H',J,q⟩:=hs;exact fin (v:=V.non) (u:=Value.none) J rfl q
 | brk =>
  obtain ⟨_,_,_,q⟩:=hs;exact False.elim q
 | cont =>
  obtain ⟨_,_,_,q⟩:=hs;exact False.elim q
end L2
namespace L2
open PySem PySem.Spec PyProof.Rows
section
variable {X:Cx} {x:Str} {p pos:Pos} {e:Expr} {es:List Expr} {t:TA} {id T:String} {r:List V->Hp->VK->Prop}
def tCB (r:List V->Hp->VK->Prop) (t:TA):TE:=fun σ H Q=>t σ H fun vs H1=>r vs H1 Q
theorem pe_callB (hc:CallR X (.builtin id) r) (hg:Gl X x) (hm:X.mg x=none) (hv:bootBuiltins x=some (.builtin id)) (ha:PA X (e :: es) t) (hn:x ≠ "__name__":=by decide) (hdb:(x == ("__debug__":Str))=false:=by decide)
  (he:starEach (e :: es) X.env=(false,eval e X.env) :: starEach es X.env:=by rfl) (hpl:(backTo pos (starEach es X.env)).any (·.1)=false:=by rfl):PE X (.Call (.Name x p) (e :: es) [] pos) (tCB r t):=by
 intro pins s σ H Q I h;refine wpAny_Call_Name_kw (ld_blt I hg hm hv ?_ hn hdb);exact PyProof.Rows.callWith_builtin1 (thn (ha pos pins s σ H _ I h) fun us s1 ⟨vs,H1,I1,r1,q1⟩=>hc pins s1 σ H1 vs us Q I1 r1 q1) he hpl
theorem pe_callTy (hc:CallR X (.type T) r) (hg:Gl X x) (hm:X.mg x=none) (hv:bootBuiltins x=some (.type T)) (ha:PA X (e :: es) t) (hn:x ≠ "__name__":=by decide) (hdb:(x == ("__debug__":Str))=false:=by decide)
  (he:starEach (e :: es) X.env=(false,eval e X.env) :: starEach es X.env:=by rfl) (hpl:(backTo pos (starEach es X.env)).any (·.1)=false:=by rfl):PE X (.Call (.Name x p) (e :: es) [] pos) (tCB r t):=by
 intro pins s σ H Q I h;refine wpAny_Call_Name_kw (ld_blt I hg hm hv ?_ hn hdb);exact PyProof.Rows.callWith_type1 (thn (ha pos pins s σ H _ I h) fun us s1 ⟨vs,H1,I1,r1,q1⟩=>hc pins s1 σ H1 vs us Q I1 r1 q1) he hpl
end
end L2
namespace HT
open PySem PyProof.Rows
section
open PySem.SeqAt
open PySem.AutoSeq1 (wpAny_loadPart')
open PySem.MeetsSeq PySem.MeetsSeq2 PySem.MeetsSeq3
end
section
variable {prog:Program} {w:World} {A:Around} {E:Value->Shared->Prop} {s:Shared}
def sIx (n d:Nat):Option Int->Nat
 | none=>d
 | some v=>if v < 0 then (v + (n:Int)).toNat else min v.toNat n
end
end HT
namespace L2
open PySem PySem.Spec PyProof.Rows
abbrev TO:=St->Hp->(Option Int->Hp->Prop)->Prop
def PO (X:Cx) (e:Option Expr) (t:TO):Prop :=
 ∀ (pins:List (Addr × Obj)) (s:Shared) (σ:St) (H:Hp) (Q:Option Int->Hp->Prop),Inv X pins σ H s->t σ H Q ->
  wpAny (model X.prog X.w) X.A (evalPart e X.env) (fun u s'=>∃ o H',Inv X pins σ H' s'/\IsPart u o/\Q o H') X.xe s
def tNoPart:TO:=fun _ H Q=>Q none H
def tPart (t:TE):TO:=fun σ H Q=>t σ H fun x H1=>∃ i,x=.int i/\Q (some i) H1
theorem intsAre_of {ns:List Int}:∀ {us:List Value},Vals (ns.map V.int) us->IntsAre us ns:=by
 induction ns with
 | nil=>intro us r; rw [map_nil] at r; cases r; exact .nil
 | cons n ns ih =>
  intro us r;rw [map_cons] at r;cases r with
  | cons r1 r2 =>
   obtain ⟨t,e⟩:=r1;subst e;exact .cons n t (ih r2)
section
variable {X:Cx} {e:Expr} {te:TE} {lo hi:Option Expr} {tl th:TO} {pos p2:Pos}
theorem po_none:PO X none tNoPart:=by
 intro pins s σ H Q I h;rw [evalPart_none];exact wpAny_pure ⟨none,H,I,.none,h⟩
theorem po_some (h:PE X e te):PO X (some e) (tPart te):=by
 intro pins s σ H Q I hw;rw [evalPart_some];refine thn (h pins s σ H _ I hw) fun u s1 hQ=>?_;obtain ⟨x,H1,I1,r1,q1⟩:=hQ;obtain ⟨i,rfl,q⟩:=q1;obtain ⟨t,rfl⟩:=r1;exact ⟨some i,H1,I1,.int i t,q⟩
def SlR (X:Cx) (r:V->Option Int->Option Int->Hp->VK->Prop):Prop :=
 ∀ (pins:List (Addr × Obj)) (s:Shared) (σ:St) (H:Hp) (x:V) (v vl vu:Value) (lo hi:Option Int) (sl:Addr) (Q:VK),Inv X pins σ H s->RelV x v->s.heap.IsSliceOf sl vl vu .none->IsPart vl lo->IsPart vu hi->r x lo hi H Q ->
  ∃ T id,typeLookup (.type T) "__getitem__"=pure (some (.builtin id))/\s.TypeIs v T/\wpAny (model X.prog X.w) X.A (getItem v (.ref sl)) (EP X pins σ Q) X.xe s
theorem SlR.or {r r':V->Option Int->Option Int->Hp->VK->Prop} (h:SlR X r) (h':SlR X r'):SlR X (fun x lo hi H Q=>r x lo hi H Q \/ r' x lo hi H Q):=by
 intro pins s σ H x v vl vu lo hi sl Q I rx hs pl pu q;rcases q with q | q
 ·exact h pins s σ H x v vl vu lo hi sl Q I rx hs pl pu q
 ·exact h' pins s σ H x v vl vu lo hi sl Q I rx hs pl pu q
def tSl (r:V->Option Int->Option Int->Hp->VK->Prop) (te:TE) (tl th:TO):TE:=fun σ H Q=>te σ H fun x H1=>tl σ H1 fun l H2=>th σ H2 fun u H3=>r x l u H3 Q
theorem pe_slice {r:V->Option Int->Option Int->Hp->VK->Prop} (hr:SlR X r) (he:PE X e te) (hl:PO X lo tl) (hu:PO X hi th):PE X (.Subscript e (.Slice lo hi none p2) pos) (tSl r te tl th):=by
 intro pins s σ H Q I h;refine Subscript_ (thn (he pins s σ H _ I h) fun v s1 hQ=>?_);obtain ⟨x,H1,I1,r1,q1⟩:=hQ;refine wpAny_Slice (thn (hl pins s1 σ H1 _ I1 q1) fun vl s2 ⟨l,H2,I2,pl,q2⟩=>thn (hu pins s2 σ H2 _ I2 q2) fun vu s3 hQ=>?_);obtain ⟨u,H3,I3,pu,q3⟩:=hQ;rw [evalPart_none];refine wpAny_pure ?_;have I4:Inv X pins σ H3 { s3 with heap:=s3.heap.push { cls:=.type "slice",data:=.fields #[vl,vu,.none] } }:=I3.kept (t':=s3.toks) fun b ob q=>Heap.get?_push_of_some _ q;obtain ⟨T,id,hT,ht,hg⟩:=hr pins { s3 with heap:=s3.heap.push { cls:=.type "slice",data:=.fields #[vl,vu,.none] } } σ H3 x v vl vu l u s3.heap.objs.size Q I4 r1 (Heap.IsSliceOf.new ..) pl pu q3;show wpAny (model X.prog X.w) X.A (subscriptTail e (.Slice lo hi none p2) v (.ref s3.heap.objs.size)) (EP X pins σ Q) X.xe { s3 with heap:=s3.heap.push { cls:=.type "slice",data:=.fields #[vl,vu,.none] } };exact tail_any (ops:=[.ref s3.heap.objs.size,v]) ht hT hg (by with_unfolding_all rfl)
def cutV (xs:List V) (lo hi:Option Int):List V:=(xs.drop (HT.sIx xs.length 0 lo)).take (HT.sIx xs.length xs.length hi - HT.sIx xs.length 0 lo)
theorem cutV_length (xs:List V) (lo hi:Option Int):(cutV xs lo hi).length <= xs.length:=by
 unfold cutV;rw [List.length_take,List.length_drop];omega
end
end L2
namespace L2
open PySem PySem.Spec PyProof.Rows
def ixN (n:Nat) (i:Int):Option Nat:=if 0 <= i then (if i < n then some i.toNat else none) else if -(n:Int) <= i then some (i + n).toNat else none
def atI {α:Type} (xs:List α) (i:Int):Option α:=(ixN xs.length i).bind fun j=>xs[j]?
theorem ixN_seq {n:Nat} {i:Int} {j:Nat} (h:ixN n i=some j):seqIndex? i n=some j/\j < n/\-(n:Int) <= i/\i < n:=by
 unfold ixN at h
 by_cases h0:0 <= i
 ·rw [if_pos h0] at h
  by_cases h1:i < n
  ·rw [if_pos h1] at h
   have e:i.toNat=j:=Option.some.inj h;exact ⟨by rw [seqIndex_of h0 h1,e],by omega,by omega,h1⟩
  ·rw [if_neg h1] at h; cases h
 ·rw [if_neg h0] at h
  by_cases h1:-(n:Int) <= i
  ·rw [if_pos h1] at h
   have e:(i + n).toNat=j:=Option.some.inj h;exact ⟨by rw [seqIndex_neg (by omega) h1,e],by omega,h1,by omega⟩
  ·rw [if_neg h1] at h; cases h
theorem atI_get {α:Type} {xs:List α} {i:Int} {v:α} (h:atI xs i=some v):∃ j,seqIndex? i xs.length=some j/\xs[j]?=some v/\j < xs.length/\-(xs.length:Int) <= i/\i < xs.length:=by
 unfold atI at h;cases e:ixN xs.length i with
 | none=>rw [e] at h; cases h
 | some j =>
  rw [e] at h;obtain ⟨h1,h2,h3,h4⟩:=ixN_seq e;exact ⟨j,h1,h,h2,h3,h4⟩
def PlainIx (b:Expr):Prop:=∀ o i,subscripted b false o i=operate [o,i] (getItem o i)
def IxR (X:Cx) (r:R2):Prop :=
 ∀ (value slice:Expr) (pins:List (Addr × Obj)) (s:Shared) (σ:St) (H:Hp) (x y:V) (v u:Value) (Q:VK),Inv X pins σ H s->RelV x v->RelV y u->r x y H Q ->
  subscripted slice false v u=operate [v,u] (getItem v u)->wpAny (model X.prog X.w) X.A (subscriptTail value slice v u) (EP X pins σ Q) X.xe s
def MtR (X:Cx) (id:String) (r:V->List V->Hp->VK->Prop):Prop :=
 ∀ (pins:List (Addr × Obj)) (s:Shared) (σ:St) (H:Hp) (x:V) (xs:List V) (v:Value) (us:List Value) (Q:VK),Inv X pins σ H s->RelV x v->Vals xs us->r x xs H Q ->
  wpAny (model X.prog X.w) X.A (call (.builtin id) (v :: us)) (EP X pins σ Q) X.xe s
section
variable {X:Cx} {a b:Expr} {ta tb:TE} {pos:Pos}
theorem IxR.or {r r':R2} (h:IxR X r) (h':IxR X r'):IxR X (fun x y H Q=>r x y H Q \/ r' x y H Q):=by
 intro value slice pins s σ H x y v u Q I rx ry q hs;rcases q with q | q
 ·exact h value slice pins s σ H x y v u Q I rx ry q hs
 ·exact h' value slice pins s σ H x y v u Q I rx ry q hs
theorem MtR.or {id:String} {r r':V->List V->Hp->VK->Prop} (h:MtR X id r) (h':MtR X id r'):MtR X id (fun x xs H Q=>r x xs H Q \/ r' x xs H Q):=by
 intro pins s σ H x xs v us Q I rx rs q;rcases q with q | q
 ·exact h pins s σ H x xs v us Q I rx rs q
 ·exact h' pins s σ H x xs v us Q I rx rs q
theorem pe_ix {r:R2} (hr:IxR X r) (ha:PE X a ta) (hb:PE X b tb) (hs:PlainIx b):PE X (.Subscript a b pos) (tOp r ta tb):=by
 intro pins s σ H Q I h;exact Subscript_ (binT ha hb I h fun v u s2 x y H2 I2 rx ry q=>hr a b pins s2 σ H2 x y v u Q I2 rx ry q (hs _ _))
def rIxL (K:Frag):R2:=fun x y H Q=>∃ p xs i v,x=.ref p/\y=.int i/\SqL K H p xs/\atI xs i=some v/\Q v H
def rIxT (K:Frag):R2:=fun x y H Q=>∃ p xs i v,x=.ref p/\y=.int i/\SqT K H p xs/\atI xs i=some v/\Q v H
theorem ix_list:IxR X (rIxL X.K):=by
 intro value slice pins s σ H x y v u Q I rx ry h hs;obtain ⟨p,xs,i,z,rfl,rfl,hq,he,q⟩:=h;cases rx;obtain ⟨t,rfl⟩:=ry;obtain ⟨its,r,pl,hz⟩:=I.list hq;obtain ⟨j,h1,h2,h3,h4,h5⟩:=atI_get he;obtain ⟨w,ew,rw'⟩:=r.get h2;have hl:=r.length;have hn:=line63;have fin:EP X pins σ Q w s:=⟨z,H,I,rw',q⟩
 by_cases h0:0 <= i
 ·have hj:i.toNat=j:=by
   rw [seqIndex_of h0 h5] at h1;exact Option.some.inj h1
  exact item_listR pl.isList h0 (by omega) (by rw [hj]; simpa using ew) fin hs
 ·have hj:(i + (its.toArray.size:Int)).toNat=j:=by
   rw [seqIndex_neg (by omega) h4] at h1;rw [size_toArray,<- hl];exact Option.some.inj h1
  exact subscriptTail_builtinR (x:=w) pl.isList.typeIs slot_list_getitem.lookup
   (wpAny_getItem_list_neg (Q:=fun r s'=>r=w/\EP X pins σ Q r s') pl.isList (by omega) (by rw [size_toArray] <;> omega) (by omega) (by rw [hj]; simpa using ew) ⟨rfl,fin⟩) hs
theorem ix_tup:IxR X (rIxT X.K):=by
 intro value slice pins s σ H x y v u Q I rx ry h hs;obtain ⟨p,xs,i,z,rfl,rfl,hq,he,q⟩:=h;cases rx;obtain ⟨t,rfl⟩:=ry;obtain ⟨its,r,pl,hz⟩:=I.tuple hq;obtain ⟨j,h1,h2,h3,h4,h5⟩:=atI_get he;obtain ⟨w,ew,rw'⟩:=r.get h2;have hl:=r.length;have hn:=line63;have fin:EP X pins σ Q w s:=⟨z,H,I,rw',q⟩;exact subscriptTail_builtinR (x:=w) pl.typeIs slot_tuple_getitem.lookup
  (getItem_tuple (j:=j) (Q:=fun r s'=>r=w/\EP X pins σ Q r s') pl (by omega) (by omega) (by rw [size_toArray,<- hl]; exact h1) (by simpa using ew) ⟨rfl,fin⟩) hs
theorem mapSeq_set (its:List Value) (n j:Nat) (u:Value):Obj.mapSeq (·.setIfInBounds j u) { cls:=.type "list",data:=.seq its.toArray n }={ cls:=.type "list",data:=.seq (its.set j u).toArray n }:=by
 simp [Obj.mapSeq]
theorem Inv.lst {pins:List (Addr × Obj)} {σ:St} {H:Hp} {s:Shared} {p:Addr} {xs:List V} (I:Inv X pins σ H s) (h:H p=some (.lst xs)) :
  ∃ (its:List Value) (n:Nat),Vals xs its/\s.heap.get? p=some { cls:=.type "list",data:=.seq its.toArray n }/\xs.length <= sizeLine:=by
 obtain ⟨z,its,n,r,e⟩:=I.hok p _ h;exact ⟨its,n,r,e,z⟩
theorem Inv.lstUpd {pins:List (Addr × Obj)} {σ:St} {H:Hp} {s:Shared} {p:Addr} {xs ys:List V} {its its':List Value} {n n':Nat} {f:Obj->Obj} (I:Inv X pins σ H s) (h:H p=some (.lst xs))
  (ho:s.heap.get? p=some { cls:=.type "list",data:=.seq its.toArray n }) (hf:f { cls:=.type "list",data:=.seq its.toArray n }={ cls:=.type "list",data:=.seq its'.toArray n' }) (r:Vals ys its') (hz:ys.length <= sizeLine) (t:Nat) :
  Inv X pins σ (upd H p (.lst ys)) { s with heap:=s.heap.update p f,toks:=t }:=by
 have e:(s.heap.update p f).get? p=some { cls:=.type "list",data:=.seq its'.toArray n' }:=by
  rw [Heap.get?_update_self f ho (by rw [hf] <;> rfl),hf]
 refine I.write (x:=p) (e:=p) (by rw [h]; trivial) (.inl rfl) (fun b u hb q=>(Heap.get?_update_other _ _ (Ne.symm hb)).trans q) ⟨_,e⟩ ?_;exact ⟨hz,its',n',r,e⟩
def rSetL:V->V->V->Hp->(Hp->Prop)->Prop:=fun o i v H Q=>∃ p xs k j,o=.ref p/\i=.int k/\H p=some (.lst xs)/\ixN xs.length k=some j/\Q (upd H p (.lst (xs.set j v)))
theorem set_list:PSet X rSetL:=by
 intro pins s σ H o i v ov iv u Q I ro ri rv h;obtain ⟨p,xs,k,j,rfl,rfl,hp,hj,q⟩:=h;cases ro;obtain ⟨t,rfl⟩:=ri;obtain ⟨its,n,r,ho,hz⟩:=I.lst hp;obtain ⟨h1,h2,h3,h4⟩:=ixN_seq hj;have hl:=r.length;have hn:=line63;have I':Inv X pins σ (upd H p (.lst (xs.set j v))) { s with heap:=s.heap.update p (Obj.mapSeq (·.setIfInBounds j u)) } :=
  I.lstUpd hp ho (mapSeq_set its n j u) (r.set rv j) (by rw [List.length_set]; exact hz) s.toks
 by_cases h0:0 <= k
 ·have hk:k.toNat=j:=by
   rw [seqIndex_of h0 h4] at h1;exact Option.some.inj h1
  exact PySem.W.ki_setAt ho h0 (by omega) (by rw [size_toArray,<- hl]; exact h4) (by rw [hk]; exact ⟨_,I',q⟩)
 ·have hk:(k + (its.toArray.size:Int)).toNat=j:=by
   rw [seqIndex_neg (by omega) h3] at h1;rw [size_toArray,<- hl];exact Option.some.inj h1
  exact PySem.W.ki_setBack ho (by omega) (by rw [size_toArray,<- hl]; exact h3) (by omega) (by rw [hk]; exact ⟨_,I',q⟩)
theorem sb1 {i:Int} {n:Nat} (h:i < 0):max 0 (min (i + (n:Int)) n)=(((i + n).toNat:Nat):Int):=by
 rw [Int.min_eq_left (Int.add_le_of_le_sub_right (by rw [Int.sub_self]; exact Int.le_of_lt h)),Int.max_comm,Int.toNat_eq_max]
theorem sb2 {i:Int} {n:Nat} (h:¬ i < 0):max 0 (min i (n:Int))=((min i.toNat n:Nat):Int):=by
 obtain ⟨k,rfl⟩:=Int.eq_ofNat_of_zero_le (Int.not_lt.mp h);rw [Int.toNat_natCast];rcases Nat.le_total k n with e | e
 ·rw [min_eq_left e,Int.min_eq_left (Int.ofNat_le.mpr e)]; exact Int.max_eq_right (Int.natCast_nonneg _)
 ·rw [min_eq_right e,Int.min_eq_right (Int.ofNat_le.mpr e)]; exact Int.max_eq_right (Int.natCast_nonneg _)
theorem slice_bounds (lo hi:Option Int) (n:Nat):(sliceBounds lo hi none n).1=((HT.sIx n 0 lo:Nat):Int)/\(sliceBounds lo hi none n).2.1=((HT.sIx n n hi:Nat):Int)/\(sliceBounds lo hi none n).2.2=1:=by
 refine ⟨?_,?_,rfl⟩
 ·cases lo with
  | none=>simp [sliceBounds,HT.sIx]
  | some i =>
   simp only [sliceBounds,HT.sIx,getD_none,show (1:Int) > 0 by decide,if_true]
   by_cases h:i < 0
   ·simp only [h,if_true]; exact sb1 h
   ·simp only [h,if_false]; exact sb2 h
 ·cases hi with
  | none=>simp [sliceBounds,HT.sIx]
  | some i =>
   simp only [sliceBounds,HT.sIx,getD_none,show (1:Int) > 0 by decide,if_true]
   by_cases h:i < 0
   ·simp only [h,if_true]; exact sb1 h
   ·simp only [h,if_false]; exact sb2 h
theorem slicePick_cut (its:List Value) (lo hi:Option Int):slicePick its.toArray lo hi none=((its.drop (HT.sIx its.length 0 lo)).take (HT.sIx its.length its.length hi - HT.sIx its.length 0 lo)).toArray:=by
 obtain ⟨h1,h2,h3⟩:=slice_bounds lo hi its.toArray.size;unfold slicePick;rw [h1,h2,h3];simp only [sliceRange_one,pick_run,size_toArray] <;> rfl
def rSlL (K:Frag):V->Option Int->Option Int->Hp->VK->Prop:=fun x lo hi H Q=>∃ a xs,x=.ref a/\SqL K H a xs/\∀ p,H p=none->Q (.ref p) (upd H p (.lst (cutV xs lo hi)))
theorem sl_list:SlR X (rSlL X.K):=by
 intro pins s σ H x v vl vu lo hi sl Q I rx hs pl pu h;obtain ⟨a,xs,rfl,hx,q⟩:=h;cases rx;obtain ⟨its,r,ht,hz⟩:=I.list hx;have hlen:=r.length;refine ⟨"list",_,slot_list_getitem.lookup,ht.isList.typeIs,?_⟩;refine wpAny_getItem_list_slice ht.isList hs pl pu .none (by simp) ?_ (by rw [size_toArray] <;> omega);rw [slicePick_cut,<- hlen];refine ⟨.ref s.heap.objs.size,_,I.laid (t':=s.toks) (o:=.lst (cutV xs lo hi)) (fun b ob q=>Heap.get?_push_of_some _ q) (le_refl _) ?_,rfl,q _ (I.hok.fresh (le_refl _))⟩;exact ⟨le_trans (cutV_length xs lo hi) hz,_,0,(r.drop (HT.sIx xs.length 0 lo)).take (HT.sIx xs.length xs.length hi - HT.sIx xs.length 0 lo),Heap.get?_push_size _ rfl⟩
theorem call_len_seq:CallR X (.builtin "len") (fun xs H Q=>∃ p ys,xs=[.ref p]/\(SqL X.K H p ys \/ SqT X.K H p ys)/\Q (.int ys.length) H):=by
 intro pins s σ H xs us Q I r h;obtain ⟨p,ys,rfl,hq,q⟩:=h;obtain ⟨u,rfl,rx⟩:=vals1 r;cases rx;have hn:=line63;rcases hq with hq | hq
 ·obtain ⟨its,r',pl,hz⟩:=I.list hq
  have hlen:=r'.length;exact Calls.call_len_list pl.isList (by simp only [size_toArray] <;> omega) ⟨.int ys.length,H,I.tok _,⟨s.toks + 1,by rw [size_toArray,hlen]⟩,q⟩
 ·obtain ⟨its,r',pl,hz⟩:=I.tuple hq
  have hlen:=r'.length;exact len_tuple pl (by simp only [size_toArray] <;> omega) ⟨.int ys.length,H,I.tok _,⟨s.toks + 1,by rw [size_toArray,hlen]⟩,q⟩
theorem CallR.or {f:Value} {r r':List V->Hp->VK->Prop} (h:CallR X f r) (h':CallR X f r'):CallR X f (fun xs H Q=>r xs H Q \/ r' xs H Q):=by
 intro pins s σ H xs us Q I rs q;rcases q with q | q
 ·exact h pins s σ H xs us Q I rs q
 ·exact h' pins s σ H xs us Q I rs q
theorem call_list_of:CallR X (.type "list") (fun xs H Q=>∃ p ys,xs=[.ref p]/\(SqL X.K H p ys \/ SqT X.K H p ys)/\∀ l,H l=none->Q (.ref l) (upd H l (.lst ys))):=by
 intro pins s σ H xs us Q I r h;obtain ⟨p,ys,rfl,hq,q⟩:=h;obtain ⟨u,rfl,rx⟩:=vals1 r;cases rx;have fin:∀ (its:List Value),Vals ys its->ys.length <= sizeLine->∀ (h':Heap) (c':Nat),(∀ b o',s.heap.get? b=some o'->h'.get? b=some o') ->
   h'.get? s.heap.objs.size=some { cls:=.type "list",dict:=none,data:=.seq its.toArray c',slots:=#[] }->EP X pins σ Q (.ref s.heap.objs.size) { s with heap:=h' }:=fun its r' hz h' c' kp e =>
  ⟨.ref s.heap.objs.size,_,I.laid (t':=s.toks) kp (le_refl _) (show ObjOk X.prog X.w _ h' _ (.lst ys) from ⟨hz,its,c',r',e⟩),rfl,q _ (I.hok.fresh (le_refl _))⟩
 rcases hq with hq | hq
 ·obtain ⟨its,r',pl,hz⟩:=I.list hq
  have hlen:=r'.length;obtain ⟨o,ho,hc,n,hd⟩:=pl.isList;exact call_list_seq p (.inl rfl) ho hc hd (fun h' c' kp e=>fin its r' hz h' c' kp e) (by simp only [size_toArray] <;> omega)
 ·obtain ⟨its,r',pl,hz⟩:=I.tuple hq
  have hlen:=r'.length;obtain ⟨o,ho,hc,n,hd⟩:=pl;exact call_list_seq p (.inr rfl) ho hc hd (fun h' c' kp e=>fin its r' hz h' c' kp e) (by simp only [size_toArray] <;> omega)
def tyV (K:Frag) (T:String) (x:V) (H:Hp):Prop:=match x with
 | .str _=>T="str"
 | .int _=>T="int"
 | .ref p=>(T="list"/\∃ xs,SqL K H p xs) \/ (T="tuple"/\∃ o,K.lookup p=some o/\o.cls=.type "tuple"/\o.dict=none) \/
   (T="dict"/\((∃ kvs,H p=some (.dK kvs)) \/ ∃ kvs,H p=some (.dT kvs))) \/ (T="set"/\∃ S n,H p=some (.set S n))
 | _=>False
theorem tyV_is {pins:List (Addr × Obj)} {σ:St} {H:Hp} {s:Shared} {T:String} {x:V} {v:Value} (I:Inv X pins σ H s) (r:RelV x v) (ty:tyV X.K T x H) :
  s.TypeIs v T/\∀ a,v=.ref a->∃ ob,s.heap.get? a=some ob/\ob.dict=none:=by
 cases x with
 | str z =>
  obtain ⟨t,rfl⟩:=r;cases (show T="str" from ty);exact ⟨typeIs_str s z t,fun _ e=>nomatch e⟩
 | int i =>
  obtain ⟨t,rfl⟩:=r;cases (show T="int" from ty);exact ⟨typeIs_int s i t,fun _ e=>nomatch e⟩
 | ref p =>
  cases r;rcases ty with ⟨rfl,xs,hq⟩ | ⟨rfl,o,hk,hc,hd⟩ | ⟨rfl,hk⟩ | ⟨rfl,S,n,hk⟩
  ·obtain ⟨its,_,pl,_⟩:=I.list hq
   refine ⟨pl.isList.typeIs,fun a e=>?_⟩;cases e;obtain ⟨o,n,e,c,hd,_⟩:=pl;exact ⟨o,e,hd⟩
  ·refine ⟨⟨o,I.kIn p o hk,hc⟩,fun a e=>?_⟩
   cases e;exact ⟨o,I.kIn _ o hk,hd⟩
  ·have z:∃ o,s.heap.get? p=some o/\o.ExactDict:=by
    rcases hk with ⟨kvs,hk⟩ | ⟨kvs,hk⟩
    ·obtain ⟨_,_,_,_,o,_,_,e,ex,_⟩:=I.hok p _ hk
     exact ⟨o,e,ex⟩
    ·obtain ⟨_,_,_,_,o,_,_,e,ex,_⟩:=I.hok p _ hk
     exact ⟨o,e,ex⟩
   obtain ⟨o,e,ex⟩:=z;refine ⟨⟨o,e,ex.1⟩,fun a e2=>?_⟩;cases e2;exact ⟨o,e,ex.2.1⟩
  ·obtain ⟨o,_,_,_,e,ex,_⟩:=I.hok p _ hk
   refine ⟨⟨o,e,ex.1⟩,fun a e2=>?_⟩;cases e2;exact ⟨o,e,ex.2.1⟩
 | _=>exact False.elim ty
def tBM (K:Frag) (T:String) (r:V->List V->Hp->VK->Prop) (to:TE) (t:TA):TE:=fun σ H Q=>to σ H fun x H1=>tyV K T x H1/\t σ H1 fun xs H2=>r x xs H2 Q
variable {o e:Expr} {es:List Expr} {to:TE} {t:TA} {name:Str} {apos cpos:Pos} {T id:String} {r:V->List V->Hp->VK->Prop}
theorem pe_bm (pa:PlainAttrs T) (slot:Slot T name id) (hty:typeOf (.builtin id)=pure (.type "method_descriptor")) (hm:MtR X id r) (ho:PE X o to) (ha:PA X (e :: es) t)
  (hbase:attributeBase o name X.env (eval o X.env)=eval o X.env:=by rfl)
  (hfew:((backTo cpos (starEach (e :: es) X.env)).all (fun x=>!x.1) && (backToKw cpos (keywordEach [] X.env)).all (fun x=>x.1.isSome)
   && decide ((e :: es).length + ([]:List Keyword).length + (if ([]:List Keyword).isEmpty then 0 else 1) < 30))=true:=by rfl)
  (hline:(apos.endLine == cpos.line)=true:=by rfl) (hs:starEach (e :: es) X.env=(false,eval e X.env) :: starEach es X.env:=by rfl) (hplain:(backTo cpos (starEach es X.env)).any (·.1)=false:=by rfl) :
  PE X (.Call (.Attribute o name apos) (e :: es) [] cpos) (tBM X.K T r to t):=by
 intro pins s σ H Q I h;refine wpAny_Call_method_late hbase hfew hline rfl (thn (ho pins s σ H _ I h) fun v s1 hQ=>?_);obtain ⟨x,H1,I1,r1,ty,q1⟩:=hQ;obtain ⟨h1,h2⟩:=tyV_is I1 r1 ty;refine ⟨T,id,pa,slot,hty,h1,h2,?_⟩;have hA:=ha cpos pins s1 σ H1 _ I1 q1;rw [hs] at hA ⊢;refine Calls.callWith_builtin (by show (false || (backTo cpos (starEach es X.env)).any (·.1))=false; rw [hplain] <;> rfl) (Calls.evalArgs_plain ?_);exact thn hA fun us s2 ⟨vs,H2,I2,r2,q2⟩=>hm pins s2 σ H2 x vs v us Q I2 r1 r2 q2
end
end L2
namespace L2
open PySem PySem.Spec PyProof.Rows
def MtM (X:Cx) (id:String) (r:V->List V->Hp->VK->Prop):Prop :=
 ∀ (pins:List (Addr × Obj)) (s:Shared) (σ:St) (H:Hp) (x:V) (xs:List V) (v:Value) (us:List Value) (Q:VK),Inv X pins σ H s->RelV x v->Vals xs us->r x xs H Q ->
  wpAny (model X.prog X.w) X.A (call (.builtin id) (v :: us)) (EP X pins σ Q) X.xe s
theorem Vals.one:∀ {x:V} {us:List Value},Vals [x] us->∃ u,us=[u]/\RelV x u
 | _,_,.cons r .nil=>⟨_,rfl,r⟩
theorem Vals.zero:∀ {us:List Value},Vals [] us->us=[]
 | _,.nil=>rfl
theorem Vals.eraseIdx:∀ {xs:List V} {us:List Value} (i:Nat),Vals xs us->Vals (xs.eraseIdx i) (us.eraseIdx i)
 | _,_,_,.nil=>.nil
 | _,_,0,.cons _ t=>t
 | _,_,i + 1,.cons r t=>.cons r (Vals.eraseIdx i t)
theorem Vals.reverse {xs:List V} {us:List Value} (h:Vals xs us):Vals xs.reverse us.reverse:=by
 induction h with
 | nil=>exact .nil
 | cons r t ih=>rw [List.reverse_cons,List.reverse_cons]; exact Vals.append ih (.cons r .nil)
theorem Vals.rep {xs:List V} {us:List Value} (h:Vals xs us):∀ k:Nat,Vals (List.replicate k xs).flatten (List.replicate k us).flatten
 | 0=>.nil
 | k + 1=>by
  rw [List.replicate_succ,List.replicate_succ,List.flatten_cons,List.flatten_cons];exact Vals.append h (Vals.rep h k)
section
variable {X:Cx} {pins:List (Addr × Obj)} {σ:St} {H:Hp} {s:Shared} {l b:Addr} {xs ys zs:List V}
theorem Inv.lset {its its':List Value} {n:Nat} {f:Array Value->Array Value} {t':Nat} (I:Inv X pins σ H s) (hH:H l=some (.lst xs))
  (e:s.heap.get? l=some { cls:=.type "list",data:=.seq its.toArray n }) (hf:f its.toArray=its'.toArray) (hv:Vals ys its') (hz:ys.length <= sizeLine) :
  Inv X pins σ (upd H l (.lst ys)) { s with heap:=s.heap.update l (Obj.mapSeq f),toks:=t' }:=by
 have q:=PySem.IsL.update e f;rw [hf] at q;refine I.write (x:=l) (e:=l) (by rw [hH]; exact trivial) (.inl rfl) (fun b' u hb hu=>(Heap.get?_update_other s.heap (Obj.mapSeq f) (Ne.symm hb)).trans hu) ⟨_,q⟩ ?_;exact ⟨hz,its',_,hv,q⟩
theorem Inv.lnew {its:List Value} {t':Nat} (I:Inv X pins σ H s) (hv:Vals ys its) (hz:ys.length <= sizeLine) :
  Inv X pins σ (upd H s.heap.objs.size (.lst ys)) { s with heap:=s.heap.push { cls:=.type "list",data:=.seq its.toArray },toks:=t' } :=
 I.laid (fun _ _ q=>Heap.get?_push_of_some _ q) (le_refl _) ⟨hz,its,0,hv,Heap.get?_push_size _ rfl⟩
theorem Inv.fresh (I:Inv X pins σ H s):H s.heap.objs.size=none:=I.hok.fresh (le_refl _)
theorem Inv.lstM (I:Inv X pins σ H s) (hH:H l=some (.lst xs)):xs.length <= sizeLine/\∃ (its:List Value) (n:Nat),Vals xs its/\xs.length=its.length/\s.heap.get? l=some { cls:=.type "list",data:=.seq its.toArray n }:=by
 obtain ⟨z,its,n,r,e⟩:=I.hok l _ hH;exact ⟨z,its,n,r,r.length,e⟩
theorem notLongL {n:Nat} (h:n <= sizeLine):Builtin.List.listTooLong n=false:=by
 unfold Builtin.List.listTooLong;exact decide_eq_false (by omega)
end
section
variable {X:Cx}
def rAppend:V->List V->Hp->VK->Prop:=fun x vs H Q=>∃ l xs y,x=.ref l/\vs=[y]/\H l=some (.lst xs)/\xs.length < sizeLine/\Q .non (upd H l (.lst (xs++[y])))
theorem mt_append:MtM X "list.append" rAppend:=by
 intro pins s σ H x vs v us Q I rx rv h;obtain ⟨l,xs,y,rfl,rfl,hH,hz,q⟩:=h;cases rx;obtain ⟨u,rfl,ru⟩:=rv.one;obtain ⟨z,its,n,r,hl,e⟩:=I.lstM hH;refine call_meets F.slot_list_append ⟨_,e,rfl⟩ F.entry_list_append (F.args_list_append_2 _ _) (PySem.list_append l its.toArray n u (by rw [size_toArray]; omega)) ⟨e,?_⟩;refine ⟨.non,_,I.lset (its':=its++[u]) hH e (by simp) (r.append (.cons ru .nil)) ?_,rfl,q⟩;rw [length_append,List.length_singleton];omega
end
section
variable {prog:Program} {w:World} {A:Around} {E:Value->Shared->Prop} {s:Shared}
end
section
variable {X:Cx}
end
end L2
namespace Att
open PySem PySem.W PySem.Calls PyProof.Rows
theorem ints_of_wellAll {P:Params} {h:Heap}:∀ (ns:List Int) (vs:List Value),WellAll P h vs (ns.map WData.int)->IntsAre vs ns:=by
 intro ns
 induction ns with
 | nil =>
  intro vs w;rw [map_nil] at w;cases w;exact .nil
 | cons n ns ih =>
  intro vs w;rw [map_cons] at w;cases w with
  | cons a b =>
   cases a;exact .cons _ _ (ih _ b)
theorem script_of {l:OpenLaw} {n:Nat} (hn:l.most=some n) {P:Params} {h:Heap} {args:List WData} {vals:List Value}
  (hpre:l.row.toRowW.claim.pre args=true) (hwl:WellAll P h vals args) :
  ∃ a vs ns,vals=[Value.ref a]/\args=[WData.list (ns.map WData.int)]/\h.get? a=some { cls:=.type "list",data:=.seq vs.toArray }/\IntsAre vs ns/\ns.length <= n:=by
 have hsh:WShape.hasAll [] args [.list .int]=true:=(pre_splitW hpre).1;have hc:l.pre.holds [] { args:=args }=true:=(pre_splitW hpre).2;obtain ⟨d,r,rfl,h1,h2⟩:=hasAllW_cons hsh;obtain rfl:=hasAllW_nil h2;obtain ⟨xs,rfl,h3⟩:=hasW_list h1;obtain ⟨ns,rfl⟩:=items_int h3;have hlen:ns.length <= n:=by
  unfold OpenLaw.pre at hc;have h4:(WTm.not (.lt (.lit (.int (n:Int))) (.len (.arg 0)))).holds [] { args:=[.list (ns.map .int)] }=true:=by
   have h4:=(holds_andW hc).1;rw [hn] at h4;exact h4
  have h5:=condW_of h4 (w_not (w_lt w_lit (w_len_list (w_arg rfl))));rw [length_map] at h5;refine Nat.le_of_not_lt fun q=>?_;have q':(n:Int) < ((ns.length:Nat):Int):=by omega
  first
   | (rw [decide_eq_true q'] at h5; exact absurd h5 (by decide))
   | (simp at h5; omega)
 cases hwl with
 | cons w1 w2 =>
  cases w2;cases w1 with
  | list ho hall=>exact ⟨_,_,ns,rfl,rfl,ho,ints_of_wellAll ns _ hall,hlen⟩
theorem post_true (l:OpenLaw) (args:List WData):l.row.toRowW.claim.post args (.bool true) args=true :=
 postW_of (r:=l.row.toRowW) (X:=(true == true))
  (show WShape.has [] (.bool true) .bool=true by first | rfl | decide | simp [WShape.has,WShape.arms,WShape.armsAll])
  (show (WTm.eq .res (.lit (.bool true))).value [] { args:=args,res:=some (.bool true),after:=args }=some (.bool (true == true)) from w_eq_bool (w_res rfl) w_lit) rfl
theorem attach_call {l:OpenLaw} {n:Nat} {q:Program} {loose:List Str} {XP:(Str->Option Value)->Heap->Prop} {YP:World->Heap->Prop} {d:DefRec}
  (hn:l.most=some n) (hdf:d.params.defaults=[])
  (call:∀ (w:World) (s₀ s₁:Shared) (mg mb:Str->Option Value) (fa:Addr) (o:Obj) (pm cd doc:Value) (a:Addr) (vs:List Value) (ns:List Int),
   Ground q loose [] XP w s₀ mg mb s₁.heap->YP w s₁.heap ->
   s₁.heap.get? fa=some o->o.data=.func (docDef d.name d.params d.body d.scope pm cd doc)->s₁.heap.CodeRec cd d.name->mg d.name=some (.ref fa) ->
   s₁.heap.get? a=some { cls:=.type "list",data:=.seq vs.toArray }->IntsAre vs ns->ns.length <= n->s₁.gens=#[] ->
   codeAny (model l.prog w) callerA (.call (.ref fa) ⟨[.ref a],[]⟩) (fun r s'=>r=.ok (.ret (.bool true))/\OldK s₁.heap s'.heap/\s'.os=s₁.os/\AllBare s'.gens) s₁) :
  WalkO q loose XP YP l.row.toRowW d [] (fun f vs=>PySem.call f vs):=by
 intro w s₀ s₁ mg mb G Y fa o pm cd doc dV kV ho hd hcd hD hmg hg args vals as hpre hlay hrd hwl hlo;obtain rfl:dV=.none:=Dflts.none hD hdf;obtain rfl:kV=.none:=Dflts.noKw hD;obtain ⟨a,vs,ns,rfl,rfl,hobj,hints,hlen⟩:=script_of hn hpre hwl;refine enter_call (codeAny_mono (call w s₀ s₁ mg mb fa o pm cd doc a vs ns G Y ho (fd_plain hd) hcd hmg hobj hints hlen hg) fun r s' hq=>?_);obtain ⟨rfl,h2,h3,h4⟩:=hq;exact ⟨.inl ⟨.bool true,.bool true,[],rfl,fun _=>rfl,.bool true,post_true l _,fun _=>⟨List.Pairwise.nil,fun _ hm=>(nomatch hm)⟩⟩,h2,h3,h4⟩
section
variable {prog:Program} {w:World} {A:Around} {E:Value->Shared->Prop} {s:Shared} {K:Frag}
end
end Att
namespace L2
open PySem PySem.Spec PyProof.Rows
theorem vals_ints:∀ {vs:List Value} {ns:List Int},IntsAre vs ns->Vals (ns.map V.int) vs
 | _,_,.nil=>.nil
 | _,_,.cons n t h=>.cons ⟨t,rfl⟩ (vals_ints h)
def Only (H:Hp):Prop:=∀ b,H b=none \/ ∃ o xs,H b=some (.frz o (.lst xs))
theorem law_call {P:Program} {w:World} {K:Frag} {mg mb:Str->Option Value} {CX:CXT} {k:Nat} {fa a:Addr} {fd:FuncData} {x:Str} {sp:Sp} {s₁:Shared} {vs:List Value} {ns:List Int}
  (KX:K.In s₁.heap) (hns:s₁.heap.Ns mainGlobals mg) (hb:s₁.heap.Ns builtinsNs mb) (hbb:∀ x:Str,x ≠ "__name__"->mb x=bootBuiltins x) (hlim:s₁.heap.NoLimit) (hg:s₁.gens=#[])
  (ha:s₁.heap.get? a=some { cls:=.type "list",data:=.seq vs.toArray }) (hi:IntsAre vs ns) (hl:ns.length <= sizeLine) (hr:Room k callerA)
  (F:∀ base:Heap,K.In base->base.Ns mainGlobals mg->FnOk P w K mg base CX k fa fd [x] sp) (hbind:∀ (s:Shared) (u:Value),BindsTo s fd ⟨[u],[]⟩ [(x,u)])
  (hsp:∀ H:Hp,Only H->SqL K H a (ns.map V.int)->sp [.ref a] H (fun v _=>v=.bl true) fun _ _ _=>False)
  (hCX:∀ H e s',CX [] H s₁ (fun _ _ _=>False) e s'->False) :
  codeAny (model P w) callerA (.call (.ref fa) ⟨[.ref a],[]⟩) (fun r s'=>r=.ok (.ret (.bool true))/\OldK s₁.heap s'.heap/\s'.os=s₁.os/\AllBare s'.gens) s₁:=by
 have rv:=vals_ints hi;have lenV:=hi.length;have core:∀ H:Hp,Only H->SqL K H a (ns.map V.int)->HOk P w H s₁.heap->(∀ b,H b ≠ none->b=a)->(H a ≠ none->K.lookup a=none) ->
   codeAny (model P w) callerA (.call (.ref fa) ⟨[.ref a],[]⟩) (fun r s'=>r=.ok (.ret (.bool true))/\OldK s₁.heap s'.heap/\s'.os=s₁.os/\AllBare s'.gens) s₁:=by
  intro H hO hS hok hA hK;have base_of:∀ {b:Addr} {o:Obj},s₁.heap.get? b=some o->H b=none->(hidT s₁.heap H).get? b=some o:=fun e n=>hidT_get e n;have noA:∀ {b:Addr} {o:Obj} {es:Array DictEntry} {ep:Nat},s₁.heap.get? b=some o->o.data=.dict es ep->H b=none:=fun {b o es ep} e d=>by
   cases q:H b with
   | none=>rfl
   | some u =>
    have e':b=a:=hA b (by rw [q]; simp);subst e';rw [ha] at e; cases e;have d':Data.seq vs.toArray _=Data.dict es ep:=d;cases d'
  have nsK:∀ {b:Addr} {m:Str->Option Value},s₁.heap.Ns b m->(hidT s₁.heap H).Ns b m:=fun {b m} ⟨o,es,ep,e,d,r⟩=>⟨o,es,ep,base_of e (noA e d),d,r⟩;have hKb:K.In (hidT s₁.heap H):=fun b o e=>base_of (KX b o e) (by
   cases q:H b with
   | none=>rfl
   | some u =>
    have e':b=a:=hA b (by rw [q]; simp);subst e';rw [hK (by rw [q]; simp)] at e; cases e)
  have hM:Mod K mg (hidT s₁.heap H):=⟨hKb,nsK hns,⟨mb,nsK hb,hbb⟩,let ⟨mc,h1,h2⟩:=hlim; ⟨mc,nsK h1,h2⟩⟩;have e0:Env0 P w K mg (hidT s₁.heap H) callerA [] s₁ H:=⟨rfl,hM,fun b o e=>of_hidT e,Nat.le_of_eq (hidT_size _ _),trivial,fun b hb=>absurd (show b∈([]:List Addr) from hb) (by simp),hok,.of_eq hg⟩;refine codeAny_mono ((F _ hKb (nsK hns)).run callerA [] s₁ H ⟨[.ref a],[]⟩ [.ref a] [.ref a] _ _ hr e0 (hbind s₁ (.ref a)) (.cons rfl .nil) (hsp H hO hS)) fun r s' h=>?_;cases r with
  | error e=>exact (hCX H e s' h).elim
  | ok fl =>
   cases fl with
   | next=>exact False.elim h
   | brk=>exact False.elim h
   | cont=>exact False.elim h
   | ret u =>
    obtain ⟨v,H',os,bare,un,hok',r',q⟩:=h;have q':v=.bl true:=q;subst q';obtain rfl:u=Value.bool true:=r';refine ⟨rfl,OldK.of_keep fun b o e=>?_,os,bare⟩;cases q:H b with
    | none=>exact un.keep b o e q (by intro z; exact absurd (show b∈([]:List Addr) from z) (by simp)) (by simp)
    | some u =>
     rcases hO b with z | ⟨ob,xs,z⟩
     ·rw [q] at z; cases z
     ·have z2:=un.frzs b ob _ z
      obtain ⟨e1,_⟩:=hok b _ z;obtain ⟨e2,_⟩:=hok' b _ z2;rw [e] at e1; cases e1;exact e2
 cases hk:K.lookup a with
 | some o =>
  have e:=KX a o hk;rw [ha] at e;cases e;refine core (fun _=>none) (fun _=>.inl rfl) (.inr ⟨_,vs.toArray,_,hk,rfl,rfl,rfl,by rw [size_toArray,lenV]; exact hl,by simpa using rv⟩) (fun b u z=>by have z':(none:Option HO)=some u:=z; cases z') (fun b z=>absurd rfl z) fun z=>absurd rfl z
 | none =>
  refine core (fun b=>if b=a then some (.frz { cls:=.type "list",data:=.seq vs.toArray } (.lst (ns.map V.int))) else none) (fun b=>?_) (.inl (.inr ⟨{ cls:=.type "list",data:=.seq vs.toArray },if_pos rfl⟩)) (fun b u z=>?_) (fun b z=>?_) fun _=>hk
  ·by_cases hb:b=a
   ·exact .inr ⟨_,_,if_pos hb⟩
   ·exact .inl (if_neg hb)
  ·by_cases hb:b=a
   ·have z':=(if_pos hb).symm.trans z
    cases z';subst hb;exact ⟨ha,by rw [length_map]; exact hl,vs,_,rv,ha⟩
   ·have z':=(if_neg hb).symm.trans z
    cases z'
  ·by_cases hb:b=a
   ·exact hb
   ·exact absurd (if_neg hb) z
end L2
namespace L2
open PySem PySem.Spec PyProof.Rows
theorem aqhj {l:PySem.W.OpenLaw} {n k:Nat} {q:Program} {loose:List Str} {XP:(Str->Option Value)->Heap->Prop} {YP:World->Heap->Prop} {d:DefRec} {K:Params->Frag} {CX:World->CXT} {sp:World->Sp} {x:Str}
  (hn:l.most=some n) (hn2:n <= sizeLine) (hdf:d.params.defaults=[]) (hr:Room k callerA)
  (hY:∀ (w:World) (h:Heap),YP w h->(K w.params).In h)
  (F:∀ (w:World) (mg:Str->Option Value) (fa:Addr) (h:Heap),(K w.params).In h->h.Ns mainGlobals mg->mg d.name=some (.ref fa) ->
   ∃ fd:FuncData,(∀ (s:Shared) (u:Value),BindsTo s fd ⟨[u],[]⟩ [(x,u)]) /\
    ∀ base:Heap,(K w.params).In base->base.Ns mainGlobals mg->FnOk l.prog w (K w.params) mg base (CX w) k fa fd [x] (sp w))
  (hsp:∀ (w:World) (H:Hp) (a:Addr) (ns:List Int),ns.length <= n->Only H->SqL (K w.params) H a (ns.map V.int)->sp w [.ref a] H (fun v _=>v=.bl true) fun _ _ _=>False)
  (hCX:∀ (w:World) (H:Hp) (s:Shared) (e:Value) (s':Shared),CX w [] H s (fun _ _ _=>False) e s'->False) :
  PySem.W.WalkO q loose XP YP l.row.toRowW d [] (fun f vs=>PySem.call f vs):=by
 refine Att.attach_call hn hdf fun w s₀ s₁ mg mb fa o pm cd doc a vs ns G Y ho hd hcd hmg hobj hints hlen hg=>?_;have KX:=hY w _ Y;obtain ⟨fd,hb,hF⟩:=F w mg fa _ KX G.T.g hmg;exact law_call KX G.T.g G.T.b G.T.builtins G.T.nolimit hg hobj hints (le_trans hlen hn2) hr hF hb (fun H hO hS=>hsp w H a ns hlen hO hS) fun H e s'=>hCX w H s₁ e s'
end L2
namespace L2
open PySem PySem.Spec PyProof.Rows
def defArgs (s:Stmt):Arguments:=match s with
 | .FunctionDef _ a _ _ _ _ _ _ _ _=>a
 | _=>{ posonlyargs:=[],args:=[],vararg:=none,kwonlyargs:=[],kw_defaults:=[],kwarg:=none,defaults:=[] }
def defBody (s:Stmt):List Stmt:=match s with
 | .FunctionDef _ _ b _ _ _ _ _ _ _=>b
 | _=>[]
def defScope (s:Stmt):Scope:=match s with
 | .FunctionDef _ _ _ _ _ _ sc _ _ _=>sc
 | _=>{ kind:=.function,names:=[],isGenerator:=false,isCoroutine:=false }
abbrev CX0:CXT:=fun _ _ _ _ _ _=>False
abbrev E0:XK:=fun _ _ _=>False
theorem pass0 {X:Cx}:Passes CX0 X E0:=fun _ _ _ _ _ _ _ h=>h.elim
structure Fun (K:Frag) (x qual:Str) (st:Stmt) (f:Addr) (fd:FuncData):Prop where
 ex:∃ (oc:Value) (od:Option Addr) (kV doc pm:Value) (an:Option Addr) (cdv ct:Value) (osl:Array (Option Value)),
  fd=fnOf x qual (defArgs st) (defBody st) (defScope st) .none kV doc pm an cdv ct/\K.lookup f=some ⟨oc,od,.func fd,osl⟩/\codeIn K cdv qual=true
 kp:keepIn K (.ref f)=true
section
variable {P:Program} {w:World} {K:Frag} {mg:Str->Option Value} {base:Heap}
theorem Fun.ok {x qual:Str} {st:Stmt} {f:Addr} {fd:FuncData} {N ps:List Str} {k:Nat} {sp:Sp} (F:Fun K x qual st f fd) (S:FnScope N ps (defScope st)) (len:∀ vs H Q E,sp vs H Q E->vs.length=ps.length)
  (hbody:∀ (cdv:Value) (A:Around) (outer:List Env) (s:Shared) (H:Hp) (vs:List V) (Q:VK) (E:XK),Room k (A.deeper (envOfC qual (defScope st) s.heap.objs.size f cdv))->sp vs H Q E ->
   ∃ t,PSs (cxOf CX0 P w K mg base N qual (defScope st) f cdv A outer s H E).nox (defBody st) t/\t { nx:=fun _ H'=>Q .non H',rt:=Q } (start N vs) H):FnOk P w K mg base CX0 (k + 1) f fd ps sp:=by
 obtain ⟨oc,od,kV,doc,pm,an,cdv,ct,osl,rfl,lk,hcd⟩:=F.ex;refine fn_of lk hcd S len fun A outer s H vs Q E hr hsp=>?_;obtain ⟨t,h,q⟩:=hbody cdv A outer s H vs Q E hr hsp;exact ⟨t,h.nox,q⟩
theorem Fun.binds {x qual:Str} {st:Stmt} {f:Addr} {fd:FuncData} {ps:List Str} (F:Fun K x qual st f fd)
  (h:∀ (kV doc pm:Value) (an:Option Addr) (cdv ct:Value) (us:List Value),us.length=ps.length->bindArgs (fnOf x qual (defArgs st) (defBody st) (defScope st) .none kV doc pm an cdv ct) ⟨us,[]⟩=pure (ps.zip us)):Binds K fd ps []:=by
 obtain ⟨oc,od,kV,doc,pm,an,cdv,ct,osl,rfl,lk,hcd⟩:=F.ex;exact .all (h kV doc pm an cdv ct)
theorem fun_mk {x qual:Str} {st:Stmt} {f:Addr} {oc:Value} {od an:Option Addr} {osl:Array (Option Value)} {kV doc pm cdv ct:Value} (l:K.lookup f=some ⟨oc,od,.func (fnOf x qual (defArgs st) (defBody st) (defScope st) .none kV doc pm an cdv ct),osl⟩)
  (c:codeIn K cdv qual=true) (k:keepIn K (.ref f)=true):Fun K x qual st f (fnOf x qual (defArgs st) (defBody st) (defScope st) .none kV doc pm an cdv ct):=⟨⟨oc,od,kV,doc,pm,an,cdv,ct,osl,rfl,l,c⟩,k⟩
end
section
variable {X:Cx}
theorem pv (i:Nat) {x:Str} {pos:Pos} (hN:X.N[i]?=some x:=by rfl) (hv:Vis X.env.scope x:=by first | exact Or.inl rfl | exact Or.inr (Or.inl rfl) | exact Or.inr (Or.inr rfl)) (hd:(x == ("__debug__":Str))=false:=by decide)
  (hcd:(x == ("__classdict__":Str))=false:=by decide):PE X (.Name x pos) (tVar i):=pe_var hN hv hd hcd
end
theorem iteF {A B:Prop} (h:B):if false=true then A else B:=by
 rw [if_neg Bool.false_ne_true];exact h
theorem iteT {A B:Prop} (h:A):if true=true then A else B:=by
 rw [if_pos rfl];exact h
def Same (H H':Hp):Prop:=∀ b o,H b=some o->H' b=some o
theorem Same.refl (H:Hp):Same H H:=fun _ _ h=>h
theorem Same.trans {H H1 H2:Hp} (a:Same H H1) (b:Same H1 H2):Same H H2:=fun c o h=>b c o (a c o h)
theorem Same.free {H H':Hp} (e:Same H H') {l:Addr} (h:H' l=Option.none):H l=Option.none:=by
 cases q:H l with
 | none=>rfl
 | some o =>
  rw [e l o q] at h;cases h
theorem Same.seq {K:Frag} {H H':Hp} {a:Addr} {xs:List V} (e:Same H H') (h:SqL K H a xs):SqL K H' a xs:=by
 rcases h with (h | ⟨o,h⟩) | h
 ·exact .inl (.inl (e _ _ h))
 ·exact .inl (.inr ⟨o,e _ _ h⟩)
 ·exact .inr h
end L2
namespace DL
open PySem
inductive D where
 | non | bl (b:Bool) | int (i:Int) | str (x:Str) | lst (xs:List D) | tup (xs:List D)
inductive O where
 | sh (d:D) | lst (os:List O) | tup (os:List O)
mutual
def imm:D->Bool
 | .lst _=>false
 | .tup ds=>aqsy ds
 | _=>true
def aqsy:List D->Bool
 | []=>true
 | d :: ds=>imm d && aqsy ds
end
mutual
def oD:O->Option D
 | .sh d=>some d
 | .lst os=>(oDs os).map D.lst
 | .tup os=>(oDs os).map D.tup
def oDs:List O->Option (List D)
 | []=>some []
 | o :: os=>(oD o).bind fun d=>(oDs os).map fun ds=>d :: ds
end
mutual
def oim:O->Bool
 | .sh d=>imm d
 | .lst os=>aqst os
 | .tup os=>aqst os
def aqst:List O->Bool
 | []=>true
 | o :: os=>oim o && aqst os
end
def ow (ds:List D):O:=.lst (ds.map O.sh)
abbrev Cs:=List (Option O)
abbrev aqu7:=List (Option D)
abbrev FE:=aqu7->Option D
abbrev FO:=aqu7->Option O
abbrev FT:=aqu7->Option Bool
abbrev FA:=aqu7->Option (List D)
abbrev FAO:=aqu7->Option (List O)
def aqu4:Nat:=100000
def aqt7 (i:Nat):FE:=fun ρ=>(ρ[i]?).bind id
def fC (d:D):FE:=fun _=>some d
def f2 (g:D->D->Option D) (a b:FE):FE:=fun ρ=>(a ρ).bind fun x=>(b ρ).bind fun y=>g x y
def f1 (g:D->Option D) (a:FE):FE:=fun ρ=>(a ρ).bind g
def fL (f:FO):FE:=fun ρ=>(f ρ).bind oD
def oE (f:FE):FO:=fun ρ=>(f ρ).map O.sh
def qV (f:FE):FT:=fun ρ=>(f ρ).bind fun d=>match d with | .bl b=>some b | _=>none
def aqsn (f:FT):FT:=fun ρ=>(f ρ).map not
def qAnd (f g:FT):FT:=fun ρ=>(f ρ).bind fun x=>if x=true then g ρ else some false
def qOr (f g:FT):FT:=fun ρ=>(f ρ).bind fun x=>if x=true then some true else g ρ
def fB (f:FT):FE:=fun ρ=>(f ρ).map D.bl
def fNot (f:FE):FE:=fB (aqsn (qV f))
def aqta (f g:FE):FE:=fun ρ=>(qV f ρ).bind fun x=>if x=true then g ρ else some (.bl false)
def fOr (f g:FE):FE:=fun ρ=>(qV f ρ).bind fun x=>if x=true then some (.bl true) else g ρ
def fIf (c:FT) (f g:FE):FE:=fun ρ=>(c ρ).bind fun x=>if x=true then f ρ else g ρ
def aqty:FA:=fun _=>some []
def gd (f:FE) (g:FA):FA:=fun ρ=>(f ρ).bind fun d=>(g ρ).map fun ds=>d :: ds
def aqik:FAO:=fun _=>some []
def aQs (f:FO) (g:FAO):FAO:=fun ρ=>(f ρ).bind fun d=>(g ρ).map fun ds=>d :: ds
def aqt8 (g:FA):FE:=fun ρ=>(g ρ).bind fun ds=>if ds.length <= aqu4 then some (.tup ds) else none
def aqsv (g:FA):FO:=fun ρ=>(g ρ).bind fun ds=>if ds.length <= aqu4 then some (ow ds) else none
def oLstO (g:FAO):FO:=fun ρ=>(g ρ).bind fun os=>if os.length <= aqu4 then some (.lst os) else none
def aqld (g:FAO):FO:=fun ρ=>(g ρ).bind fun os=>if os.length <= aqu4 then some (.tup os) else none
def aA (n:Nat) (g:List D->Option D) (f:FA):FE:=fun ρ=>(f ρ).bind fun ds=>if ds.length=n then g ds else none
def aXa (n:Nat) (g:List D->Option O) (f:FA):FO:=fun ρ=>(f ρ).bind fun ds=>if ds.length=n then g ds else none
def aqt9 (g:List D->Option D) (f:FA):FE:=fun ρ=>(f ρ).bind g
def aqsw (g:List D->Option (List D)) (f:FA):FO:=fun ρ=>((f ρ).bind g).map ow
def o2 (g:D->D->Option (List D)) (a b:FE):FO:=fun ρ=>((a ρ).bind fun x=>(b ρ).bind fun y=>g x y).map ow
abbrev GE:=D->aqu7->Option aqu7
def geN (i:Nat):GE:=fun d ρ=>some (ρ.set i (some d))
def geT:List GE->List D->aqu7->Option aqu7
 | [],[],ρ=>some ρ
 | g :: gs,d :: ds,ρ=>(g d ρ).bind fun ρ'=>geT gs ds ρ'
 | _,_,_=>none
def aqt4 (gs:List GE):GE:=fun d ρ=>match d with
 | .tup ds=>geT gs ds ρ
 | _=>none
def mkD (js:List (Option Nat)) (ρ:aqu7):aqu7:=js.map fun o=>o.bind fun j=>(ρ[j]?).bind id
def aji (g:GE) (c:FT) (e:FO):List D->aqu7->Option (List O)
 | [],_=>some []
 | d :: ds,ρ=>(g d ρ).bind fun ρ1=>(c ρ1).bind fun b=>if b=true then (e ρ1).bind fun y=>(aji g c e ds ρ1).map fun ys=>y :: ys else aji g c e ds ρ1
def qT:FT:=fun _=>some true
def akv:D->Option (List D)
 | .lst ds=>some ds
 | _=>none
theorem aV2 {α:Type} (d:D) (k:List D->Option α):(akv d).bind k=match d with
 | .lst ds=>k ds
 | _=>none:=by cases d <;> rfl
theorem aqhd {α:Type} (d d':D) (k:List D->List D->Option α):((akv d).bind fun xs=>(akv d').bind fun ys=>k xs ys)=match d,d' with
 | .lst xs,.lst ys=>k xs ys
 | _,_=>none:=by cases d <;> cases d' <;> rfl
def aqa (js:List (Option Nat)) (f:FE) (g:GE) (c:FT) (e:FO):FO:=fun ρ=>(f ρ).bind fun d=>(akv d).bind fun ds=>if ds.length <= aqu4 then (aji g c e ds (mkD js ρ)).map O.lst else none
def aqsm (lo:Int) (n:Nat):List D:=(List.range n).map fun (i:Nat)=>.int (lo + (i:Int))
def aqe6 (js:List (Option Nat)) (f:FA) (g:GE) (c:FT) (e:FO):FO:=fun ρ=>(f ρ).bind fun ds=>match ds with
 | [.int j]=>if 0 <= j/\j <= (aqu4:Int) then (aji g c e (aqsm 0 j.toNat) (mkD js ρ)).map O.lst else none
 | _=>none
def aqez (ds:List D):List D:=(List.range ds.length).zipWith (fun (i:Nat) d=>.tup [.int (i:Int),d]) ds
def aqe7 (js:List (Option Nat)) (f:FE) (g:GE) (c:FT) (e:FO):FO:=fun ρ=>(f ρ).bind fun d=>(akv d).bind fun ds=>if ds.length <= aqu4 then (aji g c e (aqez ds) (mkD js ρ)).map O.lst else none
def aqs7 (xs ys:List D):List D:=List.zipWith (fun a b=>.tup [a,b]) xs ys
def aqcg (js:List (Option Nat)) (f h:FE) (g:GE) (c:FT) (e:FO):FO:=fun ρ=>(f ρ).bind fun d=>(h ρ).bind fun d'=>(akv d).bind fun xs=>(akv d').bind fun ys=>if xs.length <= aqu4/\ys.length <= aqu4 then (aji g c e (aqs7 xs ys) (mkD js ρ)).map O.lst else none
inductive Out where
 | nx (ρ:Cs) | bk (ρ:Cs) | ct (ρ:Cs) | rt (o:O) (ρ:Cs) | ex (c:Str) (ρ:Cs)
abbrev Blk:=Cs->Option Out
def fzc:Option O->Option O
 | some o=>match oD o with | some d=>some (.sh d) | none=>some o
 | none=>none
def frz:List Bool->Cs->aqu7
 | b :: S,c :: ρ=>(if b=true then c.bind oD else none) :: frz S ρ
 | _,_=>[]
def fz:List Bool->Cs->Cs
 | b :: S,c :: ρ=>(if b=true then fzc c else c) :: fz S ρ
 | _,ρ=>ρ
def all (ρ:Cs):aqu7:=ρ.map fun c=>c.bind oD
abbrev FM:=Cs->Option (O × Cs)
def mE (S:List Bool) (f:FE):FM:=fun ρ=>(f (frz S ρ)).map fun d=>(.sh d,if imm d=true then ρ else fz S ρ)
def mO (S:List Bool) (f:FO):FM:=fun ρ=>(f (frz S ρ)).map fun o=>(o,if oim o=true then ρ else fz S ρ)
def mMv (i:Nat):FM:=fun ρ=>((ρ[i]?).bind id).map fun o=>(o,ρ.set i none)
def aqtt:Blk:=fun ρ=>some (.nx ρ)
def aqtr (b c:Blk):Blk:=fun ρ=>match b ρ with
 | some (.nx ρ')=>c ρ'
 | o=>o
def aqtq (i:Nat) (f:FM):Blk:=fun ρ=>(f ρ).map fun p=>.nx (p.2.set i (some p.1))
def aqts (f:FM):Blk:=fun ρ=>(f ρ).map fun p=>.rt p.1 p.2
def bRetN:Blk:=fun ρ=>some (.rt (.sh .non) ρ)
def bExpr (f:FM):Blk:=fun ρ=>(f ρ).map fun p=>.nx p.2
def bIf (c:FT) (a b:Blk):Blk:=fun ρ=>(c (DL.all ρ)).bind fun t=>if t=true then a ρ else b ρ
def bPass:Blk:=fun ρ=>some (.nx ρ)
def bBrk:Blk:=fun ρ=>some (.bk ρ)
def bCnt:Blk:=fun ρ=>some (.ct ρ)
def bNever:Blk:=fun _=>none
abbrev GD:=D->Cs->Option Cs
def gN (i:Nat):GD:=fun d ρ=>some (ρ.set i (some (.sh d)))
def gT:List GD->List D->Cs->Option Cs
 | [],[],ρ=>some ρ
 | g :: gs,d :: ds,ρ=>(g d ρ).bind fun ρ'=>gT gs ds ρ'
 | _,_,_=>none
def gTp (gs:List GD):GD:=fun d ρ=>match d with
 | .tup ds=>gT gs ds ρ
 | _=>none
def bUnp (S:List Bool) (f:FE) (g:GD):Blk:=fun ρ=>(f (frz S ρ)).bind fun d=>(g d (fz S ρ)).map Out.nx
def aqt6 (g:GD) (b:Blk):List D->Blk
 | [],ρ=>some (.nx ρ)
 | d :: ds,ρ=>(g d ρ).bind fun ρ1=>match b ρ1 with
  | some (.nx ρ2)=>aqt6 g b ds ρ2
  | some (.ct ρ2)=>aqt6 g b ds ρ2
  | some (.bk ρ2)=>some (.nx ρ2)
  | o=>o
def aqtu (S:List Bool) (f:FE) (g:GD) (b:Blk):Blk:=fun ρ=>(f (frz S ρ)).bind fun d=>(akv d).bind fun ds=>aqt6 g b ds (fz S ρ)
def bForR (S:List Bool) (f:FA) (g:GD) (b:Blk):Blk:=fun ρ=>(f (frz S ρ)).bind fun ds=>match ds with
 | [.int j]=>if -1000000 <= j/\j <= 1000000 then aqt6 g b (aqsm 0 j.toNat) ρ else none
 | _=>none
def aYv (c:FT) (b:Blk):Nat->Blk
 | 0,_=>none
 | n + 1,ρ=>(c (DL.all ρ)).bind fun t=>if t=true then match b ρ with
   | some (.nx ρ2)=>aYv c b n ρ2
   | some (.ct ρ2)=>aYv c b n ρ2
   | some (.bk ρ2)=>some (.nx ρ2)
   | o=>o
  else some (.nx ρ)
theorem bind_some {α β:Type} {o:Option α} {f:α->Option β} {y:β} (h:o.bind f=some y):∃ x,o=some x/\f x=some y:=by
 cases o with
 | none=>cases h
 | some x=>exact ⟨x,rfl,h⟩
theorem map_some {α β:Type} {o:Option α} {f:α->β} {y:β} (h:o.map f=some y):∃ x,o=some x/\f x=y:=by
 cases o with
 | none=>cases h
 | some x=>exact ⟨x,rfl,Option.some.inj h⟩
theorem awg {c:FT} {b:Blk}:∀ {n m:Nat} {ρ:Cs} {o:Out},aYv c b n ρ=some o->n <= m->aYv c b m ρ=some o
 | 0,_,_,_,h,_=>by cases h
 | n + 1,0,_,_,_,h=>by omega
 | n + 1,m + 1,ρ,o,h,hl=>by
  unfold aYv at h ⊢;obtain ⟨t,ht,h⟩:=bind_some h;rw [ht];show (if t=true then _ else _)=some o;split at h
  ·rename_i htt
   rw [if_pos htt];cases hb:b ρ with
   | none=>rw [hb] at h; cases h
   | some o1 =>
    rw [hb] at h;cases o1 with
    | nx ρ2=>exact awg h (by omega)
    | ct ρ2=>exact awg h (by omega)
    | bk ρ2=>exact h
    | rt d ρ2=>exact h
    | ex d ρ2=>exact h
  ·rename_i htt
   rw [if_neg htt]; exact h
open Classical in
noncomputable def awo (c:FT) (b:Blk):Blk:=fun ρ=>if h:∃ n o,aYv c b n ρ=some o then aYv c b (choose h) ρ else none
theorem aqbx {c:FT} {b:Blk} {n:Nat} {ρ:Cs} {o:Out} (h:aYv c b n ρ=some o):awo c b ρ=some o:=by
 have h':∃ n o,aYv c b n ρ=some o:=⟨n,o,h⟩;unfold awo;rw [dif_pos h'];obtain ⟨o',ho⟩:=Classical.choose_spec h';have e1:=awg h (Nat.le_max_left n (Classical.choose h'));have e2:=awg ho (Nat.le_max_right n (Classical.choose h'));rw [e1] at e2;cases e2;exact ho
theorem aqb3 {c:FT} {b:Blk} {ρ:Cs} {o:Out} (h:awo c b ρ=some o):∃ n,aYv c b n ρ=some o:=by
 unfold awo at h;split at h
 ·exact ⟨_,h⟩
 ·cases h
inductive Stp where
 | ix (i:Int) | fl (x:Str)
def ixP (n:Nat) (i:Int):Option Nat:=if 0 <= i then (if i < n then some i.toNat else none) else if -(n:Int) <= i then some (i + n).toNat else none
def atP {α:Type} (xs:List α) (i:Int):Option α:=(ixP xs.length i).bind fun j=>xs[j]?
def plc:O->Stp->Option Nat
 | .lst os,.ix i=>ixP os.length i
 | .tup os,.ix i=>ixP os.length i
 | _,_=>none
def kids:O->List O
 | .lst os=>os
 | .tup os=>os
 | _=>[]
def reset:O->List O->O
 | .lst _,os=>.lst os
 | .tup _,os=>.tup os
 | o,_=>o
def atO (g:O->Option O):List Stp->O->Option O
 | [],o=>g o
 | s :: p,o=>(plc o s).bind fun n=>((kids o)[n]?).bind fun c=>(atO g p c).map fun c'=>reset o ((kids o).set n c')
def aqt3:List Stp->O->Option O
 | [],o=>some o
 | s :: p,o=>(plc o s).bind fun n=>((kids o)[n]?).bind fun c=>aqt3 p c
abbrev FP:=aqu7->Option (List Stp)
def aqsr:FP:=fun _=>some []
def aqt5 (o:O):O->Option O
 | .lst os=>if os.length < aqu4 then some (.lst (os++[o])) else none
 | _=>none
def gSetI (i:Int) (o:O):O->Option O
 | .lst os=>(ixP os.length i).map fun n=>.lst (os.set n o)
 | _=>none
def gExt (ds:List D):O->Option O
 | .lst os=>if os.length + ds.length <= aqu4 then some (.lst (os++ds.map O.sh)) else none
 | _=>none
def isL:O->Bool
 | .lst _=>true
 | _=>false
def bMut (i:Nat) (S:List Bool) (p:FP) (f:FM) (g:O->O->Option O):Blk:=fun ρ=>(p (frz S ρ)).bind fun q=>((ρ[i]?).bind id).bind fun c0=>(aqt3 q c0).bind fun m=>if isL m=true then
  (f ρ).bind fun r=>((r.2[i]?).bind id).bind fun c=>(atO (g r.1) q c).map fun c'=>.nx (r.2.set i (some c')) else none
def bPut (i:Nat) (S:List Bool) (p:FP) (k:FE) (f:FM):Blk:=fun ρ=>(f ρ).bind fun r=>(p (frz S r.2)).bind fun q=>(k (frz S r.2)).bind fun d=>((r.2[i]?).bind id).bind fun c=>match d with
 | .int j=>(atO (gSetI j r.1) q c).map fun c'=>.nx (r.2.set i (some c'))
 | _=>none
def bExt (i:Nat) (S:List Bool) (p:FP) (f:FE):Blk:=fun ρ=>(p (frz S ρ)).bind fun q=>(f (frz S ρ)).bind fun d=>((ρ[i]?).bind id).bind fun c=>match d with
 | .lst ds=>if aqsy ds=true then (atO (gExt ds) q c).map fun c'=>.nx (ρ.set i (some c')) else none
 | _=>none
def ini (m:Nat) (ds:List D):Cs:=ds.map (fun d=>some (.sh d))++List.replicate (m - ds.length) none
def aqsi (m:Nat) (b:Blk):List D->Option O:=fun ds=>match b (ini m ds) with
 | some (.rt o _)=>some o
 | some (.nx _)=>some (.sh .non)
 | _=>none
def aqsk (m:Nat) (b:Blk):List D->Option D:=fun ds=>(aqsi m b ds).bind oD
def BIG:Nat:=2 ^ 1000000
def BIGD:Nat:=2 ^ 9000
def SHORT:Nat:=2 ^ 63
def aqi0 (i j:Int):Prop:=(i.natAbs < BIG/\j.natAbs < BIG) \/ i.natAbs < SHORT \/ j.natAbs < SHORT
instance (i j:Int):Decidable (aqi0 i j):=inferInstanceAs (Decidable (_ \/ _ \/ _))
def dI (g:Int->Int->Int):D->D->Option D
 | .int i,.int j=>some (.int (g i j))
 | _,_=>none
def dB (g:Int->Int->Bool):D->D->Option D
 | .int i,.int j=>some (.bl (g i j))
 | _,_=>none
def aqtl:D->D->Option D
 | .int i,.int j=>some (.int (i + j))
 | .str x,.str y=>if x.length + y.length <= aqu4 then some (.str (x++y)) else none
 | _,_=>none
def dSub:D->D->Option D:=dI fun i j=>i - j
def aqte:D->D->Option D
 | .int i,.int j=>if aqi0 i j then some (.int (i * j)) else none
 | _,_=>none
def aqti:D->D->Option D
 | .int i,.int j=>if j ≠ 0/\j.natAbs < BIGD then some (.int (i.fdiv j)) else none
 | _,_=>none
def aqtf:D->D->Option D
 | .int i,.int j=>if j ≠ 0 then some (.int (i.fmod j)) else none
 | _,_=>none
def dPow:D->D->Option D
 | .int i,.int j=>if 0 <= j/\j <= 1000/\i.natAbs < 1000 then some (.int (i ^ j.toNat)) else none
 | _,_=>none
def dNeg:D->Option D
 | .int i=>some (.int (-i))
 | _=>none
def dLt:D->D->Option D:=dB fun i j=>decide (i < j)
def dLe:D->D->Option D:=dB fun i j=>decide (i <= j)
def dGt:D->D->Option D:=dB fun i j=>decide (j < i)
def dGe:D->D->Option D:=dB fun i j=>decide (j <= i)
mutual
def eqD:D->D->Bool
 | .non,.non=>true
 | .bl a,.bl b=>a == b
 | .int i,.int j=>i == j
 | .bl a,.int j=>(if a=true then 1 else 0) == j
 | .int i,.bl b=>i == (if b=true then 1 else 0)
 | .str x,.str y=>x == y
 | .lst xs,.lst ys=>aqtb xs ys
 | .tup xs,.tup ys=>aqtb xs ys
 | _,_=>false
def aqtb:List D->List D->Bool
 | [],[]=>true
 | x :: xs,y :: ys=>eqD x y && aqtb xs ys
 | _,_=>false
end
mutual
def shp:Nat->D->Bool
 | _,.non=>true
 | _,.bl _=>true
 | _,.int _=>true
 | _,.str x=>x.cps.all (· < 0x110000)
 | 0,.lst _=>false
 | n + 1,.lst xs=>aqsg n xs
 | 0,.tup _=>false
 | n + 1,.tup xs=>aqsg n xs
def aqsg:Nat->List D->Bool
 | _,[]=>true
 | n,x :: xs=>shp n x && aqsg n xs
end
def dEq (x y:D):Option D:=if shp 20 x=true/\shp 20 y=true then some (.bl (eqD x y)) else none
def dNe (x y:D):Option D:=if shp 20 x=true/\shp 20 y=true then some (.bl (!eqD x y)) else none
def dIs:D->D->Option D
 | .bl a,.bl b=>some (.bl (a == b))
 | x,.non=>match x with | .non=>some (.bl true) | _=>some (.bl false)
 | _,_=>none
def aqth:D->D->Option D
 | .bl a,.bl b=>some (.bl (a != b))
 | x,.non=>match x with | .non=>some (.bl false) | _=>some (.bl true)
 | _,_=>none
def dIn:D->D->Option D
 | x,.lst ds=>if shp 20 x=true/\shp 20 (.lst ds)=true then some (.bl (ds.any fun y=>eqD y x)) else none
 | x,.tup ds=>if shp 20 x=true/\shp 20 (.tup ds)=true then some (.bl (ds.any fun y=>eqD y x)) else none
 | _,_=>none
def aQ8:D->D->Option D
 | x,.lst ds=>if shp 20 x=true/\shp 20 (.lst ds)=true then some (.bl (!ds.any fun y=>eqD y x)) else none
 | x,.tup ds=>if shp 20 x=true/\shp 20 (.tup ds)=true then some (.bl (!ds.any fun y=>eqD y x)) else none
 | _,_=>none
def dIx:D->D->Option D
 | .lst xs,.int i=>atP xs i
 | .tup xs,.int i=>atP xs i
 | _,_=>none
def aqtg:List D->Option D
 | [.lst xs]=>some (.int xs.length)
 | [.tup xs]=>some (.int xs.length)
 | _=>none
def dAbs:List D->Option D
 | [.int i]=>some (.int (if i < 0 then -i else i))
 | _=>none
def dMax2:List D->Option D
 | [.int i,.int j]=>some (.int (if j > i then j else i))
 | _=>none
def aqng:List D->Option D
 | [.int i,.int j]=>some (.int (if j < i then j else i))
 | _=>none
def tyD:D->String
 | .non=>"NoneType"
 | .bl _=>"bool"
 | .int _=>"int"
 | .str _=>"str"
 | .lst _=>"list"
 | .tup _=>"tuple"
def isT (d:D) (T:String):Bool:=tyD d == T || (tyD d == "bool" && T == "int")
def aqsx (T:String):D->Option D
 | d=>some (.bl (isT d T))
def fIsi (T:String) (f:FE):FE:=fun ρ=>(f ρ).bind (aqsx T)
def aqtj:D->D->Option (List D)
 | .lst xs,.lst ys=>if xs.length + ys.length <= aqu4 then some (xs++ys) else none
 | _,_=>none
def slI (n d:Nat):Option Int->Nat
 | none=>d
 | some v=>if v < 0 then (v + n).toNat else min v.toNat n
def aqtm {α:Type} (xs:List α) (lo hi:Option Int):List α:=(xs.drop (slI xs.length 0 lo)).take (slI xs.length xs.length hi - slI xs.length 0 lo)
abbrev FPt:=aqu7->Option (Option Int)
def ptN:FPt:=fun _=>some none
def ptE (f:FE):FPt:=fun ρ=>(f ρ).bind fun d=>match d with
 | .int i=>some (some i)
 | _=>none
def oSl (f:FE) (lo hi:FPt):FO:=fun ρ=>(f ρ).bind fun d=>(lo ρ).bind fun l=>(hi ρ).bind fun h=>(akv d).bind fun ds=>some (ow (aqtm ds l h))
def sumD:List D->Int->Option Int
 | [],a=>some a
 | .int i :: ds,a=>sumD ds (a + i)
 | _,_=>none
def dSum:List D->Option D
 | [.lst ds]=>(sumD ds 0).map D.int
 | _=>none
def aqcr:List D->Option (List Bool)
 | []=>some []
 | .bl b :: ds=>(aqcr ds).map fun r=>b :: r
 | _=>none
def aqtk:List D->Option D
 | [.lst ds]=>(aqcr ds).map fun bs=>D.bl (bs.all id)
 | _=>none
def aZd:List D->Option (List D)
 | [.lst ds]=>some ds
 | [.tup ds]=>some ds
 | _=>none
def dTuple:List D->Option D
 | [.lst ds]=>some (.tup ds)
 | [.tup ds]=>some (.tup ds)
 | _=>none
end DL
namespace DL
open PySem
section
variable {ρ:aqu7} {σ:Cs} {f g:FE} {a:FA} {p q:FT} {o:FO}
@[simp] theorem aqqn {i:Nat}:aqt7 i ρ=(ρ[i]?).bind id:=rfl
@[simp] theorem fC_ap {d:D}:fC d ρ=some d:=rfl
@[simp] theorem f2_ap {o:D->D->Option D}:f2 o f g ρ=(f ρ).bind fun x=>(g ρ).bind fun y=>o x y:=rfl
@[simp] theorem f1_ap {o:D->Option D}:f1 o f ρ=(f ρ).bind o:=rfl
@[simp] theorem fL_ap:fL o ρ=(o ρ).bind oD:=rfl
@[simp] theorem oE_ap:oE f ρ=(f ρ).map O.sh:=rfl
@[simp] theorem qV_ap:qV f ρ=(f ρ).bind fun d=>match d with | .bl b=>some b | _=>none:=rfl
@[simp] theorem qT_ap:qT ρ=some true:=rfl
@[simp] theorem aqq0:aqsn p ρ=(p ρ).map not:=rfl
@[simp] theorem aqq1:qAnd p q ρ=(p ρ).bind fun x=>if x=true then q ρ else some false:=rfl
@[simp] theorem aqrb:qOr p q ρ=(p ρ).bind fun x=>if x=true then some true else q ρ:=rfl
@[simp] theorem fB_ap:fB p ρ=(p ρ).map D.bl:=rfl
@[simp] theorem aqqp:fNot f ρ=((qV f ρ).map not).map D.bl:=rfl
@[simp] theorem aqqs:aqta f g ρ=(qV f ρ).bind fun x=>if x=true then g ρ else some (.bl false):=rfl
@[simp] theorem aqrq:fOr f g ρ=(qV f ρ).bind fun x=>if x=true then some (.bl true) else g ρ:=rfl
@[simp] theorem aqrr:fIf p f g ρ=(p ρ).bind fun x=>if x=true then f ρ else g ρ:=rfl
@[simp] theorem aqr9:aqty ρ=some []:=rfl
@[simp] theorem aqpu:gd f a ρ=(f ρ).bind fun d=>(a ρ).map fun ds=>d :: ds:=rfl
@[simp] theorem aqpr:aqik ρ=some []:=rfl
@[simp] theorem aqoe {h:FAO}:aQs o h ρ=(o ρ).bind fun d=>(h ρ).map fun ds=>d :: ds:=rfl
@[simp] theorem aqqo:aqt8 a ρ=(a ρ).bind fun ds=>if ds.length <= aqu4 then some (.tup ds) else none:=rfl
@[simp] theorem aqq5:aqsv a ρ=(a ρ).bind fun ds=>if ds.length <= aqu4 then some (ow ds) else none:=rfl
@[simp] theorem aqor {h:FAO}:oLstO h ρ=(h ρ).bind fun ds=>if ds.length <= aqu4 then some (.lst ds) else none:=rfl
@[simp] theorem aqoq {h:FAO}:aqld h ρ=(h ρ).bind fun ds=>if ds.length <= aqu4 then some (.tup ds) else none:=rfl
@[simp] theorem aqpb {n:Nat} {h:List D->Option D}:aA n h a ρ=(a ρ).bind fun ds=>if ds.length=n then h ds else none:=rfl
@[simp] theorem aqot {n:Nat} {h:List D->Option O}:aXa n h a ρ=(a ρ).bind fun ds=>if ds.length=n then h ds else none:=rfl
@[simp] theorem aqqr {h:List D->Option D}:aqt9 h a ρ=(a ρ).bind h:=rfl
@[simp] theorem aqq8 {h:List D->Option (List D)}:aqsw h a ρ=((a ρ).bind h).map ow:=rfl
@[simp] theorem o2_ap {h:D->D->Option (List D)}:o2 h f g ρ=((f ρ).bind fun x=>(g ρ).bind fun y=>h x y).map ow:=rfl
@[simp] theorem aqqq {T:String}:fIsi T f ρ=(f ρ).bind (aqsx T):=rfl
@[simp] theorem aqp3 {T:String} {i:Int}:aqsx T (.int i)=some (.bl (isT (.int i) T)):=rfl
@[simp] theorem aqqc {T:String} {i:Bool}:aqsx T (.bl i)=some (.bl (isT (.bl i) T)):=rfl
@[simp] theorem aqp0 {T:String} {i:Str}:aqsx T (.str i)=some (.bl (isT (.str i) T)):=rfl
@[simp] theorem aqp1 {T:String}:aqsx T .non=some (.bl (isT .non T)):=rfl
@[simp] theorem aqp2 {T:String} {i:List D}:aqsx T (.lst i)=some (.bl (isT (.lst i) T)):=rfl
@[simp] theorem aqoz {T:String} {i:List D}:aqsx T (.tup i)=some (.bl (isT (.tup i) T)):=rfl
@[simp] theorem mE_ap {S:List Bool}:mE S f σ=(f (frz S σ)).map fun d=>(.sh d,if imm d=true then σ else fz S σ):=rfl
@[simp] theorem mO_ap {S:List Bool}:mO S o σ=(o (frz S σ)).map fun o=>(o,if oim o=true then σ else fz S σ):=rfl
@[simp] theorem aqrf {i:Nat}:mMv i σ=((σ[i]?).bind id).map fun o=>(o,σ.set i none):=rfl
@[simp] theorem aqr1 {b c:Blk}:aqtr b c σ=(match b σ with | some (.nx ρ')=>c ρ' | o=>o):=rfl
@[simp] theorem aqr3:aqtt σ=some (.nx σ):=rfl
@[simp] theorem aqpo:bPass σ=some (.nx σ):=rfl
@[simp] theorem aqr6:bBrk σ=some (.bk σ):=rfl
@[simp] theorem aqr5:bCnt σ=some (.ct σ):=rfl
@[simp] theorem aqr0 {i:Nat} {m:FM}:aqtq i m σ=(m σ).map fun p=>.nx (p.2.set i (some p.1)):=rfl
@[simp] theorem aqr2 {m:FM}:aqts m σ=(m σ).map fun p=>.rt p.1 p.2:=rfl
@[simp] theorem aqpn:bRetN σ=some (.rt (.sh .non) σ):=rfl
@[simp] theorem aqpp {m:FM}:bExpr m σ=(m σ).map fun p=>.nx p.2:=rfl
@[simp] theorem aqs6 {b c:Blk}:bIf p b c σ=(p (all σ)).bind fun t=>if t=true then b σ else c σ:=rfl
@[simp] theorem aqqm {S:List Bool}:frz S []=[]:=by cases S <;> rfl
@[simp] theorem frz_t {S:List Bool} {c:Option O}:frz (true :: S) (c :: σ)=c.bind oD :: frz S σ:=rfl
@[simp] theorem frz_f {S:List Bool} {c:Option O}:frz (false :: S) (c :: σ)=none :: frz S σ:=rfl
@[simp] theorem aqrp {S:List Bool}:fz S []=[]:=by cases S <;> rfl
@[simp] theorem aqql:fz [] σ=σ:=by cases σ <;> rfl
@[simp] theorem fz_t {S:List Bool} {c:Option O}:fz (true :: S) (c :: σ)=fzc c :: fz S σ:=rfl
@[simp] theorem fz_f {S:List Bool} {c:Option O}:fz (false :: S) (c :: σ)=c :: fz S σ:=rfl
@[simp] theorem aqp9:fzc none=none:=rfl
@[simp] theorem aqro {d:D}:fzc (some (.sh d))=some (.sh d):=by simp [fzc,oD]
@[simp] theorem aqr8:all []=[]:=rfl
@[simp] theorem aqps {c:Option O}:all (c :: σ)=c.bind oD :: all σ:=rfl
@[simp] theorem oD_sh {d:D}:oD (.sh d)=some d:=by simp [oD]
@[simp] theorem aqq7 {ds:List D}:oDs (ds.map O.sh)=some ds:=by
 induction ds with
 | nil=>simp [oDs]
 | cons d ds ih=>simp [oDs,ih]
@[simp] theorem oD_ow {ds:List D}:oD (ow ds)=some (.lst ds):=by simp [ow,oD]
@[simp] theorem aJ9 {os:List O}:oD (.lst os)=(oDs os).map D.lst:=by simp [oD]
@[simp] theorem aqre {os:List O}:oD (.tup os)=(oDs os).map D.tup:=by simp [oD]
@[simp] theorem aqq6:oDs []=some []:=by simp [oDs]
@[simp] theorem aqos {x:O} {xs:List O}:oDs (x :: xs)=(oD x).bind fun d=>(oDs xs).map fun ds=>d :: ds:=by simp [oDs]
@[simp] theorem aqp8 {ds:List D}:fzc (some (ow ds))=some (.sh (.lst ds)):=by simp [fzc]
@[simp] theorem aqqj {i:Int}:imm (.int i)=true:=by simp [imm]
@[simp] theorem aqrn {i:Bool}:imm (.bl i)=true:=by simp [imm]
@[simp] theorem aqqf {i:Str}:imm (.str i)=true:=by simp [imm]
@[simp] theorem aqqh:imm .non=true:=by simp [imm]
@[simp] theorem aqqi {ds:List D}:imm (.lst ds)=false:=by simp [imm]
@[simp] theorem aqqe {ds:List D}:imm (.tup ds)=aqsy ds:=by simp [imm]
@[simp] theorem aqp5:aqsy []=true:=by simp [aqsy]
@[simp] theorem aqo5 {d:D} {ds:List D}:aqsy (d :: ds)=(imm d && aqsy ds):=by simp [aqsy]
@[simp] theorem aqo4 {ns:List Int}:aqsy (ns.map D.int)=true:=by
 induction ns with
 | nil=>simp
 | cons n ns ih=>simp [ih]
theorem aYy {ds:List D}:aqsy ds=true ↔ ∀ d∈ds,imm d=true:=by
 induction ds with
 | nil=>simp
 | cons d ds ih=>simp [ih]
@[simp] theorem aqrc {d:D}:oim (.sh d)=imm d:=by simp [oim]
@[simp] theorem aqq4 {os:List O}:oim (.lst os)=aqst os:=by simp [oim]
@[simp] theorem aqq3 {os:List O}:oim (.tup os)=aqst os:=by simp [oim]
@[simp] theorem aqoo:aqst []=true:=by simp [aqst]
@[simp] theorem aqo0 {x:O} {xs:List O}:aqst (x :: xs)=(oim x && aqst xs):=by simp [aqst]
@[simp] theorem aqop {ds:List D}:aqst (ds.map O.sh)=aqsy ds:=by
 induction ds with
 | nil=>simp
 | cons d ds ih=>simp [ih]
@[simp] theorem aqrd {ds:List D}:oim (ow ds)=aqsy ds:=by simp [ow]
@[simp] theorem dI_ap {o:Int->Int->Int} {i j:Int}:dI o (.int i) (.int j)=some (.int (o i j)):=rfl
@[simp] theorem dB_ap {o:Int->Int->Bool} {i j:Int}:dB o (.int i) (.int j)=some (.bl (o i j)):=rfl
@[simp] theorem aqqz {i j:Int}:aqtl (.int i) (.int j)=some (.int (i + j)):=rfl
@[simp] theorem aqqt {i j:Int}:dSub (.int i) (.int j)=some (.int (i - j)):=rfl
@[simp] theorem aqrv {i j:Int}:dLt (.int i) (.int j)=some (.bl (decide (i < j))):=rfl
@[simp] theorem aqry {i j:Int}:dLe (.int i) (.int j)=some (.bl (decide (i <= j))):=rfl
@[simp] theorem aqs0 {i j:Int}:dGt (.int i) (.int j)=some (.bl (decide (j < i))):=rfl
@[simp] theorem aqs1 {i j:Int}:dGe (.int i) (.int j)=some (.bl (decide (j <= i))):=rfl
@[simp] theorem aqqu {i:Int}:dNeg (.int i)=some (.int (-i)):=rfl
theorem aq9 {i j:Int} (h:i.natAbs < BIG) (h':j.natAbs < BIG):aqte (.int i) (.int j)=some (.int (i * j)):=by
 have:aqi0 i j:=.inl ⟨h,h'⟩
 simp [aqte,this]
theorem aqf4 {i j:Int} (h:i.natAbs < 2 ^ 63):aqte (.int i) (.int j)=some (.int (i * j)):=by
 have:aqi0 i j:=.inr (.inl h)
 simp [aqte,this]
theorem aqh6 {i j:Int} (h:j.natAbs < 2 ^ 63):aqte (.int i) (.int j)=some (.int (i * j)):=by
 have:aqi0 i j:=.inr (.inr h)
 simp [aqte,this]
theorem awi {i j:Int} (h:j ≠ 0) (h':j.natAbs < BIGD):aqti (.int i) (.int j)=some (.int (i.fdiv j)):=by simp [aqti,h,h']
theorem ax2 {i j:Int} (h:j ≠ 0):aqtf (.int i) (.int j)=some (.int (i.fmod j)):=by simp [aqtf,h]
@[simp] theorem aqs3 {i j:Int}:dEq (.int i) (.int j)=some (.bl (i == j)):=by simp [dEq,shp,eqD]
@[simp] theorem aqrt {i j:Int}:dNe (.int i) (.int j)=some (.bl (i != j)):=by simp [dNe,shp,eqD,bne]
@[simp] theorem aqs4 {i j:Bool}:dEq (.bl i) (.bl j)=some (.bl (i == j)):=by simp [dEq,shp,eqD]
@[simp] theorem aqru {i j:Bool}:dNe (.bl i) (.bl j)=some (.bl (i != j)):=by simp [dNe,shp,eqD,bne]
@[simp] theorem aqs2 {a b c d:Int}:dEq (.tup [.int a,.int b]) (.tup [.int c,.int d])=some (.bl (a == c && b == d)):=by simp [dEq,shp,aqsg,eqD,aqtb]
@[simp] theorem aqrs {a b c d:Int}:dNe (.tup [.int a,.int b]) (.tup [.int c,.int d])=some (.bl (!(a == c && b == d))):=by simp [dNe,shp,aqsg,eqD,aqtb]
@[simp] theorem aqrz {i j:Bool}:dIs (.bl i) (.bl j)=some (.bl (i == j)):=rfl
@[simp] theorem aqqx {i j:Bool}:aqth (.bl i) (.bl j)=some (.bl (i != j)):=rfl
@[simp] theorem aqq9 {ds:List D}:akv (.lst ds)=some ds:=rfl
@[simp] theorem aqrx {ds:List D}:aqtg [.lst ds]=some (.int ds.length):=rfl
@[simp] theorem aqrw {ds:List D}:aqtg [.tup ds]=some (.int ds.length):=rfl
@[simp] theorem aqs5 {i:Int}:dAbs [.int i]=some (.int (if i < 0 then -i else i)):=rfl
@[simp] theorem aqqw {i j:Int}:dMax2 [.int i,.int j]=some (.int (if j > i then j else i)):=rfl
@[simp] theorem aqnf {i j:Int}:aqng [.int i,.int j]=some (.int (if j < i then j else i)):=rfl
@[simp] theorem aqqb {ds:List D}:aZd [.lst ds]=some ds:=rfl
@[simp] theorem aqqa {ds:List D}:aZd [.tup ds]=some ds:=rfl
@[simp] theorem aqpf {ds:List D}:dTuple [.lst ds]=some (.tup ds):=rfl
@[simp] theorem aqcn {a:D} {ds:List D}:dIx (.tup (a :: ds)) (.int 0)=some a:=by simp [dIx,atP,ixP]
@[simp] theorem aqku {a b:D} {ds:List D}:dIx (.tup (a :: b :: ds)) (.int 1)=some b:=by
 have:(1:Int) < (ds.length:Int) + 1 + 1:=by omega
 simp [dIx,atP,ixP,this]
theorem aqnr {α:Type} {ds:List α} {i:Nat} (h:i < ds.length):atP ds (i:Int)=some ds[i]:=by
 unfold atP ixP;simp [h]
theorem dIx_l {ds:List D} {i:Nat} (h:i < ds.length):dIx (.lst ds) (.int (i:Int))=some ds[i]:=aqnr h
end
@[simp] theorem aqri {i:Int}:isT (.int i) "int"=true:=rfl
@[simp] theorem aqrj {i:Int}:isT (.int i) "bool"=false:=rfl
@[simp] theorem aqrk {i:Bool}:isT (.bl i) "int"=true:=rfl
@[simp] theorem aqrl {i:Bool}:isT (.bl i) "bool"=true:=rfl
@[simp] theorem aqrg {ds:List D}:isT (.tup ds) "tuple"=true:=rfl
@[simp] theorem aqrh {ds:List D}:isT (.lst ds) "list"=true:=rfl
@[simp] theorem aqrm {ds:List D}:isL (ow ds)=true:=rfl
@[simp] theorem aqqd {os:List O}:isL (.lst os)=true:=rfl
@[simp] theorem aqp6 {o:O}:aqt3 [] o=some o:=rfl
@[simp] theorem aqr7 {g:O->Option O} {o:O}:atO g [] o=g o:=rfl
@[simp] theorem aqq2 {ρ:aqu7}:aqsr ρ=some []:=rfl
theorem aqbg {ds:List D} {d:D} (h:ds.length < aqu4):aqt5 (.sh d) (ow ds)=some (ow (ds++[d])):=by simp [aqt5,ow,h]
@[simp] theorem aqr4 {i:Nat} {S:List Bool} {p:FP} {f:FM} {g:O->O->Option O} {ρ:Cs}:bMut i S p f g ρ=(p (frz S ρ)).bind fun q=>((ρ[i]?).bind id).bind fun c0=>(aqt3 q c0).bind fun m=>if isL m=true then
  (f ρ).bind fun r=>((r.2[i]?).bind id).bind fun c=>(atO (g r.1) q c).map fun c'=>.nx (r.2.set i (some c')) else none:=rfl
mutual
theorem aqkm:∀ {n:Nat} {d:D},shp n d=true->eqD d d=true
 | n,.non,_=>by simp [eqD]
 | n,.bl _,_=>by simp [eqD]
 | n,.int _,_=>by simp [eqD]
 | n,.str _,_=>by simp [eqD]
 | 0,.lst _,h=>by simp [shp] at h
 | n + 1,.lst xs,h=>by simp only [eqD]; exact aVv (n:=n) (by simpa [shp] using h)
 | 0,.tup _,h=>by simp [shp] at h
 | n + 1,.tup xs,h=>by simp only [eqD]; exact aVv (n:=n) (by simpa [shp] using h)
theorem aVv:∀ {n:Nat} {ds:List D},aqsg n ds=true->aqtb ds ds=true
 | n,[],_=>by simp [aqtb]
 | n,d :: ds,h=>by
  have h':shp n d=true/\aqsg n ds=true:=by simpa [aqsg] using h
  simp [aqtb,aqkm h'.1,aVv h'.2]
end
theorem aWj {n:Nat} {ds:List D}:aqsg n ds=true ↔ ∀ d∈ds,shp n d=true:=by
 induction ds with
 | nil=>simp [aqsg]
 | cons d ds ih=>simp [aqsg,ih]
@[simp] theorem aqpy {n:Nat} {i:Int}:shp n (.int i)=true:=by simp [shp]
@[simp] theorem aqra {n:Nat} {i:Bool}:shp n (.bl i)=true:=by simp [shp]
@[simp] theorem aqpx {n:Nat}:shp n .non=true:=by simp [shp]
@[simp] theorem aqho {n:Nat} {ds:List D}:shp (n + 1) (.lst ds)=aqsg n ds:=by simp [shp]
@[simp] theorem aqpw {n:Nat} {ds:List D}:shp (n + 1) (.tup ds)=aqsg n ds:=by simp [shp]
@[simp] theorem aqoh {n:Nat}:aqsg n []=true:=by simp [aqsg]
@[simp] theorem aqnw {n:Nat} {d:D} {ds:List D}:aqsg n (d :: ds)=(shp n d && aqsg n ds):=by simp [aqsg]
@[simp] theorem aqnv {n:Nat} {ns:List Int}:aqsg n (ns.map D.int)=true:=by
 induction ns with
 | nil=>simp
 | cons m ns ih=>simp [ih]
theorem aqh4 {xs ys:List Int}:aqtb (xs.map D.int) (ys.map D.int)=decide (xs=ys):=by
 induction xs generalizing ys with
 | nil=>cases ys <;> simp [aqtb]
 | cons x xs ih=>cases ys with
  | nil=>simp [aqtb]
  | cons y ys=>simp [aqtb,eqD,ih]; rw [Bool.eq_iff_iff]; simp
theorem aqt {α:Type} {f:α->O} {g:α->D} (h:∀ a,oD (f a)=some (g a)) (l:List α):oDs (l.map f)=some (l.map g):=by
 induction l with
 | nil=>simp
 | cons a l ih=>simp [h,ih]
theorem aJ8 {α:Type} {f:α->O} (h:∀ a,oim (f a)=true) (l:List α):aqst (l.map f)=true:=by
 induction l with
 | nil=>simp
 | cons a l ih=>simp [h,ih]
theorem axx {c:FT} {b:Blk} {ρ:Cs} (h:c (all ρ)=some false):awo c b ρ=some (.nx ρ):=aqbx (n:=1) (by simp [aYv,h])
theorem aQr {c:FT} {b:Blk} {ρ ρ2:Cs} {o:Out} (h:c (all ρ)=some true) (hb:b ρ=some (.nx ρ2)) (hr:awo c b ρ2=some o):awo c b ρ=some o:=by
 obtain ⟨n,hn⟩:=aqb3 hr;exact aqbx (n:=n + 1) (by simp [aYv,h,hb,hn])
theorem aqkh {g:GD} {b:Blk} {ρ:Cs}:aqt6 g b [] ρ=some (.nx ρ):=rfl
theorem aK2 {g:GD} {b:Blk} {d:D} {ds:List D} {ρ ρ1 ρ2:Cs} (h1:g d ρ=some ρ1) (h2:b ρ1=some (.nx ρ2) \/ b ρ1=some (.ct ρ2)):aqt6 g b (d :: ds) ρ=aqt6 g b ds ρ2:=by
 have e:aqt6 g b (d :: ds) ρ=(g d ρ).bind fun ρ1=>match b ρ1 with
  | some (.nx ρ2)=>aqt6 g b ds ρ2
  | some (.ct ρ2)=>aqt6 g b ds ρ2
  | some (.bk ρ2)=>some (.nx ρ2)
  | o=>o:=rfl
 rw [e,h1];rcases h2 with h2 | h2 <;> simp [h2]
theorem aqes {g:GD} {b:Blk} {d:D} {ds:List D} {ρ ρ1 ρ2:Cs} {o:O} (h1:g d ρ=some ρ1) (h2:b ρ1=some (.rt o ρ2)):aqt6 g b (d :: ds) ρ=some (.rt o ρ2):=by
 unfold aqt6;rw [h1];simp [h2]
theorem aY2 {α:Type} {inj:α->D} {g:GD} {b:Blk} (P:List α->Cs->Prop) (xs:List α) (ρ:Cs) (h0:P [] ρ)
  (step:∀ (pre:List α) (a:α) (post:List α) (ρ:Cs),xs=pre++a :: post->P pre ρ->∃ ρ1 ρ2,g (inj a) ρ=some ρ1/\(b ρ1=some (.nx ρ2) \/ b ρ1=some (.ct ρ2))/\P (pre++[a]) ρ2) :
  ∃ ρ',aqt6 g b (xs.map inj) ρ=some (.nx ρ')/\P xs ρ':=by
 have key:∀ (post pre:List α) (ρ:Cs),xs=pre++post->P pre ρ->∃ ρ',aqt6 g b (post.map inj) ρ=some (.nx ρ')/\P xs ρ':=by
  intro post
  induction post with
  | nil=>intro pre ρ e h; exact ⟨ρ,rfl,by rw [e,append_nil]; exact h⟩
  | cons a post ih =>
   intro pre ρ e h;obtain ⟨ρ1,ρ2,h1,h2,h3⟩:=step pre a post ρ e h;obtain ⟨ρ',e1,e2⟩:=ih (pre++[a]) ρ2 (by rw [e]; simp) h3;exact ⟨ρ',(aK2 h1 h2).trans e1,e2⟩
 exact key xs [] ρ rfl h0
theorem al {α:Type} {inj:α->D} {g:GE} {c:FT} {e:FO} (P:aqu7->Prop) (p:α->Bool) (f:α->O) (xs:List α) (ρ:aqu7) (h0:P ρ)
  (step:∀ a∈xs,∀ ρ,P ρ->∃ ρ1,g (inj a) ρ=some ρ1/\P ρ1/\c ρ1=some (p a)/\(p a=true->e ρ1=some (f a))):aji g c e (xs.map inj) ρ=some ((xs.filter p).map f):=by
 induction xs generalizing ρ with
 | nil=>rfl
 | cons a xs ih =>
  obtain ⟨ρ1,h1,h2,h3,h4⟩:=step a mem_cons_self ρ h0;have ih':=ih ρ1 h2 fun b m=>step b (mem_cons_of_mem _ m);rw [map_cons];unfold aji;rw [h1];simp only [Option.bind_some,h3];cases hp:p a with
  | true=>simp [h4 hp,ih',hp]
  | false=>simp [ih',hp]
end DL
namespace DL
open PySem PySem.Spec PyProof.Rows L2
theorem aqpm:bootBuiltins "int"=some (.type "int"):=by decide +kernel
theorem aqnm:bootBuiltins "bool"=some (.type "bool"):=by decide +kernel
theorem avx:bootBuiltins "list"=some (.type "list"):=by decide +kernel
theorem aqf9:bootBuiltins "tuple"=some (.type "tuple"):=by decide +kernel
theorem aqpk:bootBuiltins "set"=some (.type "set"):=by decide +kernel
theorem aqa5:bootBuiltins "enumerate"=some (.type "enumerate"):=by decide +kernel
theorem aqnl:bootBuiltins "zip"=some (.type "zip"):=by decide +kernel
theorem aqnn:bootBuiltins "abs"=some (.builtin "abs"):=by decide +kernel
theorem aqpl:bootBuiltins "min"=some (.builtin "min"):=by decide +kernel
theorem az5:bootBuiltins "len"=some (.builtin "len"):=by decide +kernel
theorem aql2:bootBuiltins "sum"=some (.builtin "sum"):=by decide +kernel
theorem akd:bootBuiltins "sorted"=some (.builtin "sorted"):=by decide +kernel
theorem aK9:bootBuiltins "all"=some (.builtin "all"):=by decide +kernel
end DL
set_option maxHeartbeats 1000000
namespace DL
open PySem PySem.Spec PyProof.Rows L2
abbrev St:=L2.St
theorem seqT {K:Frag} {H H':Hp} {a:Addr} {xs:List V} (e:Same H H') (h:SqT K H a xs):SqT K H' a xs:=by
 rcases h with (h | ⟨o,h⟩) | h
 ·exact .inl (.inl (e _ _ h))
 ·exact .inl (.inr ⟨o,e _ _ h⟩)
 ·exact .inr h
def SqE (K:Frag) (H:Hp) (a:Addr) (xs:List V):Prop :=
 Rd H a (.lst xs) \/ ∃ (its:List Value) (n:Nat),K.lookup a=some { cls:=.type "list",data:=.seq its.toArray n }/\xs.length <= sizeLine/\Vals xs its
theorem SqE.l {K:Frag} {H:Hp} {a:Addr} {xs:List V} (h:SqE K H a xs):SqL K H a xs:=by
 rcases h with h | ⟨its,n,h,hz,r⟩
 ·exact .inl h
 ·exact .inr ⟨_,its.toArray,n,h,rfl,rfl,rfl,by rw [size_toArray,<- r.length]; exact hz,by simpa using r⟩
theorem aqsh {K:Frag} {H H':Hp} {a:Addr} {xs:List V} (e:Same H H') (h:SqE K H a xs):SqE K H' a xs:=by
 rcases h with (h | ⟨o,h⟩) | h
 ·exact .inl (.inl (e _ _ h))
 ·exact .inl (.inr ⟨o,e _ _ h⟩)
 ·exact .inr h
theorem Inv.listE {X:Cx} {pins:List (Addr × Obj)} {σ:St} {H:Hp} {s:Shared} {a:Addr} {xs:List V} (I:Inv X pins σ H s) (h:SqE X.K H a xs) :
  ∃ (its:List Value) (n:Nat),Vals xs its/\s.heap.get? a=some { cls:=.type "list",data:=.seq its.toArray n }/\xs.length <= sizeLine:=by
 rcases h with h | ⟨its,n,h,hz,r⟩
 ·obtain ⟨z,its,n,r,e⟩:=h.ok I.hok
  exact ⟨its,n,r,e,z⟩
 ·exact ⟨its,n,r,I.kIn a _ h,hz⟩
mutual
inductive Rep (K:Frag) (F:Hp):V->D->Prop
 | non:Rep K F .non .non
 | bl (b:Bool):Rep K F (.bl b) (.bl b)
 | int (i:Int):Rep K F (.int i) (.int i)
 | str (x:Str):Rep K F (.str x) (.str x)
 | lst {a:Addr} {vs:List V} {ds:List D} (h:SqE K F a vs) (r:Reps K F vs ds):Rep K F (.ref a) (.lst ds)
 | tup {a:Addr} {vs:List V} {ds:List D} (h:SqT K F a vs) (r:Reps K F vs ds):Rep K F (.ref a) (.tup ds)
inductive Reps (K:Frag) (F:Hp):List V->List D->Prop
 | nil:Reps K F [] []
 | cons {v:V} {d:D} {vs:List V} {ds:List D} (h:Rep K F v d) (t:Reps K F vs ds):Reps K F (v :: vs) (d :: ds)
end
theorem aqdr {K:Frag} {F F':Hp} (e:Same F F'):(∀ {v:V} {d:D},Rep K F v d->Rep K F' v d)/\∀ {vs:List V} {ds:List D},Reps K F vs ds->Reps K F' vs ds:=by
 refine ⟨@Rep.rec K F (fun v d _=>Rep K F' v d) (fun v d _=>Reps K F' v d) .non .bl .int .str ?a ?b .nil ?c,@Reps.rec K F (fun v d _=>Rep K F' v d) (fun v d _=>Reps K F' v d) .non .bl .int .str ?a ?b .nil ?c⟩
 case a=>exact fun h _ r=>.lst (aqsh e h) r
 case b=>exact fun h _ r=>.tup (seqT e h) r
 case c=>exact fun _ _ h t=>.cons h t
theorem Rep.mono {K:Frag} {F F':Hp} (e:Same F F') {v:V} {d:D} (h:Rep K F v d):Rep K F' v d:=(aqdr e).1 h
theorem Reps.mono {K:Frag} {F F':Hp} (e:Same F F') {vs:List V} {ds:List D} (h:Reps K F vs ds):Reps K F' vs ds:=(aqdr e).2 h
section
variable {K:Frag} {F:Hp}
theorem Reps.length {vs:List V} {ds:List D} (r:Reps K F vs ds):vs.length=ds.length:=by
 induction vs generalizing ds with
 | nil=>cases r; rfl
 | cons v vs ih=>cases r with | cons h t=>simp [ih t]
theorem Reps.get {vs:List V} {ds:List D} (r:Reps K F vs ds) {i:Nat} {v:V} (h:vs[i]?=some v):∃ d,ds[i]?=some d/\Rep K F v d:=by
 induction vs generalizing ds i with
 | nil=>simp at h
 | cons w vs ih =>
  cases r with
  | cons q t =>
   cases i with
   | zero=>simp at h; subst h; exact ⟨_,rfl,q⟩
   | succ i=>exact ih t (by simpa using h)
theorem Reps.getD {vs:List V} {ds:List D} (r:Reps K F vs ds) {i:Nat} {d:D} (h:ds[i]?=some d):∃ v,vs[i]?=some v/\Rep K F v d:=by
 induction vs generalizing ds i with
 | nil=>cases r; simp at h
 | cons w vs ih =>
  cases r with
  | cons q t =>
   cases i with
   | zero=>simp at h; subst h; exact ⟨_,rfl,q⟩
   | succ i=>exact ih t (by simpa using h)
theorem Reps.append {vs ws:List V} {ds es:List D} (r:Reps K F vs ds) (q:Reps K F ws es):Reps K F (vs++ws) (ds++es):=by
 induction vs generalizing ds with
 | nil=>cases r; exact q
 | cons v vs ih=>cases r with | cons h t=>exact .cons h (ih t)
theorem Reps.take {vs:List V} {ds:List D} (r:Reps K F vs ds) (n:Nat):Reps K F (vs.take n) (ds.take n):=by
 induction vs generalizing ds n with
 | nil=>cases r; simp; exact .nil
 | cons v vs ih=>cases r with | cons h t=>cases n with
  | zero=>exact .nil
  | succ n=>exact .cons h (ih t n)
theorem Reps.drop {vs:List V} {ds:List D} (r:Reps K F vs ds) (n:Nat):Reps K F (vs.drop n) (ds.drop n):=by
 induction vs generalizing ds n with
 | nil=>cases r; simp; exact .nil
 | cons v vs ih=>cases r with | cons h t=>cases n with
  | zero=>exact .cons h t
  | succ n=>exact ih t n
theorem aVf (ns:List Int):Reps K F (ns.map V.int) (ns.map D.int):=by
 induction ns with
 | nil=>exact .nil
 | cons n ns ih=>exact .cons (.int n) ih
end
structure Ext (F H F' H':Hp):Prop where
 ff:Same F F'
 fh:Same F' H'
 hh:Same H H'
 nw:∀ b o,F' b=some o->F b=some o \/ H b=none
theorem Ext.refl {F H:Hp} (s:Same F H):Ext F H F H:=⟨Same.refl _,s,Same.refl _,fun _ _ h=>.inl h⟩
theorem Ext.trans {F H F1 H1 F2 H2:Hp} (a:Ext F H F1 H1) (b:Ext F1 H1 F2 H2):Ext F H F2 H2 :=
 ⟨a.ff.trans b.ff,b.fh,a.hh.trans b.hh,fun c o h=>by
  rcases b.nw c o h with h | h
  ·exact a.nw c o h
  ·exact .inr (a.hh.free h)⟩
theorem aj4 {H:Hp} {l:Addr} {o:HO} (h:H l=none):Same H (upd H l o):=fun b u e=>by rw [upd_ne (ne_of_none e h)]; exact e
theorem Ext.laid {F H:Hp} (s:Same F H) {l:Addr} {o:HO} (h:H l=none):Ext F H (upd F l o) (upd H l o) :=
 ⟨aj4 (s.free h),fun b u e=>by
   by_cases hb:b=l
   ·subst hb; rw [upd_same] at e ⊢; exact e
   ·rw [upd_ne hb] at e ⊢; exact s _ _ e,
  aj4 h,fun b u e=>by
   by_cases hb:b=l
   ·subst hb; exact .inr h
   ·rw [upd_ne hb] at e; exact .inl e⟩
theorem Ext.laidH {F H:Hp} (s:Same F H) {l:Addr} {o:HO} (h:H l=none):Ext F H F (upd H l o) :=
 ⟨Same.refl _,s.trans (aj4 h),aj4 h,fun _ _ e=>.inl e⟩
theorem Ext.keep {F H F' H':Hp} (e:Ext F H F' H') {l:Addr} {o:HO} (h:H l=none) (h1:F' l=none) (h2:H' l=some o):Ext F H (upd F' l o) H' :=
 ⟨e.ff.trans (aj4 h1),fun b u q=>by
   by_cases hb:b=l
   ·subst hb; rw [upd_same] at q; rw [<- q]; exact h2
   ·rw [upd_ne hb] at q; exact e.fh _ _ q,
  e.hh,fun b u q=>by
   by_cases hb:b=l
   ·subst hb; exact .inr h
   ·rw [upd_ne hb] at q; exact e.nw b u q⟩
def RE (K:Frag) (F:Hp) (σ:St) (ρ:aqu7):Prop:=∀ (i:Nat) (d:D),ρ[i]?=some (some d)->∃ v,σ[i]?=some (some v)/\Rep K F v d
theorem RE.mono {K:Frag} {F F':Hp} {σ:St} {ρ:aqu7} (r:RE K F σ ρ) (e:Same F F'):RE K F' σ ρ:=fun i d h=>by
 obtain ⟨v,h1,h2⟩:=r i d h;exact ⟨v,h1,h2.mono e⟩
def tD (K:Frag) (f:FE):TE:=fun σ H Q=>∃ F ρ d,Same F H/\RE K F σ ρ/\f ρ=some d/\∀ v F' H',Ext F H F' H'->Rep K F' v d->Q v H'
def tDT (K:Frag) (f:FT):TT:=fun σ H Q=>∃ F ρ b,Same F H/\RE K F σ ρ/\f ρ=some b/\∀ F' H',Ext F H F' H'->Q b H'
def tDA (K:Frag) (f:FA):TA:=fun σ H Q=>∃ F ρ ds,Same F H/\RE K F σ ρ/\f ρ=some ds/\∀ vs F' H',Ext F H F' H'->Reps K F' vs ds->Q vs H'
def DE (X:Cx) (e:Expr) (f:FE):Prop:=PE X e (tD X.K f)
def DT (X:Cx) (e:Expr) (f:FT):Prop:=PT X e (tDT X.K f)
def DW (X:Cx) (e:Expr) (f:FT):Prop:=PW X e (tDT X.K f)
def DA (X:Cx) (es:List Expr) (f:FA):Prop:=PA X es (tDA X.K f)
theorem PE.imp {X:Cx} {e:Expr} {t t':TE} (h:PE X e t) (i:∀ σ H Q,t' σ H Q->t σ H Q):PE X e t':=fun pins s σ H Q I q=>h pins s σ H Q I (i σ H Q q)
theorem PT.imp {X:Cx} {e:Expr} {t t':TT} (h:PT X e t) (i:∀ σ H Q,t' σ H Q->t σ H Q):PT X e t':=fun pins s σ H Q I q=>h pins s σ H Q I (i σ H Q q)
theorem PW.imp {X:Cx} {e:Expr} {t t':TT} (h:PW X e t) (i:∀ σ H Q,t' σ H Q->t σ H Q):PW X e t':=fun wh pins s σ H Q I q=>h wh pins s σ H Q I (i σ H Q q)
theorem PA.imp {X:Cx} {e:List Expr} {t t':TA} (h:PA X e t) (i:∀ σ H Q,t' σ H Q->t σ H Q):PA X e t':=fun pos pins s σ H Q I q=>h pos pins s σ H Q I (i σ H Q q)
theorem PS.imp {X:Cx} {st:Stmt} {t t':TS} (h:PS X st t) (i:∀ E σ H,t' E σ H->t E σ H):PS X st t':=fun pins s σ H E I q=>h pins s σ H E I (i E σ H q)
theorem PSs.imp {X:Cx} {st:List Stmt} {t t':TS} (h:PSs X st t) (i:∀ E σ H,t' E σ H->t E σ H):PSs X st t':=fun pins s σ H E I q=>h pins s σ H E I (i E σ H q)
theorem PG.imp {X:Cx} {tg:Expr} {t t':TG} (h:PG X tg t) (i:∀ v σ H Q,t' v σ H Q->t v σ H Q):PG X tg t':=fun pins s σ H v u Q I r q=>h pins s σ H v u Q I r (i v σ H Q q)
section
variable {X:Cx} {a b c:Expr} {pos:Pos}
theorem ab (i:Nat) {x:Str} {pos:Pos} (h:PE X (.Name x pos) (tVar i)):DE X (.Name x pos) (aqt7 i):=by
 refine PE.imp h fun σ H Q q=>?_;obtain ⟨F,ρ,d,s,r,hf,k⟩:=q;have e:ρ[i]?=some (some d):=by
  unfold aqt7 at hf;cases q:ρ[i]? with
  | none=>rw [q] at hf; cases hf
  | some o=>rw [q] at hf; cases o with
   | none=>cases hf
   | some d'=>cases hf; rfl
 obtain ⟨v,h1,h2⟩:=r i d e;exact ⟨v,h1,k v F H (Ext.refl s) h2⟩
theorem de_c {e:Expr} {v:V} {d:D} (h:PE X e (tC v)) (r:∀ F,Rep X.K F v d):DE X e (fC d):=by
 refine PE.imp h fun σ H Q q=>?_;obtain ⟨F,ρ,d',s,_,hf,k⟩:=q;cases hf;exact k v F H (Ext.refl s) (r F)
theorem ah {i j pos}:DE X (.Constant (.int i) j pos) (fC (.int i)):=de_c pe_int fun _=>.int i
theorem aZf {i j pos}:DE X (.Constant (.bool i) j pos) (fC (.bl i)):=de_c pe_bl fun _=>.bl i
theorem akz {j pos}:DE X (.Constant .none j pos) (fC .non):=de_c pe_non fun _=>.non
def OpD (K:Frag) (r:R2) (g:D->D->Option D):Prop:=∀ x y d F H v u Q,g x y=some d->Same F H->Rep K F v x->Rep K F u y->(∀ w F' H',Ext F H F' H'->Rep K F' w d->Q w H')->r v u H Q
def UnD (K:Frag) (r:V->Hp->VK->Prop) (g:D->Option D):Prop:=∀ x d F H v Q,g x=some d->Same F H->Rep K F v x->(∀ w F' H',Ext F H F' H'->Rep K F' w d->Q w H')->r v H Q
theorem d_op {K:Frag} {r:R2} {g:D->D->Option D} (hr:OpD K r g) {fa fb:FE} {σ:St} {H:Hp} {Q:VK} (q:tD K (f2 g fa fb) σ H Q):tOp r (tD K fa) (tD K fb) σ H Q:=by
 obtain ⟨F,ρ,d,s,re,hf,k⟩:=q;obtain ⟨x,hx,hf⟩:=bind_some hf;obtain ⟨y,hy,hf⟩:=bind_some hf;exact ⟨F,ρ,x,s,re,hx,fun v F1 H1 e1 r1=>⟨F1,ρ,y,e1.fh,re.mono e1.ff,hy,fun u F2 H2 e2 r2=>hr x y d F2 H2 v u Q hf e2.fh (r1.mono e2.ff) r2 fun w F' H' e' r'=>k w F' H' ((e1.trans e2).trans e') r'⟩⟩
theorem d_un {K:Frag} {r:V->Hp->VK->Prop} {g:D->Option D} (hr:UnD K r g) {fa:FE} {σ:St} {H:Hp} {Q:VK} (q:tD K (f1 g fa) σ H Q):tUn r (tD K fa) σ H Q:=by
 obtain ⟨F,ρ,d,s,re,hf,k⟩:=q;obtain ⟨x,hx,hf⟩:=bind_some hf;exact ⟨F,ρ,x,s,re,hx,fun v F1 H1 e1 r1=>hr x d F1 H1 v Q hf e1.fh r1 fun w F' H' e' r'=>k w F' H' (e1.trans e') r'⟩
theorem aqh {op:Operator} {r:R2} {g:D->D->Option D} {fa fb:FE} (ho:OpR X (binaryOp op) r) (hr:OpD X.K r g) (ha:DE X a fa) (hb:DE X b fb):DE X (.BinOp a op b pos) (f2 g fa fb) :=
 PE.imp (pe_op ho ha hb) fun _ _ _ q=>d_op hr q
theorem de_un {op:UnaryOp} {r:V->Hp->VK->Prop} {g:D->Option D} {fa:FE} (ho:UnR X (unaryOp op) r) (hr:UnD X.K r g) (ha:DE X a fa):DE X (.UnaryOp op a pos) (f1 g fa) :=
 PE.imp (pe_un ho ha) fun _ _ _ q=>d_un hr q
theorem avw {op:CmpOp} {r:R2} {g:D->D->Option D} {fa fb:FE} (ho:OpR X (compareOp op) r) (hr:OpD X.K r g) (ha:DE X a fa) (hb:DE X b fb) (hm:behindInMarks op b=false):DE X (.Compare a [op] [b] pos) (f2 g fa fb) :=
 PE.imp (pe_cmpR ho ha hb hm) fun _ _ _ q=>d_op hr q
theorem OpR.or {f:Value->Value->Sem Value} {r r':R2} (h:OpR X f r) (h':OpR X f r'):OpR X f (fun x y H Q=>r x y H Q \/ r' x y H Q):=by
 intro pins s σ H x y v u Q I rx ry q;rcases q with q | q
 ·exact h pins s σ H x y v u Q I rx ry q
 ·exact h' pins s σ H x y v u Q I rx ry q
theorem aqav {f:FE} {ρ:aqu7} {b:Bool} (h:qV f ρ=some b):f ρ=some (.bl b):=by
 obtain ⟨d,h1,h2⟩:=bind_some h;cases d <;> cases h2;exact h1
theorem azs {f:FE} (h:DE X a f) (he:∀ whole,isTrue a X.env whole=(do let v <- whole; standAt a.pos; holding [v] (truthy v)):=by intro _; rfl):DT X a (qV f):=by
 refine PT.imp (pt_val h he) fun σ H Q q=>?_;obtain ⟨F,ρ,b,s,re,hf,k⟩:=q;exact ⟨F,ρ,.bl b,s,re,aqav hf,fun v F' H' e r=>by cases r; exact ⟨b,rfl,k F' H' e⟩⟩
theorem aV {op:CmpOp} {r:R2} {g:D->D->Option D} {fa fb:FE} (ho:OpR X (compareOp op) r) (hr:OpD X.K r g) (ha:DE X a fa) (hb:DE X b fb) (hm:behindInMarks op b=false):DT X (.Compare a [op] [b] pos) (qV (f2 g fa fb)):=by
 refine PT.imp (pt_cmpR ho ha hb hm) fun σ H Q q=>?_;obtain ⟨F,ρ,c,s,re,hf,k⟩:=q;refine d_op (K:=X.K) hr (σ:=σ) (H:=H) ⟨F,ρ,.bl c,s,re,aqav hf,fun v F' H' e r=>?_⟩;cases r;exact ⟨c,rfl,k F' H' e⟩
variable {rest:List Expr}
theorem aXm {f:FT} (h:DT X a f):DT X (.UnaryOp .Not a pos) (aqsn f):=by
 refine PT.imp (pt_not h) fun σ H Q q=>?_;obtain ⟨F,ρ,b,s,re,hf,k⟩:=q;unfold aqsn at hf;cases hd:f ρ with
 | none=>rw [hd] at hf; cases hf
 | some c=>rw [hd] at hf; cases hf; exact ⟨F,ρ,c,s,re,hd,k⟩
theorem aqn7 {f:FT} (h:DT X a f):DW X (.BoolOp .And [a] pos) f:=pw_and1 h
theorem aY5 {f:FT} (h:DT X a f):DW X (.BoolOp .Or [a] pos) f:=pw_or1 h
theorem aqpc {f g:FT} (h:DT X a f) (h':DW X (.BoolOp .And (b :: rest) pos) g):DW X (.BoolOp .And (a :: b :: rest) pos) (qAnd f g):=by
 refine PW.imp (pw_and h h') fun σ H Q q=>?_;obtain ⟨F,ρ,c,s,re,hf,k⟩:=q;obtain ⟨x,hx,hf⟩:=bind_some hf;refine ⟨F,ρ,x,s,re,hx,fun F1 H1 e1=>?_⟩;cases x with
 | true=>rw [if_pos rfl] at hf ⊢; exact ⟨F1,ρ,c,e1.fh,re.mono e1.ff,hf,fun F2 H2 e2=>k F2 H2 (e1.trans e2)⟩
 | false=>rw [if_neg Bool.false_ne_true] at hf ⊢; cases hf; exact k F1 H1 e1
theorem aqko {f g:FT} (h:DT X a f) (h':DW X (.BoolOp .Or (b :: rest) pos) g):DW X (.BoolOp .Or (a :: b :: rest) pos) (qOr f g):=by
 refine PW.imp (pw_or h h') fun σ H Q q=>?_;obtain ⟨F,ρ,c,s,re,hf,k⟩:=q;obtain ⟨x,hx,hf⟩:=bind_some hf;refine ⟨F,ρ,x,s,re,hx,fun F1 H1 e1=>?_⟩;cases x with
 | true=>rw [if_pos rfl] at hf ⊢; cases hf; exact k F1 H1 e1
 | false=>rw [if_neg Bool.false_ne_true] at hf ⊢; exact ⟨F1,ρ,c,e1.fh,re.mono e1.ff,hf,fun F2 H2 e2=>k F2 H2 (e1.trans e2)⟩
theorem DW.dt {e:Expr} {f:FT} (h:DW X e f):DT X e f:=h _
theorem aqpe {f:FE} (h:DE X a f):DE X (.UnaryOp .Not a pos) (fNot f):=by
 refine PE.imp (pe_not h) fun σ H Q q=>?_;obtain ⟨F,ρ,d,s,re,hf,k⟩:=q;unfold fNot fB aqsn at hf;cases hd:qV f ρ with
 | none=>rw [hd] at hf; cases hf
 | some c=>rw [hd] at hf; cases hf; exact ⟨F,ρ,.bl c,s,re,aqav hd,fun v F' H' e r=>by cases r; exact ⟨c,rfl,k _ F' H' e (.bl _)⟩⟩
theorem aY9 {op} {f:FE} (h:DE X a f):DE X (.BoolOp op [a] pos) f:=pe_one h
theorem aQ7 {f g:FE} (h:DE X a f) (h':DE X (.BoolOp .And (b :: rest) pos) g):DE X (.BoolOp .And (a :: b :: rest) pos) (aqta f g):=by
 refine PE.imp (pe_and h h') fun σ H Q q=>?_;obtain ⟨F,ρ,d,s,re,hf,k⟩:=q;obtain ⟨x,hx,hf⟩:=bind_some hf;refine ⟨F,ρ,.bl x,s,re,aqav hx,fun v F1 H1 e1 r1=>?_⟩;cases r1;refine ⟨x,rfl,?_⟩;cases x with
 | true=>rw [if_pos rfl] at hf ⊢; exact ⟨F1,ρ,d,e1.fh,re.mono e1.ff,hf,fun w F2 H2 e2 r2=>k w F2 H2 (e1.trans e2) r2⟩
 | false=>rw [if_neg Bool.false_ne_true] at hf ⊢; cases hf; exact k _ F1 H1 e1 (.bl false)
theorem de_if {t:Expr} {q:FT} {f g:FE} (hc:DT X t q) (ha:DE X a f) (hb:DE X b g):DE X (.IfExp t a b pos) (fIf q f g):=by
 refine PE.imp (pe_ifExp hc ha hb) fun σ H Q q=>?_;obtain ⟨F,ρ,d,s,re,hf,k⟩:=q;obtain ⟨x,hx,hf⟩:=bind_some hf;refine ⟨F,ρ,x,s,re,hx,fun F1 H1 e1=>?_⟩;cases x with
 | true=>rw [if_pos rfl] at hf ⊢; exact ⟨F1,ρ,d,e1.fh,re.mono e1.ff,hf,fun w F2 H2 e2 r2=>k w F2 H2 (e1.trans e2) r2⟩
 | false=>rw [if_neg Bool.false_ne_true] at hf ⊢; exact ⟨F1,ρ,d,e1.fh,re.mono e1.ff,hf,fun w F2 H2 e2 r2=>k w F2 H2 (e1.trans e2) r2⟩
variable {es:List Expr}
theorem ae:DA X [] aqty:=by
 refine PA.imp pa_nil fun σ H Q q=>?_;obtain ⟨F,ρ,d,s,re,hf,k⟩:=q;cases hf;exact k [] F H (Ext.refl s) .nil
theorem aa {f:FE} {g:FA} (ha:DE X a f) (hr:DA X es g) (hs:starEach (a :: es) X.env=(false,eval a X.env) :: starEach es X.env:=by rfl):DA X (a :: es) (gd f g):=by
 refine PA.imp (pa_cons ha hr hs) fun σ H Q q=>?_;obtain ⟨F,ρ,ds,s,re,hf,k⟩:=q;obtain ⟨d,hd,hf⟩:=bind_some hf;cases hg:g ρ with
 | none=>rw [hg] at hf; cases hf
 | some ds' =>
  rw [hg] at hf;cases hf;exact ⟨F,ρ,d,s,re,hd,fun v F1 H1 e1 r1=>⟨F1,ρ,ds',e1.fh,re.mono e1.ff,hg,fun vs F2 H2 e2 r2=>k _ F2 H2 (e1.trans e2) (.cons (r1.mono e2.ff) r2)⟩⟩
theorem avb {n:Nat} (h:n <= aqu4):n <= sizeLine:=le_trans h (by unfold aqu4; decide)
theorem aQh {x1} {g:FA} (h:DA X es g):DE X (.Tuple es x1 pos) (aqt8 g):=by
 refine PE.imp (pe_tup h) fun σ H Q q=>?_;obtain ⟨F,ρ,d,s,re,hf,k⟩:=q;obtain ⟨ds,hd,hf⟩:=bind_some hf;split at hf
 ·rename_i hl
  cases hf;exact ⟨F,ρ,ds,s,re,hd,fun vs F1 H1 e1 r1=>⟨by rw [r1.length]; exact avb hl,fun p hp=>k _ _ _ (e1.trans (Ext.laid e1.fh hp)) (.tup (.inl (.inl upd_same)) (r1.mono (aj4 (e1.fh.free hp))))⟩⟩
 ·cases hf
def spD (K:Frag) (n:Nat) (g:List D->Option D):Sp:=fun vs H Q _=>∃ F ds d,Same F H/\Reps K F vs ds/\ds.length=n/\g ds=some d/\∀ v F' H',Ext F H F' H'->Rep K F' v d->Q v H'
variable {k n:Nat} {f:Addr} {fd:FuncData} {ps:List Str} {x:Str} {p:Pos}
theorem aqne {g:List D->Option D} {h:FA} (G:FnOk X.prog X.w X.K X.mg X.base CX0 k f fd ps (spD X.K n g)) (hr:Room k X.A) (hg:Gl X x) (hm:X.mg x=some (.ref f)) (hk:keepIn X.K (.ref f)=true) (hb:Binds X.K fd ps [])
  (ha:DA X (a :: es) h) (hdb:(x == ("__debug__":Str))=false:=by decide) (he:starEach (a :: es) X.env=(false,eval a X.env) :: starEach es X.env:=by rfl) (hpl:(backTo pos (starEach es X.env)).any (·.1)=false:=by rfl) :
  DE X (.Call (.Name x p) (a :: es) [] pos) (aA n g h):=by
 refine PE.imp (pe_call G hr hg hm hk hb .nil pass0 ha hdb he hpl) fun σ H Q q=>?_;obtain ⟨F,ρ,d,s,re,hf,k⟩:=q;obtain ⟨ds,hd,hf⟩:=bind_some hf;refine ⟨F,ρ,ds,s,re,hd,fun vs F1 H1 e1 r1=>?_⟩;dsimp only;rw [append_nil];split at hf
 ·rename_i hl
  exact ⟨F1,ds,d,e1.fh,r1,hl,hf,fun v F2 H2 e2 r2=>k v F2 H2 (e1.trans e2) r2⟩
 ·cases hf
def aqlg (K:Frag) (r:List V->Hp->VK->Prop) (g:List D->Option D):Prop:=∀ ds d F H vs Q,g ds=some d->Same F H->Reps K F vs ds->(∀ w F' H',Ext F H F' H'->Rep K F' w d->Q w H')->r vs H Q
theorem aw {id:String} {r:List V->Hp->VK->Prop} {g:List D->Option D} {h:FA} (hc:CallR X (.builtin id) r) (hr:aqlg X.K r g) (hg:Gl X x) (hm:X.mg x=none) (hv:bootBuiltins x=some (.builtin id)) (ha:DA X (a :: es) h)
  (hn:x ≠ "__name__":=by decide) (hdb:(x == ("__debug__":Str))=false:=by decide)
  (he:starEach (a :: es) X.env=(false,eval a X.env) :: starEach es X.env:=by rfl) (hpl:(backTo pos (starEach es X.env)).any (·.1)=false:=by rfl):DE X (.Call (.Name x p) (a :: es) [] pos) (aqt9 g h):=by
 refine PE.imp (pe_callB hc hg hm hv ha hn hdb he hpl) fun σ H Q q=>?_;obtain ⟨F,ρ,d,s,re,hf,k⟩:=q;obtain ⟨ds,hd,hf⟩:=bind_some hf;exact ⟨F,ρ,ds,s,re,hd,fun vs F1 H1 e1 r1=>hr ds d F1 H1 vs Q hf e1.fh r1 fun w F' H' e' r'=>k w F' H' (e1.trans e') r'⟩
end
end DL
namespace DL
open PySem PySem.Spec PyProof.Rows L2
abbrev AS:=Addr->Prop
mutual
inductive Own (K:Frag) (F H:Hp):V->O->AS->Prop
 | sh {v:V} {d:D} {A:AS} (h:Rep K F v d) (hA:∀ b,¬ A b):Own K F H v (.sh d) A
 | lst {a:Addr} {vs:List V} {os:List O} {A' A:AS} (h:H a=some (.lst vs)) (n:¬ A' a) (r:Owns K F H vs os A') (hA:∀ b,A b ↔ b=a \/ A' b):Own K F H (.ref a) (.lst os) A
 | tup {a:Addr} {vs:List V} {os:List O} {A:AS} (h:F a=some (.tup vs)) (r:Owns K F H vs os A):Own K F H (.ref a) (.tup os) A
inductive Owns (K:Frag) (F H:Hp):List V->List O->AS->Prop
 | nil {A:AS} (hA:∀ b,¬ A b):Owns K F H [] [] A
 | cons {v:V} {o:O} {vs:List V} {os:List O} {A1 A2 A:AS} (h:Own K F H v o A1) (t:Owns K F H vs os A2) (d:∀ b,A1 b->¬ A2 b) (hA:∀ b,A b ↔ A1 b \/ A2 b):Owns K F H (v :: vs) (o :: os) A
end
section
variable {K:Frag} {F F' H H':Hp}
theorem aqax:(∀ {v:V} {o:O} {A:AS},Own K F H v o A->∀ b,A b->∃ u,H b=some u/\∀ xs,u ≠ .tup xs/\∀ ob w,u ≠ .frz ob w)/\∀ {vs:List V} {os:List O} {A:AS},Owns K F H vs os A->∀ b,A b->∃ u,H b=some u/\∀ xs,u ≠ .tup xs/\∀ ob w,u ≠ .frz ob w:=by
 refine ⟨@Own.rec K F H (fun _ _ A _=>∀ b,A b->∃ u,H b=some u/\∀ xs,u ≠ .tup xs/\∀ ob w,u ≠ .frz ob w) (fun _ _ A _=>∀ b,A b->∃ u,H b=some u/\∀ xs,u ≠ .tup xs/\∀ ob w,u ≠ .frz ob w) ?a ?b ?c ?a2 ?d,@Owns.rec K F H (fun _ _ A _=>∀ b,A b->∃ u,H b=some u/\∀ xs,u ≠ .tup xs/\∀ ob w,u ≠ .frz ob w) (fun _ _ A _=>∀ b,A b->∃ u,H b=some u/\∀ xs,u ≠ .tup xs/\∀ ob w,u ≠ .frz ob w) ?a ?b ?c ?a2 ?d⟩
 case a=>exact fun _ hA b h=>absurd h (hA b)
 case b =>
  intro a vs os A' A h n r hA ih b hb;rcases (hA b).mp hb with rfl | z
  ·exact ⟨_,h,fun xs=>⟨(fun z=>by cases z),fun _ _ z=>by cases z⟩⟩
  ·exact ih b z
 case c=>exact fun _ _ ih=>ih
 case a2=>exact fun hA b h=>absurd h (hA b)
 case d =>
  intro v o vs os A1 A2 A h t d hA ih it b hb;rcases (hA b).mp hb with z | z
  ·exact ih b z
  ·exact it b z
theorem Own.there {v:V} {o:O} {A:AS} (h:Own K F H v o A):∀ b,A b->∃ u,H b=some u/\∀ xs,u ≠ .tup xs/\∀ ob w,u ≠ .frz ob w:=aqax.1 h
theorem Owns.there {vs:List V} {os:List O} {A:AS} (h:Owns K F H vs os A):∀ b,A b->∃ u,H b=some u/\∀ xs,u ≠ .tup xs/\∀ ob w,u ≠ .frz ob w:=aqax.2 h
theorem aqdx (e:Same F F'):(∀ {v:V} {o:O} {A:AS},Own K F H v o A->(∀ b,A b->H' b=H b)->Own K F' H' v o A)/\∀ {vs:List V} {os:List O} {A:AS},Owns K F H vs os A->(∀ b,A b->H' b=H b)->Owns K F' H' vs os A:=by
 refine ⟨@Own.rec K F H (fun v o A _=>(∀ b,A b->H' b=H b)->Own K F' H' v o A) (fun v o A _=>(∀ b,A b->H' b=H b)->Owns K F' H' v o A) ?a ?b ?c ?a2 ?d,@Owns.rec K F H (fun v o A _=>(∀ b,A b->H' b=H b)->Own K F' H' v o A) (fun v o A _=>(∀ b,A b->H' b=H b)->Owns K F' H' v o A) ?a ?b ?c ?a2 ?d⟩
 case a=>exact fun h hA _=>.sh (h.mono e) hA
 case b=>exact fun h n _ hA ih k=>.lst ((k _ ((hA _).mpr (.inl rfl))).trans h) n (ih fun b z=>k b ((hA b).mpr (.inr z))) hA
 case c=>exact fun h _ ih k=>.tup (e _ _ h) (ih k)
 case a2=>exact fun hA _=>.nil hA
 case d=>exact fun _ _ d hA ih it k=>.cons (ih fun b z=>k b ((hA b).mpr (.inl z))) (it fun b z=>k b ((hA b).mpr (.inr z))) d hA
theorem Own.stay (e:Same F F') {v:V} {o:O} {A:AS} (h:Own K F H v o A) (k:∀ b,A b->H' b=H b):Own K F' H' v o A:=(aqdx e).1 h k
theorem Owns.stay (e:Same F F') {vs:List V} {os:List O} {A:AS} (h:Owns K F H vs os A) (k:∀ b,A b->H' b=H b):Owns K F' H' vs os A:=(aqdx e).2 h k
theorem Own.ext (e:Same F F') (s:Same H H') {v:V} {o:O} {A:AS} (h:Own K F H v o A):Own K F' H' v o A:=h.stay e fun b z=>by
 obtain ⟨u,e1,_⟩:=h.there b z;rw [e1,s _ _ e1]
theorem Owns.ext (e:Same F F') (s:Same H H') {vs:List V} {os:List O} {A:AS} (h:Owns K F H vs os A):Owns K F' H' vs os A:=h.stay e fun b z=>by
 obtain ⟨u,e1,_⟩:=h.there b z;rw [e1,s _ _ e1]
theorem Own.congr {v:V} {o:O} {A A':AS} (h:Own K F H v o A) (e:∀ b,A b ↔ A' b):Own K F H v o A':=by
 have:A=A':=funext fun b=>propext (e b)
 subst this; exact h
theorem Owns.congr {v:List V} {o:List O} {A A':AS} (h:Owns K F H v o A) (e:∀ b,A b ↔ A' b):Owns K F H v o A':=by
 have:A=A':=funext fun b=>propext (e b)
 subst this; exact h
theorem Owns.length {vs:List V} {os:List O} {A:AS} (h:Owns K F H vs os A):vs.length=os.length :=
 Owns.rec (motive_1:=fun _ _ _ _=>True) (motive_2:=fun vs os _ _=>vs.length=os.length) (fun _ _=>trivial) (fun _ _ _ _ _=>trivial) (fun _ _ _=>trivial) (fun _=>rfl) (fun _ _ _ _ _ it=>congrArg Nat.succ it) h
open Classical in
noncomputable def aqtx (F H:Hp) (A:AS):Hp:=fun b=>if A b then H b else F b
theorem avz {A:AS} {b:Addr} (h:A b):aqtx F H A b=H b:=by unfold aqtx; exact if_pos h
theorem azi {A:AS} {b:Addr} (h:¬ A b):aqtx F H A b=F b:=by unfold aqtx; exact if_neg h
theorem aJm {A:AS} (h:∀ b,A b->F b=none):Same F (aqtx F H A):=fun b o e=>by
 rw [azi fun z=>by rw [h b z] at e; cases e]; exact e
theorem aqfr {A:AS} (s:Same F H):Same (aqtx F H A) H:=fun b o e=>by
 by_cases z:A b
 ·rw [avz z] at e; exact e
 ·rw [azi z] at e; exact s _ _ e
theorem aqag {F₀ B:Hp} {A:AS} (e:Ext F₀ B F H) (h:∀ b,A b->F b=none/\B b=none):Ext F₀ B (aqtx F H A) H :=
 ⟨e.ff.trans (aJm fun b z=>(h b z).1),aqfr e.fh,e.hh,fun b o q=>by
  by_cases z:A b
  ·exact .inr (h b z).2
  ·rw [azi z] at q; exact e.nw b o q⟩
theorem aqhw {G:Hp} (sF:Same F G):(∀ {v:V} {o:O} {A:AS},Own K F H v o A->∀ {d:D},oD o=some d->(∀ b,A b->G b=H b)->Rep K G v d)/\∀ {vs:List V} {os:List O} {A:AS},Owns K F H vs os A->∀ {ds:List D},oDs os=some ds->(∀ b,A b->G b=H b)->Reps K G vs ds:=by
 refine ⟨@Own.rec K F H (fun v o A _=>∀ {d:D},oD o=some d->(∀ b,A b->G b=H b)->Rep K G v d) (fun v o A _=>∀ {d:List D},oDs o=some d->(∀ b,A b->G b=H b)->Reps K G v d) ?a ?b ?c ?a2 ?d,@Owns.rec K F H (fun v o A _=>∀ {d:D},oD o=some d->(∀ b,A b->G b=H b)->Rep K G v d) (fun v o A _=>∀ {d:List D},oDs o=some d->(∀ b,A b->G b=H b)->Reps K G v d) ?a ?b ?c ?a2 ?d⟩
 case a =>
  intro v d A h hA d' e _;cases e; exact h.mono sF
 case b =>
  intro a vs os A' A h n r hA ih d e k;obtain ⟨ds,hd,rfl⟩:=map_some (by simpa [oD] using e);exact .lst (.inl (.inl ((k _ ((hA _).mpr (.inl rfl))).trans h))) (ih hd fun b z=>k b ((hA b).mpr (.inr z)))
 case c =>
  intro a vs os A h r ih d e k;obtain ⟨ds,hd,rfl⟩:=map_some (by simpa [oD] using e);exact .tup (.inl (.inl (sF _ _ h))) (ih hd k)
 case a2 =>
  intro A hA ds e _;cases e; exact .nil
 case d =>
  intro v o vs os A1 A2 A h t d hA ih it ds e k;obtain ⟨d,hd,e⟩:=bind_some (by simpa [oDs] using e);obtain ⟨ds,hds,rfl⟩:=map_some e;exact .cons (ih hd fun b z=>k b ((hA b).mpr (.inl z))) (it hds fun b z=>k b ((hA b).mpr (.inr z)))
theorem Own.rep {G:Hp} (sF:Same F G) {v:V} {o:O} {A:AS} {d:D} (h:Own K F H v o A) (e:oD o=some d) (k:∀ b,A b->G b=H b):Rep K G v d:=(aqhw sF).1 h e k
theorem Owns.rep {G:Hp} (sF:Same F G) {vs:List V} {os:List O} {A:AS} {ds:List D} (h:Owns K F H vs os A) (e:oDs os=some ds) (k:∀ b,A b->G b=H b):Reps K G vs ds:=(aqhw sF).2 h e k
theorem aqhv {vs:List V} {ds:List D} (h:Reps K F vs ds):Owns K F H vs (ds.map O.sh) fun _=>False :=
 Reps.rec (motive_1:=fun _ _ _=>True) (motive_2:=fun vs ds _=>Owns K F H vs (ds.map O.sh) fun _=>False) trivial (fun _=>trivial) (fun _=>trivial) (fun _=>trivial) (fun _ _ _=>trivial) (fun _ _ _=>trivial) (.nil fun _ z=>z) (fun h _ _ it=>.cons (.sh h (A:=fun _=>False) fun _ z=>z) it (fun _ z=>z.elim) fun b=>⟨fun z=>z.elim,fun z=>z.elim id id⟩) h
theorem aqdy {a:Addr} {vs:List V} {os:List O} {A:AS} (h:H a=some (.lst vs)) (n:¬ A a) (r:Owns K F H vs os A):Own K F H (.ref a) (.lst os) fun b=>b=a \/ A b:=.lst h n r fun _=>Iff.rfl
theorem aW7 {a:Addr} {vs:List V} {ds:List D} (h:H a=some (.lst vs)) (r:Reps K F vs ds):Own K F H (.ref a) (ow ds) fun b=>b=a:=.lst h (A':=fun _=>False) id (aqhv r) fun b=>⟨.inl,fun z=>z.elim id False.elim⟩
theorem Owns.append {vs ws:List V} {os ps:List O} {A B:AS} (h:Owns K F H vs os A) (s:Owns K F H ws ps B):(∀ b,A b->¬ B b)->Owns K F H (vs++ws) (os++ps) fun b=>A b \/ B b :=
 Owns.rec (motive_1:=fun _ _ _ _=>True) (motive_2:=fun vs os A _=>(∀ b,A b->¬ B b)->Owns K F H (vs++ws) (os++ps) fun b=>A b \/ B b) (fun _ _=>trivial) (fun _ _ _ _ _=>trivial) (fun _ _ _=>trivial)
  (fun hA _=>s.congr fun b=>⟨.inr,fun z=>z.elim (fun y=>absurd y (hA b)) id⟩)
  (fun h _ dd hA _ it d=>.cons h (it fun b y=>d b ((hA b).mpr (.inr y))) (fun b y z=>z.elim (dd b y) (d b ((hA b).mpr (.inl y)))) fun b=>by
   rw [hA b]; exact ⟨fun z=>z.elim (fun y=>y.elim .inl fun w=>.inr (.inl w)) fun w=>.inr (.inr w),fun z=>z.elim (fun y=>.inl (.inl y)) fun y=>y.elim (fun w=>.inl (.inr w)) .inr⟩) h
theorem Owns.split:∀ {vs:List V} {os:List O} {A:AS} {n:Nat} {o:O},Owns K F H vs os A->os[n]?=some o ->
  ∃ (v:V) (A1 A2:AS),vs[n]?=some v/\Own K F H v o A1/\(∀ b,A b ↔ A1 b \/ A2 b)/\(∀ b,A1 b->¬ A2 b) /\
   ∀ (F' H':Hp) (v':V) (o':O) (A1':AS),Same F F'->(∀ b,A2 b->H' b=H b)->Own K F' H' v' o' A1'->(∀ b,A1' b->¬ A2 b)->Owns K F' H' (vs.set n v') (os.set n o') fun b=>A1' b \/ A2 b
 | _,_,_,_,_,.nil _,e=>by simp at e
 | _,_,A,0,o,.cons (v:=v) (vs:=vs) (os:=os) (A1:=A1) (A2:=A2) h t d hA,e=>by
  simp at e; subst e;exact ⟨v,A1,A2,rfl,h,hA,d,fun F' H' v' o' A1' sF k q dd=>.cons q (t.stay sF k) dd fun b=>Iff.rfl⟩
 | _,_,A,n + 1,o,.cons (v:=v) (vs:=vs) (os:=os) (A1:=B1) (A2:=B2) h t d hA,e=>by
  obtain ⟨w,A1,A2,h1,h2,h3,h4,h5⟩:=Owns.split t (n:=n) (o:=o) (by simpa using e);refine ⟨w,A1,fun b=>B1 b \/ A2 b,by simpa using h1,h2,fun b=>?_,fun b y z=>?_,fun F' H' v' o' A1' sF k q dd=>?_⟩
  ·rw [hA b,h3 b]; exact ⟨fun z=>z.elim (fun y=>.inr (.inl y)) fun y=>y.elim .inl fun w=>.inr (.inr w),fun z=>z.elim (fun y=>.inr (.inl y)) fun y=>y.elim .inl fun w=>.inr (.inr w)⟩
  ·rcases z with z | z
   ·exact d b z ((h3 b).mpr (.inl y))
   ·exact h4 b y z
  ·refine .cons (h.stay sF fun b y=>k b (.inl y)) (h5 F' H' v' o' A1' sF (fun b y=>k b (.inr y)) q fun b y z=>dd b y (.inr z)) (fun b y z=>?_) fun b=>⟨fun z=>z.elim (fun y=>.inr (.inl y)) fun y=>y.elim .inl fun w=>.inr (.inr w),fun z=>z.elim (fun y=>.inr (.inl y)) fun y=>y.elim .inl fun w=>.inr (.inr w)⟩
   rcases z with z | z
   ·exact dd b z (.inl y)
   ·exact d b y ((h3 b).mpr (.inr z))
end
def tO (K:Frag) (f:FO):TE:=fun σ H Q=>∃ F ρ o,Same F H/\RE K F σ ρ/\f ρ=some o /\
 ∀ v F' H' A,Ext F H F' H'->Own K F' H' v o A->(∀ b,A b->F' b=none/\H b=none)->Q v H'
def tAO (K:Frag) (f:FAO):TA:=fun σ H Q=>∃ F ρ os,Same F H/\RE K F σ ρ/\f ρ=some os /\
 ∀ vs F' H' A,Ext F H F' H'->Owns K F' H' vs os A->(∀ b,A b->F' b=none/\H b=none)->Q vs H'
def DO (X:Cx) (e:Expr) (f:FO):Prop:=PE X e (tO X.K f)
def DAO (X:Cx) (es:List Expr) (f:FAO):Prop:=PA X es (tAO X.K f)
section
variable {X:Cx} {a b c e:Expr} {es:List Expr} {pos:Pos}
theorem DE.o {f:FE} (h:DE X e f):DO X e (oE f):=by
 refine PE.imp h fun σ H Q q=>?_;obtain ⟨F,ρ,o,s,re,hf,k⟩:=q;obtain ⟨d,hd,rfl⟩:=map_some hf;exact ⟨F,ρ,d,s,re,hd,fun v F' H' e r=>k v F' H' (fun _=>False) e (.sh r fun _ z=>z) fun _ z=>z.elim⟩
theorem DO.de {f:FO} (h:DO X e f):DE X e (fL f):=by
 refine PE.imp h fun σ H Q q=>?_;obtain ⟨F,ρ,d,s,re,hf,k⟩:=q;obtain ⟨o,ho,hd⟩:=bind_some hf;exact ⟨F,ρ,o,s,re,ho,fun v F' H' A e r hA=>k v (aqtx F' H' A) H' (aqag e hA) (r.rep (aJm fun b z=>(hA b z).1) hd fun b z=>avz z)⟩
theorem aqn6 {H F1 H1 F2 H2:Hp} {A:AS} (e2:Ext F1 H1 F2 H2) (h:∀ b,A b->F1 b=none/\H b=none) (t:∀ b,A b->∃ u,H1 b=some u):∀ b,A b->F2 b=none/\H b=none:=fun b z=>by
 obtain ⟨h1,h2⟩:=h b z;obtain ⟨u,hu⟩:=t b z;refine ⟨?_,h2⟩;cases q:F2 b with
 | none=>rfl
 | some o =>
  rcases e2.nw b o q with y | y
  ·rw [h1] at y; cases y
  ·rw [hu] at y; cases y
theorem aZy:DAO X [] aqik:=by
 refine PA.imp pa_nil fun σ H Q q=>?_;obtain ⟨F,ρ,d,s,re,hf,k⟩:=q;cases hf;exact k [] F H (fun _=>False) (Ext.refl s) (.nil fun _ z=>z) fun _ z=>z.elim
theorem axu {f:FO} {g:FAO} (ha:DO X a f) (hr:DAO X es g) (hs:starEach (a :: es) X.env=(false,eval a X.env) :: starEach es X.env:=by rfl):DAO X (a :: es) (aQs f g):=by
 refine PA.imp (pa_cons ha hr hs) fun σ H Q q=>?_;obtain ⟨F,ρ,ds,s,re,hf,k⟩:=q;obtain ⟨d,hd,hf⟩:=bind_some hf;obtain ⟨ds',hg,rfl⟩:=map_some hf;refine ⟨F,ρ,d,s,re,hd,fun v F1 H1 A1 e1 r1 n1=>⟨F1,ρ,ds',e1.fh,re.mono e1.ff,hg,fun vs F2 H2 A2 e2 r2 n2=>?_⟩⟩;have t1:∀ b,A1 b->∃ u,H1 b=some u:=fun b z=>by obtain ⟨u,h,_⟩:=r1.there b z; exact ⟨u,h⟩
 refine k _ F2 H2 (fun b=>A1 b \/ A2 b) (e1.trans e2) (.cons (r1.ext e2.ff e2.hh) r2 (fun b y z=>?_) fun _=>Iff.rfl) fun b z=>?_
 ·obtain ⟨u,hu⟩:=t1 b y
  rw [(n2 b z).2] at hu; cases hu
 ·rcases z with z | z
  ·exact aqn6 e2 n1 t1 b z
  ·exact ⟨(n2 b z).1,e1.hh.free (n2 b z).2⟩
theorem azd {g:FA} (h:DA X es g):DO X (.List es pos) (aqsv g):=by
 refine PE.imp (pe_lst h) fun σ H Q q=>?_;obtain ⟨F,ρ,d,s,re,hf,k⟩:=q;obtain ⟨ds,hd,hf⟩:=bind_some hf;split at hf
 ·rename_i hl
  cases hf;refine ⟨F,ρ,ds,s,re,hd,fun vs F1 H1 e1 r1=>⟨by rw [r1.length]; exact avb hl,fun p hp=>?_⟩⟩;exact k _ F1 _ _ (e1.trans (Ext.laidH e1.fh hp)) (aW7 upd_same r1) fun b z=>by subst z; exact ⟨e1.fh.free hp,e1.hh.free hp⟩
 ·cases hf
theorem aqib {g:FAO} (h:DAO X es g):DO X (.List es pos) (oLstO g):=by
 refine PE.imp (pe_lst h) fun σ H Q q=>?_;obtain ⟨F,ρ,d,s,re,hf,k⟩:=q;obtain ⟨os,hd,hf⟩:=bind_some hf;split at hf
 ·rename_i hl
  cases hf;refine ⟨F,ρ,os,s,re,hd,fun vs F1 H1 A e1 r1 n1=>⟨by rw [r1.length]; exact avb hl,fun p hp=>?_⟩⟩;have np:¬ A p:=fun z=>by obtain ⟨u,hu,_⟩:=r1.there p z; rw [hp] at hu; cases hu
  refine k _ F1 _ _ (e1.trans (Ext.laidH e1.fh hp)) (aqdy upd_same np (r1.ext (Same.refl _) (aj4 hp))) fun b z=>?_;rcases z with rfl | z
  ·exact ⟨e1.fh.free hp,e1.hh.free hp⟩
  ·exact n1 b z
 ·cases hf
theorem aqbl {x1} {g:FAO} (h:DAO X es g):DO X (.Tuple es x1 pos) (aqld g):=by
 refine PE.imp (pe_tup h) fun σ H Q q=>?_;obtain ⟨F,ρ,d,s,re,hf,k⟩:=q;obtain ⟨os,hd,hf⟩:=bind_some hf;split at hf
 ·rename_i hl
  cases hf;refine ⟨F,ρ,os,s,re,hd,fun vs F1 H1 A e1 r1 n1=>⟨by rw [r1.length]; exact avb hl,fun p hp=>?_⟩⟩;have np:¬ A p:=fun z=>by obtain ⟨u,hu,_⟩:=r1.there p z; rw [hp] at hu; cases hu
  refine k _ (upd F1 p (.tup vs)) _ A (e1.trans (Ext.laid e1.fh hp)) (.tup upd_same (r1.ext (aj4 (e1.fh.free hp)) (aj4 hp))) fun b z=>?_;obtain ⟨h1,h2⟩:=n1 b z;exact ⟨by rw [upd_ne (by rintro rfl; exact np z)]; exact h1,h2⟩
 ·cases hf
def spO (K:Frag) (n:Nat) (g:List D->Option O):Sp:=fun vs H Q _=>∃ F ds o,Same F H/\Reps K F vs ds/\ds.length=n/\g ds=some o /\
 ∀ v F' H' A,Ext F H F' H'->Own K F' H' v o A->(∀ b,A b->F' b=none/\H b=none)->Q v H'
def CallO (K:Frag) (r:List V->Hp->VK->Prop) (g:List D->Option (List D)):Prop:=∀ ds es F H vs Q,g ds=some es->Same F H->Reps K F vs ds ->
 (∀ a ws F' H',Ext F H F' H'->H' a=some (.lst ws)->F' a=none->H a=none->Reps K F' ws es->Q (.ref a) H')->r vs H Q
def OpO (K:Frag) (r:R2) (g:D->D->Option (List D)):Prop:=∀ x y es F H v u Q,g x y=some es->Same F H->Rep K F v x->Rep K F u y ->
 (∀ a ws F' H',Ext F H F' H'->H' a=some (.lst ws)->F' a=none->H a=none->Reps K F' ws es->Q (.ref a) H')->r v u H Q
variable {k n:Nat} {f:Addr} {fd:FuncData} {ps:List Str} {x:Str} {p:Pos}
theorem aqnb {g:List D->Option O} {h:FA} (G:FnOk X.prog X.w X.K X.mg X.base CX0 k f fd ps (spO X.K n g)) (hr:Room k X.A) (hg:Gl X x) (hm:X.mg x=some (.ref f)) (hk:keepIn X.K (.ref f)=true) (hb:Binds X.K fd ps [])
  (ha:DA X (a :: es) h) (hdb:(x == ("__debug__":Str))=false:=by decide) (he:starEach (a :: es) X.env=(false,eval a X.env) :: starEach es X.env:=by rfl) (hpl:(backTo pos (starEach es X.env)).any (·.1)=false:=by rfl) :
  DO X (.Call (.Name x p) (a :: es) [] pos) (aXa n g h):=by
 refine PE.imp (pe_call G hr hg hm hk hb .nil pass0 ha hdb he hpl) fun σ H Q q=>?_;obtain ⟨F,ρ,d,s,re,hf,k⟩:=q;obtain ⟨ds,hd,hf⟩:=bind_some hf;refine ⟨F,ρ,ds,s,re,hd,fun vs F1 H1 e1 r1=>?_⟩;dsimp only;rw [append_nil];split at hf
 ·rename_i hl
  exact ⟨F1,ds,d,e1.fh,r1,hl,hf,fun v F2 H2 A e2 r2 n2=>k v F2 H2 A (e1.trans e2) r2 fun b z=>⟨(n2 b z).1,e1.hh.free (n2 b z).2⟩⟩
 ·cases hf
theorem aVy {id:String} {r:List V->Hp->VK->Prop} {g:List D->Option (List D)} {h:FA} (hc:CallR X (.builtin id) r) (hr:CallO X.K r g) (hg:Gl X x) (hm:X.mg x=none) (hv:bootBuiltins x=some (.builtin id)) (ha:DA X (a :: es) h)
  (hn:x ≠ "__name__":=by decide) (hdb:(x == ("__debug__":Str))=false:=by decide)
  (he:starEach (a :: es) X.env=(false,eval a X.env) :: starEach es X.env:=by rfl) (hpl:(backTo pos (starEach es X.env)).any (·.1)=false:=by rfl):DO X (.Call (.Name x p) (a :: es) [] pos) (aqsw g h):=by
 refine PE.imp (pe_callB hc hg hm hv ha hn hdb he hpl) fun σ H Q q=>?_;obtain ⟨F,ρ,o,s,re,hf,k⟩:=q;obtain ⟨zs,hf2,rfl⟩:=map_some hf;obtain ⟨ds,hd,hf⟩:=bind_some hf2;exact ⟨F,ρ,ds,s,re,hd,fun vs F1 H1 e1 r1=>hr ds zs F1 H1 vs Q hf e1.fh r1 fun a ws F' H' e' h1 h2 h3 r'=>k (.ref a) F' H' _ (e1.trans e') (aW7 h1 r') fun b z=>by subst z; exact ⟨h2,e1.hh.free h3⟩⟩
theorem axe {T:String} {r:List V->Hp->VK->Prop} {g:List D->Option (List D)} {h:FA} (hc:CallR X (.type T) r) (hr:CallO X.K r g) (hg:Gl X x) (hm:X.mg x=none) (hv:bootBuiltins x=some (.type T)) (ha:DA X (a :: es) h)
  (hn:x ≠ "__name__":=by decide) (hdb:(x == ("__debug__":Str))=false:=by decide)
  (he:starEach (a :: es) X.env=(false,eval a X.env) :: starEach es X.env:=by rfl) (hpl:(backTo pos (starEach es X.env)).any (·.1)=false:=by rfl):DO X (.Call (.Name x p) (a :: es) [] pos) (aqsw g h):=by
 refine PE.imp (pe_callTy hc hg hm hv ha hn hdb he hpl) fun σ H Q q=>?_;obtain ⟨F,ρ,o,s,re,hf,k⟩:=q;obtain ⟨zs,hf2,rfl⟩:=map_some hf;obtain ⟨ds,hd,hf⟩:=bind_some hf2;exact ⟨F,ρ,ds,s,re,hd,fun vs F1 H1 e1 r1=>hr ds zs F1 H1 vs Q hf e1.fh r1 fun a ws F' H' e' h1 h2 h3 r'=>k (.ref a) F' H' _ (e1.trans e') (aW7 h1 r') fun b z=>by subst z; exact ⟨h2,e1.hh.free h3⟩⟩
theorem do_op {op:Operator} {r:R2} {g:D->D->Option (List D)} {fa fb:FE} (ho:OpR X (binaryOp op) r) (hr:OpO X.K r g) (ha:DE X a fa) (hb:DE X b fb):DO X (.BinOp a op b pos) (o2 g fa fb):=by
 refine PE.imp (pe_op ho ha hb) fun σ H Q q=>?_;obtain ⟨F,ρ,o,s,re,hf,k⟩:=q;obtain ⟨zs,hf2,rfl⟩:=map_some hf;obtain ⟨x,hx,hf⟩:=bind_some hf2;obtain ⟨y,hy,hf⟩:=bind_some hf;exact ⟨F,ρ,x,s,re,hx,fun v F1 H1 e1 r1=>⟨F1,ρ,y,e1.fh,re.mono e1.ff,hy,fun u F2 H2 e2 r2=>hr x y zs F2 H2 v u Q hf e2.fh (r1.mono e2.ff) r2 fun a ws F' H' e' h1 h2 h3 r' =>
  k (.ref a) F' H' _ ((e1.trans e2).trans e') (aW7 h1 r') fun b z=>by subst z; exact ⟨h2,(e1.trans e2).hh.free h3⟩⟩⟩
end
end DL
namespace DL
open PySem PySem.Spec PyProof.Rows L2
structure Bs where
 F₀:Hp
 B:Hp
 P:Nat->Bool
 σ₀:St
def OwnT (K:Frag) (B F H:Hp) (σ:St) (ρ:Cs) (A:Nat->AS):Prop :=
 (∀ (i:Nat) (o:O),ρ[i]?=some (some o)->∃ v,σ[i]?=some (some v)/\Own K F H v o (A i))/\(∀ i b,A i b->F b=none/\B b=none/\∃ o,ρ[i]?=some (some o))/\∀ i j b,A i b->A j b->i=j
structure RS (K:Frag) (β:Bs) (F H:Hp) (σ:St) (ρ:Cs):Prop where
 ext:Ext β.F₀ β.B F H
 len:ρ.length=σ.length
 pin:∀ i,β.P i=true->σ[i]?=β.σ₀[i]?
 own:∃ A:Nat->AS,OwnT K β.B F H σ ρ A
section
variable {K:Frag} {β:Bs} {F F' H H':Hp} {σ:St} {ρ:Cs}
abbrev Bs.re (β:Bs) (F:Hp):Bs:=⟨F,β.B,β.P,β.σ₀⟩
theorem RS.rebase (r:RS K β F H σ ρ):RS K (β.re F) F H σ ρ:=⟨⟨Same.refl _,r.ext.fh,r.ext.hh,fun _ _ h=>.inl h⟩,r.len,r.pin,r.own⟩
theorem aqn5 {F₀ B F1 H1:Hp} (e:Ext F₀ B F H) (r:Ext F B F1 H1):Ext F₀ B F1 H1 :=
 ⟨e.ff.trans r.ff,r.fh,r.hh,fun b o h=>(r.nw b o h).elim (fun z=>e.nw b o z) .inr⟩
theorem RS.unbase (e:Ext β.F₀ β.B F H) {F1 H1:Hp} {σ1:St} {ρ1:Cs} (r:RS K (β.re F) F1 H1 σ1 ρ1):RS K β F1 H1 σ1 ρ1:=⟨aqn5 e r.ext,r.len,r.pin,r.own⟩
theorem OwnT.there {B:Hp} {A:Nat->AS} (w:OwnT K B F H σ ρ A) {i:Nat} {b:Addr} (h:A i b):∃ u,H b=some u/\∀ xs,u ≠ .tup xs/\∀ ob w,u ≠ .frz ob w:=by
 obtain ⟨h1,h2,h3⟩:=w;obtain ⟨_,_,o,ho⟩:=h2 i b h;obtain ⟨v,_,z⟩:=h1 i o ho;exact z.there b h
theorem OwnT.ext {B:Hp} {A:Nat->AS} (w:OwnT K B F H σ ρ A) (e:Ext F H F' H'):OwnT K B F' H' σ ρ A:=by
 have th:=fun i b h=>w.there (i:=i) (b:=b) h;obtain ⟨h1,h2,h3⟩:=w;refine ⟨fun i o h=>?_,fun i b h=>?_,h3⟩
 ·obtain ⟨v,e1,e2⟩:=h1 i o h
  exact ⟨v,e1,e2.ext e.ff e.hh⟩
 ·obtain ⟨e1,e2,ho⟩:=h2 i b h
  obtain ⟨u,hu,_⟩:=th i b h;refine ⟨?_,e2,ho⟩;cases q:F' b with
  | none=>rfl
  | some w =>
   rcases e.nw b w q with z | z
   ·rw [e1] at z; cases z
   ·rw [hu] at z; cases z
theorem RS.ext' (r:RS K β F H σ ρ) (e:Ext F H F' H'):RS K β F' H' σ ρ:=⟨r.ext.trans e,r.len,r.pin,r.own.imp fun _ w=>w.ext e⟩
def msk (S:List Bool) (i:Nat):Bool:=S[i]?.getD false
theorem aqn0 {S:List Bool} {ρ:Cs} {i:Nat} {d:D} (h:(frz S ρ)[i]?=some (some d)):msk S i=true/\∃ o,ρ[i]?=some (some o)/\oD o=some d:=by
 induction S generalizing ρ i with
 | nil=>simp [frz] at h
 | cons b S ih =>
  cases ρ with
  | nil=>simp [frz] at h
  | cons c ρ =>
   cases i with
   | zero =>
    simp [frz] at h;obtain ⟨hb,h⟩:=h;obtain ⟨o,e1,e2⟩:=bind_some h;subst e1;exact ⟨by simp [msk,hb],o,rfl,e2⟩
   | succ i =>
    obtain ⟨h1,h2⟩:=ih (ρ:=ρ) (i:=i) (by simpa [frz] using h);exact ⟨by simpa [msk] using h1,by simpa using h2⟩
theorem aqmz (S:List Bool) (ρ:Cs):(fz S ρ).length=ρ.length:=by
 induction S generalizing ρ with
 | nil=>cases ρ <;> simp [fz]
 | cons b S ih=>cases ρ <;> simp [fz,ih]
theorem aqpa {S:List Bool} {ρ:Cs} {i:Nat} {o:O} (h:(fz S ρ)[i]?=some (some o)) :
  (msk S i=true/\∃ o' d,ρ[i]?=some (some o')/\oD o'=some d/\o=.sh d) \/ (ρ[i]?=some (some o)/\(msk S i=true->oD o=none)):=by
 induction S generalizing ρ i with
 | nil=>cases ρ <;> exact .inr ⟨by simpa [fz] using h,by simp [msk]⟩
 | cons b S ih =>
  cases ρ with
  | nil=>simp [fz] at h
  | cons c ρ =>
   cases i with
   | zero =>
    cases b with
    | true =>
     simp [fz] at h;cases c with
     | none=>cases h
     | some o' =>
      unfold fzc at h;cases q:oD o' with
      | none =>
       simp only [q] at h;cases h;exact .inr ⟨rfl,fun _=>q⟩
      | some d =>
       simp only [q] at h;cases h;exact .inl ⟨by simp [msk],o',d,rfl,q,rfl⟩
    | false=>exact .inr ⟨by simpa [fz] using h,by simp [msk]⟩
   | succ i =>
    rcases ih (ρ:=ρ) (i:=i) (by simpa [fz] using h) with ⟨h1,h2⟩ | ⟨h1,h2⟩
    ·exact .inl ⟨by simpa [msk] using h1,by simpa using h2⟩
    ·exact .inr ⟨by simpa using h1,by simpa [msk] using h2⟩
noncomputable def awq (F H F':Hp):Hp:=fun b=>match F b with | some o=>some o | none=>match H b with | some _=>none | none=>F' b
theorem axt:Same F (awq F H F'):=fun b o h=>by unfold awq; rw [h]
theorem aqeg {b:Addr} {o:HO} (h:awq F H F' b=some o):F b=some o \/ (H b=none/\F' b=some o):=by
 unfold awq at h;cases q:F b with
 | some u=>rw [q] at h; exact .inl h
 | none =>
  rw [q] at h;cases z:H b with
  | some u=>rw [z] at h; cases h
  | none=>rw [z] at h; exact .inr ⟨rfl,h⟩
theorem aVt {b:Addr} (s:Same F H) (h:H b=none):awq F H F' b=F' b:=by
 unfold awq;rw [s.free h,h]
structure Look (F H G:Hp):Prop where
 fg:Same F G
 gh:Same G H
 nt:∀ b u,G b=some u->F b=some u \/ ∀ xs,u ≠ .tup xs/\∀ ob w,u ≠ .frz ob w
section
variable {G:Hp}
theorem Look.ext (l:Look F H G) (e:Ext G H F' H') (s:Same F H):Ext F H (awq F H F') H' where
 ff:=axt
 fh:=fun b o h=>by
  rcases aqeg h with h | ⟨_,h⟩
  ·exact e.hh _ _ (s _ _ h)
  ·exact e.fh _ _ h
 hh:=e.hh
 nw:=fun b o h=>by
  rcases aqeg h with h | ⟨h,_⟩
  ·exact .inl h
  ·exact .inr h
theorem Look.at (l:Look F H G) (e:Ext G H F' H') (s:Same F H) {a:Addr} {u:HO} (h:F' a=some u) (nt:(∃ xs,u=.tup xs) \/ ∃ ob w,u=.frz ob w):awq F H F' a=some u:=by
 rcases e.nw a u h with z | z
 ·rcases l.nt a u z with y | y
  ·unfold awq; rw [y]
  ·rcases nt with ⟨xs,rfl⟩ | ⟨ob,w,rfl⟩
   ·exact absurd rfl (y xs).1
   ·exact absurd rfl ((y []).2 ob w)
 ·rw [aVt s z]; exact h
theorem Look.seqT (l:Look F H G) (e:Ext G H F' H') (s:Same F H) {a:Addr} {vs:List V} (h:SqT K F' a vs):SqT K (awq F H F') a vs:=by
 rcases h with (q | ⟨o,q⟩) | q
 ·exact .inl (.inl (l.at e s q (.inl ⟨_,rfl⟩)))
 ·exact .inl (.inr ⟨o,l.at e s q (.inr ⟨_,_,rfl⟩)⟩)
 ·exact .inr q
theorem aqec (l:Look F H G) (e:Ext G H F' H') (s:Same F H):(∀ {v:V} {d:D},Rep K F' v d->imm d=true->Rep K (DL.awq F H F') v d)/\∀ {vs:List V} {ds:List D},Reps K F' vs ds->aqsy ds=true->Reps K (DL.awq F H F') vs ds:=by
 refine ⟨@Rep.rec K F' (fun v d _=>imm d=true->Rep K (DL.awq F H F') v d) (fun v d _=>aqsy d=true->Reps K (DL.awq F H F') v d) (fun _=>.non) (fun b _=>.bl b) (fun i _=>.int i) (fun x _=>.str x) ?a ?b (fun _=>.nil) ?c,@Reps.rec K F' (fun v d _=>imm d=true->Rep K (DL.awq F H F') v d) (fun v d _=>aqsy d=true->Reps K (DL.awq F H F') v d) (fun _=>.non) (fun b _=>.bl b) (fun i _=>.int i) (fun x _=>.str x) ?a ?b (fun _=>.nil) ?c⟩
 case a=>exact fun _ _ _ h=>by simp [imm] at h
 case b=>exact fun q _ ih h=>.tup (l.seqT e s q) (ih (by simpa [imm] using h))
 case c =>
  intro v d vs ds q t ih it h;simp [aqsy] at h;exact .cons (ih h.1) (it h.2)
theorem Look.rep (l:Look F H G) (e:Ext G H F' H') (s:Same F H) {v:V} {d:D} (h:imm d=true) (q:Rep K F' v d):Rep K (DL.awq F H F') v d:=(aqec l e s).1 q h
theorem Look.reps (l:Look F H G) (e:Ext G H F' H') (s:Same F H) {vs:List V} {ds:List D} (h:aqsy ds=true) (q:Reps K F' vs ds):Reps K (DL.awq F H F') vs ds:=(aqec l e s).2 q h
theorem aqjx (l:Look F H G) (e:Ext G H F' H') (s:Same F H):(∀ {v:V} {o:O} {A:AS},Own K F' H' v o A->oim o=true->Own K (DL.awq F H F') H' v o A)/\∀ {vs:List V} {os:List O} {A:AS},Owns K F' H' vs os A->aqst os=true->Owns K (DL.awq F H F') H' vs os A:=by
 refine ⟨@Own.rec K F' H' (fun v o A _=>oim o=true->Own K (DL.awq F H F') H' v o A) (fun v o A _=>aqst o=true->Owns K (DL.awq F H F') H' v o A) ?a ?b ?c ?a2 ?d,@Owns.rec K F' H' (fun v o A _=>oim o=true->Own K (DL.awq F H F') H' v o A) (fun v o A _=>aqst o=true->Owns K (DL.awq F H F') H' v o A) ?a ?b ?c ?a2 ?d⟩
 case a=>exact fun q hA h=>.sh (l.rep e s (by simpa [oim] using h) q) hA
 case b=>exact fun q n _ hA ih h=>.lst q n (ih (by simpa [oim] using h)) hA
 case c=>exact fun q _ ih h=>.tup (l.at e s q (.inl ⟨_,rfl⟩)) (ih (by simpa [oim] using h))
 case a2=>exact fun hA _=>.nil hA
 case d =>
  intro v o vs os A1 A2 A q t d hA ih it h;simp [aqst] at h;exact .cons (ih h.1) (it h.2) d hA
theorem Look.own (l:Look F H G) (e:Ext G H F' H') (s:Same F H) {v:V} {o:O} {A:AS} (h:oim o=true) (q:Own K F' H' v o A):Own K (DL.awq F H F') H' v o A:=(aqjx l e s).1 q h
end
theorem RS.look (r:RS K β F H σ ρ) (S:List Bool):∃ G,Look F H G/\RE K G σ (frz S ρ)/\RS K β G H σ (fz S ρ):=by
 obtain ⟨A,h1,h2,h3⟩:=r.own
 let Z:AS:=fun b=>∃ i,msk S i=true/\(∃ o d,ρ[i]?=some (some o)/\oD o=some d)/\A i b
 have Zf:∀ b,Z b->F b=none/\β.B b=none:=fun b ⟨i,_,_,q⟩=>⟨(h2 i b q).1,(h2 i b q).2.1⟩;have Zt:∀ b,Z b->∃ u,H b=some u/\∀ xs,u ≠ .tup xs/\∀ ob w,u ≠ .frz ob w:=fun b ⟨i,_,_,q⟩=>by
  obtain ⟨_,_,o,ho⟩:=h2 i b q;obtain ⟨v,_,z⟩:=h1 i o ho;exact z.there b q
 have sF:Same F (aqtx F H Z):=aJm fun b z=>(Zf b z).1;refine ⟨aqtx F H Z,⟨sF,aqfr r.ext.fh,fun b u q=>?_⟩,fun i d h=>?_,⟨aqag r.ext Zf,(aqmz S ρ).trans r.len,r.pin,?_⟩⟩
 ·by_cases z:Z b
  ·rw [avz z] at q
   obtain ⟨u',e1,e2⟩:=Zt b z;rw [q] at e1; cases e1;exact .inr e2
  ·rw [azi z] at q; exact .inl q
 ·obtain ⟨g1,o,g2,g3⟩:=aqn0 h
  obtain ⟨v,e1,e2⟩:=h1 i o g2;exact ⟨v,e1,e2.rep sF g3 fun b z=>avz ⟨i,g1,⟨o,d,g2,g3⟩,z⟩⟩
 ·classical
  refine ⟨fun i b=>A i b/\¬ (msk S i=true/\∃ o d,ρ[i]?=some (some o)/\oD o=some d),fun i o h=>?_,fun i b h=>?_,fun i j b x y=>h3 i j b x.1 y.1⟩
  ·rcases aqpa h with ⟨g1,o',d,g2,g3,rfl⟩ | ⟨g1,g2⟩
   ·obtain ⟨v,e1,e2⟩:=h1 i o' g2
    exact ⟨v,e1,.sh (e2.rep sF g3 fun b z=>avz ⟨i,g1,⟨o',d,g2,g3⟩,z⟩) fun b z=>z.2 ⟨g1,o',d,g2,g3⟩⟩
   ·obtain ⟨v,e1,e2⟩:=h1 i o g1
    refine ⟨v,e1,(e2.stay sF (H':=H) fun _ _=>rfl).congr fun b=>⟨fun z=>⟨z,?_⟩,fun z=>z.1⟩⟩;rintro ⟨m,o',d,q1,q2⟩;rw [g1] at q1; cases q1;rw [g2 m] at q2; cases q2
  ·obtain ⟨e1,e2,o,ho⟩:=h2 i b h.1
   refine ⟨(azi ?_).trans e1,e2,?_⟩
   ·rintro ⟨j,m,q,z⟩
    have:=h3 i j b h.1 z
    subst this;exact h.2 ⟨m,q⟩
   ·
    have hl:i < (fz S ρ).length:=by rw [aqmz]; exact (List.getElem?_eq_some_iff.mp ho).1
    have hx:∃ c,(fz S ρ)[i]?=some c:=⟨_,getElem?_eq_getElem hl⟩;obtain ⟨c,hc⟩:=hx;cases c with
    | some o'=>exact ⟨o',hc⟩
    | none =>
     exfalso
     have:∀ (S:List Bool) (ρ:Cs) (i:Nat) (o:O),ρ[i]?=some (some o)->(fz S ρ)[i]? ≠ some none:=by
      intro S
      induction S with
      | nil=>intro ρ i o h z; cases ρ <;> simp [fz] at z h; rw [h] at z; cases z
      | cons b S ih =>
       intro ρ i o h z;cases ρ with
       | nil=>simp at h
       | cons c ρ =>
        cases i with
        | zero =>
         simp at h; subst h;cases b with
         | false=>simp [fz] at z
         | true=>simp [fz,fzc] at z; split at z <;> cases z
        | succ i=>exact ih ρ i o (by simpa using h) (by simpa [fz] using z)
     exact this S ρ i o ho hc
theorem aqns (ρ:Cs):frz (List.replicate ρ.length true) ρ=all ρ:=by
 induction ρ with
 | nil=>simp [frz,all]
 | cons c ρ ih=>simp [frz,all,List.replicate_succ] at ih ⊢; exact ih
theorem RS.lookAll (r:RS K β F H σ ρ):∃ G,Look F H G/\RE K G σ (all ρ):=by
 obtain ⟨G,l,re,_⟩:=r.look (List.replicate ρ.length true);rw [aqns] at re;exact ⟨G,l,re⟩
theorem RS.back (r:RS K β F H σ ρ) {G:Hp} (l:Look F H G) (e:Ext G H F' H'):RS K β (awq F H F') H' σ ρ:=r.ext' (l.ext e r.ext.fh)
structure RT (K:Frag) (β:Bs) (F H:Hp) (σ:St) (ρ:Cs) (v:V) (o:O):Prop where
 ext:Ext β.F₀ β.B F H
 len:ρ.length=σ.length
 pin:∀ i,β.P i=true->σ[i]?=β.σ₀[i]?
 own:∃ (A:Nat->AS) (T:AS),OwnT K β.B F H σ ρ A/\Own K F H v o T/\(∀ b,T b->F b=none/\β.B b=none)/\∀ i b,A i b->¬ T b
theorem RT.unbase (e:Ext β.F₀ β.B F H) {F1 H1:Hp} {σ1:St} {ρ1:Cs} {v:V} {o:O} (r:RT K (β.re F) F1 H1 σ1 ρ1 v o):RT K β F1 H1 σ1 ρ1 v o:=⟨aqn5 e r.ext,r.len,r.pin,r.own⟩
theorem RS.push (r:RS K β F H σ ρ) (e:Ext F H F' H') {v:V} {o:O} {T:AS} (q:Own K F' H' v o T) (n:∀ b,T b->F' b=none/\H b=none):RT K β F' H' σ ρ v o :=
 ⟨r.ext.trans e,r.len,r.pin,by
  obtain ⟨A,w⟩:=r.own;refine ⟨A,T,w.ext e,q,fun b z=>⟨(n b z).1,r.ext.hh.free (n b z).2⟩,fun i b x y=>?_⟩;obtain ⟨u,hu,_⟩:=w.there x;rw [(n b y).2] at hu; cases hu⟩
theorem RS.sh (r:RS K β F H σ ρ) {v:V} {d:D} (q:Rep K F v d):RT K β F H σ ρ v (.sh d) :=
 r.push (Ext.refl r.ext.fh) (T:=fun _=>False) (.sh q fun _ z=>z) fun _ z=>z.elim
theorem aqbe {α:Type} {l:List (Option α)} {i j:Nat} {c:Option α} {c':α} (h:(l.set i c)[j]?=some (some c')):(j=i/\some c'=c/\i < l.length) \/ (j ≠ i/\l[j]?=some (some c')):=by
 by_cases e:j=i
 ·subst e
  have hl:j < l.length:=by
   have:=(List.getElem?_eq_some_iff.mp h).1
   simpa using this
  rw [getElem?_set_self hl] at h;cases h;exact .inl ⟨rfl,rfl,hl⟩
 ·rw [getElem?_set_ne (Ne.symm e)] at h
  exact .inr ⟨e,h⟩
theorem RT.give {v:V} {o:O} (r:RT K β F H σ ρ v o) (i:Nat) (hi:β.P i=false):RS K β F H (σ.set i (some v)) (ρ.set i (some o)) where
 ext:=r.ext
 len:=by simpa using r.len
 pin:=fun j h=>by
  have ne:j ≠ i:=by rintro rfl; rw [hi] at h; cases h
  rw [getElem?_set_ne (Ne.symm ne)]; exact r.pin j h
 own:=by
  obtain ⟨A,T,⟨h1,h2,h3⟩,q,n,d⟩:=r.own;have hl:=r.len;refine ⟨fun j b=>(j ≠ i/\A j b) \/ (j=i/\i < ρ.length/\T b),fun j o' h=>?_,fun j b h=>?_,fun j k b x y=>?_⟩
  ·rcases aqbe h with ⟨rfl,e,hl'⟩ | ⟨ne,h⟩
   ·cases e
    exact ⟨v,getElem?_set_self (by rw [<- hl]; exact hl'),q.congr fun b=>⟨fun z=>.inr ⟨rfl,hl',z⟩,fun z=>z.elim (fun y=>absurd rfl y.1) (·.2.2)⟩⟩
   ·obtain ⟨v',e1,e2⟩:=h1 j o' h
    exact ⟨v',by rw [getElem?_set_ne (Ne.symm ne)]; exact e1,e2.congr fun b=>⟨fun z=>.inl ⟨ne,z⟩,fun z=>z.elim (·.2) fun y=>absurd y.1 ne⟩⟩
  ·rcases h with ⟨ne,h⟩ | ⟨rfl,hl',h⟩
   ·obtain ⟨e1,e2,o',ho⟩:=h2 j b h
    exact ⟨e1,e2,o',by rw [getElem?_set_ne (Ne.symm ne)]; exact ho⟩
   ·exact ⟨(n b h).1,(n b h).2,o,getElem?_set_self hl'⟩
  ·rcases x with ⟨_,x⟩ | ⟨rfl,_,x⟩ <;> rcases y with ⟨_,y⟩ | ⟨rfl,_,y⟩
   ·exact h3 j k b x y
   ·exact absurd y (d j b x)
   ·exact absurd x (d k b y)
   ·rfl
theorem RS.set_sh (r:RS K β F H σ ρ) (i:Nat) (hi:β.P i=false) {v:V} {d:D} (q:Rep K F v d):RS K β F H (σ.set i (some v)) (ρ.set i (some (.sh d))):=(r.sh q).give i hi
theorem RS.move (r:RS K β F H σ ρ) {i:Nat} {o:O} (h:ρ[i]?=some (some o)):∃ v,σ[i]?=some (some v)/\RT K β F H σ (ρ.set i none) v o:=by
 obtain ⟨A,h1,h2,h3⟩:=r.own;obtain ⟨v,e1,e2⟩:=h1 i o h;refine ⟨v,e1,r.ext,by simpa using r.len,r.pin,fun j b=>j ≠ i/\A j b,A i,⟨fun j o' h=>?_,fun j b h=>?_,fun j k b x y=>h3 j k b x.2 y.2⟩,e2,fun b z=>⟨(h2 i b z).1,(h2 i b z).2.1⟩,fun j b x y=>x.1 (h3 j i b x.2 y)⟩
 ·rcases aqbe h with ⟨_,e,_⟩ | ⟨ne,h⟩
  ·cases e
  ·obtain ⟨v',g1,g2⟩:=h1 j o' h
   exact ⟨v',g1,g2.congr fun b=>⟨fun z=>⟨ne,z⟩,(·.2)⟩⟩
 ·obtain ⟨g1,g2,o',ho⟩:=h2 j b h.2
  exact ⟨g1,g2,o',by rw [getElem?_set_ne (Ne.symm h.1)]; exact ho⟩
end
def tM (K:Frag) (f:FM):TE:=fun σ H Q=>∃ β F ρ p,RS K β F H σ ρ/\f ρ=some p/\∀ v F' H',Same F F'->Same H H'->RT K β F' H' σ p.2 v p.1->Q v H'
def DM (X:Cx) (e:Expr) (f:FM):Prop:=PE X e (tM X.K f)
section
variable {X:Cx} {e:Expr}
theorem DE.m (S:List Bool) {f:FE} (h:DE X e f):DM X e (mE S f):=by
 refine PE.imp h fun σ H Q q=>?_;obtain ⟨β,F,ρ,p,r,hf,k⟩:=q;obtain ⟨d,hd,rfl⟩:=map_some hf;obtain ⟨G,l,re,rz⟩:=r.look S;refine ⟨G,frz S ρ,d,l.gh,re,hd,fun v F' H' e q=>?_⟩
 by_cases hi:imm d=true
 ·rw [if_pos hi] at k
  exact k v _ H' axt e.hh ((r.back l e).sh (l.rep e r.ext.fh hi q))
 ·rw [if_neg hi] at k
  exact k v F' H' (l.fg.trans e.ff) e.hh ((rz.ext' e).sh q)
theorem DO.m (S:List Bool) {f:FO} (h:DO X e f):DM X e (mO S f):=by
 refine PE.imp h fun σ H Q q=>?_;obtain ⟨β,F,ρ,p,r,hf,k⟩:=q;obtain ⟨o,ho,rfl⟩:=map_some hf;obtain ⟨G,l,re,rz⟩:=r.look S;refine ⟨G,frz S ρ,o,l.gh,re,ho,fun v F' H' A e q n=>?_⟩
 by_cases hi:oim o=true
 ·rw [if_pos hi] at k
  exact k v _ H' axt e.hh (r.push (l.ext e r.ext.fh) (l.own e r.ext.fh hi q) fun b z=>⟨(aVt r.ext.fh (n b z).2).trans (n b z).1,(n b z).2⟩)
 ·rw [if_neg hi] at k
  exact k v F' H' (l.fg.trans e.ff) e.hh (rz.push e q n)
theorem aqnc {i:Nat} {x:Str} {pos:Pos} (h:PE X (.Name x pos) (tVar i)):DM X (.Name x pos) (mMv i):=by
 refine PE.imp h fun σ H Q q=>?_;obtain ⟨β,F,ρ,p,r,hf,k⟩:=q;obtain ⟨o,ho,rfl⟩:=map_some hf;have hi:ρ[i]?=some (some o):=by
  cases q:ρ[i]? with
  | none=>rw [q] at ho; cases ho
  | some c=>rw [q] at ho; cases c with
   | none=>cases ho
   | some o'=>cases ho; rfl
 obtain ⟨v,e1,rt⟩:=r.move hi;exact ⟨v,e1,k v F H (Same.refl _) (Same.refl _) rt⟩
end
def EndS (K:Frag) (β:Bs) (E:Ends):Out->Prop
 | .nx ρ'=>∀ F' H' σ',RS K β F' H' σ' ρ'->E.nx σ' H'
 | .bk ρ'=>∀ F' H' σ',RS K β F' H' σ' ρ'->E.bk σ' H'
 | .ct ρ'=>∀ F' H' σ',RS K β F' H' σ' ρ'->E.ct σ' H'
 | .rt o ρ'=>∀ F' H' σ' v,RT K β F' H' σ' ρ' v o->E.rt v H'
 | .ex _ _=>False
def tS (K:Frag) (W:List Nat) (b:Blk):TS:=fun E σ H=>∃ β F ρ o,RS K β F H σ ρ/\(∀ i∈W,β.P i=false)/\b ρ=some o/\EndS K β E o
def DS (X:Cx) (st:Stmt) (W:List Nat) (b:Blk):Prop:=PS X st (tS X.K W b)
def DSs (X:Cx) (st:List Stmt) (W:List Nat) (b:Blk):Prop:=PSs X st (tS X.K W b)
section
variable {X:Cx} {st:Stmt} {rest:List Stmt} {a e:Expr} {pos:Pos} {W W1 W2:List Nat}
theorem aqgs {β:Bs} (h:∀ i∈W1++W2,β.P i=false):∀ i∈W1,β.P i=false:=fun i m=>h i (List.mem_append_left _ m)
theorem aqmo {β:Bs} (h:∀ i∈W1++W2,β.P i=false):∀ i∈W2,β.P i=false:=fun i m=>h i (mem_append_right _ m)
theorem aF:DSs X [] [] aqtt:=by
 refine PSs.imp pss_nil fun E σ H q=>?_;obtain ⟨β,F,ρ,o,r,_,h,k⟩:=q;cases h;exact k F H σ r
theorem ac {b c:Blk} (h1:DS X st W1 b) (h2:DSs X rest W2 c):DSs X (st :: rest) (W1++W2) (aqtr b c):=by
 refine PSs.imp (pss_cons h1 h2) fun E σ H q=>?_;obtain ⟨β,F,ρ,o,r,hw,h,k⟩:=q;unfold aqtr at h;cases hb:b ρ with
 | none=>rw [hb] at h; cases h
 | some o1 =>
  rw [hb] at h;cases o1 with
  | nx ρ'=>exact ⟨β,F,ρ,.nx ρ',r,aqgs hw,hb,fun F' H' σ' r'=>⟨β,F',ρ',o,r',aqmo hw,h,k⟩⟩
  | bk ρ'=>cases h; exact ⟨β,F,ρ,.bk ρ',r,aqgs hw,hb,k⟩
  | ct ρ'=>cases h; exact ⟨β,F,ρ,.ct ρ',r,aqgs hw,hb,k⟩
  | rt d ρ'=>cases h; exact ⟨β,F,ρ,.rt d ρ',r,aqgs hw,hb,k⟩
  | ex d ρ'=>cases h; exact ⟨β,F,ρ,.ex d ρ',r,aqgs hw,hb,k⟩
theorem af {b:Blk} (h1:DS X st W b):DSs X [st] W b:=pss_one h1
theorem br (i:Nat) {f:FM} {st:Stmt} (hp:PS X st (tAsg (tM X.K f) (gName i))):DS X st [i] (aqtq i f):=by
 refine PS.imp hp fun E σ H q=>?_;obtain ⟨β,F,ρ,o,r,hw,h,k⟩:=q;obtain ⟨p,hd,rfl⟩:=map_some h;exact ⟨β,F,ρ,p,r,hd,fun v F' H' _ _ rt=>k F' H' _ (rt.give i (hw i (by simp)))⟩
theorem ip {f:FM} (h:DM X e f):DS X (.Return (some e) pos) [] (aqts f):=by
 refine PS.imp (ps_ret h) fun E σ H q=>?_;obtain ⟨β,F,ρ,o,r,hw,h,k⟩:=q;obtain ⟨p,hd,rfl⟩:=map_some h;exact ⟨β,F,ρ,p,r,hd,fun v F' H' _ _ rt=>k F' H' σ v rt⟩
theorem aka {c:Expr} {as bs:List Stmt} {q:FT} {a b:Blk} (hc:DT X c q) (ha:DSs X as W1 a) (hb:DSs X bs W2 b):DS X (.If c as bs pos) (W1++W2) (bIf q a b):=by
 refine PS.imp (ps_if hc ha hb) fun E σ H z=>?_;obtain ⟨β,F,ρ,o,r,hw,h,k⟩:=z;obtain ⟨t,ht,h⟩:=bind_some h;obtain ⟨G,l,re⟩:=r.lookAll;refine ⟨G,DL.all ρ,t,l.gh,re,ht,fun F' H' e=>?_⟩;have r':=r.back l e;cases t with
 | true=>rw [if_pos rfl] at h; exact iteT ⟨β,_,ρ,o,r',aqgs hw,h,k⟩
 | false=>rw [if_neg Bool.false_ne_true] at h; exact iteF ⟨β,_,ρ,o,r',aqmo hw,h,k⟩
theorem aqkp {st:Stmt}:DS X st [] bNever:=by
 refine PS.imp ps_never fun E σ H q=>?_;obtain ⟨β,F,ρ,o,r,_,h,k⟩:=q;cases h
def tG (K:Frag) (W:List Nat) (g:GD):TG:=fun v σ H Q=>∃ β F ρ d ρ',RS K β F H σ ρ/\(∀ i∈W,β.P i=false)/\Rep K F v d/\g d ρ=some ρ'/\∀ σ',RS K β F H σ' ρ'->Q σ' H
def tGs (K:Frag) (W:List Nat) (g:List D->Cs->Option Cs):TGs:=fun vs σ H Q=>∃ β F ρ ds ρ',RS K β F H σ ρ/\(∀ i∈W,β.P i=false)/\Reps K F vs ds/\g ds ρ=some ρ'/\∀ σ',RS K β F H σ' ρ'->Q σ' H
def DG (X:Cx) (tg:Expr) (W:List Nat) (g:GD):Prop:=PG X tg (tG X.K W g)
theorem aN (i:Nat) {tg:Expr} (h:PG X tg (gName i)):DG X tg [i] (gN i):=by
 refine PG.imp h fun v σ H Q q=>?_;obtain ⟨β,F,ρ,d,ρ',r,hw,q,h,k⟩:=q;cases h;exact k _ (r.set_sh i (hw i (by simp)) q)
theorem aqmy:∀ {gs:List GD} {ds:List D} {ρ ρ':Cs},gT gs ds ρ=some ρ'->ds.length=gs.length
 | [],[],_,_,_=>rfl
 | g :: gs,d :: ds,ρ,ρ',h=>by
  obtain ⟨r1,_,h2⟩:=bind_some h;simp [aqmy h2]
 | [],_ :: _,_,_,h=>by simp [gT] at h
 | _ :: _,[],_,_,h=>by simp [gT] at h
def DGs (X:Cx) (ts:List Expr) (W:List Nat) (gs:List GD):Prop:=PGs X ts (tGs X.K W (gT gs))
theorem aQ0:DGs X [] [] []:=by
 intro pins s σ H vs us Q I rv q;refine pgs_nil pins s σ H vs us Q I rv ?_;obtain ⟨β,F,ρ,ds,ρ',r,hw,q,h,k⟩:=q;cases q with
 | nil=>cases h; exact ⟨rfl,k _ r⟩
 | cons=>cases h
theorem aqg {t:Expr} {ts:List Expr} {g:GD} {gs:List GD} (h1:DG X t W1 g) (h2:DGs X ts W2 gs)
  (hs:(assignEach (t :: ts) X.env).map (·.2)=assign t X.env :: (assignEach ts X.env).map (·.2):=by rfl):DGs X (t :: ts) (W1++W2) (g :: gs):=by
 intro pins s σ H vs us Q I rv q;refine pgs_cons h1 h2 hs pins s σ H vs us Q I rv ?_;obtain ⟨β,F,ρ,ds,ρ',r,hw,q,h,k⟩:=q;cases q with
 | nil=>cases h
 | cons q1 q2 =>
  obtain ⟨ρ1,h1,h2⟩:=bind_some h;exact ⟨_,_,rfl,β,F,ρ,_,ρ1,r,aqgs hw,q1,h1,fun σ' r'=>⟨β,F,ρ1,_,ρ',r',aqmo hw,q2,h2,k⟩⟩
theorem aK4 {ts:List Expr} {gs:List GD} {kk:Nat} (hc:X.calm=true) (h:DGs X ts W gs) (hn:(assignEach ts X.env).length=gs.length:=by rfl) (hst:(assignEach ts X.env).findIdx? (·.1)=none:=by rfl):DG X (.Tuple ts kk pos) W (gTp gs):=by
 refine PG.imp (pg_tup hc h hn hst) fun v σ H Q q=>?_;obtain ⟨β,F,ρ,d,ρ',r,hw,q,h,k⟩:=q;unfold gTp at h;split at h
 ·rename_i ds
  cases q with
  | tup q t=>exact ⟨_,_,rfl,seqT r.ext.fh q,by rw [t.length]; exact aqmy h,β,F,ρ,ds,ρ',r,hw,t,h,k⟩
 ·cases h
theorem aqn8 {S:List Bool} {f:FE} {g:GD} {st:Stmt} (hp:PS X st (tAsg (tD X.K f) (tG X.K W g))):DS X st W (bUnp S f g):=by
 refine PS.imp hp fun E σ H q=>?_;obtain ⟨β,F,ρ,o,r,hw,h,k⟩:=q;obtain ⟨d,hd,h⟩:=bind_some h;obtain ⟨ρ',hg,rfl⟩:=map_some h;obtain ⟨G,l,re,rz⟩:=r.look S;exact ⟨G,frz S ρ,d,l.gh,re,hd,fun v F' H' e q=>⟨β,F',fz S ρ,d,ρ',rz.ext' e,hw,q,hg,fun σ' r'=>k F' H' σ' r'⟩⟩
theorem aqer {K:Frag} {β:Bs} {F H:Hp} {σ:St} {ρ:Cs} {gD:GD} {bD:Blk} {d:D} {rest:List D} {o:Out} {E:Ends} {x:V} {N:St->Hp->Prop}
  (r:RS K β F H σ ρ) (hw1:∀ i∈W1,β.P i=false) (hw2:∀ i∈W2,β.P i=false) (q:Rep K F x d) (h:aqt6 gD bD (d :: rest) ρ=some o) (k:EndS K β E o)
  (hN:∀ F' H' σ' ρ',Same F F'->RS K β F' H' σ' ρ'->aqt6 gD bD rest ρ'=some o->N σ' H'):tG K W1 gD x σ H fun σ2 H2=>tS K W2 bD { E with nx:=N,ct:=N,bk:=E.nx } σ2 H2:=by
 obtain ⟨ρ1,h1,h2⟩:=bind_some h;refine ⟨β.re F,F,ρ,d,ρ1,r.rebase,hw1,q,h1,fun σ' r'=>?_⟩;cases hb1:bD ρ1 with
 | none=>rw [hb1] at h2; cases h2
 | some o1 =>
  rw [hb1] at h2;refine ⟨β.re F,F,ρ1,o1,r',hw2,hb1,?_⟩;cases o1 with
  | nx ρ2=>exact fun F' H' σ2 r2=>hN F' H' σ2 ρ2 r2.ext.ff (RS.unbase r.ext r2) h2
  | ct ρ2=>exact fun F' H' σ2 r2=>hN F' H' σ2 ρ2 r2.ext.ff (RS.unbase r.ext r2) h2
  | bk ρ2=>cases h2; exact fun F' H' σ2 r2=>k F' H' σ2 (RS.unbase r.ext r2)
  | rt d ρ2=>cases h2; exact fun F' H' σ2 v r2=>k F' H' σ2 v (RT.unbase r.ext r2)
  | ex d ρ2=>cases h2; exact k
theorem akb {α:Type} {l:List α} {i:Nat} (h:i < l.length):l.drop i=l[i] :: l.drop (i + 1):=(List.getElem_cons_drop h).symm
theorem avu {tg iter:Expr} {body:List Stmt} {S:List Bool} {f:FE} {gD:GD} {bD:Blk} (hp:PassesOwn (model X.prog X.w) X.A X.env X.xe) (hc:X.calm=true) (hi:DE X iter f) (hg:DG X tg W1 gD) (hb:DSs X body W2 bD)
  (hs:∀ x,foldedSetIterable iter X.env x=pure x:=by intro _; rfl):DS X (.For tg iter body [] pos) (W1++W2) (aqtu S f gD bD):=by
 refine PS.imp (ps_for hp hc (pi_list hi) hg hb hs) fun E σ H q=>?_;obtain ⟨β,F,ρ,o,r,hw,h,k⟩:=q;obtain ⟨d,hd,h⟩:=bind_some h;rw [aV2] at h;split at h
 ·rename_i ds
  obtain ⟨G,l,re,rz⟩:=r.look S;refine ⟨G,frz S ρ,.lst ds,l.gh,re,hd,fun v F' H' e q=>?_⟩;cases q with
  | lst q t =>
   rename_i a vs;refine ⟨a,rfl,⟨vs,(aqsh e.fh q).l⟩,fun i m σ H=>∃ F ρ,RS X.K β F H σ ρ/\SqE X.K F a vs/\Reps X.K F vs ds/\i <= ds.length/\m=ds.length - i/\aqt6 gD bD (ds.drop i) ρ=some o,
    ⟨_,F',fz S ρ,rz.ext' e,q,t,zero_le _,rfl,h⟩,?_⟩
   rintro i m σ1 H1 ⟨F1,ρ1,r1,q1,t1,hi,rfl,h1⟩
   by_cases hl:i < ds.length
   ·have hv:i < vs.length:=by rw [t1.length]; exact hl
    refine .inr ⟨⟨vs,vs[i],(aqsh r1.ext.fh q1).l,by simp [hv]⟩,fun σ' H'=>∃ F ρ,RS X.K β F H' σ' ρ/\SqE X.K F a vs/\Reps X.K F vs ds/\aqt6 gD bD (ds.drop (i + 1)) ρ=some o,fun σ' H' ⟨F2,ρ2,r2,q2,t2,h2⟩=>⟨_,by omega,F2,ρ2,r2,q2,t2,hl,rfl,h2⟩,fun x H2 y=>?_⟩;obtain ⟨rfl,y⟩:=y;obtain ⟨d,hd1,hd2⟩:=t1.get (y vs (aqsh r1.ext.fh q1).l);have ed:ds[i]=d:=by rw [getElem?_eq_getElem hl] at hd1; exact Option.some.inj hd1
    rw [akb hl,ed] at h1;exact aqer r1 (aqgs hw) (aqmo hw) hd2 h1 k fun F' H' σ' ρ' s r' h'=>⟨F',ρ',r',aqsh s q1,t1.mono s,h'⟩
   ·refine .inl ⟨⟨vs,(aqsh r1.ext.fh q1).l,by rw [t1.length]; omega⟩,?_⟩
    rw [drop_of_length_le (by omega)] at h1;cases h1;exact k F1 H1 σ1 r1
 ·cases h
theorem aqn2 {K:Frag} {β:Bs} {F H:Hp} {σ:St} {ρ:Cs} {gD:GD} {bD:Blk} {o:Out} {E:Ends} {lo:Int} {n:Nat} (r:RS K β F H σ ρ) (hw1:∀ i∈W1,β.P i=false) (hw2:∀ i∈W2,β.P i=false) (h:aqt6 gD bD (aqsm lo n) ρ=some o) (k:EndS K β E o) :
  ∃ W:Nat->Nat->St->Hp->Prop,(∃ m,W 0 m σ H)/\∀ i m σ H,W i m σ H ->
   ((Itr lo n).stop i H/\E.nx σ H) \/ ((Itr lo n).go i H/\∃ N:St->Hp->Prop,(∀ σ' H',N σ' H'->∃ m',m' < m/\W (i + 1) m' σ' H')/\∀ x H',(Itr lo n).yld i H x H'->tG K W1 gD x σ H' fun σ2 H2=>tS K W2 bD { E with nx:=N,ct:=N,bk:=E.nx } σ2 H2):=by
 refine ⟨fun i m σ H=>∃ F ρ,RS K β F H σ ρ/\i <= n/\m=n - i/\aqt6 gD bD ((aqsm lo n).drop i) ρ=some o,⟨_,F,ρ,r,zero_le _,rfl,h⟩,?_⟩;rintro i m σ1 H1 ⟨F1,ρ1,r1,hi,rfl,h1⟩
 by_cases hl:i < n
 ·refine .inr ⟨hl,fun σ' H'=>∃ F ρ,RS K β F H' σ' ρ/\aqt6 gD bD ((aqsm lo n).drop (i + 1)) ρ=some o,fun σ' H' ⟨F2,ρ2,r2,h2⟩=>⟨_,by omega,F2,ρ2,r2,hl,rfl,h2⟩,fun x H2 y=>?_⟩
  obtain ⟨rfl,rfl⟩:=y;rw [akb (by simpa [aqsm] using hl)] at h1;have ed:(aqsm lo n)[i]'(by simpa [aqsm] using hl)=D.int (lo + (i:Int)):=by simp [aqsm]
  rw [ed] at h1;exact aqer r1 hw1 hw2 (.int _) h1 k fun F' H' σ' ρ' s r' h'=>⟨F',ρ',r',h'⟩
 ·refine .inl ⟨by show n <= i; omega,?_⟩
  rw [drop_of_length_le (by simp [aqsm]; omega)] at h1;cases h1;exact k F1 H1 σ1 r1
theorem aqkq {tg ar:Expr} {body:List Stmt} {S:List Bool} {f:FA} {gD:GD} {bD:Blk} {p p2:Pos} (hp:PassesOwn (model X.prog X.w) X.A X.env X.xe) (hc:X.calm=true) (hG:Gl X "range") (hm:X.mg "range"=none) (hi:DA X [ar] f) (hg:DG X tg W1 gD) (hb:DSs X body W2 bD)
  (hs1:starEach [ar] X.env=[(false,eval ar X.env)]:=by rfl)
  (hs:∀ x,foldedSetIterable (.Call (.Name "range" p) [ar] [] p2) X.env x=pure x:=by intro _; rfl):DS X (.For tg (.Call (.Name "range" p) [ar] [] p2) body [] pos) (W1++W2) (bForR S f gD bD):=by
 refine PS.imp (ps_for hp hc (pi_range1 hG hm hi hs1) hg hb hs) fun E σ H q=>?_;obtain ⟨β,F,ρ,o,r,hw,h,k⟩:=q;obtain ⟨d,hd,h⟩:=bind_some h;obtain ⟨G,l,re,rz⟩:=r.look S;refine ⟨G,frz S ρ,d,l.gh,re,hd,fun vs F' H' e q=>?_⟩;split at h
 ·rename_i j
  split at h
  ·rename_i hj
   cases q with
   | cons q1 q =>
    cases q1;cases q;exact ⟨j,rfl,by omega,by omega,aqn2 (r.back l e) (aqgs hw) (aqmo hw) h k⟩
  ·cases h
 ·cases h
theorem aY6 {c:Expr} {body:List Stmt} {cD:FT} {bD:Blk} (hp:PassesOwn (model X.prog X.w) X.A X.env X.xe) (hc:DT X c cD) (hb:DSs X body W bD):DS X (.While c body [] pos) W (awo cD bD):=by
 refine PS.imp (ps_while hp hc hb) fun E σ H q=>?_;obtain ⟨β,F,ρ,o,r,hw,h,k⟩:=q;obtain ⟨n,h⟩:=aqb3 h;refine ⟨fun m σ H=>∃ F ρ,RS X.K β F H σ ρ/\aYv cD bD m ρ=some o,⟨n,F,ρ,r,h⟩,?_⟩;rintro m σ1 H1 ⟨F1,ρ1,r1,h1⟩;cases m with
 | zero=>cases h1
 | succ m =>
  unfold aYv at h1;obtain ⟨t,ht,h1⟩:=bind_some h1;obtain ⟨G,l,re⟩:=r1.lookAll;refine ⟨G,DL.all ρ1,t,l.gh,re,ht,fun F' H' e=>?_⟩;have r2:=r1.back l e;cases t with
  | false =>
   rw [if_neg Bool.false_ne_true] at h1;cases h1;exact iteF (k _ H' σ1 r2)
  | true =>
   rw [if_pos rfl] at h1;refine iteT ⟨fun σ' H'=>∃ F ρ,RS X.K β F H' σ' ρ/\aYv cD bD m ρ=some o,fun σ' H' q=>⟨m,lt_succ_self _,q⟩,?_⟩;cases hb1:bD ρ1 with
   | none=>rw [hb1] at h1; cases h1
   | some o1 =>
    rw [hb1] at h1;refine ⟨β,_,ρ1,o1,r2,hw,hb1,?_⟩;cases o1 with
    | nx ρ2=>exact fun F' H' σ2 r2=>⟨F',ρ2,r2,h1⟩
    | ct ρ2=>exact fun F' H' σ2 r2=>⟨F',ρ2,r2,h1⟩
    | bk ρ2=>cases h1; exact k
    | rt d ρ2=>cases h1; exact k
    | ex d ρ2=>cases h1; exact k
end
theorem aqoi {K:Frag} {F H:Hp} {N:List Str} {vs:List V} {ds:List D} (s:Same F H) (r:Reps K F vs ds):RS K ⟨F,H,fun _=>false,[]⟩ F H (L2.start N vs) (ini N.length ds) where
 ext:=Ext.refl s
 len:=by simp [L2.start,ini,r.length]
 pin:=fun i h=>by cases h
 own:=by
  refine ⟨fun _ _=>False,fun i o h=>?_,fun _ _ z=>z.elim,fun _ _ _ z=>z.elim⟩;unfold ini at h
  by_cases hi:i < ds.length
  ·rw [List.getElem?_append_left (by simpa using hi),getElem?_map] at h
   cases q:ds[i]? with
   | none=>rw [q] at h; cases h
   | some d' =>
    rw [q] at h;cases h;obtain ⟨v,h1,h2⟩:=r.getD q;refine ⟨v,?_,.sh h2 fun _ z=>z⟩;unfold L2.start;rw [List.getElem?_append_left (by rw [length_map,r.length]; exact hi),getElem?_map,h1];rfl
  ·rw [List.getElem?_append_right (by simpa using hi)] at h
   have:=mem_of_getElem? h
   simp at this
section
variable {P:Program} {w:World} {K:Frag} {mg:Str->Option Value} {base:Heap}
theorem fnO {x qual:Str} {st:Stmt} {f:Addr} {fd:FuncData} {N ps:List Str} {k n m:Nat} {W:List Nat} {b:Blk} (F:Fun K x qual st f fd) (S:FnScope N ps (defScope st)) (hn:ps.length=n) (hm:N.length=m)
  (hb:∀ (cdv:Value) (A:Around) (outer:List Env) (s:Shared) (H:Hp) (E:XK),Room k (A.deeper (envOfC qual (defScope st) s.heap.objs.size f cdv))->DSs (cxOf CX0 P w K mg base N qual (defScope st) f cdv A outer s H E).nox (defBody st) W b) :
  FnOk P w K mg base CX0 (k + 1) f fd ps (spO K n (aqsi m b)):=by
 subst hn hm;refine F.ok S (fun vs H Q E h=>?_) (fun cdv A outer s H vs Q E hr h=>⟨_,hb cdv A outer s H E hr,?_⟩)
 ·obtain ⟨F,ds,d,_,r,hl,_⟩:=h
  rw [r.length,hl]
 ·obtain ⟨F,ds,o,s,r,hl,h,k⟩:=h
  unfold aqsi at h;cases hb1:b (ini N.length ds) with
  | none=>rw [hb1] at h; cases h
  | some o1 =>
   rw [hb1] at h;refine ⟨_,F,_,o1,aqoi s r,fun _ _=>rfl,hb1,?_⟩;cases o1 with
   | nx ρ=>cases h; exact fun F' H' σ' r'=>k _ F' H' (fun _=>False) r'.ext (.sh .non fun _ z=>z) fun _ z=>z.elim
   | rt o' ρ =>
    cases h;intro F' H' σ' v r';obtain ⟨A,T,_,q,n,_⟩:=r'.own;exact k v F' H' T r'.ext q n
   | bk ρ=>cases h
   | ct ρ=>cases h
   | ex c ρ=>cases h
theorem FnOk.d {f:Addr} {fd:FuncData} {ps:List Str} {k n:Nat} {g:List D->Option O} (F:FnOk P w K mg base CX0 k f fd ps (spO K n g)):FnOk P w K mg base CX0 k f fd ps (spD K n fun ds=>(g ds).bind oD) :=
 F.imp fun vs H Q E h=>by
  obtain ⟨F,ds,d,s,r,hl,hg,k⟩:=h;obtain ⟨o,ho,hd⟩:=bind_some hg;exact ⟨F,ds,o,s,r,hl,ho,fun v F' H' A e q hA=>k v (aqtx F' H' A) H' (aqag e hA) (q.rep (aJm fun b z=>(hA b z).1) hd fun b z=>avz z)⟩
end
theorem aqox {K:Frag} {g:List D->Option D} {H:Hp} {a:Addr} {ns:List Int} (h:g [.lst (ns.map .int)]=some (.bl true)) (hS:SqE K H a (ns.map V.int)):spD K 1 g [.ref a] H (fun v _=>v=.bl true) fun _ _ _=>False :=
 ⟨H,[.lst (ns.map .int)],.bl true,Same.refl _,.cons (.lst hS (aVf ns)) .nil,rfl,h,fun v F' H' _ r=>by cases r; rfl⟩
theorem law_call {P:Program} {w:World} {K:Frag} {mg mb:Str->Option Value} {CX:CXT} {k:Nat} {fa a:Addr} {fd:FuncData} {x:Str} {sp:Sp} {s₁:Shared} {vs:List Value} {ns:List Int}
  (KX:K.In s₁.heap) (hns:s₁.heap.Ns mainGlobals mg) (hb:s₁.heap.Ns builtinsNs mb) (hbb:∀ x:Str,x ≠ "__name__"->mb x=bootBuiltins x) (hlim:s₁.heap.NoLimit) (hg:s₁.gens=#[])
  (ha:s₁.heap.get? a=some { cls:=.type "list",data:=.seq vs.toArray }) (hi:IntsAre vs ns) (hl:ns.length <= sizeLine) (hr:Room k callerA)
  (F:∀ base:Heap,K.In base->base.Ns mainGlobals mg->FnOk P w K mg base CX k fa fd [x] sp) (hbind:∀ (s:Shared) (u:Value),BindsTo s fd ⟨[u],[]⟩ [(x,u)])
  (hsp:∀ H:Hp,SqE K H a (ns.map V.int)->sp [.ref a] H (fun v _=>v=.bl true) fun _ _ _=>False)
  (hCX:∀ H e s',CX [] H s₁ (fun _ _ _=>False) e s'->False) :
  codeAny (model P w) callerA (.call (.ref fa) ⟨[.ref a],[]⟩) (fun r s'=>r=.ok (.ret (.bool true))/\OldK s₁.heap s'.heap/\s'.os=s₁.os/\AllBare s'.gens) s₁:=by
 refine L2.law_call KX hns hb hbb hlim hg ha hi hl hr F hbind (fun H _ hS=>hsp H ?_) hCX;rcases hS with h | ⟨o,its,n,hk,hc,hd,hs,hz,r⟩
 ·exact .inl h
 ·have e:=KX a o hk
  rw [ha] at e;cases e;exact .inr ⟨vs,_,hk,by rw [length_map]; exact hl,vals_ints hi⟩
theorem aqhj {l:PySem.W.OpenLaw} {n k:Nat} {q:Program} {loose:List Str} {XP:(Str->Option Value)->Heap->Prop} {YP:World->Heap->Prop} {d:DefRec} {K:Params->Frag} {CX:World->CXT} {sp:World->Sp} {x:Str}
  (hn:l.most=some n) (hn2:n <= sizeLine) (hdf:d.params.defaults=[]) (hr:Room k callerA)
  (hY:∀ (w:World) (h:Heap),YP w h->(K w.params).In h)
  (F:∀ (w:World) (mg:Str->Option Value) (fa:Addr) (h:Heap),(K w.params).In h->h.Ns mainGlobals mg->mg d.name=some (.ref fa) ->
   ∃ fd:FuncData,(∀ (s:Shared) (u:Value),BindsTo s fd ⟨[u],[]⟩ [(x,u)]) /\
    ∀ base:Heap,(K w.params).In base->base.Ns mainGlobals mg->FnOk l.prog w (K w.params) mg base (CX w) k fa fd [x] (sp w))
  (hsp:∀ (w:World) (H:Hp) (a:Addr) (ns:List Int),ns.length <= n->SqE (K w.params) H a (ns.map V.int)->sp w [.ref a] H (fun v _=>v=.bl true) fun _ _ _=>False)
  (hCX:∀ (w:World) (H:Hp) (s:Shared) (e:Value) (s':Shared),CX w [] H s (fun _ _ _=>False) e s'->False) :
  PySem.W.WalkO q loose XP YP l.row.toRowW d [] (fun f vs=>PySem.call f vs):=by
 refine Att.attach_call hn hdf fun w s₀ s₁ mg mb fa o pm cd doc a vs ns G Y ho hd hcd hmg hobj hints hlen hg=>?_;have KX:=hY w _ Y;obtain ⟨fd,hb,hF⟩:=F w mg fa _ KX G.T.g hmg;exact law_call KX G.T.g G.T.b G.T.builtins G.T.nolimit hg hobj hints (le_trans hlen hn2) hr hF hb (fun H hS=>hsp w H a ns hlen hS) fun H e s'=>hCX w H s₁ e s'
def Fn (P:Program) (w:World) (K:Frag) (mg:Str->Option Value) (base:Heap) (k:Nat) (x:Str) (ps:List Str) (sp:Sp):Prop :=
 ∃ f fd,FnOk P w K mg base CX0 k f fd ps sp/\mg x=some (.ref f)/\keepIn K (.ref f)=true/\Binds K fd ps []
section
variable {X:Cx} {k n:Nat} {x:Str} {ps:List Str} {a:Expr} {es:List Expr} {p pos:Pos}
theorem aG {g:List D->Option D} {h:FA} (G:Fn X.prog X.w X.K X.mg X.base k x ps (spD X.K n g)) (hr:Room k X.A) (hg:Gl X x) (ha:DA X (a :: es) h)
  (hdb:(x == ("__debug__":Str))=false:=by decide) (he:starEach (a :: es) X.env=(false,eval a X.env) :: starEach es X.env:=by rfl) (hpl:(backTo pos (starEach es X.env)).any (·.1)=false:=by rfl) :
  DE X (.Call (.Name x p) (a :: es) [] pos) (aA n g h):=by
 obtain ⟨f,fd,F,hm,hk,hb⟩:=G;exact aqne F hr hg hm hk hb ha hdb he hpl
theorem aKa {g:List D->Option O} {h:FA} (G:Fn X.prog X.w X.K X.mg X.base k x ps (spO X.K n g)) (hr:Room k X.A) (hg:Gl X x) (ha:DA X (a :: es) h)
  (hdb:(x == ("__debug__":Str))=false:=by decide) (he:starEach (a :: es) X.env=(false,eval a X.env) :: starEach es X.env:=by rfl) (hpl:(backTo pos (starEach es X.env)).any (·.1)=false:=by rfl) :
  DO X (.Call (.Name x p) (a :: es) [] pos) (aXa n g h):=by
 obtain ⟨f,fd,F,hm,hk,hb⟩:=G;exact aqnb F hr hg hm hk hb ha hdb he hpl
end
end DL
namespace DL
open PySem PySem.Spec PyProof.Rows L2
theorem aqpq {α:Type} (xs:List α) (i:Int):atP xs i=atI xs i:=rfl
theorem aqoy {n j:Nat} {i:Int} (h:ixP n i=some j):j < n:=(ixN_seq h).2.1
inductive At (F H:Hp):V->List Stp->V->Prop
 | nil {v:V}:At F H v [] v
 | lst {a:Addr} {vs:List V} {i:Int} {n:Nat} {w v':V} {p:List Stp} (h:H a=some (.lst vs)) (hn:ixP vs.length i=some n) (hv:vs[n]?=some w) (t:At F H w p v'):At F H (.ref a) (.ix i :: p) v'
 | tup {a:Addr} {vs:List V} {i:Int} {n:Nat} {w v':V} {p:List Stp} (h:F a=some (.tup vs)) (hn:ixP vs.length i=some n) (hv:vs[n]?=some w) (t:At F H w p v'):At F H (.ref a) (.ix i :: p) v'
section
variable {K:Frag} {β:Bs} {F F' H H':Hp} {σ:St} {ρ:Cs}
theorem At.mono (sF:Same F F') (sH:Same H H') {v v':V} {p:List Stp} (h:At F H v p v'):At F' H' v p v':=by
 induction h with
 | nil=>exact .nil
 | lst h hn hv _ ih=>exact .lst (sH _ _ h) hn hv ih
 | tup h hn hv _ ih=>exact .tup (sF _ _ h) hn hv ih
theorem At.uniq (s:Same F H) {v v1 v2:V} {p:List Stp} (h:At F H v p v1) (h':At F H v p v2):v1=v2:=by
 induction h with
 | nil=>cases h'; rfl
 | lst h hn hv _ ih =>
  cases h' with
  | lst g gn gv t =>
   rw [h] at g; cases g;rw [hn] at gn; cases gn;rw [hv] at gv; cases gv;exact ih t
  | tup g _ _ _=>have:=s _ _ g; rw [h] at this; cases this
 | tup h hn hv _ ih =>
  cases h' with
  | lst g _ _ _=>have:=s _ _ h; rw [g] at this; cases this
  | tup g gn gv t =>
   rw [h] at g; cases g;rw [hn] at gn; cases gn;rw [hv] at gv; cases gv;exact ih t
def putO (o':O) (p:List Stp) (o:O):Option O:=atO (fun _=>some o') p o
theorem Own.focus:∀ {p:List Stp} {v:V} {c o:O} {A:AS},Own K F H v c A->aqt3 p c=some o ->
  ∃ (v':V) (A1 A2:AS),At F H v p v'/\Own K F H v' o A1/\(∀ b,A b ↔ A1 b \/ A2 b)/\(∀ b,A1 b->¬ A2 b) /\
   ∀ (F' H':Hp) (o':O) (A1':AS),Same F F'->(∀ b,A2 b->H' b=H b)->Own K F' H' v' o' A1'->(∀ b,A1' b->¬ A2 b)->∃ c',putO o' p c=some c'/\Own K F' H' v c' fun b=>A1' b \/ A2 b
 | [],v,c,o,A,h,e=>by
  cases e;exact ⟨v,A,fun _=>False,.nil,h,fun b=>⟨.inl,fun z=>z.elim id False.elim⟩,fun _ _ z=>z,fun F' H' o' A1' _ _ q _=>⟨o',rfl,q.congr fun b=>⟨.inl,fun z=>z.elim id False.elim⟩⟩⟩
 | s :: p,v,c,o,A,h,e=>by
  have ex:∃ n k,plc c s=some n/\(kids c)[n]?=some k/\aqt3 p k=some o:=by
   unfold aqt3 at e;obtain ⟨n,hn,e⟩:=bind_some e;obtain ⟨k,hk,e⟩:=bind_some e;exact ⟨n,k,hn,hk,e⟩
  clear e;obtain ⟨n,k,hn,hk,e⟩:=ex;cases h with
  | sh _ _=>cases s <;> cases hn
  | lst h0 n0 r hA =>
   rename_i a vs os A';cases s with
   | fl x=>cases hn
   | ix i =>
    obtain ⟨w,B1,B2,h1,h2,h3,h4,h5⟩:=r.split (n:=n) (o:=k) hk;obtain ⟨v',A1,A2,g1,g2,g3,g4,g5⟩:=Own.focus (p:=p) h2 e;have hn':ixP vs.length i=some n:=by rw [r.length]; exact hn
    refine ⟨v',A1,fun b=>b=a \/ A2 b \/ B2 b,.lst h0 hn' h1 g1,g2,fun b=>?_,fun b x y=>?_,fun F' H' o' A1' sF kk q dd=>?_⟩
    ·rw [hA b,h3 b,g3 b]
     exact ⟨fun z=>z.elim (fun y=>.inr (.inl y)) fun y=>y.elim (fun x=>x.elim .inl fun w=>.inr (.inr (.inl w))) fun w=>.inr (.inr (.inr w)),fun z=>z.elim (fun y=>.inr (.inl (.inl y))) fun y=>y.elim .inl fun x=>x.elim (fun w=>.inr (.inl (.inr w))) fun w=>.inr (.inr w)⟩
    ·rcases y with rfl | y | y
     ·exact n0 ((h3 b).mpr (.inl ((g3 b).mpr (.inl x))))
     ·exact g4 b x y
     ·exact h4 b ((g3 b).mpr (.inl x)) y
    ·obtain ⟨c',e1,e2⟩:=g5 F' H' o' A1' sF (fun b z=>kk b (.inr (.inl z))) q fun b x y=>dd b x (.inr (.inl y))
     have e3:=h5 F' H' w c' (fun b=>A1' b \/ A2 b) sF (fun b z=>kk b (.inr (.inr z))) e2 fun b x y=>by
      rcases x with x | x
      ·exact dd b x (.inr (.inr y))
      ·exact h4 b ((g3 b).mpr (.inr x)) y
     have ev:vs.set n w=vs:=by
      apply List.ext_getElem? ; intro j
      by_cases hj:j=n
      ·subst hj
       rw [h1,getElem?_set_self (List.getElem?_eq_some_iff.mp h1).1]
      ·rw [getElem?_set_ne (Ne.symm hj)]
     rw [ev] at e3;refine ⟨.lst (os.set n c'),?_,.lst ((kk a (.inl rfl)).trans h0) (A':=fun b=>(A1' b \/ A2 b) \/ B2 b) ?_ e3 fun b=>?_⟩
     ·have:os[n]?=some k:=hk
      unfold putO at e1 ⊢;simp only [atO,hn,this,e1,Option.bind_some,Option.map_some,reset,kids]
     ·rintro ((z | z) | z)
      ·exact dd a z (.inl rfl)
      ·exact n0 ((h3 a).mpr (.inl ((g3 a).mpr (.inr z))))
      ·exact n0 ((h3 a).mpr (.inr z))
     ·exact ⟨fun z=>z.elim (fun y=>.inr (.inl (.inl y))) fun y=>y.elim .inl fun x=>x.elim (fun w=>.inr (.inl (.inr w))) fun w=>.inr (.inr w),fun z=>z.elim (fun y=>.inr (.inl y)) fun y=>y.elim (fun x=>x.elim .inl fun w=>.inr (.inr (.inl w))) fun w=>.inr (.inr (.inr w))⟩
  | tup h0 r =>
   rename_i a vs os;cases s with
   | fl x=>cases hn
   | ix i =>
    obtain ⟨w,B1,B2,h1,h2,h3,h4,h5⟩:=r.split (n:=n) (o:=k) hk;obtain ⟨v',A1,A2,g1,g2,g3,g4,g5⟩:=Own.focus (p:=p) h2 e;have hn':ixP vs.length i=some n:=by rw [r.length]; exact hn
    refine ⟨v',A1,fun b=>A2 b \/ B2 b,.tup h0 hn' h1 g1,g2,fun b=>?_,fun b x y=>?_,fun F' H' o' A1' sF kk q dd=>?_⟩
    ·rw [h3 b,g3 b,or_assoc]
    ·rcases y with y | y
     ·exact g4 b x y
     ·exact h4 b ((g3 b).mpr (.inl x)) y
    ·obtain ⟨c',e1,e2⟩:=g5 F' H' o' A1' sF (fun b z=>kk b (.inl z)) q fun b x y=>dd b x (.inl y)
     have e3:=h5 F' H' w c' (fun b=>A1' b \/ A2 b) sF (fun b z=>kk b (.inr z)) e2 fun b x y=>by
      rcases x with x | x
      ·exact dd b x (.inr y)
      ·exact h4 b ((g3 b).mpr (.inr x)) y
     have ev:vs.set n w=vs:=by
      apply List.ext_getElem? ; intro j
      by_cases hj:j=n
      ·subst hj
       rw [h1,getElem?_set_self (List.getElem?_eq_some_iff.mp h1).1]
      ·rw [getElem?_set_ne (Ne.symm hj)]
     rw [ev] at e3;refine ⟨.tup (os.set n c'),?_,.tup (sF _ _ h0) (e3.congr fun b=>or_assoc)⟩
     have:os[n]?=some k:=hk
     unfold putO at e1 ⊢;simp only [atO,hn,this,e1,Option.bind_some,Option.map_some,reset,kids]
theorem aV8 {g:O->Option O}:∀ {p:List Stp} {c c':O},atO g p c=some c'->∃ o o',aqt3 p c=some o/\g o=some o'/\putO o' p c=some c'
 | [],c,c',h=>⟨c,c',rfl,h,rfl⟩
 | s :: p,c,c',h=>by
  unfold atO at h;obtain ⟨n,hn,h⟩:=bind_some h;obtain ⟨k,hk,h⟩:=bind_some h;obtain ⟨k',h',rfl⟩:=map_some h;obtain ⟨o,o',e1,e2,e3⟩:=aV8 h';refine ⟨o,o',by simp only [aqt3,hn,hk,Option.bind_some,e1],e2,?_⟩;unfold putO at e3 ⊢;simp only [atO,hn,hk,e3,Option.bind_some,Option.map_some]
theorem RT.frame {v:V} {o:O} (r:RT K β F H σ ρ v o):∃ B',RS K ⟨β.F₀,B',β.P,β.σ₀⟩ F H σ ρ/\∀ (F' H':Hp) (σ':St) (ρ':Cs),Same F F'->RS K ⟨β.F₀,B',β.P,β.σ₀⟩ F' H' σ' ρ'->RT K β F' H' σ' ρ' v o:=by
 obtain ⟨A,T,⟨h1,h2,h3⟩,q,n,d⟩:=r.own;have hT:∀ b,T b->∃ u,H b=some u:=fun b z=>by obtain ⟨u,h,_⟩:=q.there b z; exact ⟨u,h⟩
 have e:=r.ext;refine ⟨aqtx β.B H T,⟨⟨e.ff,e.fh,aqfr e.hh,fun b u z=>?_⟩,r.len,r.pin,A,h1,fun i b z=>?_,h3⟩,fun F' H' σ' ρ' sF r'=>⟨⟨r'.ext.ff,r'.ext.fh,fun b u z=>?_,fun b u z=>?_⟩,r'.len,r'.pin,?_⟩⟩
 ·rcases e.nw b u z with y | y
  ·exact .inl y
  ·refine .inr ((azi fun t=>?_).trans y)
   rw [(n b t).1] at z; cases z
 ·obtain ⟨e1,e2,e3⟩:=h2 i b z
  exact ⟨e1,(azi (d i b z)).trans e2,e3⟩
 ·refine r'.ext.hh b u ((azi fun t=>?_).trans z)
  rw [(n b t).2] at z; cases z
 ·rcases r'.ext.nw b u z with y | y
  ·exact .inl y
  ·by_cases t:T b
   ·exact .inr (n b t).2
   ·have y':aqtx β.B H T b=none:=y
    rw [azi t] at y'; exact .inr y'
 ·obtain ⟨A',g1,g2,g3⟩:=r'.own
  have nB:∀ b,T b->aqtx β.B H T b ≠ none:=fun b t z=>by
   rw [avz t] at z;obtain ⟨u,hu⟩:=hT b t;rw [hu] at z; cases z
  refine ⟨A',T,⟨g1,fun i b z=>?_,g3⟩,q.stay sF fun b t=>?_,fun b t=>⟨?_,(n b t).2⟩,fun i b x t=>nB b t (g2 i b x).2.1⟩
  ·obtain ⟨e1,e2,e3⟩:=g2 i b z
   refine ⟨e1,?_,e3⟩;have e2':aqtx β.B H T b=none:=e2;rw [azi fun t=>nB b t e2'] at e2';exact e2'
  ·obtain ⟨u,hu⟩:=hT b t
   rw [hu];exact r'.ext.hh b u ((avz t).trans hu)
  ·cases z:F' b with
   | none=>rfl
   | some u =>
    exfalso;rcases r'.ext.nw b u z with y | y
    ·have:=e.ff b u y
     rw [(n b t).1] at this; cases this
    ·exact nB b t y
theorem RT.change {v1:V} {o1:O} (r:RT K β F H σ ρ v1 o1) {i:Nat} {c:O} (hc:ρ[i]?=some (some c)) {p:List Stp} {o:O} (ho:aqt3 p c=some o) :
  ∃ (v0 v:V) (A1 T:AS),σ[i]?=some (some v0)/\At F H v0 p v/\Own K F H v o A1/\Own K F H v1 o1 T/\(∀ b,A1 b->¬ T b) /\
   ∀ (x:Addr) (u:HO) (A1':AS) (o' c':O),A1 x->(∀ b,A1' b->A1 b \/ T b)->Own K F (upd H x u) v o' A1'->putO o' p c=some c'->RS K β F (upd H x u) σ (ρ.set i (some c')):=by
 obtain ⟨A,T,⟨h1,h2,h3⟩,qT,hT,hd⟩:=r.own;obtain ⟨v0,e1,q⟩:=h1 i c hc;obtain ⟨v,A1,A2,g1,g2,g3,g4,g5⟩:=q.focus ho;refine ⟨v0,v,A1,T,e1,g1,g2,qT,fun b z=>hd i b ((g3 b).mpr (.inl z)),fun x u A1' o' c' hx hs q' hp=>?_⟩;have xi:A i x:=(g3 x).mpr (.inl hx);have xF:=h2 i x xi;have sH:∀ b w,b ≠ x->H b=some w->upd H x u b=some w:=fun b w ne e=>by rw [upd_ne ne]; exact e
 obtain ⟨c2,f1,f2⟩:=g5 F (upd H x u) o' A1' (Same.refl _) (fun b z=>upd_ne (by rintro rfl; exact g4 b hx z)) q' fun b z y=>by
  rcases hs b z with t | t
  ·exact g4 b t y
  ·exact hd i b ((g3 b).mpr (.inr y)) t
 rw [hp] at f1; cases f1;refine ⟨⟨r.ext.ff,fun b w e=>sH b w (ne_of_none e xF.1) (r.ext.fh b w e),fun b w e=>sH b w (ne_of_none e xF.2.1) (r.ext.hh b w e),r.ext.nw⟩,by simpa using r.len,r.pin,fun j b=>(j ≠ i/\A j b) \/ (j=i/\(A1' b \/ A2 b)),fun j o1 h=>?_,fun j b h=>?_,fun j k b a1 a2=>?_⟩
 ·rcases aqbe h with ⟨rfl,e,_⟩ | ⟨ne,h⟩
  ·cases e
   exact ⟨v0,e1,f2.congr fun b=>⟨fun z=>.inr ⟨rfl,z⟩,fun z=>z.elim (fun y=>absurd rfl y.1) (·.2)⟩⟩
  ·obtain ⟨v',k1,k2⟩:=h1 j o1 h
   refine ⟨v',k1,(k2.stay (Same.refl _) (H':=upd H x u) fun b z=>upd_ne ?_).congr fun b=>⟨fun z=>.inl ⟨ne,z⟩,fun z=>z.elim (·.2) fun y=>absurd y.1 ne⟩⟩;rintro rfl;exact ne (h3 j i b z xi)
 ·rcases h with ⟨ne,h⟩ | ⟨rfl,h⟩
  ·obtain ⟨k1,k2,o1,k3⟩:=h2 j b h
   exact ⟨k1,k2,o1,by rw [getElem?_set_ne (Ne.symm ne)]; exact k3⟩
  ·have hb:F b=none/\β.B b=none:=by
    rcases h with h | h
    ·rcases hs b h with t | t
     ·exact ⟨(h2 j b ((g3 b).mpr (.inl t))).1,(h2 j b ((g3 b).mpr (.inl t))).2.1⟩
     ·exact hT b t
    ·exact ⟨(h2 j b ((g3 b).mpr (.inr h))).1,(h2 j b ((g3 b).mpr (.inr h))).2.1⟩
   exact ⟨hb.1,hb.2,c',getElem?_set_self (List.getElem?_eq_some_iff.mp hc).1⟩
 ·have key:∀ {j b},j ≠ i->A j b->¬ (A1' b \/ A2 b):=fun {j b} ne h z=>by
   rcases z with z | z
   ·rcases hs b z with t | t
    ·exact ne (h3 j i b h ((g3 b).mpr (.inl t)))
    ·exact hd j b h t
   ·exact ne (h3 j i b h ((g3 b).mpr (.inr z)))
  rcases a1 with ⟨n1,a1⟩ | ⟨rfl,a1⟩ <;> rcases a2 with ⟨n2,a2⟩ | ⟨rfl,a2⟩
  ·exact h3 j k b a1 a2
  ·exact absurd a2 (key n1 a1)
  ·exact absurd a1 (key n2 a2)
  ·rfl
end
def tP (K:Frag) (i:Nat) (S:List Bool) (p:FP):TE:=fun σ H Q=>∃ β F ρ q c o,RS K β F H σ ρ/\p (frz S ρ)=some q/\ρ[i]?=some (some c)/\aqt3 q c=some o /\
 ∀ v0 v F' H',σ[i]?=some (some v0)->Same F F'->Same H H'->RS K β F' H' σ ρ->At F' H' v0 q v->Q v H'
def DP (X:Cx) (e:Expr) (i:Nat) (S:List Bool) (p:FP):Prop:=PE X e (tP X.K i S p)
section
variable {X:Cx} {e k:Expr} {pos:Pos} {i:Nat} {S:List Bool} {p:FP}
theorem aQz {x:Str} (h:PE X (.Name x pos) (tVar i)):DP X (.Name x pos) i S aqsr:=by
 refine PE.imp h fun σ H Q q=>?_;obtain ⟨β,F,ρ,q,c,o,r,hq,hc,ho,k⟩:=q;cases hq;obtain ⟨A,h1,_⟩:=r.own;obtain ⟨v,e1,_⟩:=h1 i c hc;exact ⟨v,e1,k v v F H e1 (Same.refl _) (Same.refl _) r .nil⟩
theorem at_of {K:Frag} {β:Bs} {F H F' H':Hp} {σ:St} {ρ:Cs} {v v1:V} {o1 c o:O} {v0:V} {q:List Stp} (rt:RT K β F' H' σ ρ v1 o1) (hc:ρ[i]?=some (some c)) (ho:aqt3 q c=some o) (e0:σ[i]?=some (some v0)) (sF:Same F F') (sH:Same H H') (h:At F H v0 q v) :
  ∃ (A1 T:AS),Own K F' H' v o A1/\Own K F' H' v1 o1 T/\(∀ b,A1 b->¬ T b)/\∀ (x:Addr) (u:HO) (A1':AS) (o' c':O),A1 x->(∀ b,A1' b->A1 b \/ T b)->Own K F' (upd H' x u) v o' A1'->putO o' q c=some c'->RS K β F' (upd H' x u) σ (ρ.set i (some c')):=by
 obtain ⟨v0',v',A1,T,e1,a1,q1,q2,d,k⟩:=rt.change hc ho;rw [e0] at e1; cases e1
 have:=(h.mono sF sH).uniq rt.ext.fh a1
 subst this;exact ⟨A1,T,q1,q2,d,k⟩
theorem aqam {c:Option (Option O)} {o:O} (h:c.bind id=some o):c=some (some o):=by
 cases c with
 | none=>cases h
 | some c=>cases c with
  | none=>cases h
  | some o'=>cases h; rfl
theorem aqf1 {f:FM} {st:Stmt} (hp:PS X st (tDrop (tBM X.K "list" rAppend (tP X.K i S p) (tCons (tM X.K f) tNil)))):DS X st [] (bMut i S p f aqt5):=by
 refine PS.imp hp fun E σ H z=>?_;obtain ⟨β,F,ρ,o,r,hw,h,k⟩:=z;obtain ⟨q,hq,h⟩:=bind_some h;obtain ⟨c0,hc0,h⟩:=bind_some h;have hc0:=aqam hc0;obtain ⟨m0,ho0',h⟩:=bind_some h;split at h
 ·rename_i hm0
  obtain ⟨os0,rfl⟩:∃ os0,m0=.lst os0:=by cases m0 <;> first | exact ⟨_,rfl⟩ | cases hm0
  have ho0:=ho0';obtain ⟨rr,hf,h⟩:=bind_some h;obtain ⟨c1,hc1,h⟩:=bind_some h;obtain ⟨c',hc',rfl⟩:=map_some h;obtain ⟨m,m',g1,g2,g3⟩:=aV8 hc';have hc1:=aqam hc1;refine ⟨β,F,ρ,q,c0,.lst os0,r,hq,hc0,ho0,fun v0 v F1 H1 e0 s1 s2 r1 at1=>⟨?_,β,F1,ρ,rr,r1,hf,fun w F2 H2 sF sH rt=>?_⟩⟩
  ·obtain ⟨A,h1,_⟩:=r1.own
   obtain ⟨v0',e0',qq⟩:=h1 i c0 hc0;rw [e0] at e0'; cases e0';obtain ⟨v',Aa,Ab,a1,a2,a3⟩:=qq.focus ho0
   have:=at1.uniq r1.ext.fh a1
   subst this;cases a2 with
   | lst h0 _ _ _=>exact .inl ⟨rfl,_,SqL.of h0⟩
  ·obtain ⟨A1,T,q1,q2,d,fin⟩:=at_of rt hc1 g1 e0 sF sH at1
   unfold aqt5 at g2;split at g2
   ·rename_i os
    split at g2
    ·rename_i hlen
     cases g2;cases q1 with
     | lst h0 n0 rv hA =>
      rename_i a vs A';have nT:¬ T a:=d a ((hA a).mpr (.inl rfl));refine ⟨a,vs,w,rfl,rfl,h0,by rw [rv.length]; exact lt_of_lt_of_le hlen (avb (le_refl _)),?_⟩;refine k F2 _ σ (fin a _ (fun b=>b=a \/ (A' b \/ T b)) _ c' ((hA a).mpr (.inl rfl)) (fun b z=>?_) (.lst upd_same (A':=fun b=>A' b \/ T b) (fun z=>z.elim n0 nT) ?_ fun _=>Iff.rfl) g3)
      ·rcases z with z | z | z
       ·exact .inl ((hA b).mpr (.inl z))
       ·exact .inl ((hA b).mpr (.inr z))
       ·exact .inr z
      ·refine (rv.stay (Same.refl _) (H':=upd H2 a (.lst (vs++[w]))) fun b z=>upd_ne (by rintro rfl; exact n0 z)).append (.cons (q2.stay (Same.refl _) (H':=upd H2 a (.lst (vs++[w]))) fun b z=>upd_ne (by rintro rfl; exact nT z)) (.nil (A:=fun _=>False) fun _ z=>z) (fun _ _ z=>z) fun b=>⟨.inl,fun z=>z.elim id False.elim⟩) fun b z y=>?_
       exact d b ((hA b).mpr (.inr z)) y
    ·cases g2
   ·cases g2
 ·cases h
theorem aqpd {kx:FE} {f:FM} {st:Stmt} (hp:PS X st (tAsg (tM X.K f) (gSub (tP X.K i S p) (tD X.K kx) rSetL))):DS X st [] (bPut i S p kx f):=by
 refine PS.imp hp fun E σ H z=>?_;obtain ⟨β,F,ρ,o,r,hw,h,k⟩:=z;obtain ⟨rr,hf,ha⟩:=bind_some h;obtain ⟨q,hq,hb⟩:=bind_some ha;obtain ⟨dk,hdk,hc⟩:=bind_some hb;obtain ⟨c0,hc0',hd⟩:=bind_some hc;have hc0:=aqam hc0';clear h ha hb hc hc0';have h:=hd;clear hd;split at h
 ·rename_i j
  obtain ⟨c',hc',rfl⟩:=map_some h;obtain ⟨m,m',g1,g2,g3⟩:=aV8 hc';refine ⟨β,F,ρ,rr,r,hf,fun w F1 H1 _ _ rt=>?_⟩;obtain ⟨B',rs,back⟩:=rt.frame;refine ⟨_,F1,rr.2,q,c0,m,rs,hq,hc0,g1,fun v0 v F2 H2 e0 s1 s2 r2 at2=>?_⟩;obtain ⟨G,l,re,rz⟩:=r2.look S;refine ⟨G,frz S rr.2,_,l.gh,re,hdk,fun y F3 H3 e3 q3=>?_⟩;cases q3;have r3:=r2.back l e3;have rt3:=back _ H3 σ rr.2 (s1.trans axt) r3;obtain ⟨A1,T,q1,q2,d,fin⟩:=at_of rt3 hc0 g1 e0 (axt (F:=F2) (H:=H2) (F':=F3)) e3.hh at2;unfold gSetI at g2;split at g2
  ·rename_i os
   obtain ⟨n,hn,rfl⟩:=map_some g2;cases q1 with
   | lst h0 n0 rv hA =>
    rename_i a vs A';have nT:¬ T a:=d a ((hA a).mpr (.inl rfl));have hn':ixP vs.length j=some n:=by rw [rv.length]; exact hn
    have hlt:n < os.length:=aqoy hn;obtain ⟨w0,B1,B2,b1,b2,b3,b4,b5⟩:=rv.split (n:=n) (o:=os[n]) (getElem?_eq_getElem hlt);refine ⟨a,vs,j,n,rfl,rfl,h0,hn',?_⟩;have own':=b5 (awq F2 H2 F3) (upd H3 a (.lst (vs.set n w))) w rr.1 T (Same.refl _) (fun b z=>upd_ne (by rintro rfl; exact n0 ((b3 b).mpr (.inr z)))) (q2.stay (Same.refl _) fun b z=>upd_ne (by rintro rfl; exact nT z)) fun b z y=>d b ((hA b).mpr (.inr ((b3 b).mpr (.inr y)))) z;refine k (awq F2 H2 F3) _ σ (fin a _ (fun b=>b=a \/ (T b \/ B2 b)) _ c' ((hA a).mpr (.inl rfl)) (fun b z=>?_) (.lst upd_same (A':=fun b=>T b \/ B2 b) ?_ own' fun _=>Iff.rfl) g3)
    ·rcases z with z | z | z
     ·exact .inl ((hA b).mpr (.inl z))
     ·exact .inr z
     ·exact .inl ((hA b).mpr (.inr ((b3 b).mpr (.inr z))))
    ·rintro (z | z)
     ·exact nT z
     ·exact n0 ((b3 a).mpr (.inr z))
  ·cases g2
 ·cases h
end
end DL
namespace DL
open PySem PySem.Spec PyProof.Rows L2 PySem.SeqAt
theorem aqnh {g:Int->Int->Int} {x y d:D} (h:dI g x y=some d):∃ i j,x=.int i/\y=.int j/\d=.int (g i j):=by
 unfold dI at h;split at h
 ·cases h; exact ⟨_,_,rfl,rfl,rfl⟩
 ·cases h
theorem aqni {g:Int->Int->Bool} {x y d:D} (h:dB g x y=some d):∃ i j,x=.int i/\y=.int j/\d=.bl (g i j):=by
 unfold dB at h;split at h
 ·cases h; exact ⟨_,_,rfl,rfl,rfl⟩
 ·cases h
section
variable {K:Frag} {X:Cx}
theorem aqom {g:Int->Int->Int}:OpD K (rI0 fun i j=>.int (g i j)) (dI g):=by
 intro x y d F H v u Q h s rx ry k;obtain ⟨i,j,rfl,rfl,rfl⟩:=aqnh h;cases rx; cases ry;exact ⟨i,j,rfl,rfl,k _ F H (Ext.refl s) (.int _)⟩
theorem aqjg {g:Int->Int->Bool}:OpD K (rI0 fun i j=>.bl (g i j)) (dB g):=by
 intro x y d F H v u Q h s rx ry k;obtain ⟨i,j,rfl,rfl,rfl⟩:=aqni h;cases rx; cases ry;exact ⟨i,j,rfl,rfl,k _ F H (Ext.refl s) (.bl _)⟩
def rAddD:R2:=fun x y H Q=>(∃ i j,x=.int i/\y=.int j/\Q (.int (i + j)) H) \/ ∃ i j,x=.str i/\y=.str j/\i.length + j.length <= sizeLine/\Q (.str (i++j)) H
theorem avj:OpR X (binaryOp .Add) rAddD:=OpR.or op_add op_add_str
theorem avh:OpD K rAddD aqtl:=by
 intro x y d F H v u Q h s rx ry k;unfold aqtl at h;split at h
 ·cases h; cases rx; cases ry
  exact .inl ⟨_,_,rfl,rfl,k _ F H (Ext.refl s) (.int _)⟩
 ·split at h
  ·rename_i hl
   cases h; cases rx; cases ry;exact .inr ⟨_,_,rfl,rfl,avb hl,k _ F H (Ext.refl s) (.str _)⟩
  ·cases h
 ·cases h
theorem aZr:OpD K (rI0 fun i j=>.int (i - j)) dSub:=aqom
theorem aqe1:OpD K (rI0 fun i j=>.bl (decide (i < j))) dLt:=aqjg
theorem aqje:OpD K (rI0 fun i j=>.bl (decide (i <= j))) dLe:=aqjg
theorem aYa:OpD K (rI0 fun i j=>.bl (decide (j <= i))) dGe:=aqjg
theorem aqig {i:Int} (h:i.natAbs < BIG):Builtin.Int.intBits i <= 1000001:=by
 unfold BIG at h;exact Nat.le_succ_of_le (intBits_le_iff.mpr h)
theorem aWb {i:Int} (h:i.natAbs < SHORT):Builtin.Int.intBits i <= 64:=by
 unfold SHORT at h;exact Nat.le_succ_of_le (intBits_le_iff.mpr h)
theorem aqjt {i j:Int} (h:aqi0 i j):IntMulOk i j:=by
 rcases h with h | h | h
 ·exact IntMulOk.of_le (aqig h.1) (aqig h.2) (by decide)
 ·exact IntMulOk.of_left (aWb h)
 ·exact IntMulOk.of_right (aWb h)
theorem aM:OpR X (binaryOp .Mult) (rI aqi0 fun i j=>.int (i * j)) :=
 opI fun i j _ _ _ _ _ hc q=>mul_int q (aqjt hc)
theorem avi:OpR X (binaryOp .FloorDiv) (rI (fun i j=>j ≠ 0/\j.natAbs < BIGD) fun i j=>.int (i.fdiv j)) :=
 opI fun i j _ _ _ _ _ hc q=>floordiv_int hc.1 q (.inl (PyProof.noPylong_of_log2 (by
  have h:=hc.2;unfold BIGD at h
  by_cases hz:j.natAbs=0
  ·rw [hz]; decide
  ·exact (Nat.log2_lt hz).mpr h)))
theorem aL:OpD K (rI aqi0 fun i j=>.int (i * j)) aqte:=by
 intro x y d F H v u Q h s rx ry k;unfold aqte at h;split at h
 ·split at h
  ·rename_i hc
   cases h; cases rx; cases ry;exact ⟨_,_,rfl,rfl,hc,k _ F H (Ext.refl s) (.int _)⟩
  ·cases h
 ·cases h
theorem avg:OpD K (rI (fun i j=>j ≠ 0/\j.natAbs < BIGD) fun i j=>.int (i.fdiv j)) aqti:=by
 intro x y d F H v u Q h s rx ry k;unfold aqti at h;split at h
 ·split at h
  ·rename_i hc
   cases h; cases rx; cases ry;exact ⟨_,_,rfl,rfl,hc,k _ F H (Ext.refl s) (.int _)⟩
  ·cases h
 ·cases h
theorem ax0:OpD K (rI (fun _ j=>j ≠ 0) fun i j=>.int (i.fmod j)) aqtf:=by
 intro x y d F H v u Q h s rx ry k;unfold aqtf at h;split at h
 ·split at h
  ·rename_i hc
   cases h; cases rx; cases ry;exact ⟨_,_,rfl,rfl,hc,k _ F H (Ext.refl s) (.int _)⟩
  ·cases h
 ·cases h
theorem aqe0:OpD K (rI CPow fun i j=>.int (i ^ j.toNat)) dPow:=by
 intro x y d F H v u Q h s rx ry k;unfold dPow at h;split at h
 ·split at h
  ·rename_i hc
   cases h; cases rx; cases ry;exact ⟨_,_,rfl,rfl,⟨hc.1,by omega,by omega⟩,k _ F H (Ext.refl s) (.int _)⟩
  ·cases h
 ·cases h
theorem aqhl:UnD K (rU fun i=>.int (-i)) dNeg:=by
 intro x d F H v Q h s rx k;unfold dNeg at h;split at h
 ·cases h; cases rx
  exact ⟨_,rfl,k _ F H (Ext.refl s) (.int _)⟩
 ·cases h
mutual
def toP:D->PyData
 | .non=>.none
 | .bl b=>.bool b
 | .int i=>.int i
 | .str x=>.str x
 | .lst ds=>.list (aqsd ds)
 | .tup ds=>.tuple (aqsd ds)
def aqsd:List D->List PyData
 | []=>[]
 | d :: ds=>toP d :: aqsd ds
end
mutual
theorem aqi5:∀ {n:Nat} {d:D},shp n d=true->(toP d).canLay0=true/\(toP d).depth <= n
 | n,.non,_=>by simp [toP,PyData.canLay0,PyData.depth]
 | n,.bl _,_=>by simp [toP,PyData.canLay0,PyData.depth]
 | n,.int _,_=>by simp [toP,PyData.canLay0,PyData.depth]
 | n,.str x,h=>by
  refine ⟨?_,by simp [toP,PyData.depth]⟩;unfold shp at h;simpa [toP,PyData.canLay0,PyData.strOk] using h
 | 0,.lst _,h=>by simp [shp] at h
 | n + 1,.lst xs,h=>by
  obtain ⟨h1,h2⟩:=akw (n:=n) (ds:=xs) (by simpa [shp] using h);exact ⟨by simpa [toP,PyData.canLay0] using h1,by simpa [toP,PyData.depth] using h2⟩
 | 0,.tup _,h=>by simp [shp] at h
 | n + 1,.tup xs,h=>by
  obtain ⟨h1,h2⟩:=akw (n:=n) (ds:=xs) (by simpa [shp] using h);exact ⟨by simpa [toP,PyData.canLay0] using h1,by simpa [toP,PyData.depth] using h2⟩
theorem akw:∀ {n:Nat} {ds:List D},aqsg n ds=true->PyData.canLayAll0 (aqsd ds)=true/\PyData.depthAll (aqsd ds) <= n
 | n,[],_=>by simp [aqsd,PyData.canLayAll0,PyData.depthAll]
 | n,d :: ds,h=>by
  have h':shp n d=true/\aqsg n ds=true:=by simpa [aqsg] using h
  obtain ⟨a1,a2⟩:=aqi5 h'.1;obtain ⟨b1,b2⟩:=akw h'.2;exact ⟨by simp [aqsd,PyData.canLayAll0,a1,b1],by simp [aqsd,PyData.depthAll]; omega⟩
end
theorem aqz {d:D} (h:shp 20 d=true):SeqAt.shaped (toP d)=true:=by
 obtain ⟨h1,h2⟩:=aqi5 h;unfold SeqAt.shaped;simp [h1]; omega
mutual
theorem aqbh:∀ {n m:Nat} {x y:D},shp n x=true->shp m y=true->PyData.eqv (toP x) (toP y)=eqD x y
 | n,m,x,y,hx,hy=>by
  cases x with
  | lst xs =>
   cases y with
   | lst ys =>
    cases n with
    | zero=>simp [shp] at hx
    | succ n=>cases m with
     | zero=>simp [shp] at hy
     | succ m =>
      simp only [toP,PyData.eqv,eqD];exact aY3 (n:=n) (m:=m) (by simpa [shp] using hx) (by simpa [shp] using hy)
   | _=>simp [toP,PyData.eqv,eqD]
  | tup xs =>
   cases y with
   | tup ys =>
    cases n with
    | zero=>simp [shp] at hx
    | succ n=>cases m with
     | zero=>simp [shp] at hy
     | succ m =>
      simp only [toP,PyData.eqv,eqD];exact aY3 (n:=n) (m:=m) (by simpa [shp] using hx) (by simpa [shp] using hy)
   | _=>simp [toP,PyData.eqv,eqD]
  | _ =>
   cases y with
   | _=>simp [toP,PyData.eqv,eqD]
theorem aY3:∀ {n m:Nat} {xs ys:List D},aqsg n xs=true->aqsg m ys=true->PyData.eqvAll (aqsd xs) (aqsd ys)=aqtb xs ys
 | n,m,[],[],_,_=>by simp [aqsd,PyData.eqvAll,aqtb]
 | n,m,[],_ :: _,_,_=>by simp [aqsd,PyData.eqvAll,aqtb]
 | n,m,_ :: _,[],_,_=>by simp [aqsd,PyData.eqvAll,aqtb]
 | n,m,x :: xs,y :: ys,hx,hy=>by
  have hx':shp n x=true/\aqsg n xs=true:=by simpa [aqsg] using hx
  have hy':shp m y=true/\aqsg m ys=true:=by simpa [aqsg] using hy
  simp only [aqsd,PyData.eqvAll,aqtb];rw [aqbh hx'.1 hy'.1,aY3 hx'.2 hy'.2]
end
def rEqD (K:Frag) (neg:Bool):R2:=fun x y H Q=>∃ F dx dy,Same F H/\Rep K F x dx/\Rep K F y dy/\shp 20 dx=true/\shp 20 dy=true/\Q (.bl (if neg=true then !eqD dx dy else eqD dx dy)) H
variable {pins:List (Addr × Obj)} {σ:L2.St} {H F:Hp} {s:Shared}
theorem aqas (I:Inv X pins σ H s) (e:Same F H):(∀ {v:V} {d:D},Rep X.K F v d->∀ {n:Nat},shp n d=true->∀ {u:Value},RelV v u->∃ as,Reads s.heap u (toP d) as)/\∀ {vs:List V} {ds:List D},Reps X.K F vs ds->∀ {n:Nat},aqsg n ds=true->∀ {us:List Value},Vals vs us->∃ as,ReadsAll s.heap us (aqsd ds) as:=by
 refine ⟨@Rep.rec X.K F (fun v d _=>∀ {n:Nat},shp n d=true->∀ {u:Value},RelV v u->∃ as,Reads s.heap u (toP d) as) (fun v d _=>∀ {n:Nat},aqsg n d=true->∀ {us:List Value},Vals v us->∃ as,ReadsAll s.heap us (aqsd d) as) ?n ?b ?i ?s ?l ?t ?m ?c,@Reps.rec X.K F (fun v d _=>∀ {n:Nat},shp n d=true->∀ {u:Value},RelV v u->∃ as,Reads s.heap u (toP d) as) (fun v d _=>∀ {n:Nat},aqsg n d=true->∀ {us:List Value},Vals v us->∃ as,ReadsAll s.heap us (aqsd d) as) ?n ?b ?i ?s ?l ?t ?m ?c⟩
 case n=>intro n _ u r; cases r; exact ⟨_,.none⟩
 case b=>intro b n _ u r; cases r; exact ⟨_,.bool b⟩
 case i=>intro i n _ u r; obtain ⟨t,rfl⟩:=r; exact ⟨_,.int i t⟩
 case s=>intro x n _ u r; obtain ⟨t,rfl⟩:=r; exact ⟨_,.str x t⟩
 case l =>
  intro a vs ds h q ih n hs u r;cases n with
  | zero=>simp [shp] at hs
  | succ n =>
   cases r;obtain ⟨its,_,rv,h1,_⟩:=Inv.listE I (aqsh e h);obtain ⟨as,z⟩:=ih (n:=n) (by simpa [shp] using hs) rv;exact ⟨_,.list h1 rfl rfl (by simpa using z)⟩
 case t =>
  intro a vs ds h q ih n hs u r;cases n with
  | zero=>simp [shp] at hs
  | succ n =>
   cases r;obtain ⟨its,rv,⟨o,h1,h2,_,h3⟩,_⟩:=I.tuple (seqT e h);obtain ⟨as,z⟩:=ih (n:=n) (by simpa [shp] using hs) rv;exact ⟨_,.tuple h1 h2 h3 (by simpa using z)⟩
 case m=>intro n _ us r; cases r; exact ⟨_,.nil⟩
 case c =>
  intro v d vs ds h q ih it n hs us r;cases r with
  | cons r1 r2 =>
   have hs':shp n d=true/\aqsg n ds=true:=by simpa [aqsg] using hs
   obtain ⟨as,z⟩:=ih hs'.1 r1;obtain ⟨bs,z2⟩:=it hs'.2 r2;exact ⟨_,.cons z z2⟩
theorem Rep.reads (I:Inv X pins σ H s) (e:Same F H) {v:V} {d:D} {n:Nat} (h:Rep X.K F v d) (hs:shp n d=true) {u:Value} (r:RelV v u):∃ as,Reads s.heap u (toP d) as:=(aqas I e).1 h hs r
theorem Reps.reads (I:Inv X pins σ H s) (e:Same F H) {vs:List V} {ds:List D} {n:Nat} (h:Reps X.K F vs ds) (hs:aqsg n ds=true) {us:List Value} (r:Vals vs us):∃ as,ReadsAll s.heap us (aqsd ds) as:=(aqas I e).2 h hs r
theorem akg (hu:X.A.units + 64 < cLine):OpR X (compareOp .Eq) (rEqD X.K false):=by
 intro pins s σ H x y v u Q I rx ry h;obtain ⟨F,dx,dy,e,r1,r2,h1,h2,q⟩:=h;obtain ⟨as,z1⟩:=r1.reads I e h1 rx;obtain ⟨bs,z2⟩:=r2.reads I e h2 ry;exact eq_dataH z1 z2 (aqz h1) (aqz h2) hu (by rw [aqbh h1 h2]; exact ⟨.bl _,H,I,rfl,q⟩)
theorem aqgh (hu:X.A.units + 64 < cLine):OpR X (compareOp .NotEq) (rEqD X.K true):=by
 intro pins s σ H x y v u Q I rx ry h;obtain ⟨F,dx,dy,e,r1,r2,h1,h2,q⟩:=h;obtain ⟨as,z1⟩:=r1.reads I e h1 rx;obtain ⟨bs,z2⟩:=r2.reads I e h2 ry;exact ne_dataH z1 z2 (aqz h1) (aqz h2) hu (by rw [aqbh h1 h2]; exact ⟨.bl _,H,I,rfl,q⟩)
theorem akf:OpD K (rEqD K false) dEq:=by
 intro x y d F H v u Q h s rx ry k;unfold dEq at h;split at h
 ·rename_i hc
  cases h;exact ⟨F,x,y,s,rx,ry,hc.1,hc.2,k _ F H (Ext.refl s) (.bl _)⟩
 ·cases h
theorem aqgg:OpD K (rEqD K true) dNe:=by
 intro x y d F H v u Q h s rx ry k;unfold dNe at h;split at h
 ·rename_i hc
  cases h;exact ⟨F,x,y,s,rx,ry,hc.1,hc.2,k _ F H (Ext.refl s) (.bl _)⟩
 ·cases h
theorem aX1 {n m:Nat} {x:D} (hx:shp n x=true):∀ {ds:List D},aqsg m ds=true->(aqsd ds).any (fun y=>PyData.eqv y (toP x))=ds.any fun y=>eqD y x
 | [],_=>by simp [aqsd]
 | d :: ds,h=>by
  have h':shp m d=true/\aqsg m ds=true:=by simpa [aqsg] using h
  simp only [aqsd,List.any_cons];rw [aqbh h'.1 hx,aX1 hx h'.2]
def rInD (K:Frag) (neg:Bool):R2:=fun x y H Q=>∃ F dx ds b,Same F H/\Rep K F x dx/\Rep K F y (if b=true then .tup ds else .lst ds)/\shp 20 dx=true/\shp 20 (if b=true then D.tup ds else .lst ds)=true/\Q (.bl (if neg=true then !(ds.any fun y=>eqD y dx) else ds.any fun y=>eqD y dx)) H
theorem aYb (hu:X.A.units + 64 + 1 < cLine):OpR X (compareOp .In) (rInD X.K false):=by
 intro pins s σ H x y v u Q I rx ry h;obtain ⟨F,dx,ds,b,e,r1,r2,h1,h2,q⟩:=h;obtain ⟨as,z1⟩:=r1.reads I e h1 rx;obtain ⟨bs,z2⟩:=r2.reads I e h2 ry;cases b with
 | false =>
  have h2':aqsg 19 ds=true:=by simpa [shp] using h2
  have z2':Reads s.heap u (.list (aqsd ds)) bs:=by simpa [toP] using z2
  exact in_list_reads z2' z1 (akw h2').1 (SeqAt.canLay_of_shaped (aqz h1)) (room_in_shaped (aqz h1) (by omega)) (by rw [aX1 h1 h2']; exact ⟨.bl _,H,I,rfl,q⟩)
 | true =>
  have h2':aqsg 19 ds=true:=by simpa [shp] using h2
  have z2':Reads s.heap u (.tuple (aqsd ds)) bs:=by simpa [toP] using z2
  exact in_tuple_reads z2' z1 (akw h2').1 (SeqAt.canLay_of_shaped (aqz h1)) (room_in_shaped (aqz h1) (by omega)) (by rw [aX1 h1 h2']; exact ⟨.bl _,H,I,rfl,q⟩)
theorem aJf (hu:X.A.units + 64 + 1 < cLine):OpR X (compareOp .NotIn) (rInD X.K true):=by
 intro pins s σ H x y v u Q I rx ry h;obtain ⟨F,dx,ds,b,e,r1,r2,h1,h2,q⟩:=h;obtain ⟨as,z1⟩:=r1.reads I e h1 rx;obtain ⟨bs,z2⟩:=r2.reads I e h2 ry;cases b with
 | false =>
  have h2':aqsg 19 ds=true:=by simpa [shp] using h2
  have z2':Reads s.heap u (.list (aqsd ds)) bs:=by simpa [toP] using z2
  exact notIn_list_reads z2' z1 (akw h2').1 (SeqAt.canLay_of_shaped (aqz h1)) (room_in_shaped (aqz h1) (by omega)) (by rw [aX1 h1 h2']; exact ⟨.bl _,H,I,rfl,q⟩)
 | true =>
  have h2':aqsg 19 ds=true:=by simpa [shp] using h2
  have z2':Reads s.heap u (.tuple (aqsd ds)) bs:=by simpa [toP] using z2
  exact notIn_tuple_reads z2' z1 (akw h2').1 (SeqAt.canLay_of_shaped (aqz h1)) (room_in_shaped (aqz h1) (by omega)) (by rw [aX1 h1 h2']; exact ⟨.bl _,H,I,rfl,q⟩)
theorem aW9:OpD K (rInD K false) dIn:=by
 intro x y d F H v u Q h s rx ry k;unfold dIn at h;split at h
 ·split at h
  ·rename_i hc
   cases h;exact ⟨F,_,_,false,s,rx,ry,hc.1,hc.2,k _ F H (Ext.refl s) (.bl _)⟩
  ·cases h
 ·split at h
  ·rename_i hc
   cases h;exact ⟨F,_,_,true,s,rx,ry,hc.1,hc.2,k _ F H (Ext.refl s) (.bl _)⟩
  ·cases h
 ·cases h
theorem aJe:OpD K (rInD K true) aQ8:=by
 intro x y d F H v u Q h s rx ry k;unfold aQ8 at h;split at h
 ·split at h
  ·rename_i hc
   cases h;exact ⟨F,_,_,false,s,rx,ry,hc.1,hc.2,k _ F H (Ext.refl s) (.bl _)⟩
  ·cases h
 ·split at h
  ·rename_i hc
   cases h;exact ⟨F,_,_,true,s,rx,ry,hc.1,hc.2,k _ F H (Ext.refl s) (.bl _)⟩
  ·cases h
 ·cases h
def rIsB:R2:=fun x y H Q=>(∃ a b,x=.bl a/\y=.bl b/\Q (.bl (a == b)) H) \/ (y=.non/\Q (.bl (decide (x=.non))) H)
def rIsNB:R2:=fun x y H Q=>(∃ a b,x=.bl a/\y=.bl b/\Q (.bl (a != b)) H) \/ (y=.non/\Q (.bl (!decide (x=.non))) H)
theorem aqjh:OpR X (compareOp .Is) rIsB:=by
 intro pins s σ H x y v u Q I rx ry h;rcases h with ⟨a,b,rfl,rfl,q⟩ | h
 ·cases rx; cases ry
  exact is_bool ⟨.bl _,H,I,rfl,q⟩
 ·exact op_isN pins s σ H x y v u Q I rx ry h
theorem aQv:OpR X (compareOp .IsNot) rIsNB:=by
 intro pins s σ H x y v u Q I rx ry h;rcases h with ⟨a,b,rfl,rfl,q⟩ | h
 ·cases rx; cases ry
  exact isnot_bool ⟨.bl _,H,I,rfl,q⟩
 ·exact op_notN pins s σ H x y v u Q I rx ry h
theorem aqhr {v:V} {d:D} (r:Rep K F v d):decide (v=.non)=(match d with | .non=>true | _=>false):=by
 cases r <;> simp
theorem aqjf:OpD K rIsB dIs:=by
 intro x y d F H v u Q h s rx ry k;unfold dIs at h;split at h
 ·cases h; cases rx; cases ry
  exact .inl ⟨_,_,rfl,rfl,k _ F H (Ext.refl s) (.bl _)⟩
 ·cases ry
  refine .inr ⟨rfl,?_⟩;rw [aqhr rx];split at h
  ·cases h; exact k _ F H (Ext.refl s) (.bl _)
  ·rename_i hx
   cases h;cases x with
   | non=>exact absurd rfl hx
   | _=>exact k _ F H (Ext.refl s) (.bl _)
 ·cases h
theorem aQu:OpD K rIsNB aqth:=by
 intro x y d F H v u Q h s rx ry k;unfold aqth at h;split at h
 ·cases h; cases rx; cases ry
  exact .inl ⟨_,_,rfl,rfl,k _ F H (Ext.refl s) (.bl _)⟩
 ·cases ry
  refine .inr ⟨rfl,?_⟩;rw [aqhr rx];split at h
  ·cases h; exact k _ F H (Ext.refl s) (.bl _)
  ·rename_i hx
   cases h;cases x with
   | non=>exact absurd rfl hx
   | _=>exact k _ F H (Ext.refl s) (.bl _)
 ·cases h
def rIxD (K:Frag):R2:=fun x y H Q=>rIxL K x y H Q \/ rIxT K x y H Q
theorem ix_D:IxR X (rIxD X.K):=ix_list.or ix_tup
theorem aqij {vs:List V} {ds:List D} {i:Int} {d:D} (r:Reps K F vs ds) (h:atP ds i=some d):∃ v,atI vs i=some v/\Rep K F v d:=by
 rw [aqpq] at h;unfold atI at h ⊢;rw [r.length];obtain ⟨j,h1,h2⟩:=bind_some h;obtain ⟨v,h3,h4⟩:=r.getD h2;exact ⟨v,by rw [h1]; exact h3,h4⟩
theorem aqol:OpD K (rIxD K) dIx:=by
 intro x y d F H v u Q h s rx ry k;unfold dIx at h;split at h
 ·cases rx with
  | lst q r =>
   cases ry;obtain ⟨w,h1,h2⟩:=aqij r h;exact .inl ⟨_,_,_,w,rfl,rfl,(aqsh s q).l,h1,k w F H (Ext.refl s) h2⟩
 ·cases rx with
  | tup q r =>
   cases ry;obtain ⟨w,h1,h2⟩:=aqij r h;exact .inr ⟨_,_,_,w,rfl,rfl,seqT s q,h1,k w F H (Ext.refl s) h2⟩
 ·cases h
theorem aqw {a b:Expr} {pos:Pos} {fa fb:FE} (ha:DE X a fa) (hb:DE X b fb) (hs:PlainIx b):DE X (.Subscript a b pos) (f2 dIx fa fb) :=
 PE.imp (pe_ix ix_D ha hb hs) fun _ _ _ q=>d_op aqol q
section
variable {a b c:Expr} {pos:Pos} {op op':CmpOp} {r r':R2} {g g':D->D->Option D} {fa fb fc:FE}
end
theorem aH:aqlg K (fun xs H Q=>∃ p ys,xs=[.ref p]/\(SqL K H p ys \/ SqT K H p ys)/\Q (.int ys.length) H) aqtg:=by
 intro ds d F H vs Q h s r k;unfold aqtg at h;split at h
 ·cases h
  cases r with | cons r r' =>
  cases r';cases r with | lst q t=>exact ⟨_,_,rfl,.inl (aqsh s q).l,k _ F H (Ext.refl s) (by rw [t.length]; exact .int _)⟩
 ·cases h
  cases r with | cons r r' =>
  cases r';cases r with | tup q t=>exact ⟨_,_,rfl,.inr (seqT s q),k _ F H (Ext.refl s) (by rw [t.length]; exact .int _)⟩
 ·cases h
theorem aqbt:aqlg K (fun xs H Q=>∃ i,xs=[.int i]/\Q (.int (if i < 0 then -i else i)) H) dAbs:=by
 intro ds d F H vs Q h s r k;unfold dAbs at h;split at h
 ·cases h
  cases r with | cons r r' =>
  cases r'; cases r;exact ⟨_,rfl,k _ F H (Ext.refl s) (.int _)⟩
 ·cases h
theorem aqf8:aqlg K (fun xs H Q=>∃ i j,xs=[.int i,.int j]/\Q (.int (if j < i then j else i)) H) aqng:=by
 intro ds d F H vs Q h s r k;unfold aqng at h;split at h
 ·cases h
  cases r with | cons r r' =>
  cases r' with | cons r2 r' =>
  cases r'; cases r; cases r2;exact ⟨_,_,rfl,k _ F H (Ext.refl s) (.int _)⟩
 ·cases h
theorem ajb:CallO K (fun xs H Q=>∃ p ys,xs=[.ref p]/\(SqL K H p ys \/ SqT K H p ys)/\∀ l,H l=none->Q (.ref l) (upd H l (.lst ys))) aZd:=by
 intro ds es F H vs Q h s r k;unfold aZd at h;split at h
 ·cases h
  cases r with | cons r r' =>
  cases r';cases r with | lst q t=>exact ⟨_,_,rfl,.inl (aqsh s q).l,fun l hl=>k l _ F _ (Ext.laidH s hl) upd_same (s.free hl) hl t⟩
 ·cases h
  cases r with | cons r r' =>
  cases r';cases r with | tup q t=>exact ⟨_,_,rfl,.inr (seqT s q),fun l hl=>k l _ F _ (Ext.laidH s hl) upd_same (s.free hl) hl t⟩
 ·cases h
def rCatE (K:Frag):R2:=fun x y H Q=>∃ l b xs zs,x=.ref l/\y=.ref b/\SqE K H l xs/\SqE K H b zs/\xs.length + zs.length <= sizeLine/\∀ p,H p=none->Q (.ref p) (upd H p (.lst (xs++zs)))
theorem aqb0:OpR X (binaryOp .Add) (rCatE X.K):=by
 intro pins s σ H x y v u Q I rx ry h;obtain ⟨l,b,xs,zs,rfl,rfl,hH,hB,hz,q⟩:=h;cases rx;cases ry;obtain ⟨its,n,r,e,z⟩:=Inv.listE I hH;obtain ⟨its2,n2,r2,e2,z2⟩:=Inv.listE I hB;have hl:=r.length;have hl2:=r2.length;refine PySem.P.add_list e e2 ?_ (by rw [size_toArray,size_toArray]; omega);have ea:its.toArray++its2.toArray=(its++its2).toArray:=by simp
 rw [ea];exact ⟨.ref _,_,I.lnew (t':=s.toks) (r.append r2) (by rw [length_append]; omega),rfl,q _ I.fresh⟩
theorem aqaz:OpO K (rCatE K) aqtj:=by
 intro x y es F H v u Q h s rx ry k;unfold aqtj at h;split at h
 ·split at h
  ·rename_i hl
   cases h;cases rx with
   | lst q1 t1 =>
    cases ry with
    | lst q2 t2=>exact ⟨_,_,_,_,rfl,rfl,aqsh s q1,aqsh s q2,by rw [t1.length,t2.length]; exact avb hl,fun p hp=>k p _ F _ (Ext.laidH s hp) upd_same (s.free hp) hp (t1.append t2)⟩
  ·cases h
 ·cases h
theorem aqls (n d:Nat) (o:Option Int):slI n d o=HT.sIx n d o:=by
 cases o <;> rfl
theorem aqph (vs:List V) (lo hi:Option Int):cutV vs lo hi=aqtm vs lo hi:=by
 unfold cutV aqtm;rw [aqls,aqls]
theorem Reps.cut {vs:List V} {ds:List D} (r:Reps K F vs ds) (lo hi:Option Int):Reps K F (aqtm vs lo hi) (aqtm ds lo hi):=by
 unfold aqtm;rw [r.length];exact (r.drop _).take _
def tPt (K:Frag) (f:FPt):TO:=fun σ H Q=>∃ F ρ o,Same F H/\RE K F σ ρ/\f ρ=some o/\∀ F' H',Ext F H F' H'->Q o H'
def DPt (X:Cx) (e:Option Expr) (f:FPt):Prop:=PO X e (tPt X.K f)
theorem PO.imp {e:Option Expr} {t t':TO} (h:PO X e t) (i:∀ σ H Q,t' σ H Q->t σ H Q):PO X e t':=fun pins s σ H Q I q=>h pins s σ H Q I (i σ H Q q)
theorem aVx:DPt X none ptN:=by
 refine PO.imp po_none fun σ H Q q=>?_;obtain ⟨F,ρ,o,s,re,hf,k⟩:=q;cases hf;exact k F H (Ext.refl s)
theorem aQg {e:Expr} {f:FE} (h:DE X e f):DPt X (some e) (ptE f):=by
 refine PO.imp (po_some h) fun σ H Q q=>?_;obtain ⟨F,ρ,o,s,re,hf,k⟩:=q;obtain ⟨d,hd,hf⟩:=bind_some hf;refine ⟨F,ρ,d,s,re,hd,fun v F' H' e r=>?_⟩;split at hf
 ·cases hf
  cases r;exact ⟨_,rfl,k F' H' e⟩
 ·cases hf
theorem aqna {e:Expr} {lo hi:Option Expr} {f:FE} {l h:FPt} {p2 pos:Pos} (he:DE X e f) (hl:DPt X lo l) (hh:DPt X hi h):DO X (.Subscript e (.Slice lo hi none p2) pos) (oSl f l h):=by
 refine PE.imp (pe_slice sl_list he hl hh) fun σ H Q q=>?_;obtain ⟨F,ρ,o,s,re,hf,k⟩:=q;obtain ⟨d,hd,hf⟩:=bind_some hf;obtain ⟨lo',hlo,hf⟩:=bind_some hf;obtain ⟨hi',hhi,hf⟩:=bind_some hf;refine ⟨F,ρ,d,s,re,hd,fun v F1 H1 e1 r1=>⟨F1,ρ,lo',e1.fh,re.mono e1.ff,hlo,fun F2 H2 e2=>⟨F2,ρ,hi',e2.fh,re.mono (e1.trans e2).ff,hhi,fun F3 H3 e3=>?_⟩⟩⟩;rw [aV2] at hf;split at hf
 ·cases hf
  have e13:=(e1.trans e2).trans e3;cases r1.mono (e2.trans e3).ff with
  | lst q t=>exact ⟨_,_,rfl,(aqsh e3.fh q).l,fun p hp=>k (.ref p) F3 _ _ (e13.trans (Ext.laidH e3.fh hp)) (aW7 (by rw [upd_same,aqph]) (t.cut lo' hi')) fun b z=>by subst z; exact ⟨e3.fh.free hp,e13.hh.free hp⟩⟩
 ·cases hf
def kitB (T:String):Prop:=∀ (K:Frag) (d:D),PySem.W.kitOne K (.type (tyD d)) (.type T)=some (isT d T)
theorem aql1 {T:String} (hT:kitB T):CallR X (.builtin "isinstance") (fun xs H Q=>∃ v d F,xs=[v,.ty T]/\Same F H/\Rep X.K F v d/\Q (.bl (isT d T)) H):=by
 intro pins s σ H xs us Q I r h;obtain ⟨v,d,F,rfl,sm,rp,q⟩:=h;cases r with
 | cons r1 r =>
  cases r with
  | cons r2 r =>
   cases r;obtain rfl:=(show _=Value.type T from r2);have fin:∀ tk,EP X pins σ Q (.bool (isT d T)) { s with toks:=tk }:=fun tk=>⟨.bl _,H,I.tok tk,rfl,q⟩;have e:=hT X.K d;cases rp with
   | non=>cases r1; exact PySem.W.kia_one PySem.W.kitx_none I.kIn True.intro e (fun z=>nomatch z) fin
   | bl b=>cases r1; exact PySem.W.kia_one PySem.W.kitx_bool I.kIn True.intro e (fun z=>nomatch z) fin
   | int i=>obtain ⟨t,rfl⟩:=r1; exact PySem.W.kia_one PySem.W.kitx_int I.kIn True.intro e (fun z=>nomatch z) fin
   | str x=>obtain ⟨t,rfl⟩:=r1; exact PySem.W.kia_one PySem.W.kitx_str I.kIn True.intro e (fun z=>nomatch z) fin
   | lst h t =>
    cases r1;obtain ⟨its,n,rv,h1,_⟩:=Inv.listE I (aqsh sm h);exact PySem.W.kia_one PySem.W.kitx_list I.kIn ⟨_,h1,rfl⟩ e (fun z=>nomatch z) fin
   | tup h t =>
    cases r1;obtain ⟨its,rv,⟨o,h1,h2,n,h3⟩,_⟩:=I.tuple (seqT sm h);exact PySem.W.kia_one PySem.W.kitx_tuple I.kIn ⟨o,h1,h2⟩ e (fun z=>nomatch z) fin
theorem aqcm {T:String} {x:Str} {a:Expr} {f:FE} {p p2 pos:Pos} (hT:kitB T) (hg:Gl X "isinstance") (hm:X.mg "isinstance"=none) (hg2:Gl X x) (hm2:X.mg x=none) (hv:bootBuiltins x=some (.type T)) (ha:DE X a f)
  (hn2:x ≠ "__name__":=by decide) (hd2:(x == ("__debug__":Str))=false:=by decide)
  (hs:starEach [a,.Name x p2] X.env=(false,eval a X.env) :: starEach [.Name x p2] X.env:=by rfl) (hs2:starEach [.Name x p2] X.env=(false,eval (.Name x p2) X.env) :: starEach [] X.env:=by rfl)
  (hpl:(backTo pos (starEach [.Name x p2] X.env)).any (·.1)=false:=by rfl) :
  DE X (.Call (.Name "isinstance" p) [a,.Name x p2] [] pos) (fIsi T f):=by
 have h2:PE X (.Name x p2) (tC (.ty T)):=pe_bltn hg2 hm2 hv rfl hn2 hd2;refine PE.imp (pe_callB (aql1 hT) hg hm (by decide +kernel) (pa_cons ha (pa_cons h2 pa_nil hs2) hs) (by decide) (by decide) hs hpl) fun σ H Q q=>?_;obtain ⟨F,ρ,d,s,re,hf,k⟩:=q;obtain ⟨d',hd,hf⟩:=bind_some hf;refine ⟨F,ρ,d',s,re,hd,fun v F1 H1 e1 r1=>⟨v,d',F1,rfl,e1.fh,r1,?_⟩⟩
 ·have:d=.bl (isT d' T):=by cases hf; rfl
  subst this;exact k _ F1 H1 e1 (.bl _)
end
theorem aqmv:kitB "int":=fun K d=>by cases d <;> exact rfl
theorem aqk4:kitB "bool":=fun K d=>by cases d <;> exact rfl
theorem aqef:kitB "list":=fun K d=>by cases d <;> exact rfl
theorem aqb7:kitB "tuple":=fun K d=>by cases d <;> exact rfl
end DL
set_option maxHeartbeats 2000000
namespace DL
open PySem PySem.Spec PyProof.Rows L2
theorem aqa1 {prog:Program} {w:World} {A:Around} {R:Result->Shared->Prop} {s:Shared} {elt target iter:Expr} {ifs:List Expr} {scope:Scope} {pos:Pos} {it acc:Value} {env:Env} (I:Nat->Shared->Prop)
  (turn:∀ n s,I n s->wpAny (model prog w) A (pyNext it) (fun r s₁=>match r with
   | none=>R (.ok .next) s₁
   | some v=>wpAny (model prog w) A (letOwnedTupleGo target it v) (fun _ s₀=>wpAny (model prog w) A (assign target env v) (fun _ s₂ =>
     wpAny (model prog w) A (forIn ifs true fun c r=>if r=true then do let ok <- isTrue c env (eval c env); pure (ForInStep.yield ok) else pure (ForInStep.yield r)) (fun ok s₃ =>
      if ok=true then wpAny (model prog w) A (eval elt env) (fun x s₄ =>
       wpAny (model prog w) A (call (.builtin "list.append") [acc,x]) (fun _ s₅=>∃ m,m < n/\I m s₅) (fun _ _=>False) s₄) (fun _ _=>False) s₃
      else ∃ m,m < n/\I m s₃) (fun _ _=>False) s₂) (fun _ _=>False) s₀) (fun _ _=>False) s₁) (fun _ _=>False) s)
  (n:Nat) (h:I n s) :
  codeAny (model prog w) A (.compLoop (.ListComp elt [⟨target,iter,ifs,0⟩] scope pos) 0 it acc env) R s:=by
 refine codeAny_loop rfl I (fun n s hI=>?_) n h;show wpAny _ A ((compTurn (.ListComp elt [⟨target,iter,ifs,0⟩] scope pos) 0 it acc env).onRaise (fun x=>do noteFrame x env; theTreesLotGoes x)) _ _ s;refine wpAny_noted (wpAny_mono (E:=fun _ _=>False) ?_ (fun _ _ q=>q) fun _ _ z=>z.elim);rw [compTurn_list];refine wpAny_bind (wpAny_standAt (wpAny_bind (wpAny_mono (turn n s hI) (fun r s₁ h₁=>?_) fun _ _ h'=>h')));cases r with
 | none=>exact wpAny_pure h₁
 | some v =>
  refine wpAny_bind (wpAny_mono h₁ (fun _ s₀ h₀=>?_) fun _ _ h'=>h');refine wpAny_bind (wpAny_mono h₀ (fun _ s₂ h₂=>wpAny_bind (wpAny_mono h₂ (fun ok s₃ h₃=>?_) fun _ _ h'=>h')) fun _ _ h'=>h');cases ok with
  | false=>exact wpAny_pure ⟨rfl,h₃⟩
  | true =>
   exact wpAny_bind (wpAny_bind (wpAny_mono h₃ (fun x s₄ h₄=>wpAny_bind (wpAny_mono h₄ (fun _ s₅ h₅=>wpAny_pure (wpAny_pure ⟨rfl,h₅⟩)) fun _ _ h'=>h')) fun _ _ h'=>h'))
def ajh (X:Cx) (N':List Str) (scope:Scope) (cl:List (Str × Addr)) (C:Addr) (s₀:Shared) (H₀:Hp) (ex:List Addr) (pn:List (Addr × Obj)):Cx :=
 { X with N:=N',s₀:=s₀,H₀:=H₀,env:=compEnvC scope cl C X.env,outer:=X.stack,stack:=X.stack,ex:=ex,fn:=fun _=>false,pn:=pn,xe:=fun _ _=>False }
def ak7 (X:Cx) (scope:Scope) (cl:List (Str × Addr)):List (Option Nat)->List Str->Prop
 | [],[]=>True
 | none :: js,_ :: N=>ak7 X scope cl js N
 | some j :: js,x :: N=>(X.N[j]?=some x/\(X.env.kindOf x=some .cell \/ X.env.kindOf x=some .free)/\cl.lookup x=X.env.cells.lookup x/\((relabel scope X.env).names.lookup x=some .cell \/ (relabel scope X.env).names.lookup x=some .free))/\ak7 X scope cl js N
 | _,_=>False
def mkS {α:Type} (js:List (Option Nat)) (σ:List (Option α)):List (Option α):=js.map fun o=>o.bind fun j=>(σ[j]?).bind id
theorem ak7.len {X:Cx} {scope:Scope} {cl:List (Str × Addr)}:∀ {js:List (Option Nat)} {N:List Str},ak7 X scope cl js N->js.length=N.length
 | [],[],_=>rfl
 | none :: js,_ :: N,h=>by simp [ak7.len (js:=js) (N:=N) h]
 | some j :: js,x :: N,h=>by simp [ak7.len h.2]
 | [],_ :: _,h=>h.elim
 | none :: _,[],h=>h.elim
 | some _ :: _,[],h=>h.elim
theorem ak7.get {X:Cx} {scope:Scope} {cl:List (Str × Addr)}:∀ {js:List (Option Nat)} {N:List Str} {i j:Nat} {x:Str},ak7 X scope cl js N->js[i]?=some (some j)->N[i]?=some x ->
  X.N[j]?=some x/\(X.env.kindOf x=some .cell \/ X.env.kindOf x=some .free)/\cl.lookup x=X.env.cells.lookup x/\((relabel scope X.env).names.lookup x=some .cell \/ (relabel scope X.env).names.lookup x=some .free)
 | [],_,_,_,_,_,h,_=>by simp at h
 | none :: js,_ :: N,0,_,_,_,h,_=>by simp at h
 | none :: js,_ :: N,i + 1,_,_,f,h,h'=>ak7.get (js:=js) (N:=N) (i:=i) f (by simpa using h) (by simpa using h')
 | some j :: js,x :: N,0,_,_,f,h,h'=>by simp at h h'; subst h h'; exact f.1
 | some j :: js,x :: N,i + 1,_,_,f,h,h'=>ak7.get (js:=js) (N:=N) (i:=i) f.2 (by simpa using h) (by simpa using h')
 | none :: _,[],_,_,_,f,_,_=>f.elim
 | some _ :: _,[],_,_,_,f,_,_=>f.elim
def aqiu (wi:TI) (g:TG) (tc:TT) (te:TE) (js:List (Option Nat)):TE:=fun σ H Q=>wi σ H fun J H1=>∀ l,H1 l=none->∃ W:Nat->Nat->St->Hp->Prop,(∃ m,W 0 m (mkS js σ) (upd H1 l (.lst [])))/\∀ i m σ H,W i m σ H ->
 (J.stop i H/\Q (.ref l) H) \/ (J.go i H/\∀ x H',J.yld i H x H'->g x σ H' fun σ2 H2=>tc σ2 H2 fun b H3 =>
  if b=true then te σ2 H3 fun y H4=>∃ acc,H4 l=some (.lst acc)/\acc.length < sizeLine/\∃ m',m' < m/\W (i + 1) m' σ2 (upd H4 l (.lst (acc++[y]))) else ∃ m',m' < m/\W (i + 1) m' σ2 H3)
def PIfs (X:Cx) (ifs:List Expr) (t:TT):Prop:=(ifs=[]/\∀ σ H Q,t σ H Q->Q true H) \/ ∃ c,ifs=[c]/\PT X c t
theorem aK5 {X:Cx} {pins:List (Addr × Obj)} {σ:St} {H2:Hp} {s2:Shared} {E:Value->Shared->Prop} {elt target iter:Expr} {ifs:List Expr} {scope:Scope} {pos:Pos} {cl:List (Str × Addr)} {N':List Str} {js:List (Option Nat)}
  {g:TG} {tc:TT} {te:TE} {it:Addr} {fp:List Addr} {tn:Nat->Heap->Prop} {J:It} {RR:Value->Addr->Result->Shared->Prop} {Q:VK}
  (hc:X.calm=true) (hfr:ak7 X scope cl js N') (hcl:∀ x c,cl.lookup x=some c->X.env.cells.lookup x=some c)
  (hhas:∀ x,((relabel scope X.env).names.lookup x=some .cell \/ (relabel scope X.env).names.lookup x=some .free)->∃ c,cl.lookup x=some c)
  (hcell:∀ y∈scope.names,y.2 ≠ .cell) (hkind:scope.kind=.function)
  (hg:∀ C s₀ H₀ ex pn,PG (ajh X N' scope cl C s₀ H₀ ex pn) target g) (ht:∀ C s₀ H₀ ex pn,PIfs (ajh X N' scope cl C s₀ H₀ ex pn) ifs tc) (he:∀ C s₀ H₀ ex pn,PE (ajh X N' scope cl C s₀ H₀ ex pn) elt te)
  (I2:Inv X pins σ H2 s2) (T:Turn X.prog X.w X.K target J fp it tn) (st2:tn 0 s2.heap) (f2:∀ b∈fp,FpOk X pins H2 b)
  (h:∀ l,H2 l=none->∃ W:Nat->Nat->St->Hp->Prop,(∃ m,W 0 m (mkS js σ) (upd H2 l (.lst [])))/\∀ i m σ H,W i m σ H ->
   (J.stop i H/\Q (.ref l) H) \/ (J.go i H/\∀ x H',J.yld i H x H'->g x σ H' fun σ2 H2=>tc σ2 H2 fun b H3 =>
    if b=true then te σ2 H3 fun y H4=>∃ acc,H4 l=some (.lst acc)/\acc.length < sizeLine/\∃ m',m' < m/\W (i + 1) m' σ2 (upd H4 l (.lst (acc++[y]))) else ∃ m',m' < m/\W (i + 1) m' σ2 H3))
  (hRR:∀ D C s' H' m',Inv X pins σ H' s'->s'.heap.Ns C m'->H' C=none->s2.heap.objs.size <= C->Q (.ref D) H'->RR (.ref D) C (.ok .next) s') :
  wpAny (model X.prog X.w) X.A (newList []) (fun acc s₃=>wpAny (model X.prog X.w) X.A (newFunctionEnv scope X.env.globals cl [] X.env.qual none .none (some X.env)) (fun cenv s₄ =>
   codeAny (model X.prog X.w) X.A (.compStart (.ListComp elt [⟨target,iter,ifs,0⟩] scope pos) 0 (.ref it) acc { cenv with scope:=relabel scope X.env }) (RR acc cenv.locals) s₄) E s₃) E s2:=by
 refine wpAny_newObj_type (wpAny_newFunctionEnv hcell (by intro y hy; simp at hy) (fun h₁ hns₁ hsb₁=>?_) hkind);dsimp only at hns₁ hsb₁ ⊢;generalize hS3:({ s2 with heap:=s2.heap.push { cls:=.type "list",dict:=none,data:=.seq ([]:List Value).toArray } }:Shared)=s3;have hH3:s3.heap=s2.heap.push { cls:=.type "list",dict:=none,data:=.seq ([]:List Value).toArray }:=by rw [<- hS3]
 rw [<- hH3] at hns₁ hsb₁ ⊢;have hC:s3.heap.objs.size=s2.heap.objs.size + 1:=by rw [hH3,Heap.size_push]
 have hDn:H2 s2.heap.objs.size=none:=I2.hok.fresh (le_refl _);obtain ⟨W,⟨m0,w0⟩,turn⟩:=h s2.heap.objs.size hDn;have old3:∀ b o,s3.heap.get? b=some o->h₁.get? b=some o:=fun b o e=>hsb₁.extBut b o (ne_of_lt (Heap.lt_size e)) (Heap.get?_push_of_some _ e);have old2:∀ b o,s2.heap.get? b=some o->s3.heap.get? b=some o:=fun b o e=>by rw [hH3]; exact Heap.get?_push_of_some _ e
 have I3:Inv X pins σ (upd H2 s2.heap.objs.size (.lst [])) s3:=by rw [<- hS3]; exact I2.lnew (its:=[]) (ys:=[]) (t':=s2.toks) .nil (zero_le _)
 have blk:∀ tk,Inv (ajh X N' scope cl s3.heap.objs.size s3 (upd H2 s2.heap.objs.size (.lst [])) fp (X.pn++pins)) [] (mkS js σ) (upd H2 s2.heap.objs.size (.lst [])) { s3 with heap:=h₁,toks:=tk }:=fun tk=>by
  have hCn:(upd H2 s2.heap.objs.size (.lst [])) s3.heap.objs.size=none:=I3.hok.fresh (le_refl _);have cellOld:∀ x c,cl.lookup x=some c->∃ v,s3.heap.IsCell c v:=fun x c e=>I3.cell x c (hcl x c e);have fsSub:∀ b∈frs X.stack,b ≠ s3.heap.objs.size:=fun b hb e=>by
   rcases List.mem_cons.mp (I3.stkSub b hb) with z | z
   ·exact absurd I3.lt (by rw [<- z,e]; exact lt_irrefl _)
   ·exact I3.nofs (le_refl _) (e ▸ z)
  refine ⟨⟨I3.ok.mod,hkind,I3.ok.glob,I3.ok.blt,le_refl _,fun x y c h1 h2=>I3.ok.inj x y c (hcl x c h1) (hcl y c h2),fun x hx=>hhas x hx,fun x c hf _=>absurd hf (by simp [ajh]),I3.ok.hd,I3.ok.frames,.inl rfl,fun b hb=>⟨?_,fun x c e z=>?_⟩,
   I3.bs,le_trans I3.ok.bsz I3.sz,fun b o e hb=>?_,fun b hb hb2=>?_,I3.stack,I3.stkFree⟩,rfl,I3.bare,Un.kept old3,⟨_,hns₁,fun i x v h1 h2 h3=>?_⟩,fun x c e=>?_,hCn,fun x c e=>?_,fun p hp=>?_,I3.hok.kept old3,?_⟩
  ·
   obtain ⟨o,ho,_⟩:=T.obj 0 _ st2 b hb;intro z;exact absurd (Heap.lt_size (old2 b o ho)) (by rw [z]; exact lt_irrefl _)
  ·obtain ⟨_,_,_,_,f5,_⟩:=f2 b hb
   exact f5 x c (hcl x c e) z
  ·
   have q:=(I2.bs b o e);obtain ⟨_,_,_,f4,_,_⟩:=f2 b hb;rcases f4 with z | z
   ·exact I2.ok.noex b o e z
   ·exact absurd (lt_of_lt_of_le (Heap.lt_size (I2.ok.bs b o e).1) z) (lt_irrefl _)
  ·obtain ⟨_,f1,f3,_⟩:=f2 b hb
   rcases List.mem_cons.mp (I3.stkSub b hb2) with z | z
   ·exact f1 z
   ·exact f3 z
  ·
   have hj:∃ j,js[i]?=some (some j)/\σ[j]?=some (some v):=by
    unfold mkS at h2;rw [getElem?_map] at h2;cases q:js[i]? with
    | none=>rw [q] at h2; cases h2
    | some oj =>
     rw [q] at h2;cases oj with
     | none=>simp at h2
     | some j =>
      refine ⟨j,rfl,?_⟩;cases z:σ[j]? with
      | none=>simp [z] at h2
      | some ov=>simp [z] at h2; rw [h2]
   obtain ⟨j,hj,hv⟩:=hj;obtain ⟨g1,g2,g3,g4⟩:=hfr.get hj (show N'[i]?=some x from h1);obtain ⟨m,hn,hl⟩:=I3.loc;have vis:Vis X.env.scope x:=by
    rcases g2 with z | z
    ·exact .inr (.inl z)
    ·exact .inr (.inr z)
   obtain ⟨u,r,lk⟩:=hl j x v g1 hv vis;refine ⟨u,r,?_⟩;rcases lk with ⟨kl,_⟩ | ⟨_,c,e,z⟩
   ·rcases g2 with z | z
    ·rw [z] at kl; cases kl
    ·rw [z] at kl; cases kl
   ·obtain ⟨o,ho,hd⟩:=z
    exact .inr ⟨g4,c,g3.trans e,o,old3 c o ho,hd⟩
  ·obtain ⟨v,o,ho,hd⟩:=cellOld x c e
   exact ⟨v,o,old3 c o ho,hd⟩
  ·exact I3.freeC x c (hcl x c e)
  ·have hp':p∈X.pn++pins:=by
    have:p∈(X.pn++pins)++[]:=hp
    simpa using this
   obtain ⟨e,n,ne,nf,d⟩:=I3.pin p hp';refine ⟨old3 _ _ e,n,ne_of_lt (Heap.lt_size e),fun hb=>?_,d⟩;rcases List.mem_cons.mp (I3.stkSub _ hb) with z | z
   ·exact ne z
   ·exact nf z
  ·show (mkS js σ).length=N'.length
   rw [<- hfr.len]; simp [mkS]
 have fpX:∀ {H':Hp} {ps:List (Addr × Obj)},(∀ b∈fp,H' b=none)->(∀ p∈ps,∀ b∈fp,p.1 ≠ b)->∀ b∈fp,FpOk (ajh X N' scope cl s3.heap.objs.size s3 (upd H2 s2.heap.objs.size (.lst [])) fp (X.pn++pins)) ps H' b:=fun {H' ps} hn hps b hb=>by
  obtain ⟨_,f1,f3,f4,f5,f6⟩:=f2 b hb;obtain ⟨o,ho,_⟩:=T.obj 0 _ st2 b hb;refine ⟨hn b hb,fun z=>absurd (Heap.lt_size (old2 b o ho)) (by rw [z]; exact lt_irrefl _),fun hb2=>?_,.inl hb,fun x c e=>f5 x c (hcl x c e),fun p hp=>?_⟩
  ·rcases List.mem_cons.mp (I3.stkSub b hb2) with z | z
   ·exact f1 z
   ·exact f3 z
  ·have hp':p∈(X.pn++pins)++ps:=hp
   rcases List.mem_append.mp hp' with z | z
   ·exact f6 p z
   ·exact hps p z b hb
 have st4:tn 0 h₁:=T.keep 0 _ _ st2 fun b _ o e=>old3 b o (old2 b o e);have fr4:∀ b∈fp,(upd H2 s2.heap.objs.size (.lst [])) b=none:=fun b hb=>by
  obtain ⟨o,ho,_⟩:=T.obj 0 _ st2 b hb;rw [upd_ne (ne_of_lt (Heap.lt_size ho))];exact (f2 b hb).1
 have loop:∀ s4:Shared,s4.heap=h₁->Inv (ajh X N' scope cl s3.heap.objs.size s3 (upd H2 s2.heap.objs.size (.lst [])) fp (X.pn++pins)) [] (mkS js σ) (upd H2 s2.heap.objs.size (.lst [])) s4 ->
   codeAny (model X.prog X.w) X.A (.compLoop (.ListComp elt [⟨target,iter,ifs,0⟩] scope pos) 0 (.ref it) (.ref s2.heap.objs.size) (compEnvC scope cl s3.heap.objs.size X.env)) (RR (.ref s2.heap.objs.size) s3.heap.objs.size) s4:=by
  intro s4 e4 I4;refine aqa1 (fun n s'=>∃ i σ' H',Inv (ajh X N' scope cl s3.heap.objs.size s3 (upd H2 s2.heap.objs.size (.lst [])) fp (X.pn++pins)) [] σ' H' s'/\tn i s'.heap/\(∀ b∈fp,H' b=none)/\W i n σ' H') ?_ m0
   ⟨0,_,_,I4,by rw [e4]; exact st4,fr4,w0⟩
  rintro n s5 ⟨i,σ5,H5,I5,st5,fr5,w5⟩;rcases turn i n σ5 H5 w5 with ⟨stop,q⟩ | ⟨go,step⟩
  ·refine thn (T.done (ajh X N' scope cl s3.heap.objs.size s3 (upd H2 s2.heap.objs.size (.lst [])) fp (X.pn++pins)) rfl rfl rfl hc i [] s5 _ H5 _ I5 (fpX fr5 (by simp)) st5 stop) fun r s6 hQ=>?_
   obtain ⟨hr,I6⟩:=hQ;subst hr;have un:Un (frs X.stack) fp H2 H5 s2.heap s6.heap:=by
    have u:=I6.base;refine ⟨fun b o e n hb hx=>u.keep b o (old2 b o e) (by show upd H2 _ _ b=none; rw [upd_ne (ne_of_lt (Heap.lt_size e))]; exact n) hb hx,fun b o e n hb hx=>u.slot b o (old2 b o e) (by show upd H2 _ _ b=none; rw [upd_ne (ne_of_lt (Heap.lt_size e))]; exact n) hb hx,
     fun b o e n hx=>u.free b o (old2 b o e) (by show upd H2 _ _ b=none; rw [upd_ne (ne_of_lt (Heap.lt_size e))]; exact n) hx,fun b o e hx=>u.there b o (old2 b o e) hx,fun b xs e=>u.tups b xs (by show upd H2 _ _ b=_; rw [upd_ne (ne_of_none e hDn)]; exact e),
     fun b o u' e=>u.frzs b o u' (by show upd H2 _ _ b=_; rw [upd_ne (ne_of_none e hDn)]; exact e),fun b ps e=>u.tbls b ps (by show upd H2 _ _ b=_; rw [upd_ne (ne_of_none e hDn)]; exact e)⟩
   have os:s6.os=s2.os:=by rw [I6.os]; show s3.os=s2.os; rw [<- hS3]
   have Iout:Inv X pins σ H5 s6:=I2.call' (ch:=fp) os un I6.hok I6.bare fun b hb=>by
    obtain ⟨_,f1,_,f4,f5,f6⟩:=f2 b hb;exact ⟨f4,f1,f5,f6⟩
   obtain ⟨m',hn',_⟩:=I6.loc;exact hRR _ _ s6 H5 m' Iout hn' I6.free (by rw [hC]; exact le_succ _) q
  ·refine thn (T.item (ajh X N' scope cl s3.heap.objs.size s3 (upd H2 s2.heap.objs.size (.lst [])) fp (X.pn++pins)) rfl rfl rfl hc i [] s5 _ H5 _ I5 (fpX fr5 (by simp)) st5 go) fun r s6 hQ=>?_
   obtain ⟨u,hr,h6⟩:=hQ;subst hr;refine thn h6 fun _ s7 hQ=>?_;obtain ⟨x,H7,I7,r7,y7,st7,fr7⟩:=hQ;have I7':=I7.pinned (fpX fr7 (by simp)) (T.obj _ _ st7);have keepT:∀ {σ':St} {H':Hp} {s':Shared},Inv (ajh X N' scope cl s3.heap.objs.size s3 (upd H2 s2.heap.objs.size (.lst [])) fp (X.pn++pins)) ([]++pinsAt fp s7.heap) σ' H' s'->tn (i + 1) s'.heap/\∀ b∈fp,H' b=none:=fun {σ' H' s'} I'=>by
    refine ⟨T.keep _ _ _ st7 fun b hb o e=>(I'.pin (b,o) (mem_append_right _ (mem_append_right _ (mem_pinsAt hb e)))).1,fun b hb=>?_⟩;obtain ⟨o,e,d⟩:=T.obj _ _ st7 b hb;exact (I'.pin (b,o) (mem_append_right _ (mem_append_right _ (mem_pinsAt hb e)))).2.1
   have again:∀ {σ':St} {H':Hp} {s':Shared},Inv (ajh X N' scope cl s3.heap.objs.size s3 (upd H2 s2.heap.objs.size (.lst [])) fp (X.pn++pins)) ([]++pinsAt fp s7.heap) σ' H' s'->(∃ m',m' < n/\W (i + 1) m' σ' H') ->
     ∃ m,m < n/\∃ i σ' H',Inv (ajh X N' scope cl s3.heap.objs.size s3 (upd H2 s2.heap.objs.size (.lst [])) fp (X.pn++pins)) [] σ' H' s'/\tn i s'.heap/\(∀ b∈fp,H' b=none)/\W i m σ' H':=fun {σ' H' s'} I' ⟨m',hm,w'⟩=>by
    obtain ⟨k1,k2⟩:=keepT I';exact ⟨m',hm,i + 1,σ',H',I'.unpinned,k1,k2,w'⟩
   refine thn (hg _ _ _ _ _ _ s7 σ5 H7 x u _ I7' r7 (step x H7 y7)) fun _ s8 hQ=>?_;obtain ⟨σ8,H8,I8,q8⟩:=hQ;have test:wpAny (model X.prog X.w) X.A (forIn ifs true fun c r=>if r=true then do let ok <- isTrue c (compEnvC scope cl s3.heap.objs.size X.env) (eval c (compEnvC scope cl s3.heap.objs.size X.env)); pure (ForInStep.yield ok) else pure (ForInStep.yield r))
     (fun ok s9=>∃ H9,Inv (ajh X N' scope cl s3.heap.objs.size s3 (upd H2 s2.heap.objs.size (.lst [])) fp (X.pn++pins)) ([]++pinsAt fp s7.heap) σ8 H9 s9/\(if ok=true then te σ8 H9 fun y H4=>∃ acc,H4 s2.heap.objs.size=some (.lst acc)/\acc.length < sizeLine/\∃ m',m' < n/\W (i + 1) m' σ8 (upd H4 s2.heap.objs.size (.lst (acc++[y]))) else ∃ m',m' < n/\W (i + 1) m' σ8 H9)) (fun _ _=>False) s8:=by
    rcases ht s3.heap.objs.size s3 (upd H2 s2.heap.objs.size (.lst [])) fp (X.pn++pins) with ⟨e1,e2⟩ | ⟨c,e1,e2⟩
    ·subst e1
     exact wpAny_tests_nil ⟨H8,I8,e2 _ _ _ q8⟩
    ·subst e1
     exact wpAny_tests_one (e2 _ s8 σ8 H8 _ I8 q8)
   refine thn test fun ok s9 hQ=>?_;obtain ⟨H9,I9,q9⟩:=hQ;cases ok with
   | false =>
    rw [if_neg Bool.false_ne_true] at q9 ⊢;exact again I9 q9
   | true =>
    rw [if_pos rfl] at q9 ⊢;refine thn (he _ _ _ _ _ _ s9 σ8 H9 _ I9 q9) fun y s10 hQ=>?_;obtain ⟨yv,H10,I10,r10,acc,a1,a2,a3⟩:=hQ;refine thn (mt_append (X:=ajh X N' scope cl s3.heap.objs.size s3 (upd H2 s2.heap.objs.size (.lst [])) fp (X.pn++pins)) _ s10 σ8 H10 (.ref s2.heap.objs.size) [yv] (.ref s2.heap.objs.size) [y] (fun _ H'=>∃ m',m' < n/\W (i + 1) m' σ8 H') I10 rfl (.cons r10 .nil) ⟨_,acc,yv,rfl,rfl,a1,a2,a3⟩) fun _ s11 hQ=>?_;obtain ⟨_,H11,I11,_,q11⟩:=hQ;exact again I11 q11
 have e4:∀ tk,({ s2 with heap:=h₁,toks:=tk }:Shared)={ s3 with heap:=h₁,toks:=tk }:=fun tk=>by rw [<- hS3]
 exact codeAny_compStart_list (loop _ rfl (by rw [e4]; exact blk _)) (T.self _ 0 _ _ _ st4 (loop _ rfl (by rw [e4]; exact blk _)))
theorem Inv.letgo {X:Cx} {pins:List (Addr × Obj)} {σ:St} {H2 H':Hp} {s2 s':Shared} {C:Addr} {h':Heap} (I2:Inv X pins σ H2 s2) {σ':St} (I:Inv X pins σ' H' s') (hn:H' C=none) (hC:s2.heap.objs.size <= C) (hs:Heap.SameBut C s'.heap h'):Inv X pins σ' H' { s' with heap:=h' } :=
 I.turned (t':=s'.toks) (fun b o hb e=>hs.extBut b o hb e) hn (ne_of_gt (lt_of_lt_of_le I2.lt hC)) (.inr (le_trans I2.sz hC)) (fun x c e z=>by
  obtain ⟨v,q⟩:=I2.cell x c e;exact absurd (lt_of_lt_of_le q.lt (by rw [z]; exact hC)) (lt_irrefl _)) (fun p hp z=>absurd (lt_of_lt_of_le (Heap.lt_size (I2.pin p hp).1) (by rw [z]; exact hC)) (lt_irrefl _))
section
variable {X:Cx} {elt target iter:Expr} {ifs:List Expr} {scope:Scope} {pos:Pos} {cl:List (Str × Addr)} {N':List Str} {js:List (Option Nat)} {wi:TI} {g:TG} {tc:TT} {te:TE}
theorem aqma (hc:X.calm=true) (hi:PI X target iter wi) (hclos:closureFor scope X.env=pure cl) (hfr:ak7 X scope cl js N') (hcl:∀ x c,cl.lookup x=some c->X.env.cells.lookup x=some c)
  (hhas:∀ x,((relabel scope X.env).names.lookup x=some .cell \/ (relabel scope X.env).names.lookup x=some .free)->∃ c,cl.lookup x=some c)
  (hcell:∀ y∈scope.names,y.2 ≠ .cell) (hkind:scope.kind=.function) (hnames:∀ x∈scope.names,x.2=.local->scope.names.lookup x.1=some .local)
  (hg:∀ C s₀ H₀ ex pn,PG (ajh X N' scope cl C s₀ H₀ ex pn) target g) (ht:∀ C s₀ H₀ ex pn,PIfs (ajh X N' scope cl C s₀ H₀ ex pn) ifs tc) (he:∀ C s₀ H₀ ex pn,PE (ajh X N' scope cl C s₀ H₀ ex pn) elt te)
  (hs:∀ x,foldedSetIterable iter X.env x=pure x:=by intro _; rfl) :
  PE X (.ListComp elt [⟨target,iter,ifs,0⟩] scope pos) (aqiu wi g tc te js):=by
 intro pins s σ H Q I h;rw [eval_ListComp];refine wpAny_comprehension_free (use:=none) rfl hs hclos hkind hnames (thn (hi pins s σ H _ I h) fun v s1 h1=>thn h1 fun itv s2 h2=>?_);obtain ⟨it,fp,tn,J,H2,rfl,I2,T,st2,f2,q⟩:=h2;refine aK5 (RR:=fun acc C=>compPost (model X.prog X.w) X.A X.xe none (EP X pins σ Q) acc C) hc hfr hcl hhas hcell hkind hg ht he I2 T st2 f2 q ?_;intro D C s' H' m' I' hn hC hle q';exact ⟨m',hn,fun h' hs'=>⟨.ref D,H',Inv.letgo I2 I' hC hle hs',rfl,q'⟩⟩
theorem aqm6 {i:Nat} {y:Str} {py spos:Pos} (hN:X.N.Nodup) (hi':X.N[i]?=some y) (hy:X.env.scope.names.lookup y=some .local)
  (hsw:swapsWith (.ListComp elt [⟨target,iter,ifs,0⟩] scope pos) (some (.Name y py)) spos.line X.env=pure true)
  (hc:X.calm=true) (hi:PI X target iter wi) (hclos:closureFor scope X.env=pure cl) (hfr:ak7 X scope cl js N') (hcl:∀ x c,cl.lookup x=some c->X.env.cells.lookup x=some c)
  (hhas:∀ x,((relabel scope X.env).names.lookup x=some .cell \/ (relabel scope X.env).names.lookup x=some .free)->∃ c,cl.lookup x=some c)
  (hcell:∀ y∈scope.names,y.2 ≠ .cell) (hkind:scope.kind=.function) (hnames:∀ x∈scope.names,x.2=.local->scope.names.lookup x.1=some .local)
  (hg:∀ C s₀ H₀ ex pn,PG (ajh X N' scope cl C s₀ H₀ ex pn) target g) (ht:∀ C s₀ H₀ ex pn,PIfs (ajh X N' scope cl C s₀ H₀ ex pn) ifs tc) (he:∀ C s₀ H₀ ex pn,PE (ajh X N' scope cl C s₀ H₀ ex pn) elt te)
  (hs:∀ x,foldedSetIterable iter X.env x=pure x:=by intro _; rfl) :
  PS X (.Assign [.Name y py] (.ListComp elt [⟨target,iter,ifs,0⟩] scope pos) spos) (tAsg (aqiu wi g tc te js) (gName i)):=by
 intro pins s σ H E I h;rw [exec_Assign_Name_used _ _ _ _ hsw];refine wpAny_bind (wpAny_standAt (wpAny_bind ?_));show wpAny _ X.A (do let _ <- comprehension (.ListComp elt [⟨target,iter,ifs,0⟩] scope pos) scope X.env _ (newList []) false (eval iter X.env) (some (assign (.Name y py) X.env))) _ _ s;refine wpAny_bind (wpAny_mono (wpAny_comprehension_free (use:=some (assign (.Name y py) X.env)) (Q:=fun _ s'=>SP X pins E .next s') rfl hs hclos hkind hnames
  (thn (hi pins s σ H _ I h) fun v s1 h1=>thn h1 fun itv s2 h2=>?_)) (fun _ s' hq=>wpAny_pure (wpAny_pure hq)) fun _ _ e=>e)
 obtain ⟨it,fp,tn,J,H2,rfl,I2,T,st2,f2,q⟩:=h2;refine aK5 (RR:=fun acc C=>compPost (model X.prog X.w) X.A X.xe (some (assign (.Name y py) X.env)) (fun _ s'=>SP X pins E .next s') acc C) (Q:=fun x H1=>gName i x σ H1 E.nx) hc hfr hcl hhas hcell hkind hg ht he I2 T st2 f2 q ?_;intro D C s' H' m' I' hn hC hle q';show wpAny _ X.A (assign (.Name y py) X.env (.ref D)) _ _ _;refine wpAny_assign_Name (store_ok2 I' hN hi' (.inl hy) (v:=.ref D) rfl (fun s'' I'' hQ=>?_) (.inr hy));obtain ⟨a,hsb,ha⟩:=hQ;have hCa:C ≠ a:=by
  rintro rfl;rcases ha with z | z
  ·exact absurd (lt_of_lt_of_le I2.lt (by rw [<- z]; exact hle)) (lt_irrefl _)
  ·obtain ⟨v,q⟩:=I2.cell _ _ z
   exact absurd (lt_of_lt_of_le q.lt hle) (lt_irrefl _)
 exact ⟨m',hn.sameBut hsb hCa,fun h' hs'=>⟨_,H',Inv.letgo I2 I'' hC hle hs',q'⟩⟩
end
def tGE (K:Frag) (g:GE):TG:=fun v σ H Q=>∃ F ρ d ρ',Same F H/\RE K F σ ρ/\ρ.length=σ.length/\Rep K F v d/\g d ρ=some ρ'/\∀ σ',RE K F σ' ρ'->ρ'.length=σ'.length->Q σ' H
def tGEs (K:Frag) (g:List D->aqu7->Option aqu7):TGs:=fun vs σ H Q=>∃ F ρ ds ρ',Same F H/\RE K F σ ρ/\ρ.length=σ.length/\Reps K F vs ds/\g ds ρ=some ρ'/\∀ σ',RE K F σ' ρ'->ρ'.length=σ'.length->Q σ' H
def DGE (X:Cx) (tg:Expr) (g:GE):Prop:=PG X tg (tGE X.K g)
def DGEs (X:Cx) (ts:List Expr) (gs:List GE):Prop:=PGs X ts (tGEs X.K (geT gs))
section
variable {X:Cx} {pos:Pos}
theorem am (i:Nat) {tg:Expr} (h:PG X tg (gName i)):DGE X tg (geN i):=by
 refine PG.imp h fun v σ H Q q=>?_;obtain ⟨F,ρ,d,ρ',s,re,hl,q,h,k⟩:=q;cases h;refine k _ (fun j d' h=>?_) (by simpa using hl);rcases aqbe h with ⟨rfl,e,hl'⟩ | ⟨ne,h⟩
 ·cases e
  exact ⟨v,getElem?_set_self (by rw [<- hl]; exact hl'),q⟩
 ·rw [getElem?_set_ne (Ne.symm ne)]
  exact re j d' h
theorem aqi8:∀ {gs:List GE} {ds:List D} {ρ ρ':aqu7},geT gs ds ρ=some ρ'->ds.length=gs.length
 | [],[],_,_,_=>rfl
 | g :: gs,d :: ds,ρ,ρ',h=>by
  obtain ⟨r1,_,h2⟩:=bind_some h;simp [aqi8 h2]
 | [],_ :: _,_,_,h=>by simp [geT] at h
 | _ :: _,[],_,_,h=>by simp [geT] at h
theorem aky:DGEs X [] []:=by
 intro pins s σ H vs us Q I rv q;refine pgs_nil pins s σ H vs us Q I rv ?_;obtain ⟨F,ρ,ds,ρ',s,re,hl,q,h,k⟩:=q;cases q with
 | nil=>cases h; exact ⟨rfl,k _ re hl⟩
 | cons=>cases h
theorem aqk {t:Expr} {ts:List Expr} {g:GE} {gs:List GE} (h1:DGE X t g) (h2:DGEs X ts gs)
  (hs:(assignEach (t :: ts) X.env).map (·.2)=assign t X.env :: (assignEach ts X.env).map (·.2):=by rfl):DGEs X (t :: ts) (g :: gs):=by
 intro pins s σ H vs us Q I rv q;refine pgs_cons h1 h2 hs pins s σ H vs us Q I rv ?_;obtain ⟨F,ρ,ds,ρ',s,re,hl,q,h,k⟩:=q;cases q with
 | nil=>cases h
 | cons q1 q2 =>
  obtain ⟨ρ1,h1,h2⟩:=bind_some h;exact ⟨_,_,rfl,F,ρ,_,ρ1,s,re,hl,q1,h1,fun σ' re' hl'=>⟨F,ρ1,_,ρ',s,re',hl',q2,h2,k⟩⟩
theorem aXn {ts:List Expr} {gs:List GE} {kk:Nat} (hc:X.calm=true) (h:DGEs X ts gs) (hn:(assignEach ts X.env).length=gs.length:=by rfl) (hst:(assignEach ts X.env).findIdx? (·.1)=none:=by rfl):DGE X (.Tuple ts kk pos) (aqt4 gs):=by
 refine PG.imp (pg_tup hc h hn hst) fun v σ H Q q=>?_;obtain ⟨F,ρ,d,ρ',s,re,hl,q,h,k⟩:=q;unfold aqt4 at h;split at h
 ·rename_i ds
  cases q with
  | tup q t=>exact ⟨_,_,rfl,seqT s q,by rw [t.length]; exact aqi8 h,F,ρ,ds,ρ',s,re,hl,t,h,k⟩
 ·cases h
end
theorem re_mk {K:Frag} {F F1:Hp} {σ:L2.St} {ρ:aqu7} {js:List (Option Nat)} (re:RE K F σ ρ) (e1:Same F F1):RE K F1 (mkS js σ) (mkD js ρ):=fun i d h=>by
 unfold mkD at h;rw [getElem?_map] at h;cases q:js[i]? with
 | none=>rw [q] at h; cases h
 | some oj =>
  rw [q] at h;cases oj with
  | none=>simp at h
  | some j =>
   have hj:ρ[j]?=some (some d):=by
    cases z:ρ[j]? with
    | none=>simp [z] at h
    | some od=>cases od with
     | none=>simp [z] at h
     | some d'=>simp [z] at h; rw [h]
   obtain ⟨v,h1,h2⟩:=re j d hj;refine ⟨v,?_,h2.mono e1⟩;unfold mkS;rw [getElem?_map,q];simp [h1]
structure CI (K:Frag) (F1 H1 F H:Hp) (σ:L2.St) (ρ:aqu7) (l:Addr) (done:List O):Prop where
 ext:Ext F1 H1 F H
 re:RE K F σ ρ
 len:ρ.length=σ.length
 fl:F l=none
 hl:∃ acc A,H l=some (.lst acc)/\Owns K F H acc done A/\∀ b,A b->F b=none/\H1 b=none/\b ≠ l
theorem CI.more {K:Frag} {F1 H1 F H F' H':Hp} {σ:L2.St} {ρ:aqu7} {l:Addr} {done:List O} (c:CI K F1 H1 F H σ ρ l done) (e:Ext F H F' H'):CI K F1 H1 F' H' σ ρ l done:=by
 obtain ⟨acc,A,h1,h2,h3⟩:=c.hl;have keep:∀ b,F b=none->(∃ u,H b=some u)->F' b=none:=fun b hf ⟨u,hu⟩=>by
  cases z:F' b with
  | none=>rfl
  | some o =>
   rcases e.nw b o z with y | y
   ·rw [hf] at y; cases y
   ·rw [hu] at y; cases y
 refine ⟨c.ext.trans e,c.re.mono e.ff,c.len,keep l c.fl ⟨_,h1⟩,acc,A,e.hh _ _ h1,h2.ext e.ff e.hh,fun b z=>?_⟩;obtain ⟨g1,g2,g3⟩:=h3 b z;obtain ⟨u,hu,_⟩:=h2.there b z;exact ⟨keep b g1 ⟨u,hu⟩,g2,g3⟩
theorem aJj {K:Frag} {F1 H1 F H:Hp} {σ:L2.St} {ρ:aqu7} {g:GE} {c:FT} {e:FO} {d:D} {rest:List D} {done ys:List O} {x:V} {l:Addr} {N:L2.St->Hp->Prop}
  (ci:CI K F1 H1 F H σ ρ l done) (hB:H1 l=none) (q:Rep K F x d) (hz:done.length < sizeLine)
  (h:aji g c e (d :: rest) ρ=some ys)
  (hN:∀ F' H' σ' ρ' new ys',Same F F'->CI K F1 H1 F' H' σ' ρ' l (done++new)->new.length <= 1->aji g c e rest ρ'=some ys'->ys=new++ys'->N σ' H') :
  tGE K g x σ H fun σ2 H2=>tDT K c σ2 H2 fun b H3=>if b=true then tO K e σ2 H3 fun y H4=>∃ acc,H4 l=some (.lst acc)/\acc.length < sizeLine/\N σ2 (upd H4 l (.lst (acc++[y]))) else N σ2 H3:=by
 obtain ⟨ρ1,h1,h⟩:=bind_some h;obtain ⟨b,hb,h⟩:=bind_some h;refine ⟨F,ρ,d,ρ1,ci.ext.fh,ci.re,ci.len,q,h1,fun σ2 re2 hl2=>?_⟩;have ci2:CI K F1 H1 F H σ2 ρ1 l done:=⟨ci.ext,re2,hl2,ci.fl,ci.hl⟩;refine ⟨F,ρ1,b,ci.ext.fh,re2,hb,fun F3 H3 e3=>?_⟩;have ci3:=ci2.more e3;cases b with
 | false =>
  rw [if_neg Bool.false_ne_true] at h;exact iteF (hN F3 H3 σ2 ρ1 [] ys e3.ff (by simpa using ci3) (by simp) h (by simp))
 | true =>
  rw [if_pos rfl] at h;refine iteT ?_;obtain ⟨y,hy,h⟩:=bind_some h;obtain ⟨ys',hys,rfl⟩:=map_some h;refine ⟨F3,ρ1,y,e3.fh,ci3.re,hy,fun v F4 H4 A4 e4 r4 n4=>?_⟩;have ci4:=ci3.more e4;obtain ⟨acc3,A3,k1,k2,k3⟩:=ci3.hl;have t4:H4 l=some (.lst acc3):=e4.hh _ _ k1;have k2':=k2.ext e4.ff e4.hh;refine ⟨acc3,t4,by rw [k2.length]; exact hz,?_⟩;have nl:¬ A4 l:=fun z=>by have:=(n4 l z).2; rw [k1] at this; cases this
  have h1l:∀ b u,H1 b=some u->b ≠ l:=fun b u hb=>ne_of_none hb hB;refine hN F4 _ σ2 ρ1 [y] ys' (e3.ff.trans e4.ff) ⟨⟨ci4.ext.ff,fun b u hb=>by rw [upd_ne (ne_of_none hb ci4.fl)]; exact ci4.ext.fh _ _ hb,fun b u hb=>by rw [upd_ne (h1l b u hb)]; exact ci4.ext.hh _ _ hb,ci4.ext.nw⟩,ci4.re,ci4.len,ci4.fl,acc3++[v],fun b=>A3 b \/ A4 b,upd_same,?_,fun b z=>?_⟩ (by simp) hys (by simp)
  ·refine (k2'.stay (Same.refl _) (H':=upd H4 l (.lst (acc3++[v]))) fun b z=>upd_ne (k3 b z).2.2).append (.cons (r4.stay (Same.refl _) (H':=upd H4 l (.lst (acc3++[v]))) fun b z=>upd_ne (by rintro rfl; exact nl z)) (.nil (A:=fun _=>False) fun _ z=>z) (fun _ _ z=>z) fun b=>⟨.inl,fun z=>z.elim id False.elim⟩) fun b z y=>?_
   obtain ⟨u,hu,_⟩:=k2.there b z;rw [(n4 b y).2] at hu; cases hu
  ·rcases z with z | z
   ·obtain ⟨g1,g2,g3⟩:=k3 b z
    obtain ⟨u,hu,_⟩:=k2.there b z;refine ⟨?_,g2,g3⟩;cases w:F4 b with
    | none=>rfl
    | some o =>
     rcases e4.nw b o w with y | y
     ·rw [g1] at y; cases y
     ·rw [hu] at y; cases y
   ·exact ⟨(n4 b z).1,ci3.ext.hh.free (n4 b z).2,by rintro rfl; exact nl z⟩
theorem CI.own {K:Frag} {F1 H1 F H:Hp} {σ:L2.St} {ρ:aqu7} {l:Addr} {done:List O} (c:CI K F1 H1 F H σ ρ l done) (hB:H1 l=none):∃ A,Own K F H (.ref l) (.lst done) A/\∀ b,A b->F b=none/\H1 b=none:=by
 obtain ⟨acc,A,h1,h2,h3⟩:=c.hl;refine ⟨_,aqdy h1 (fun z=>(h3 l z).2.2 rfl) h2,fun b z=>?_⟩;rcases z with rfl | z
 ·exact ⟨c.fl,hB⟩
 ·exact ⟨(h3 b z).1,(h3 b z).2.1⟩
theorem aVz {K:Frag} {F H F1 H1:Hp} {σ:L2.St} {ρ:aqu7} {js:List (Option Nat)} {l:Addr} (re:RE K F σ ρ) (e1:Ext F H F1 H1) (hl:H1 l=none):CI K F1 H1 F1 (upd H1 l (.lst [])) (mkS js σ) (mkD js ρ) l [] :=
 ⟨Ext.laidH e1.fh hl,re_mk re e1.ff,by simp [mkD,mkS],e1.fh.free hl,[],fun _=>False,upd_same,.nil fun _ z=>z,fun _ z=>z.elim⟩
section
variable {X:Cx} {js:List (Option Nat)} {g:GE} {c:FT} {e:FO}
theorem ao {K:Frag} {f:FE} {σ:L2.St} {H:Hp} {Q:VK} (h:tO K (aqa js f g c e) σ H Q):aqiu (iList K (tD K f)) (tGE K g) (tDT K c) (tO K e) js σ H Q:=by
 obtain ⟨F,ρ,total,s,re,hf,k⟩:=h;obtain ⟨d,hd,hf⟩:=bind_some hf;rw [aV2] at hf;split at hf
 ·rename_i xs
  split at hf
  ·rename_i hlen
   obtain ⟨total,hf2,rfl⟩:=map_some hf;have hf:=hf2;clear hf2;refine ⟨F,ρ,.lst xs,s,re,hd,fun v F1 H1 e1 r1=>?_⟩;cases r1 with
   | lst q t =>
    rename_i a vs;refine ⟨a,rfl,⟨vs,(aqsh e1.fh q).l⟩,fun l hl=>⟨fun i m σ' H'=>∃ F' ρ' done ys,CI K F1 H1 F' H' σ' ρ' l done/\SqE K F' a vs/\Reps K F' vs xs/\i <= xs.length/\m=xs.length - i/\done.length <= i/\aji g c e (xs.drop i) ρ'=some ys/\total=done++ys,
     ⟨_,F1,mkD js ρ,[],total,aVz re e1 hl,q,t,zero_le _,rfl,le_refl _,hf,rfl⟩,?_⟩⟩
    rintro i m σ' H' ⟨F',ρ',done,ys,ci,q',t',hi,rfl,hdn,hc,ht⟩
    by_cases hlt:i < xs.length
    ·have hv:i < vs.length:=by rw [t'.length]; exact hlt
     refine .inr ⟨⟨vs,vs[i],(aqsh ci.ext.fh q').l,by simp [hv]⟩,fun x H2 y=>?_⟩;obtain ⟨rfl,y⟩:=y;obtain ⟨d,hd1,hd2⟩:=t'.get (y vs (aqsh ci.ext.fh q').l);have ed:xs[i]=d:=by rw [getElem?_eq_getElem hlt] at hd1; exact Option.some.inj hd1
     rw [akb hlt,ed] at hc;refine aJj (N:=fun σ2 H2=>∃ m',m' < xs.length - i/\_) ci hl hd2 (lt_of_lt_of_le (lt_of_le_of_lt hdn hlt) (avb hlen)) hc fun F2 H2 σ2 ρ2 new ys' s2 ci2 hn2 hc2 he2=>?_;exact ⟨_,by omega,F2,ρ2,done++new,ys',ci2,aqsh s2 q',t'.mono s2,hlt,rfl,by simp; omega,hc2,by rw [ht,he2]; simp⟩
    ·refine .inl ⟨⟨vs,(aqsh ci.ext.fh q').l,by rw [t'.length]; omega⟩,?_⟩
     rw [drop_of_length_le (by omega)] at hc;cases hc
     have:total=done:=by simpa using ht
     subst this;obtain ⟨A,o1,o2⟩:=ci.own hl;exact k (.ref l) F' H' A (e1.trans ci.ext) o1 fun b z=>⟨(o2 b z).1,e1.hh.free (o2 b z).2⟩
  ·cases hf
 ·cases hf
theorem aqm0 {lo:Int} {n i:Nat} (h:i < n):(aqsm lo n)[i]'(by simpa [aqsm] using h)=D.int (lo + (i:Int)):=by simp [aqsm]
theorem aqhq {lo:Int} {n:Nat}:(aqsm lo n).length=n:=by simp [aqsm]
theorem aqpi {K:Frag} {F H F1 H1:Hp} {σ:L2.St} {ρ:aqu7} {Q:VK} {lo:Int} {n:Nat} {total:List O} (re:RE K F σ ρ) (e1:Ext F H F1 H1) (hf:aji g c e (aqsm lo n) (mkD js ρ)=some total) (hn:n <= aqu4)
  (k:∀ v F' H' A,Ext F H F' H'->Own K F' H' v (.lst total) A->(∀ b,A b->F' b=none/\H b=none)->Q v H'):∀ l,H1 l=none->∃ W:Nat->Nat->L2.St->Hp->Prop,(∃ m,W 0 m (mkS js σ) (upd H1 l (.lst [])))/\∀ i m σ H,W i m σ H ->
 ((Itr lo n).stop i H/\Q (.ref l) H) \/ ((Itr lo n).go i H/\∀ x H',(Itr lo n).yld i H x H'->tGE K g x σ H' fun σ2 H2=>tDT K c σ2 H2 fun b H3 =>
   if b=true then tO K e σ2 H3 fun y H4=>∃ acc,H4 l=some (.lst acc)/\acc.length < sizeLine/\∃ m',m' < m/\W (i + 1) m' σ2 (upd H4 l (.lst (acc++[y]))) else ∃ m',m' < m/\W (i + 1) m' σ2 H3):=by
 intro l hl;refine ⟨fun i m σ' H'=>∃ F' ρ' done ys,CI K F1 H1 F' H' σ' ρ' l done/\i <= n/\m=n - i/\done.length <= i/\aji g c e ((aqsm lo n).drop i) ρ'=some ys/\total=done++ys,
  ⟨_,F1,mkD js ρ,[],total,aVz re e1 hl,zero_le _,rfl,le_refl _,hf,rfl⟩,?_⟩
 rintro i m σ' H' ⟨F',ρ',done,ys,ci,hi,rfl,hdn,hc,ht⟩
 by_cases hlt:i < n
 ·refine .inr ⟨hlt,fun x H2 y=>?_⟩
  obtain ⟨rfl,rfl⟩:=y;rw [akb (by rw [aqhq]; exact hlt),aqm0 hlt] at hc;refine aJj (N:=fun σ2 H2=>∃ m',m' < n - i/\_) ci hl (.int _) (lt_of_lt_of_le (lt_of_le_of_lt hdn hlt) (avb hn)) hc fun F2 H2 σ2 ρ2 new ys' s2 ci2 hn2 hc2 he2=>?_;exact ⟨_,by omega,F2,ρ2,done++new,ys',ci2,hlt,rfl,by simp; omega,hc2,by rw [ht,he2]; simp⟩
 ·refine .inl ⟨by show n <= i; omega,?_⟩
  rw [drop_of_length_le (by rw [aqhq]; omega)] at hc;cases hc
  have:total=done:=by simpa using ht
  subst this;obtain ⟨A,o1,o2⟩:=ci.own hl;exact k (.ref l) F' H' A (e1.trans ci.ext) o1 fun b z=>⟨(o2 b z).1,e1.hh.free (o2 b z).2⟩
theorem aqf6 {K:Frag} {f:FA} {σ:L2.St} {H:Hp} {Q:VK} (h:tO K (aqe6 js f g c e) σ H Q):aqiu (iRng1 (tDA K f)) (tGE K g) (tDT K c) (tO K e) js σ H Q:=by
 obtain ⟨F,ρ,total,s,re,hf,k⟩:=h;obtain ⟨d,hd,hf⟩:=bind_some hf;split at hf
 ·rename_i j
  split at hf
  ·rename_i hlen
   obtain ⟨total,hf2,rfl⟩:=map_some hf;have hf:=hf2;clear hf2;refine ⟨F,ρ,_,s,re,hd,fun vs F1 H1 e1 r1=>?_⟩;cases r1 with
   | cons q1 q =>
    cases q1;cases q;refine ⟨j,rfl,by omega,?_,aqpi re e1 hf (by omega) k⟩
    have:=hlen.2; unfold aqu4 at this; omega
  ·cases hf
 ·cases hf
end
def DIfs (X:Cx) (ifs:List Expr) (c:FT):Prop:=PIfs X ifs (tDT X.K c)
theorem aq8 {X:Cx} {e:Expr} {c:FT} (h:DT X e c):DIfs X [e] c:=.inr ⟨e,rfl,h⟩
theorem aC {X:Cx}:DIfs X [] qT:=.inl ⟨rfl,fun σ H Q q=>by
 obtain ⟨F,ρ,b,s,re,hf,k⟩:=q;cases hf;exact k F H (Ext.refl s)⟩
def clo (env:Env):List (Str × NameKind)->List (Str × Addr)->Option (List (Str × Addr))
 | [],cs=>some cs
 | (n,k) :: r,cs=>if (k == .free)=true then (env.cells.lookup n).bind fun c=>clo env r ((n,c) :: cs) else clo env r cs
theorem aqf7 {env:Env}:∀ {ns:List (Str × NameKind)} {cs cl:List (Str × Addr)},clo env ns cs=some cl->(forIn (m:=Sem) ns cs fun (x:Str × NameKind) cs=>if (x.2 == .free)=true then do let c <- cellOf env x.1; pure (ForInStep.yield ((x.1,c) :: cs)) else pure (ForInStep.yield cs))=pure cl
 | [],cs,cl,h=>by cases h; rfl
 | (n,k) :: r,cs,cl,h=>by
  unfold clo at h;rw [forIn_cons]
  by_cases hk:(k == .free)=true
  ·rw [if_pos hk] at h
   obtain ⟨c,hc,h⟩:=bind_some h;have e:cellOf env n=pure c:=by unfold cellOf; rw [hc]
   simp only [hk,if_true,e,pure_bind];exact aqf7 h
  ·rw [if_neg hk] at h
   simp only [hk,if_false,pure_bind];exact aqf7 h
theorem aZz {scope:Scope} {env:Env} {cl:List (Str × Addr)} (h:clo env scope.names []=some cl):closureFor scope env=pure cl:=by
 have:=aqf7 h
 simp only [closureFor];rw [this];rfl
theorem aqbp {env:Env}:∀ {ns:List (Str × NameKind)} {cs cl:List (Str × Addr)},clo env ns cs=some cl->∀ x c,(x,c)∈cl->(x,c)∈cs \/ env.cells.lookup x=some c
 | [],cs,cl,h,x,c,hx=>by cases h; exact .inl hx
 | (n,k) :: r,cs,cl,h,x,c,hx=>by
  unfold clo at h
  by_cases hk:(k == .free)=true
  ·rw [if_pos hk] at h
   obtain ⟨a,ha,h⟩:=bind_some h;rcases aqbp h x c hx with z | z
   ·rcases List.mem_cons.mp z with y | y
    ·cases y; exact .inr ha
    ·exact .inl y
   ·exact .inr z
  ·rw [if_neg hk] at h
   exact aqbp h x c hx
theorem aqbq {env:Env}:∀ {ns:List (Str × NameKind)} {cs cl:List (Str × Addr)},clo env ns cs=some cl->(∀ x c,(x,c)∈cs->(x,c)∈cl)/\∀ x,(x,NameKind.free)∈ns->∃ c,(x,c)∈cl
 | [],cs,cl,h=>by cases h; exact ⟨fun _ _ z=>z,fun x z=>by simp at z⟩
 | (n,k) :: r,cs,cl,h=>by
  unfold clo at h
  by_cases hk:(k == .free)=true
  ·rw [if_pos hk] at h
   obtain ⟨a,ha,h⟩:=bind_some h;obtain ⟨h1,h2⟩:=aqbq h;refine ⟨fun x c z=>h1 x c (mem_cons_of_mem _ z),fun x z=>?_⟩;rcases List.mem_cons.mp z with y | y
   ·cases y; exact ⟨a,h1 _ _ mem_cons_self⟩
   ·exact h2 x y
  ·rw [if_neg hk] at h
   obtain ⟨h1,h2⟩:=aqbq h;refine ⟨h1,fun x z=>?_⟩;rcases List.mem_cons.mp z with y | y
   ·cases y; exact absurd rfl hk
   ·exact h2 x y
theorem axp {α:Type}:∀ {l:List (Str × α)} {x:Str} {c:α},l.lookup x=some c->(x,c)∈l
 | [],_,_,h=>by cases h
 | (y,d) :: l,x,c,h=>by
  unfold List.lookup at h;split at h
  ·rename_i e
   cases h;rw [beq_iff_eq] at e;subst e;exact mem_cons_self
  ·exact mem_cons_of_mem _ (axp h)
theorem aXe {α:Type}:∀ {l:List (Str × α)} {x:Str} {c:α},(x,c)∈l->∃ d,l.lookup x=some d
 | (y,d) :: l,x,c,h=>by
  by_cases e:(x == y)=true
  ·exact ⟨d,by unfold List.lookup; rw [e]⟩
  ·rcases List.mem_cons.mp h with z | z
   ·cases z; simp at e
   ·obtain ⟨d',hd⟩:=aXe z
    refine ⟨d',?_⟩;unfold List.lookup;cases q:x == y with
    | true=>exact absurd q e
    | false=>exact hd
theorem aW1 {scope:Scope} {env:Env} (hcell:∀ y∈scope.names,y.2 ≠ .cell) {x:Str} (h:(relabel scope env).names.lookup x=some .cell \/ (relabel scope env).names.lookup x=some .free):(x,NameKind.free)∈scope.names:=by
 have h':∃ k,(x,k)∈(relabel scope env).names/\(k=.cell \/ k=.free):=by
  rcases h with h | h
  ·exact ⟨_,axp h,.inl rfl⟩
  ·exact ⟨_,axp h,.inr rfl⟩
 obtain ⟨k,hk,hkk⟩:=h';unfold relabel at hk;obtain ⟨⟨n,k'⟩,hm,he⟩:=List.mem_map.mp hk;dsimp only at he;split at he
 ·rename_i hc
  cases he;simp only [Bool.and_eq_true,beq_iff_eq] at hc;rw [<- hc.1.1]; exact hm
 ·cases he
  rcases hkk with rfl | rfl
  ·exact absurd rfl (hcell _ hm)
  ·exact hm
section
variable {X:Cx} {elt target iter:Expr} {ifs:List Expr} {scope:Scope} {pos:Pos} {cl:List (Str × Addr)} {N':List Str} {js:List (Option Nat)} {g:GE} {c:FT} {e:FO}
structure CompOk (X:Cx) (scope:Scope) (cl:List (Str × Addr)) (N':List Str) (js:List (Option Nat)):Prop where
 calm:X.calm=true
 clo:clo X.env scope.names []=some cl
 free:ak7 X scope cl js N'
 cell:∀ y∈scope.names,y.2 ≠ .cell
 kind:scope.kind=.function
 names:∀ x∈scope.names,x.2=.local->scope.names.lookup x.1=some .local
theorem CompOk.hcl (k:CompOk X scope cl N' js):∀ x c,cl.lookup x=some c->X.env.cells.lookup x=some c:=fun x c h=>by
 rcases aqbp k.clo x c (axp h) with z | z
 ·simp at z
 ·exact z
theorem CompOk.hhas (k:CompOk X scope cl N' js):∀ x,((relabel scope X.env).names.lookup x=some .cell \/ (relabel scope X.env).names.lookup x=some .free)->∃ c,cl.lookup x=some c:=fun x h=>by
 obtain ⟨c,hc⟩:=(aqbq k.clo).2 x (aW1 k.cell h);exact aXe hc
theorem aqow {K:Frag} {S:List Bool} {f:FO} {σ:L2.St} {H:Hp} {Q:VK} (q:tM K (mO S f) σ H Q):tO K f σ H Q:=by
 obtain ⟨β,F,ρ,p,r,hf,k⟩:=q;obtain ⟨o,ho,rfl⟩:=map_some hf;obtain ⟨G,l,re,rz⟩:=r.look S;refine ⟨G,frz S ρ,o,l.gh,re,ho,fun v F' H' A e q n=>?_⟩
 by_cases hi:oim o=true
 ·rw [if_pos hi] at k
  exact k v _ H' axt e.hh (r.push (l.ext e r.ext.fh) (l.own e r.ext.fh hi q) fun b z=>⟨(aVt r.ext.fh (n b z).2).trans (n b z).1,(n b z).2⟩)
 ·rw [if_neg hi] at k
  exact k v F' H' (l.fg.trans e.ff) e.hh (rz.push e q n)
section
variable {wi:TI} {f:FO} (k:CompOk X scope cl N' js) (hi:PI X target iter wi) (hw:∀ σ H Q,tO X.K f σ H Q->aqiu wi (tGE X.K g) (tDT X.K c) (tO X.K e) js σ H Q)
 (hg:∀ C s₀ H₀ ex pn,DGE (ajh X N' scope cl C s₀ H₀ ex pn) target g) (ht:∀ C s₀ H₀ ex pn,DIfs (ajh X N' scope cl C s₀ H₀ ex pn) ifs c) (he:∀ C s₀ H₀ ex pn,DO (ajh X N' scope cl C s₀ H₀ ex pn) elt e)
include k hi hw hg ht he
theorem ss (hs:∀ x,foldedSetIterable iter X.env x=pure x:=by intro _; rfl):DO X (.ListComp elt [⟨target,iter,ifs,0⟩] scope pos) f :=
 PE.imp (aqma (g:=tGE X.K g) (tc:=tDT X.K c) (te:=tO X.K e) k.calm hi (aZz k.clo) k.free k.hcl k.hhas k.cell k.kind k.names hg ht he hs) hw
theorem avv {i:Nat} {S:List Bool} {y:Str} {py spos:Pos} (hN:X.N.Nodup) (hi':X.N[i]?=some y) (hy:X.env.scope.names.lookup y=some .local)
  (hsw:swapsWith (.ListComp elt [⟨target,iter,ifs,0⟩] scope pos) (some (.Name y py)) spos.line X.env=pure true) (hs:∀ x,foldedSetIterable iter X.env x=pure x:=by intro _; rfl) :
  DS X (.Assign [.Name y py] (.ListComp elt [⟨target,iter,ifs,0⟩] scope pos) spos) [i] (aqtq i (mO S f)) :=
 br i (PS.imp (aqm6 (g:=tGE X.K g) (tc:=tDT X.K c) (te:=tO X.K e) hN hi' hy hsw k.calm hi (aZz k.clo) k.free k.hcl k.hhas k.cell k.kind k.names hg ht he hs) fun E σ H q=>hw _ _ _ (aqow q))
end
end
end DL
set_option maxHeartbeats 1000000
namespace DL
open PySem PySem.Spec PyProof.Rows L2
theorem aqem {k:Nat} {A:Around} (r:Room k A):A.units + 64 + 1 < cLine:=by have:=r.un; omega
section
variable {X:Cx} {K:Frag} {F:Hp}
theorem aV1 (hc:X.calm=true):CallR X (.builtin "sum") (fun xs H Q=>∃ (p:Addr) (ns:List Int),xs=[.ref p]/\SqL X.K H p (ns.map V.int)/\Q (.int ns.sum) H):=by
 intro pins s σ H xs us Q I r h;obtain ⟨p,ns,rfl,hq,q⟩:=h;cases r with
 | cons r1 r =>
  cases r;cases r1;obtain ⟨its,rv,ht,hz⟩:=I.list hq;have ia:=intsAre_of rv;have hall:=ia.allInts;obtain ⟨ys,hys⟩:=hall.items;have hl:=ht.isList;rw [hys] at hl;refine sum_intListG (I.ok.hd hc) hl fun h' tk t' hk=>?_;have en:(ys.toList.map (·.1))=ns:=by rw [<- nums_intItems,<- hys]; simpa using ia.numsOf
  rw [preSum_eq,take_of_length_le (by simp),en];exact ⟨.int _,H,I.kept (t':=tk) hk,⟨_,rfl⟩,q⟩
theorem aqln (ns:List Int) (a:Int):sumD (ns.map D.int) a=some (a + ns.sum):=by
 induction ns generalizing a with
 | nil=>simp [sumD]
 | cons n ns ih=>simp [sumD,ih,Int.add_assoc]
theorem aqak:∀ {ds:List D} {a b:Int},sumD ds a=some b->∃ ns:List Int,ds=ns.map D.int
 | [],_,_,_=>⟨[],rfl⟩
 | d :: ds,a,b,h=>by
  cases d with
  | int i =>
   obtain ⟨ns,e⟩:=aqak (ds:=ds) (a:=a + i) (b:=b) h;exact ⟨i :: ns,by rw [e]; rfl⟩
  | _=>simp [sumD] at h
theorem ajn:∀ {vs:List V} {ns:List Int},Reps K F vs (ns.map D.int)->vs=ns.map V.int
 | [],[],_=>rfl
 | [],_ :: _,r=>by cases r
 | _ :: _,[],r=>by cases r
 | v :: vs,n :: ns,r=>by
  cases r with
  | cons h t=>cases h; rw [ajn t]; rfl
theorem aV0:aqlg K (fun xs H Q=>∃ (p:Addr) (ns:List Int),xs=[.ref p]/\SqL K H p (ns.map V.int)/\Q (.int ns.sum) H) dSum:=by
 intro ds d F H vs Q h s r k;unfold dSum at h;split at h
 ·obtain ⟨n,hn,rfl⟩:=map_some h
  obtain ⟨ns,rfl⟩:=aqak hn;rw [aqln] at hn;cases hn;cases r with | cons r r' =>
  cases r';cases r with | lst q t =>
  have:=ajn t
  subst this;exact ⟨_,ns,rfl,(aqsh s q).l,k _ F H (Ext.refl s) (by rw [Int.zero_add]; exact .int _)⟩
 ·cases h
theorem blVals:∀ {bs:List Bool} {us:List Value},Vals (bs.map V.bl) us->us=bs.map Value.bool
 | [],_,r=>by cases r; rfl
 | b :: bs,_,r=>by
  cases r with
  | cons h t=>cases h; rw [blVals t]; rfl
theorem aqk6 {A:Around} {E:Value->Shared->Prop} {s:Shared} {l:Addr} {its:Array Value} {Q:Value->Shared->Prop} {prog:Program} {w:World} (hl:s.heap.IsList l its)
  (h:∀ s₂:Shared,(∀ b o,s.heap.get? b=some o->s₂.heap.get? b=some o)->s₂.toks=s.toks->s₂.os=s.os->s₂.gens=s.gens->s₂={ s with heap:=s₂.heap }->(s₂.heap.IsListIter s.heap.objs.size l 0/\s₂.heap.IsList l its)->l ≠ s.heap.objs.size->Q (.ref s.heap.objs.size) s₂) :
  wpAny (model prog w) A (pyIter (.ref l)) Q E s:=by
 have hlt:l < s.heap.objs.size:=by obtain ⟨_,e,_⟩:=hl; exact Heap.lt_size e
 exact wpAny_pyIter_list hl (h _ (fun b o e=>Heap.get?_push_of_some _ e) rfl rfl rfl rfl ⟨⟨_,Heap.get?_push_size _ rfl,rfl,rfl⟩,hl.push _⟩ (ne_of_lt hlt))
theorem aqc2 {prog:Program} {w:World} {A:Around} (bs:List Bool):TruthOf prog w A (fun i v=>(bs.map Value.bool).toArray[i]?=some v) fun i=>bs.getD i false:=by
 intro i v s Q E hP hQ;rw [List.getElem?_toArray,getElem?_map] at hP;obtain ⟨b,hb,rfl⟩:=map_some hP
 have:bs.getD i false=b:=by simp [List.getD,hb]
 exact wpAny_truthy_bool (by rw [<- this]; exact hQ)
theorem aqgb (bs:List Bool):((List.range bs.length).all fun i=>bs.getD i false)=bs.all id:=by
 rw [Bool.eq_iff_iff]; simp only [all_eq_true,List.mem_range];constructor
 ·intro h b hb
  obtain ⟨i,hi,rfl⟩:=List.mem_iff_getElem.mp hb;simpa [hi] using h i hi
 ·intro h i hi
  have:=h bs[i] (getElem_mem hi)
  simpa [hi] using this
theorem ax4 (hc:X.calm=true):CallR X (.builtin "all") (fun xs H Q=>∃ (p:Addr) (bs:List Bool),xs=[.ref p]/\SqL X.K H p (bs.map V.bl)/\Q (.bl (bs.all id)) H):=by
 intro pins s σ H xs us Q I r h;obtain ⟨p,bs,rfl,hq,q⟩:=h;cases r with
 | cons r1 r =>
  cases r;cases r1;obtain ⟨its,rv,ht,hz⟩:=I.list hq;obtain rfl:=blVals rv;refine call_all_walk (aqk6 ht.isList fun s₂ ks et eo eg es st ne=>?_);refine ⟨_,_,_,_,_,_,fun i=>bs.getD i false,rfl,Walks.list (A:=X.A.in1) (I.ok.hd hc) _ p ne (bs.map Value.bool).toArray,st,aqc2 bs,fun h' tk hk=>?_⟩;have e:(bs.map Value.bool).toArray.size=bs.length:=by simp
  rw [e,aqgb];rw [es];refine ⟨.bl _,H,I.kept (t':=tk) (h':=h') fun b o eb=>hk b o ?_ (ks b o eb),rfl,q⟩;intro hb;simp at hb;subst hb;exact absurd (Heap.lt_size eb) (lt_irrefl _)
theorem aWa:∀ {ds:List D} {bs:List Bool},aqcr ds=some bs->ds=bs.map D.bl
 | [],_,h=>by cases h; rfl
 | d :: ds,bs,h=>by
  cases d with
  | bl b =>
   obtain ⟨r,hr,rfl⟩:=map_some (show (aqcr ds).map (fun r=>b :: r)=some bs from h);rw [aWa hr]; rfl
  | _=>simp [aqcr] at h
theorem aZn:∀ {vs:List V} {ns:List Bool},Reps K F vs (ns.map D.bl)->vs=ns.map V.bl
 | [],[],_=>rfl
 | [],_ :: _,r=>by cases r
 | _ :: _,[],r=>by cases r
 | v :: vs,n :: ns,r=>by
  cases r with
  | cons h t=>cases h; rw [aZn t]; rfl
theorem ax3:aqlg K (fun xs H Q=>∃ (p:Addr) (bs:List Bool),xs=[.ref p]/\SqL K H p (bs.map V.bl)/\Q (.bl (bs.all id)) H) aqtk:=by
 intro ds d F H vs Q h s r k;unfold aqtk at h;split at h
 ·obtain ⟨bs,hb,rfl⟩:=map_some h
  have e:=aWa hb;subst e;cases r with | cons r r' =>
  cases r';cases r with | lst q t =>
  have:=aZn t
  subst this;exact ⟨_,bs,rfl,(aqsh s q).l,k _ F H (Ext.refl s) (.bl _)⟩
 ·cases h
end
end DL
namespace DL
open PySem PySem.Spec PyProof.Rows L2
theorem Inv.turnedT {X:Cx} {pins:List (Addr × Obj)} {σ:L2.St} {H:Hp} {s:Shared} {h':Heap} {t':Nat} {fp:List Addr} {T:Addr} {o:HO} (I:Inv X pins σ H s) (k:∀ b u,b ∉ fp->s.heap.get? b=some u->h'.get? b=some u) (hf:∀ b∈fp,FpOk X pins H b)
  (hT:s.heap.objs.size <= T) (new:ObjOk X.prog X.w (upd H T o) h' T o):Inv X pins σ (upd H T o) { s with heap:=h',toks:=t' }:=by
 have hn:H T=none:=I.hok.fresh hT;have lt:∀ b u,s.heap.get? b=some u->b ≠ T:=fun b u e z=>absurd (Heap.lt_size e) (by rw [z]; exact Nat.not_lt.mpr hT);have nfp:∀ b u,H b=some u->b ∉ fp:=fun b u e z=>by rw [(hf b z).1] at e; cases e
 refine I.step (g':=s.gens) (d':=s.drawn) (ch:=fp) (fun b hb=>?_) (fun b u _ _ hc e _=>k b u hc e) (fun b u _ _ hc e _=>⟨u.slots,k b u hc e⟩) (fun b u _ e n=>by rw [upd_ne (lt b u e)]; exact n)
  (fun b u hc e=>⟨u,k b u hc e⟩) (fun b xs e=>by rw [upd_ne (ne_of_none e hn)]; exact e) (fun b u w e=>by rw [upd_ne (ne_of_none e hn)]; exact e) (fun b ps e=>⟨#[],by rw [upd_ne (ne_of_none e hn),e]; simp⟩) (fun m hm=>?_) (fun b u e=>?_) I.bare
 ·obtain ⟨f0,f1,f2,f3,f4,f5⟩:=hf b hb
  exact ⟨f3,f1,f4,f5⟩
 ·obtain ⟨u,es,ep,ho,r⟩:=hm
  refine ⟨u,es,ep,k _ u (fun z=>(hf _ z).2.1 rfl) ho,r⟩
 ·by_cases hb:b=T
  ·subst hb; rw [upd_same] at e; cases e; exact new
  ·rw [upd_ne hb] at e
   refine (I.hok b u e).stay (fun c v hc q=>k c v ?_ q) (fun c q=>by rw [upd_ne (ne_of_none q hn)]; exact q) fun c xs q=>by rw [upd_ne (ne_of_none q hn)]; exact q
   rcases hc with z | z
   ·rw [z]; exact nfp b u e
   ·exact nfp c _ z
theorem Inv.turnedL {X:Cx} {pins:List (Addr × Obj)} {σ:L2.St} {H:Hp} {s:Shared} {h':Heap} {t':Nat} {fp:List Addr} (I:Inv X pins σ H s) (k:∀ b u,b ∉ fp->s.heap.get? b=some u->h'.get? b=some u) (hf:∀ b∈fp,FpOk X pins H b):Inv X pins σ H { s with heap:=h',toks:=t' }:=by
 have nfp:∀ b u,H b=some u->b ∉ fp:=fun b u e z=>by rw [(hf b z).1] at e; cases e
 refine I.step (g':=s.gens) (d':=s.drawn) (ch:=fp) (fun b hb=>?_) (fun b u _ _ hc e _=>k b u hc e) (fun b u _ _ hc e _=>⟨u.slots,k b u hc e⟩) (fun b u _ e n=>n)
  (fun b u hc e=>⟨u,k b u hc e⟩) (fun b xs e=>e) (fun b u w e=>e) (fun b ps e=>⟨#[],by rw [e]; simp⟩) (fun m hm=>?_) (fun b u e=>?_) I.bare
 ·obtain ⟨f0,f1,f2,f3,f4,f5⟩:=hf b hb
  exact ⟨f3,f1,f4,f5⟩
 ·obtain ⟨u,es,ep,ho,r⟩:=hm
  refine ⟨u,es,ep,k _ u (fun z=>(hf _ z).2.1 rfl) ho,r⟩
 ·refine (I.hok b u e).stay (fun c v hc q=>k c v ?_ q) (fun c q=>q) fun c xs q=>q
  rcases hc with z | z
  ·rw [z]; exact nfp b u e
  ·exact nfp c _ z
def Ite (K:Frag) (a:Addr):It :=
 ⟨fun i H=>∃ xs x,SqL K H a xs/\xs[i]?=some x,fun i H x H'=>∃ T v,x=.ref T/\H T=none/\H'=upd H T (.tup [.int (i:Int),v])/\∀ xs,SqL K H a xs->xs[i]?=some v,fun i H=>∃ xs,SqL K H a xs/\xs.length=i⟩
theorem aqfv {P:Program} {w:World} {K:Frag} {elts:List Expr} {kk:Nat} {tp:Pos} (a e it:Addr) (hei:e ≠ it) (hae:a ≠ e) (hai:a ≠ it):Turn P w K (.Tuple elts kk tp) (Ite K a) [e,it] e (fun i h=>(∃ old,IsEnum h e it i old)/\h.IsListIter it a i) where
 mem:=by simp
 obj:=fun i h st b hb=>by
  obtain ⟨⟨old,he⟩,⟨o,eo,c,d⟩⟩:=st;have hb':b=e \/ b=it:=by simpa using hb
  rcases hb' with rfl | rfl
  ·exact ⟨_,he,fun v z=>by cases z⟩
  ·exact ⟨o,eo,fun v z=>by rw [d] at z; cases z⟩
 keep:=fun i h h' st k=>by
  obtain ⟨⟨old,he⟩,hi⟩:=st;exact ⟨⟨old,k e (by simp) _ he⟩,hi.at fun o q=>k it (by simp) o q⟩
 item:=by
  intro X hP hw hK hc i pins s σ H E I hf st hg;subst hP hw hK;obtain ⟨xs,x,hq,hx⟩:=hg;obtain ⟨its,rv,p,hz⟩:=I.list hq;obtain ⟨u,hu,ru⟩:=rv.get hx;have W:=WalksT.enumerateD (prog:=X.prog) (w:=X.w) (A:=X.A) (Draws.list (A:=X.A.in1) (I.ok.hd hc) it a hai its.toArray) e hei (by simp; exact ⟨hei,Ne.symm hae⟩) (by simp);have hlt:i < its.toArray.size:=by simp; exact (List.getElem?_eq_some_iff.mp hu).1
  refine W.item i s _ E hlt ⟨st.1,st.2,p.isList⟩ fun T vals h' tk hP hT htup hmid hk=>⟨.ref T,rfl,?_⟩;refine W.go elts kk tp i T _ _ E hmid fun h'' hst'' hk''=>?_;obtain ⟨t,x',hx',rfl⟩:=hP;have ex:x'=u:=by
   have h1:its[i]?=some x':=by simpa using hx'
   rw [hu] at h1; cases h1; rfl
  subst ex;have nT:T ∉ [e,it]:=W.apart i T h' hmid;obtain ⟨oT,hoT,hcT,nT2,hdT⟩:=id htup;have kall:∀ b u,b ∉ [e,it]->s.heap.get? b=some u->h''.get? b=some u:=fun b u hb e=>hk'' b u hb (hk b u hb e);have new:ObjOk X.prog X.w (upd H T (.tup [.int (i:Int),x])) h'' T (.tup [.int (i:Int),x]):=by
   refine ⟨by simp [sizeLine_eq],[.int (i:Int) t,x'],.cons ⟨_,rfl⟩ (.cons ru .nil),?_⟩;exact ⟨oT,hk'' T oT nT hoT,hcT,nT2,hdT⟩
  have I2:=DL.Inv.turnedT I (h':=h'') (t':=tk) kall hf hT new;refine ⟨.ref T,_,I2,rfl,⟨T,x,rfl,I.hok.fresh hT,rfl,fun ys hy=>by rw [I.list_inj hy hq]; exact hx⟩,⟨hst''.1,hst''.2.1⟩,fun b hb=>?_⟩;rw [upd_ne (by rintro rfl; exact nT hb)];exact (hf b hb).1
 done:=by
  intro X hP hw hK hc i pins s σ H E I hf st hg;subst hP hw hK;obtain ⟨xs,hq,hx⟩:=hg;obtain ⟨its,rv,p,hz⟩:=I.list hq;have W:=WalksT.enumerateD (prog:=X.prog) (w:=X.w) (A:=X.A) (Draws.list (A:=X.A.in1) (I.ok.hd hc) it a hai its.toArray) e hei (by simp; exact ⟨hei,Ne.symm hae⟩) (by simp);have hl:its.toArray.size=i:=by rw [<- hx,rv.length]; simp
  refine W.done s _ E (by rw [hl]; exact ⟨st.1,st.2,p.isList⟩) fun h' tk hk=>⟨rfl,DL.Inv.turnedL I (fp:=[e,it]) hk hf⟩
 self:=fun _ _ _ _ _ st h=>by
  obtain ⟨⟨old,he⟩,_⟩:=st;exact wpAny_pyIter_enum he h
section
variable {X:Cx} {elts:List Expr} {kk:Nat} {tp p pos:Pos} {a b:Expr}
theorem aqlp {pins:List (Addr × Obj)} {σ:L2.St} {H:Hp} {s:Shared} {l:Addr} {xs:List V} (I:Inv X pins σ H s) (h:SqL X.K H l xs):l < s.heap.objs.size:=by
 obtain ⟨its,rv,p,hz⟩:=I.list h;obtain ⟨o,e,_⟩:=p.isList;exact Heap.lt_size e
def iEnum (K:Frag) (tl:TE):TI:=fun σ H R=>tl σ H fun x H1=>∃ a,x=.ref a/\(∃ xs,SqL K H1 a xs)/\R (Ite K a) H1
theorem aqht {tl:TE} (hg:Gl X "enumerate") (hm:X.mg "enumerate"=none) (hl:PE X a tl) (hs:starEach [a] X.env=[(false,eval a X.env)]:=by rfl):PI X (.Tuple elts kk tp) (.Call (.Name "enumerate" p) [a] [] pos) (iEnum X.K tl):=by
 intro pins s σ H R I h;refine Call_ (ld_blt I hg hm aqa5 (PyProof.Rows.callWith_type1 (thn ((pa_cons hl pa_nil (by rw [hs]; rfl)) pos pins s σ H (fun vs H1=>∃ x,vs=[x]/\∃ a,x=.ref a/\(∃ xs,SqL X.K H1 a xs)/\R (Ite X.K a) H1) I (by
  show tl σ H fun x H1=>_;exact (show (fun x H1=>∃ a,x=V.ref a/\(∃ xs,SqL X.K H1 a xs)/\R (Ite X.K a) H1)=(fun x H1=>∃ x',[x]=[x']/\∃ a,x'=V.ref a/\(∃ xs,SqL X.K H1 a xs)/\R (Ite X.K a) H1) from by
   funext x H1
   apply propext;exact ⟨fun z=>⟨x,rfl,z⟩,fun ⟨x',e,z⟩=>by cases e; exact z⟩) ▸ h)) fun us s1 ⟨vs,H1,I1,r1,q1⟩=>?_) hs rfl))
 obtain ⟨x,rfl,l,rfl,⟨xs,hq⟩,q⟩:=q1;cases r1 with
 | cons r rr =>
  cases rr;cases r;obtain ⟨its,rv,pl,hz⟩:=I1.list hq;refine call_enumerate_list pl.isList fun h' he hit hsz hk=>?_;have hlt:=aqlp I1 hq;refine wpAny_pyIter_enum he ?_;have I2:Inv X pins σ H1 { s1 with heap:=h' }:=I1.kept (t':=s1.toks) hk;refine ⟨s1.heap.objs.size + 1,[s1.heap.objs.size + 1,s1.heap.objs.size],_,_,H1,rfl,I2,aqfv l _ _ (Nat.succ_ne_self _) (ne_of_lt (lt_succ_of_lt hlt)) (ne_of_lt hlt),⟨⟨_,by simpa using he⟩,hit⟩,fun b hb=>?_,q⟩;have hb':b=s1.heap.objs.size + 1 \/ b=s1.heap.objs.size:=by simpa using hb
  rcases hb' with rfl | rfl
  ·exact I1.fpOk (le_succ _) (I1.hok.fresh (le_succ _))
  ·exact I1.fpOk (le_refl _) (I1.hok.fresh (le_refl _))
theorem aY4 {ds:List D}:(aqez ds).length=ds.length:=by simp [aqez]
theorem aqkn {ds:List D} {i:Nat} (h:i < ds.length):(aqez ds)[i]'(by rw [aY4]; exact h)=.tup [.int (i:Int),ds[i]]:=by simp [aqez]
variable {js:List (Option Nat)} {g:GE} {c:FT} {e:FO}
theorem aqbo {K:Frag} {f:FE} {σ:L2.St} {H:Hp} {Q:VK} (h:tO K (aqe7 js f g c e) σ H Q):aqiu (iEnum K (tD K f)) (tGE K g) (tDT K c) (tO K e) js σ H Q:=by
 obtain ⟨F,ρ,total,s,re,hf,k⟩:=h;obtain ⟨d,hd,hf⟩:=bind_some hf;rw [aV2] at hf;split at hf
 ·rename_i xs
  split at hf
  ·rename_i hlen
   obtain ⟨total,hf2,rfl⟩:=map_some hf;have hf:=hf2;clear hf2;refine ⟨F,ρ,.lst xs,s,re,hd,fun v F1 H1 e1 r1=>?_⟩;cases r1 with
   | lst q t =>
    rename_i a vs;refine ⟨a,rfl,⟨vs,(aqsh e1.fh q).l⟩,fun l hl=>⟨fun i m σ' H'=>∃ F' ρ' done ys,CI K F1 H1 F' H' σ' ρ' l done/\SqE K F' a vs/\Reps K F' vs xs/\i <= xs.length/\m=xs.length - i/\done.length <= i/\aji g c e ((aqez xs).drop i) ρ'=some ys/\total=done++ys,
     ⟨_,F1,mkD js ρ,[],total,aVz re e1 hl,q,t,zero_le _,rfl,le_refl _,hf,rfl⟩,?_⟩⟩
    rintro i m σ' H' ⟨F',ρ',done,ys,ci,q',t',hi,rfl,hdn,hc,ht⟩
    by_cases hlt:i < xs.length
    ·have hv:i < vs.length:=by rw [t'.length]; exact hlt
     refine .inr ⟨⟨vs,vs[i],(aqsh ci.ext.fh q').l,by simp [hv]⟩,fun x H2 y=>?_⟩;obtain ⟨T,v',rfl,hT,rfl,y⟩:=y;obtain ⟨d,hd1,hd2⟩:=t'.get (y vs (aqsh ci.ext.fh q').l);have ed:xs[i]=d:=by rw [getElem?_eq_getElem hlt] at hd1; exact Option.some.inj hd1
     rw [akb (by rw [aY4]; exact hlt),aqkn hlt,ed] at hc;have hFT:=ci.ext.fh.free hT;have eT:=Ext.laid (o:=.tup [.int (i:Int),v']) ci.ext.fh hT;refine aJj (N:=fun σ2 H2=>∃ m',m' < xs.length - i/\_) (ci.more eT) hl (.tup (.inl (.inl upd_same)) (.cons (.int _) (.cons (hd2.mono (aj4 hFT)) .nil))) (lt_of_lt_of_le (lt_of_le_of_lt hdn hlt) (avb hlen)) hc fun F2 H2 σ2 ρ2 new ys' s2 ci2 hn2 hc2 he2=>?_;exact ⟨_,by omega,F2,ρ2,done++new,ys',ci2,aqsh (eT.ff.trans s2) q',t'.mono (eT.ff.trans s2),hlt,rfl,by simp; omega,hc2,by rw [ht,he2]; simp⟩
    ·refine .inl ⟨⟨vs,(aqsh ci.ext.fh q').l,by rw [t'.length]; omega⟩,?_⟩
     rw [drop_of_length_le (by rw [aY4]; omega)] at hc;cases hc
     have:total=done:=by simpa using ht
     subst this;obtain ⟨A,o1,o2⟩:=ci.own hl;exact k (.ref l) F' H' A (e1.trans ci.ext) o1 fun b z=>⟨(o2 b z).1,e1.hh.free (o2 b z).2⟩
  ·cases hf
 ·cases hf
end
def Itz (K:Frag) (a b:Addr):It :=
 ⟨fun i H=>∃ xs ys x y,SqL K H a xs/\SqL K H b ys/\xs[i]?=some x/\ys[i]?=some y,
  fun i H x H'=>∃ T v u,x=.ref T/\H T=none/\H'=upd H T (.tup [v,u])/\(∀ xs,SqL K H a xs->xs[i]?=some v)/\∀ ys,SqL K H b ys->ys[i]?=some u,
  fun i H=>∃ xs ys,SqL K H a xs/\SqL K H b ys/\min xs.length ys.length=i⟩
theorem aqiq {P:Program} {w:World} {K:Frag} {elts:List Expr} {kk:Nat} {tp:Pos} (a b z TI TO i1 i2:Addr) (D:ZipApart z TI TO i1 i2 a b):Turn P w K (.Tuple elts kk tp) (Itz K a b) [z,TI,TO,i1,i2] z
  (fun i h=>IsZip h z TI TO .none/\IsPair h TI (.ref i1) (.ref i2)/\(∃ a b,IsPair h TO a b)/\h.IsListIter i1 a i/\h.IsListIter i2 b i) where
 mem:=by simp
 obj:=fun i h st c hc=>by
  obtain ⟨h1,h2,⟨x,y,h3⟩,⟨o4,e4,c4,d4⟩,⟨o5,e5,c5,d5⟩⟩:=st;have hc':c=z \/ c=TI \/ c=TO \/ c=i1 \/ c=i2:=by simpa using hc
  rcases hc' with rfl | rfl | rfl | rfl | rfl
  ·exact ⟨_,h1,fun v q=>by cases q⟩
  ·exact ⟨_,h2,fun v q=>by cases q⟩
  ·exact ⟨_,h3,fun v q=>by cases q⟩
  ·exact ⟨o4,e4,fun v q=>by rw [d4] at q; cases q⟩
  ·exact ⟨o5,e5,fun v q=>by rw [d5] at q; cases q⟩
 keep:=fun i h h' st k=>by
  obtain ⟨h1,h2,⟨x,y,h3⟩,h4,h5⟩:=st;exact ⟨k z (by simp) _ h1,k TI (by simp) _ h2,⟨x,y,k TO (by simp) _ h3⟩,h4.at fun o q=>k i1 (by simp) o q,h5.at fun o q=>k i2 (by simp) o q⟩
 item:=by
  intro X hP hw hK hc i pins s σ H E I hf st hg;subst hP hw hK;obtain ⟨xs,ys,x,y,hq1,hq2,hx,hy⟩:=hg;obtain ⟨its1,rv1,p1,hz1⟩:=I.list hq1;obtain ⟨its2,rv2,p2,hz2⟩:=I.list hq2;obtain ⟨u1,hu1,ru1⟩:=rv1.get hx;obtain ⟨u2,hu2,ru2⟩:=rv2.get hy;have W:=WalksT.zip2 (prog:=X.prog) (w:=X.w) (A:=X.A) (I.ok.hd hc) z TI TO i1 i2 a b D its1.toArray its2.toArray;have hlt:i < min its1.toArray.size its2.toArray.size:=by
   have h1:=(List.getElem?_eq_some_iff.mp hu1).1;have h2:=(List.getElem?_eq_some_iff.mp hu2).1
   simp; omega
  refine W.item i s _ E hlt ⟨st.1,st.2.1,st.2.2.1,st.2.2.2.1,st.2.2.2.2,p1.isList,p2.isList⟩ fun T vals h' tk hP hT htup hmid hk=>⟨.ref T,rfl,?_⟩;refine W.go elts kk tp i T _ _ E hmid fun h'' hst'' hk''=>?_;obtain ⟨x',y',hx',hy',rfl⟩:=hP;have ex:x'=u1:=by
   have h1:its1[i]?=some x':=by simpa using hx'
   rw [hu1] at h1; cases h1; rfl
  have ey:y'=u2:=by
   have h1:its2[i]?=some y':=by simpa using hy'
   rw [hu2] at h1; cases h1; rfl
  subst ex ey;have nT:T ∉ [z,TO,i1,i2]:=W.apart i T h' hmid;obtain ⟨oT,hoT,hcT,nT2,hdT⟩:=id htup;have kall:∀ b u,b ∉ [z,TO,i1,i2]->s.heap.get? b=some u->h''.get? b=some u:=fun b u hb e=>hk'' b u hb (hk b u hb e);have new:ObjOk X.prog X.w (upd H T (.tup [x,y])) h'' T (.tup [x,y]):=by
   refine ⟨by simp [sizeLine_eq],[x',y'],.cons ru1 (.cons ru2 .nil),?_⟩;exact ⟨oT,hk'' T oT nT hoT,hcT,nT2,hdT⟩
  have hf':∀ b∈[z,TO,i1,i2],FpOk X pins H b:=fun b hb=>hf b (by simp at hb ⊢; rcases hb with h | h | h | h <;> simp [h]);have I2:=DL.Inv.turnedT I (h':=h'') (t':=tk) kall hf' hT new;refine ⟨.ref T,_,I2,rfl,⟨T,x,y,rfl,I.hok.fresh hT,rfl,fun zs hy'=>by rw [I.list_inj hy' hq1]; exact hx,fun zs hy'=>by rw [I.list_inj hy' hq2]; exact hy⟩,⟨hst''.1,hst''.2.1,hst''.2.2.1,hst''.2.2.2.1,hst''.2.2.2.2.1⟩,fun b hb=>?_⟩;rw [upd_ne ?_]
  ·exact (hf b hb).1
  ·rintro rfl
   obtain ⟨o,eo,_⟩:∃ o,s.heap.get? b=some o/\True:=by
    obtain ⟨h1,h2,⟨x,y,h3⟩,⟨o4,e4,c4,d4⟩,⟨o5,e5,c5,d5⟩⟩:=st;have hc':b=z \/ b=TI \/ b=TO \/ b=i1 \/ b=i2:=by simpa using hb
    rcases hc' with h | h | h | h | h <;> subst h
    ·exact ⟨_,h1,trivial⟩
    ·exact ⟨_,h2,trivial⟩
    ·exact ⟨_,h3,trivial⟩
    ·exact ⟨_,e4,trivial⟩
    ·exact ⟨_,e5,trivial⟩
   exact absurd (Heap.lt_size eo) (Nat.not_lt.mpr hT)
 done:=by
  intro X hP hw hK hc i pins s σ H E I hf st hg;subst hP hw hK;obtain ⟨xs,ys,hq1,hq2,hx⟩:=hg;obtain ⟨its1,rv1,p1,hz1⟩:=I.list hq1;obtain ⟨its2,rv2,p2,hz2⟩:=I.list hq2;have W:=WalksT.zip2 (prog:=X.prog) (w:=X.w) (A:=X.A) (I.ok.hd hc) z TI TO i1 i2 a b D its1.toArray its2.toArray;have hl:min its1.toArray.size its2.toArray.size=i:=by rw [<- hx,rv1.length,rv2.length]; simp
  have hf':∀ b∈[z,TO,i1,i2],FpOk X pins H b:=fun b hb=>hf b (by simp at hb ⊢; rcases hb with h | h | h | h <;> simp [h]);refine W.done s _ E (by rw [hl]; exact ⟨st.1,st.2.1,st.2.2.1,st.2.2.2.1,st.2.2.2.2,p1.isList,p2.isList⟩) fun h' tk hk=>⟨rfl,DL.Inv.turnedL I (fp:=[z,TO,i1,i2]) hk hf'⟩
 self:=fun _ _ _ _ _ st h=>wpAny_pyIter_zip st.1 h
section
variable {X:Cx} {elts:List Expr} {kk:Nat} {tp p pos:Pos} {a b:Expr}
theorem aqlj (n l1 l2:Nat) (h1:l1 < n) (h2:l2 < n):ZipApart (n + 4) (n + 2) (n + 3) n (n + 1) l1 l2:=by
 constructor <;> (show (_:Nat) ≠ _; omega)
def iZip (K:Frag) (ta:TA):TI:=fun σ H R=>ta σ H fun vs H1=>∃ a b,vs=[.ref a,.ref b]/\(∃ xs,SqL K H1 a xs)/\(∃ ys,SqL K H1 b ys)/\R (Itz K a b) H1
theorem aqhs {ta:TA} (hg:Gl X "zip") (hm:X.mg "zip"=none) (ha:PA X [a,b] ta) (hs:starEach [a,b] X.env=[(false,eval a X.env),(false,eval b X.env)]:=by rfl) (hs2:starEach [b] X.env=[(false,eval b X.env)]:=by rfl):PI X (.Tuple elts kk tp) (.Call (.Name "zip" p) [a,b] [] pos) (iZip X.K ta):=by
 intro pins s σ H R I h;refine Call_ (ld_blt I hg hm aqnl (PyProof.Rows.callWith_type1 (thn (ha pos pins s σ H _ I h) fun us s1 hQ=>?_) (by rw [hs,hs2]) (by rw [hs2]; rfl)));obtain ⟨vs,H1,I1,r1,q1⟩:=hQ;obtain ⟨l1,l2,rfl,⟨xs,hq1⟩,⟨ys,hq2⟩,q⟩:=q1;cases r1 with
 | cons r rr =>
  cases rr with
  | cons r' rr =>
   cases rr;cases r;cases r';obtain ⟨its1,rv1,p1,hz1⟩:=I1.list hq1;obtain ⟨its2,rv2,p2,hz2⟩:=I1.list hq2;have lt1:=aqlp I1 hq1;have lt2:=aqlp I1 hq2;refine call_zip_2 p1.isList p2.isList fun h' hz hTI hTO hi1 hi2 hsz hk=>?_;refine wpAny_pyIter_zip hz ?_;have I2:Inv X pins σ H1 { s1 with heap:=h' }:=I1.kept (t':=s1.toks) hk;have ap:=aqlj s1.heap.objs.size l1 l2 lt1 lt2;refine ⟨s1.heap.objs.size + 4,[s1.heap.objs.size + 4,s1.heap.objs.size + 2,s1.heap.objs.size + 3,s1.heap.objs.size,s1.heap.objs.size + 1],_,_,H1,rfl,I2,aqiq l1 l2 _ _ _ _ _ ap,⟨hz,hTI,⟨_,_,hTO⟩,hi1,hi2⟩,fun c hc=>?_,q⟩;have hle:s1.heap.objs.size <= c:=by
    have hc':c=s1.heap.objs.size + 4 \/ c=s1.heap.objs.size + 2 \/ c=s1.heap.objs.size + 3 \/ c=s1.heap.objs.size \/ c=s1.heap.objs.size + 1:=by simpa using hc
    rcases hc' with h | h | h | h | h <;> (rw [h]; omega)
   exact I1.fpOk hle (I1.hok.fresh hle)
theorem aqcv {xs ys:List D}:(aqs7 xs ys).length=min xs.length ys.length:=by simp [aqs7]
theorem aqlh {xs ys:List D} {i:Nat} (h1:i < xs.length) (h2:i < ys.length):(aqs7 xs ys)[i]'(by rw [aqcv]; omega)=.tup [xs[i],ys[i]]:=by simp [aqs7]
variable {js:List (Option Nat)} {g:GE} {c:FT} {e:FO}
theorem aqf5 {K:Frag} {f h':FE} {σ:L2.St} {H:Hp} {Q:VK} (h:tO K (aqcg js f h' g c e) σ H Q):aqiu (iZip K (tDA K (gd f (gd h' aqty)))) (tGE K g) (tDT K c) (tO K e) js σ H Q:=by
 obtain ⟨F,ρ,total,s,re,hf,k⟩:=h;obtain ⟨d,hd,hf1⟩:=bind_some hf;obtain ⟨d',hd',hf0⟩:=bind_some hf1;clear hf hf1;have hf:=hf0;clear hf0;rw [aqhd] at hf;split at hf
 ·rename_i xs ys
  split at hf
  ·rename_i hlen
   obtain ⟨total,hf2,rfl⟩:=map_some hf;have hf:=hf2;clear hf2;refine ⟨F,ρ,[.lst xs,.lst ys],s,re,by simp [gd,aqty,hd,hd'],fun v F1 H1 e1 r1=>?_⟩;cases r1 with
   | cons ra r1 =>
    cases r1 with
    | cons rb r1 =>
     cases r1;cases ra with
     | lst q t =>
      rename_i a vs;cases rb with
      | lst qb tb =>
       rename_i b us;refine ⟨a,b,rfl,⟨vs,(aqsh e1.fh q).l⟩,⟨us,(aqsh e1.fh qb).l⟩,fun l hl=>⟨fun i m σ' H'=>∃ F' ρ' done zs,CI K F1 H1 F' H' σ' ρ' l done/\SqE K F' a vs/\Reps K F' vs xs/\SqE K F' b us/\Reps K F' us ys/\i <= min xs.length ys.length/\m=min xs.length ys.length - i/\done.length <= i/\aji g c e ((aqs7 xs ys).drop i) ρ'=some zs/\total=done++zs,
        ⟨_,F1,mkD js ρ,[],total,aVz re e1 hl,q,t,qb,tb,zero_le _,rfl,le_refl _,hf,rfl⟩,?_⟩⟩
       rintro i m σ' H' ⟨F',ρ',done,zs,ci,q',t',qb',tb',hi,rfl,hdn,hc,ht⟩
       by_cases hlt:i < min xs.length ys.length
       ·have hx:i < xs.length:=by omega
        have hy:i < ys.length:=by omega
        have hv:i < vs.length:=by rw [t'.length]; exact hx
        have hu:i < us.length:=by rw [tb'.length]; exact hy
        refine .inr ⟨⟨vs,us,vs[i],us[i],(aqsh ci.ext.fh q').l,(aqsh ci.ext.fh qb').l,by simp [hv],by simp [hu]⟩,fun x H2 y=>?_⟩;obtain ⟨T,v',u',rfl,hT,rfl,y1,y2⟩:=y;obtain ⟨d1,hd1,hr1⟩:=t'.get (y1 vs (aqsh ci.ext.fh q').l);obtain ⟨d2,hd2,hr2⟩:=tb'.get (y2 us (aqsh ci.ext.fh qb').l);have ed1:xs[i]=d1:=by rw [getElem?_eq_getElem hx] at hd1; exact Option.some.inj hd1
        have ed2:ys[i]=d2:=by rw [getElem?_eq_getElem hy] at hd2; exact Option.some.inj hd2
        rw [akb (by rw [aqcv]; exact hlt),aqlh hx hy,ed1,ed2] at hc;have hFT:=ci.ext.fh.free hT;have eT:=Ext.laid (o:=.tup [v',u']) ci.ext.fh hT;refine aJj (N:=fun σ2 H2=>∃ m',m' < min xs.length ys.length - i/\_) (ci.more eT) hl (.tup (.inl (.inl upd_same)) (.cons (hr1.mono (aj4 hFT)) (.cons (hr2.mono (aj4 hFT)) .nil))) (lt_of_lt_of_le (lt_of_le_of_lt hdn hx) (avb hlen.1)) hc fun F2 H2 σ2 ρ2 new ys' s2 ci2 hn2 hc2 he2=>?_;exact ⟨_,by omega,F2,ρ2,done++new,ys',ci2,aqsh (eT.ff.trans s2) q',t'.mono (eT.ff.trans s2),aqsh (eT.ff.trans s2) qb',tb'.mono (eT.ff.trans s2),hlt,rfl,by simp; omega,hc2,by rw [ht,he2]; simp⟩
       ·refine .inl ⟨⟨vs,us,(aqsh ci.ext.fh q').l,(aqsh ci.ext.fh qb').l,by rw [t'.length,tb'.length]; omega⟩,?_⟩
        rw [drop_of_length_le (by rw [aqcv]; omega)] at hc;cases hc
        have:total=done:=by simpa using ht
        subst this;obtain ⟨A,o1,o2⟩:=ci.own hl;exact k (.ref l) F' H' A (e1.trans ci.ext) o1 fun b z=>⟨(o2 b z).1,e1.hh.free (o2 b z).2⟩
  ·cases hf
 ·cases hf
end
end DL
namespace DL
open PySem
def aqcu:List D->Option (List Int)
 | []=>some []
 | .int n :: ds=>(aqcu ds).map (n :: ·)
 | _=>none
theorem avt:∀ {ds:List D} {ns:List Int},aqcu ds=some ns->ds=ns.map D.int
 | [],_,h=>by cases h; rfl
 | d :: ds,ns,h=>by
  cases d with
  | int i =>
   simp only [aqcu] at h;cases q:aqcu ds with
   | none=>rw [q] at h; cases h
   | some ms=>rw [q] at h; cases h; rw [avt q]; rfl
  | _=>cases h
@[simp] theorem aJi:∀ (ns:List Int),aqcu (ns.map D.int)=some ns
 | []=>rfl
 | n :: ns=>by simp [aqcu,aJi ns]
def insU (x:Int):List Int->List Int
 | []=>[x]
 | y :: ys=>if x < y then x :: y :: ys else if x=y then y :: ys else y :: insU x ys
def aqi (ns:List Int):List Int:=ns.foldr insU []
theorem aYm (x z:Int):∀ l:List Int,z∈insU x l ↔ z=x \/ z∈l
 | []=>by simp [insU]
 | y :: ys=>by
  unfold insU;split
  ·simp
  ·split
   ·rename_i e; subst e; simp
   ·simp [aYm x z ys]
    constructor
    ·rintro (h | h | h)
     ·exact .inr (.inl h)
     ·exact .inl h
     ·exact .inr (.inr h)
    ·rintro (h | h | h)
     ·exact .inr (.inl h)
     ·exact .inl h
     ·exact .inr (.inr h)
theorem aKi (x:Int):∀ l:List Int,l.Pairwise (· < ·)->(insU x l).Pairwise (· < ·)
 | [],_=>by simp [insU]
 | y :: ys,h=>by
  rw [pairwise_cons] at h;unfold insU;split
  ·rename_i hx
   rw [pairwise_cons];refine ⟨fun z hz=>?_,List.pairwise_cons.mpr h⟩;rcases List.mem_cons.mp hz with rfl | hz
   ·exact hx
   ·exact Int.lt_trans hx (h.1 z hz)
  ·split
   ·exact List.pairwise_cons.mpr h
   ·rename_i h1 h2
    rw [pairwise_cons];refine ⟨fun z hz=>?_,aKi x ys h.2⟩;rcases (aYm x z ys).mp hz with rfl | hz
    ·omega
    ·exact h.1 z hz
theorem av7 (z:Int):∀ ns:List Int,z∈aqi ns ↔ z∈ns
 | []=>by simp [aqi]
 | n :: ns=>by
  have:=av7 z ns
  simp only [aqi] at this;simp only [aqi,List.foldr_cons,aYm,mem_cons,this]
theorem axz:∀ ns:List Int,(aqi ns).Pairwise (· < ·)
 | []=>by simp [aqi]
 | n :: ns=>by
  have:=axz ns
  simp only [aqi] at this ⊢;exact aKi n _ this
theorem aQf:∀ {l m:List Int},l.Pairwise (· < ·)->m.Pairwise (· < ·)->(∀ x,x∈l ↔ x∈m)->l=m
 | [],[],_,_,_=>rfl
 | [],y :: ys,_,_,h=>absurd ((h y).mpr (by simp)) (by simp)
 | x :: xs,[],_,_,h=>absurd ((h x).mp (by simp)) (by simp)
 | x :: xs,y :: ys,h1,h2,h=>by
  rw [pairwise_cons] at h1 h2;have e:x=y:=by
   rcases List.mem_cons.mp ((h x).mp (by simp)) with e | e
   ·exact e
   ·rcases List.mem_cons.mp ((h y).mpr (by simp)) with e' | e'
    ·exact e'.symm
    ·have a1:=h2.1 x e
     have a2:=h1.1 y e';omega
  subst e;rw [aQf h1.2 h2.2 fun z=>?_];constructor
  ·intro hz
   rcases List.mem_cons.mp ((h z).mp (mem_cons_of_mem _ hz)) with e | e
   ·subst e; exact absurd (h1.1 z hz) (Int.lt_irrefl _)
   ·exact e
  ·intro hz
   rcases List.mem_cons.mp ((h z).mpr (mem_cons_of_mem _ hz)) with e | e
   ·subst e; exact absurd (h2.1 z hz) (Int.lt_irrefl _)
   ·exact e
def aVs:List D->Option (List D)
 | [.lst xs]=>(aqcu xs).bind fun ns=>if ns.length < 4000/\(aqi ns).length < 64 then some ((aqi ns).map .int) else none
 | _=>none
def insL (x:Int):List Int->List Int
 | []=>[x]
 | y :: ys=>if x <= y then x :: y :: ys else y :: insL x ys
def awa (ns:List Int):List Int:=ns.foldr insL []
theorem aVj (x:Int):∀ l:List Int,(insL x l).Perm (x :: l)
 | []=>.refl _
 | y :: ys=>by
  unfold insL;split
  ·exact .refl _
  ·exact ((aVj x ys).cons y).trans (List.Perm.swap _ _ _)
theorem aqm:∀ ns:List Int,(awa ns).Perm ns
 | []=>.refl _
 | n :: ns=>(aVj n _).trans ((aqm ns).cons n)
theorem aKk (x:Int):∀ l:List Int,l.Pairwise (· <= ·)->(insL x l).Pairwise (· <= ·)
 | [],_=>by simp [insL]
 | y :: ys,h=>by
  rw [pairwise_cons] at h;unfold insL;split
  ·rename_i hx
   rw [pairwise_cons];refine ⟨fun z hz=>?_,List.pairwise_cons.mpr h⟩;rcases List.mem_cons.mp hz with rfl | hz
   ·exact hx
   ·exact Int.le_trans hx (h.1 z hz)
  ·rename_i hx
   rw [pairwise_cons];refine ⟨fun z hz=>?_,aKk x ys h.2⟩;rcases List.mem_cons.mp ((aVj x ys).mem_iff.mp hz) with rfl | hz
   ·omega
   ·exact h.1 z hz
theorem aQa:∀ ns:List Int,(awa ns).Pairwise (· <= ·)
 | []=>.nil
 | n :: ns=>aKk n _ (aQa ns)
theorem aqkl {ns ns':List Int} (hp:ns'.Perm ns) (hs:ns'.Pairwise (· <= ·)):ns'=awa ns :=
 List.Perm.eq_of_pairwise (fun _ _ _ _ a b=>Int.le_antisymm a b) hs (aQa ns) (hp.trans (aqm ns).symm)
def aqi7:List D->Option (List D)
 | [.lst xs]=>(aqcu xs).bind fun ns=>if ns.length < 64 then some ((awa ns).map .int) else none
 | _=>none
end DL
namespace SetW
open PySem
def Ris (xs:Array Nat):Prop:=∀ (i k:Nat),i < k->∀ (a b:Nat),xs[i]?=some a->xs[k]?=some b->a < b
theorem aqbf {xs:Array Nat} {i d a:Nat} (h:xs[i]?=some a):xs.getD i d=a:=by
 rw [Array.getD_eq_getD_getElem?,h]; rfl
theorem aXz {xs:Array Nat} {i:Nat} (h:i < xs.size):∃ a,xs[i]?=some a:=⟨xs[i],by rw [Array.getElem?_eq_getElem h]⟩
theorem aqa6 {xs:Array Nat} {j:Nat} (hx:Ris xs):∀ (fuel lo hi:Nat),hi - lo <= fuel->lo <= hi->hi <= xs.size->(∀ i a,i < lo->xs[i]?=some a->a < j)->(∀ i a,hi <= i->xs[i]?=some a->j <= a) ->
  SetTable.below.go xs j fuel lo hi <= xs.size/\(∀ i a,i < SetTable.below.go xs j fuel lo hi->xs[i]?=some a->a < j)/\(∀ i a,SetTable.below.go xs j fuel lo hi <= i->xs[i]?=some a->j <= a)
 | 0,lo,hi,h1,h2,h3,h4,h5=>by
  have:lo=hi:=by omega
  subst this;exact ⟨h3,h4,h5⟩
 | fuel + 1,lo,hi,h1,h2,h3,h4,h5=>by
  unfold SetTable.below.go
  by_cases hl:lo < hi
  ·rw [if_pos hl]
   obtain ⟨m,hm⟩:∃ m,xs[(lo + hi) / 2]?=some m:=aXz (by omega);dsimp only;rw [aqbf hm]
   by_cases hj:m < j
   ·rw [if_pos hj]
    refine aqa6 hx fuel _ hi (by omega) (by omega) h3 (fun i a hi' ha=>?_) h5
    by_cases e:i=(lo + hi) / 2
    ·subst e; rw [hm] at ha; cases ha; exact hj
    ·exact lt_trans (hx i _ (by omega) a m ha hm) hj
   ·rw [if_neg hj]
    refine aqa6 hx fuel lo _ (by omega) (by omega) (by omega) h4 (fun i a hi' ha=>?_)
    by_cases e:i=(lo + hi) / 2
    ·subst e; rw [hm] at ha; cases ha; omega
    ·have:=hx _ i (by omega) m a hm ha; omega
  ·rw [if_neg hl]
   have:lo=hi:=by omega
   subst this;exact ⟨h3,h4,h5⟩
theorem aXs {xs:Array Nat} (hx:Ris xs) (j:Nat):SetTable.below xs j <= xs.size/\(∀ i a,i < SetTable.below xs j->xs[i]?=some a->a < j)/\(∀ i a,SetTable.below xs j <= i->xs[i]?=some a->j <= a) :=
 aqa6 hx xs.size 0 xs.size (by omega) (by omega) (le_refl _) (fun i a h=>absurd h (Nat.not_lt_zero _)) fun i a h ha=>by
  rw [Array.getElem?_eq_none h] at ha; cases ha
theorem aqff {xs:Array Nat} (hx:Ris xs) {i a:Nat} (h:xs[i]?=some a):SetTable.below xs (a + 1)=i + 1:=by
 obtain ⟨h1,h2,h3⟩:=aXs hx (a + 1);have hi:i < xs.size:=by
  by_cases c:i < xs.size
  ·exact c
  ·rw [Array.getElem?_eq_none (by omega)] at h; cases h
 generalize SetTable.below xs (a + 1)=r at h1 h2 h3;have g1:i < r:=by
  by_cases c:i < r
  ·exact c
  ·have:=h3 i a (by omega) h; omega
 by_cases g2:i + 1 < r
 ·obtain ⟨b,hb⟩:=aXz (xs:=xs) (i:=i + 1) (by omega)
  have c1:=h2 (i + 1) b g2 hb;have c2:=hx i (i + 1) (by omega) a b h hb;omega
 ·omega
theorem aqfd {xs:Array Nat} (hx:Ris xs):SetTable.below xs 0=0:=by
 obtain ⟨h1,h2,h3⟩:=aXs hx 0;generalize SetTable.below xs 0=r at h1 h2 h3;cases r with
 | zero=>rfl
 | succ r =>
  obtain ⟨a,ha⟩:=aXz (xs:=xs) (i:=0) (by omega)
  have:=h2 0 a (by omega) ha
  omega
theorem aqg8 {xs:Array Nat}:Ris xs ↔ xs.toList.Pairwise (· < ·):=by
 rw [List.pairwise_iff_getElem];constructor
 ·intro h i j hi hj hij
  exact h i j hij _ _ (by rw [<- getElem?_toList]; exact getElem?_eq_getElem hi) (by rw [<- getElem?_toList]; exact getElem?_eq_getElem hj)
 ·intro h i k hik a b ha hb
  rw [<- getElem?_toList] at ha hb;obtain ⟨hi,rfl⟩:=List.getElem?_eq_some_iff.mp ha;obtain ⟨hk,rfl⟩:=List.getElem?_eq_some_iff.mp hb;exact h i k hi hk hik
theorem aqm2:Ris #[]:=by intro i k _ a b h; simp at h
theorem aqg7 (n:Nat):Ris (Array.range n):=by
 rw [aqg8,Array.toList_range]; exact List.pairwise_lt_range
theorem aqm1 {xs:Array Nat} (hx:Ris xs) {j:Nat} (hj:xs[SetTable.below xs j]? ≠ some j):Ris (SetTable.insertAt xs (SetTable.below xs j) j):=by
 obtain ⟨h1,h2,h3⟩:=aXs hx j;generalize SetTable.below xs j=r at h1 h2 h3 hj;have hp:=aqg8.mp hx;rw [aqg8,SetTable.toList_insertAt,List.pairwise_append,pairwise_cons];have hd:∀ b∈xs.toList.drop r,j < b:=by
  intro b hb;obtain ⟨k,hk⟩:=List.getElem?_of_mem hb;rw [List.getElem?_drop,getElem?_toList] at hk;have c1:=h3 (r + k) b (by omega) hk;cases k with
  | zero =>
   have:b ≠ j:=by rintro rfl; exact hj hk
   omega
  | succ k =>
   have hlt:r + (k + 1) < xs.size:=by
    by_cases c:r + (k + 1) < xs.size
    ·exact c
    ·rw [Array.getElem?_eq_none (by omega)] at hk; cases hk
   obtain ⟨m,hm⟩:=aXz (xs:=xs) (i:=r) (by omega);have c2:=h3 r m (le_refl _) hm;have c3:=hx r (r + (k + 1)) (by omega) m b hm hk;omega
 have ht:∀ a∈xs.toList.take r,a < j:=by
  intro a ha;obtain ⟨k,hk⟩:=List.getElem?_of_mem ha;have hkr:k < r:=by
   by_cases c:k < r
   ·exact c
   ·rw [List.getElem?_take,if_neg c] at hk; cases hk
  rw [List.getElem?_take,if_pos hkr,getElem?_toList] at hk;exact h2 k a hkr hk
 refine ⟨hp.sublist (take_sublist _ _),⟨hd,hp.sublist (List.drop_sublist _ _)⟩,fun a ha b hb=>?_⟩;rcases List.mem_cons.mp hb with rfl | hb
 ·exact ht a ha
 ·exact lt_trans (ht a ha) (hd b hb)
theorem aqfy {t:SetTable} {j:Nat} (h:∀ i,t.slot j ≠ .live i):t.place[SetTable.below t.place j]? ≠ some j:=by
 intro e;refine h (SetTable.below t.place j) ?_;simp [SetTable.slot,e]
theorem aJ0 {t:SetTable} {f:Nat->Int} {h:Int}:∀ (fuel:Nat) (p:SetTable.Probe),(∀ d,p.dummy=some d->∀ i,t.slot d ≠ .live i)->∀ j d,SetTable.probe.go t f h fuel p=some (.empty j d)->∀ i,t.slot (d.getD j) ≠ .live i
 | 0,p,_,j,d,e=>by cases e
 | fuel + 1,p,hp,j,d,e=>by
  have had:∀ q:SetTable.Probe,(t.advance q).dummy=q.dummy:=by
   intro q; unfold SetTable.advance; split <;> rfl
  unfold SetTable.probe.go at e;split at e
  ·rename_i hs
   cases e;cases hd:p.dummy with
   | none=>intro i; rw [getD_none,hs]; exact SetTable.Slot.noConfusion
   | some d=>rw [getD_some]; exact hp d hd
  ·rename_i hs
   refine aJ0 fuel _ (fun d hd=>?_) j d e;rw [had] at hd;cases hd;intro i; rw [hs]; exact SetTable.Slot.noConfusion
  ·split at e
   ·cases e
   ·exact aJ0 fuel _ (fun d hd=>hp d (by rw [had] at hd; exact hd)) j d e
def aZg (led:Bool) (t:SetTable):Prop:=Ris t.place/\t.led=led
theorem aZg.standIn {led:Bool} {t:SetTable} (h:aZg led t) (n:Nat):aZg led (t.standIn n):=⟨aqg7 n,h.2⟩
theorem aZg.plainOff {led:Bool} {t:SetTable} (h:aZg led t):aZg led { t with plain:=false }:=h
theorem aZg.lay {led:Bool} {t:SetTable} (h:aZg led t) (es:Array (Int × Value)) (n:Int) (x:Value):aZg led (layNew t es n x).2.1:=by
 unfold layNew;split
 ·rename_i slot wd hf
  have hs:t.place[SetTable.below t.place slot]? ≠ some slot:=by
   unfold SetTable.freeSlot at hf;split at hf
   ·rename_i j d hq
    cases hf;exact aqfy (aJ0 _ _ (fun d e=>by cases e) _ _ hq)
   ·cases hf
  have hput:aZg led (t.put slot).1:=⟨aqm1 h.1 hs,h.2⟩;dsimp only;unfold SetTable.orStandIn;split
  ·exact hput
  ·exact hput.standIn _
 ·exact h.standIn _
theorem fm_pw {f:Nat->Option (Nat × Nat)} (hf:∀ j q,f j=some q->q.1=j):∀ (l:List Nat),l.Pairwise (· < ·)->((l.filterMap f).map (·.1)).Pairwise (· < ·)
 | [],_=>.nil
 | a :: l,h=>by
  rw [pairwise_cons] at h;rw [filterMap_cons];split
  ·exact fm_pw hf l h.2
  ·rename_i q hq
   rw [map_cons,pairwise_cons];refine ⟨fun b hb=>?_,fm_pw hf l h.2⟩;obtain ⟨z,hz,rfl⟩:=List.mem_map.mp hb;obtain ⟨k,hk,hz'⟩:=List.mem_filterMap.mp hz;rw [hf _ _ hq,hf _ _ hz'];exact h.1 k hk
theorem aZg.relay {led:Bool} {t:SetTable} (h:aZg led t) (es:Array (Int × Value)) (n:Nat):aZg led (relayAll t es n).2.1:=by
 unfold relayAll;split
 ·rename_i t' order hr
  dsimp only;split
  ·unfold SetTable.relaid SetTable.laid at hr
   cases ho:SetTable.layClean (SetTable.sizeAbove n - 1) (es.map (·.1)) with
   | none=>rw [ho] at hr; cases hr
   | some owner =>
    rw [ho] at hr;have hr':=Option.some.inj hr;have e:=congrArg Prod.fst hr';dsimp only at e;rw [<- e];refine ⟨?_,h.2⟩;rw [aqg8,List.toList_toArray];refine fm_pw (fun j q hq=>?_) _ List.pairwise_lt_range;obtain ⟨z,_,rfl⟩:=Option.map_eq_some_iff.mp hq;rfl
  ·exact h.standIn _
 ·exact h.standIn _
theorem aZg.fresh (led:Bool):aZg led (.fresh 0 0 led):=⟨aqm2,rfl⟩
end SetW
namespace SetW
open PySem PySem.Spec PyProof.Rows
def aqto (w:World):Bool:=w.params.followText "set-order"
section
variable {prog:Program} {w:World} {A:Around} {E:Value->Shared->Prop} {s:Shared}
def aV9 (prog:Program) (w:World) (h:Heap) (a:Addr) (S:Int->Bool) (n:Nat):Prop :=
 ∃ o es ep t,h.get? a=some o/\o.ExactSet/\o.data=.set es ep t/\ElemsOf (intKind prog w) es.toList/\(∀ k,S k=true ↔ ∃ e∈es.toList,(intKind prog w).is k e.2=true)
 /\es.size < scanBound/\t.fits es.size=true/\es.size=n/\aZg (!aqto w) t
theorem aV9.congr {h:Heap} {a:Addr} {S S':Int->Bool} {n n':Nat} (hS:aV9 prog w h a S n) (e:∀ k,S k=S' k) (en:n=n'):aV9 prog w h a S' n':=by
 have:S=S':=funext e
 subst this; subst en; exact hS
theorem aV9.at {h h':Heap} {a:Addr} {S:Int->Bool} {n:Nat} (hS:aV9 prog w h a S n) (e:∀ o,h.get? a=some o->h'.get? a=some o):aV9 prog w h' a S n:=by
 obtain ⟨o,es,ep,t,ho,r⟩:=hS;exact ⟨o,es,ep,t,e o ho,r⟩
theorem aV9.store {h:Heap} {a:Addr} {o:Obj} {es:Array (Int × Value)} {ep:Nat} {t:SetTable} (ho:h.get? a=some o) (hex:o.ExactSet) (hd:o.data=.set es ep t)
  {es':Array (Int × Value)} {t':SetTable} {S':Int->Bool} (hel:ElemsOf (intKind prog w) es'.toList) (hmem:∀ k,S' k=true ↔ ∃ e∈es'.toList,(intKind prog w).is k e.2=true) (hb:es'.size < scanBound) (hf:t'.fits es'.size=true) (ht:aZg (!aqto w) t') :
  (h.update a (Obj.putSet es' t')).get? a=some { o with data:=.set es' (ep + 1) t' }/\aV9 prog w (h.update a (Obj.putSet es' t')) a S' es'.size:=by
 have q:=(SetOf_store (knd:=intKind prog w) ho hex hd hel hmem hb hf).1;exact ⟨q,_,es',ep + 1,t',q,hex,rfl,hel,hmem,hb,hf,rfl,ht⟩
theorem aqg0 {a:Addr} {S:Int->Bool} {n:Nat} {k:Int} {x:Value} {Q:Bool->Shared->Prop} (hkey:(intKind prog w).is k x=true) (hsc:x.scannable=true) (hS:aV9 prog w s.heap a S n)
  (hroom:n + 1 < scanBound)
  (h:∀ h',Heap.SameBut a s.heap h'->aV9 prog w h' a (fun k'=>S k' || decide (k'=k)) (if S k then n else n + 1)->Q (!S k) { s with heap:=h' }) :
  wpAny (model prog w) A (setAddHashed a x ((intKind prog w).hash k)) Q E s:=by
 obtain ⟨o,es,ep,t,ho,hex,hd,hel,hmem,hb,hf,hn,ht⟩:=hS;unfold setAddHashed setAddHashedIn;refine wpAny_holding (wpAny_bind (wpAny_setState_of ho hd hf ?_));dsimp only;rw [byScan_of hsc hb hel];simp only [↓reduceIte];unfold setAddByScan;refine wpAny_bind (wpAny_bind (wpAny_rule (wpAny_bind (wpAny_setScan_of hkey ho hd hf hel ?_))));cases hr:List.findIdx? (fun e=>(intKind prog w).is k e.2) es.toList with
 | some j =>
  dsimp only;obtain ⟨hj,hpj,_⟩:=List.findIdx?_eq_some_iff_getElem.mp hr;have hSk:S k=true:=(hmem k).mpr ⟨es.toList[j],getElem_mem hj,hpj⟩;refine wpAny_pure (wpAny_pure ?_)
  have:=h s.heap (Heap.SameBut.refl a s.heap) ⟨o,es,ep,t,ho,hex,hd,hel,fun k'=>by
   rw [Bool.or_eq_true,decide_eq_true_eq,<- hmem k'];exact ⟨fun hk=>hk.elim id (fun e=>e ▸ hSk),.inl⟩,hb,hf,by rw [hSk]; exact hn,ht⟩
  rw [hSk] at this;exact this
 | none =>
  dsimp only;have hSk:S k=false:=by
   cases hk:S k with
   | false=>rfl
   | true=>obtain ⟨e,he,hp⟩:=(hmem k).mp hk; have:=List.findIdx?_eq_none_iff.mp hr e he; rw [hp] at this; exact Bool.noConfusion this
  have hperm:=layNew_perm t es ((intKind prog w).hash k) x;have hfits:=layNew_fits t es ((intKind prog w).hash k) x;have hok:=ht.lay es ((intKind prog w).hash k) x;generalize hL:layNew t es ((intKind prog w).hash k) x=L at hperm hfits hok ⊢;obtain ⟨es1,t1,wasDummy,gave⟩:=L;dsimp only at hperm hfits hok ⊢;rw [Array.toList_push] at hperm;have hel1:ElemsOf (intKind prog w) es1.toList:=(hel.push hkey hsc).perm hperm;have hmem1:∀ k',(S k' || decide (k'=k))=true ↔ ∃ e∈es1.toList,(intKind prog w).is k' e.2=true:=mem_push_iff hkey hmem hperm;have hsz1:es1.size=n + 1:=by rw [<- length_toList,hperm.length_eq,length_append,length_toList,hn]; rfl
  have hb1:es1.size < scanBound:=by rw [hsz1]; exact hroom
  have hgw:∀ (b:Bool) {s₁:Shared} {Q':Unit->Shared->Prop},Q' () s₁->wpAny (model prog w) A (match b with | true=>rule "set.scan.the-table-gave-way" | false=>pure ()) Q' E s₁ :=
   fun b s₁ Q' hq=>by cases b <;> first | exact wpAny_pure hq | exact wpAny_rule hq
  have hend:∀ h',Heap.SameBut a s.heap h'->aV9 prog w h' a (fun k'=>S k' || decide (k'=k)) es1.size->Q true { s with heap:=h' }:=by
   intro h' hsb hS'
   have:=h h' hsb
   rw [hSk] at this;rw [hsz1] at hS';exact this hS'
  refine wpAny_bind (hgw _ ?_);have fin:∀ t2:SetTable,t2.fits es1.size=true->aZg (!aqto w) t2->∀ (g:Bool->Sem Unit),(∀ (b:Bool) (s₁:Shared) (Q':Unit->Shared->Prop),Q' () s₁->wpAny (model prog w) A (g b) Q' E s₁) ->
    wpAny (model prog w) A (do
     storeSet a es1 t2
     if (!wasDummy && t2.tooFull) = true then do
         g (relayAll t2 es1 (SetTable.grown es1.size)).2.2
         storeSet a (relayAll t2 es1 (SetTable.grown es1.size)).1 (relayAll t2 es1 (SetTable.grown es1.size)).2.1
         pure (some true)
      else pure (some true)) (fun r s'=>wpAny (model prog w) A (match r with | some added=>pure added | none=>setAddHashedIn a x ((intKind prog w).hash k) 99999) Q E s') E s:=by
   intro t2 f2 k2 g hg;refine wpAny_bind (wpAny_storeSet_of ho hd ?_ (fits_of_scanBound hb1));obtain ⟨ho1,hS1⟩:=aV9.store (prog:=prog) ho hex hd hel1 hmem1 hb1 f2 k2;have hsb1:=Heap.SameBut.update s.heap a (Obj.putSet es1 t2);split
   ·have hp:=relayAll_perm t2 es1 (SetTable.grown es1.size)
    have hfr:=relayAll_fits t2 es1 (SetTable.grown es1.size);have hkr:=k2.relay es1 (SetTable.grown es1.size);generalize hRl:relayAll t2 es1 (SetTable.grown es1.size)=Rl at hp hfr hkr ⊢;obtain ⟨es2,t3,gave2⟩:=Rl;dsimp only at hp hfr hkr ⊢;have hel2:ElemsOf (intKind prog w) es2.toList:=hel1.perm hp;have hmem2:∀ k',(S k' || decide (k'=k))=true ↔ ∃ e∈es2.toList,(intKind prog w).is k' e.2=true:=fun k'=>(hmem1 k').trans ⟨fun ⟨e,he,q⟩=>⟨e,hp.mem_iff.mpr he,q⟩,fun ⟨e,he,q⟩=>⟨e,hp.mem_iff.mp he,q⟩⟩;have hsz:es2.size=es1.size:=by rw [<- length_toList,hp.length_eq,length_toList]
    have hb2:es2.size < scanBound:=by rw [hsz]; exact hb1
    refine wpAny_bind (hg _ _ _ ?_);refine wpAny_bind (wpAny_storeSet_of ho1 rfl ?_ (fits_of_scanBound hb2));obtain ⟨_,hS2⟩:=aV9.store (prog:=prog) ho1 hex rfl hel2 hmem2 hb2 hfr hkr;rw [hsz] at hS2;exact wpAny_pure (wpAny_pure (hend _ (hsb1.trans (Heap.SameBut.update _ a _)) hS2))
   ·exact wpAny_pure (wpAny_pure (hend _ hsb1 hS1))
  split
  ·refine wpAny_bind ?_
   rw [hashByValue_scannable 8 hsc];refine wpAny_pure ?_;refine fin _ ?_ ?_ _ ?_
   ·split
    ·exact hfits
    ·exact SetTable.fits_plain_off hfits
   ·split
    ·exact hok
    ·exact hok.plainOff
   ·intro b s₁ Q' hq; cases b <;> first | exact wpAny_pure hq | exact wpAny_rule hq
  ·refine wpAny_bind (wpAny_pure ?_)
   simp only [↓reduceIte];refine fin _ hfits hok _ ?_;intro b s₁ Q' hq; cases b <;> first | exact wpAny_pure hq | exact wpAny_rule hq
theorem aqfu {R:Result->Shared->Prop} {I:Addr} {fp wr:List Addr} {G:Array GenState->Array GenState->Prop} {n:Nat} {P:Nat->Value->Prop} {St:Nat->Shared->Prop} (W:WalksS prog w A.in1 I fp wr G n P St) (S:Addr) (hSf:S ∉ fp)
  (val:Nat->Int) (hval:∀ i v,P i v->∃ t,v=.int (val i) t) (hb:n + 1 < scanBound) :
  ∀ (k i:Nat) (s:Shared),n - i=k->i <= n->St i s->aV9 prog w s.heap S (fun k'=>(firstMet val i).any (· == k')) (firstMet val i).length ->
   (∀ s',Moved (S :: wr) G s s'->aV9 prog w s'.heap S (fun k'=>(firstMet val n).any (· == k')) (firstMet val n).length->R (.ok (.ret .none)) s') ->
   codeAny (model prog w) A (.builtin "set.update.loop" ⟨[.ref S,.ref I],[]⟩) R s:=by
 have hSw:S ∉ wr:=fun h=>hSf (W.sub _ h);have hsub:∀ b∈wr,b∈S :: wr:=fun b hb=>mem_cons_of_mem _ hb;intro k
 induction k with
 | zero =>
  intro i s hk hi hst hS hR;have hin:i=n:=by omega
  subst hin;refine codeAny_builtin F.entry_set_update_loop ?_;rw [Around.under_plainId F.plain_set_update_loop _];show wpAny _ A.in1 (pyNext (.ref I) >>= _) _ _ s;refine wpAny_bind (W.done s _ _ hst fun s' hm=>?_);show wpAny _ A.in1 (ret Value.none) _ _ s';exact wpAny_pure (hR s' (hm.mono hsub) (hS.at fun o e=>hm.heap S _ hSw e))
 | succ k ih =>
  intro i s hk hi hst hS hR;have hlt:i < n:=by omega
  refine codeAny_builtin F.entry_set_update_loop ?_;rw [Around.under_plainId F.plain_set_update_loop _];show wpAny _ A.in1 (pyNext (.ref I) >>= _) _ _ s;refine wpAny_bind (W.item i s _ _ hlt hst fun v s' hP hst' hm=>?_);obtain ⟨t,rfl⟩:=hval i v hP;have hS':=hS.at (h':=s'.heap) fun o e=>hm.heap S _ hSw e;show wpAny _ A.in1 (holding [Value.int (val i) t] (setAdd S (.int (val i) t)) >>= _) _ _ s';refine wpAny_bind (wpAny_holding ?_);unfold setAdd;refine wpAny_holding ?_;refine wpAny_bind ((intKind prog w).pyHash (k:=val i) (intKind_is _ _ _ _) ?_);have hroom:(firstMet val i).length + 1 < scanBound:=by have:=firstMet_length_le val i; omega
  refine aqg0 (s:={ s' with toks:=s'.toks + 1 }) (intKind_is _ _ _ _) rfl hS' hroom fun h' hsb hS2=>?_;have hSi:aV9 prog w h' S (fun k'=>(firstMet val (i + 1)).any (· == k')) (firstMet val (i + 1)).length :=
   hS2.congr (fun k'=>by rw [firstMet_succ,step_any]) (by rw [firstMet_succ,step_length])
  refine wpAny_pure ⟨plainId_quiet F.plain_set_update_loop _,ih (i + 1) _ (by omega) hlt (W.frame _ s' _ _ hst' (le_succ _) fun b hb o e=>?_) hSi fun s'' hm'' hS''=>?_⟩
  ·rw [hsb.2 b (fun h:b=S=>hSf (by rw [<- h]; exact hb))]; exact e
  ·refine hR s'' (Moved.trans W.gtrans ((hm.mono hsub).then_heap (le_succ _) fun b o hb e=>?_) hm'') hS''
   rw [hsb.2 b (fun h:b=S=>hb (by rw [h]; exact mem_cons_self))]; exact e
end
end SetW
namespace SetW
open PySem PySem.Spec PyProof.Rows
section
variable {prog:Program} {w:World} {A:Around} {E:Value->Shared->Prop} {s:Shared}
theorem aqdb (a:Value) {Q₁:Value->Shared->Prop}
  (h:Q₁ (.ref s.heap.objs.size) { s with heap:=s.heap.push { cls:=.type "set",dict:=none,data:=.set #[] 0 (.fresh 0 0 (!aqto w)) } }) :
  codeAny (model prog w) A (.call (.builtin "set.__new__") ⟨[.type "set",a],[]⟩) (wants Q₁ E) s:=by
 refine codeAny_of_tree ?_;show wpAny _ A.in1 (do checkBuiltinCall "set.__new__" ⟨[.type "set",a],[]⟩; again (.builtin "set.__new__" ⟨[.type "set",a],[]⟩)) _ _ s;refine wpAny_bind (wpAny_of_eq (F.newCall_set_1 a) (wpAny_pure ⟨plainId_quiet F.plain_set_new _,codeAny_builtin F.entry_set_new ?_⟩));rw [Around.under_plainId F.plain_set_new _];unfold Builtin.«set.__new__» Builtin.Frozenset.newClass;have hsub:=sub_set_self;obtain ⟨hp,g,d,tk,os⟩:=s;dsimp only
 wp_walk
 refine wpAny_askSetting (wpAny_pure ?_);dsimp only;simp only [newObj];refine wpAny_bind (wpAny_alloc (wpAny_pure ?_));exact wpAny_pure h
set_option maxHeartbeats 3200000 in
theorem aqcq {l:Addr} {items:Array Value} {ns:List Int} {Q:Value->Shared->Prop}
  (hh:A.handled=none) (hl:s.heap.IsList l items) (hi:PyProof.Rows.IntsAre items.toList ns) (hb:items.size + 1 < scanBound)
  (h:∀ (h':Heap) (tk:Nat),aV9 prog w h' s.heap.objs.size (fun k'=>(PyProof.Rows.firstMet (fun i=>ns.getD i 0) items.size).any (· == k')) (PyProof.Rows.firstMet (fun i=>ns.getD i 0) items.size).length ->
   (∀ b o,b < s.heap.objs.size->s.heap.get? b=some o->h'.get? b=some o)->Q (.ref s.heap.objs.size) { s with heap:=h',toks:=tk }) :
  wpAny (model prog w) A (call (.type "set") [.ref l]) Q E s:=by
 obtain ⟨c,tl,hmro⟩:=F.called_set.mro;have hmade:=F.called_set.made;have hsub:=F.called_set.sub;refine wpAny_call (codeAny_of_tree ?_);show wpAny _ _ (callAny (.type "set") _) _ _ _;refine wpAny_pure ⟨Code.quiet_builtin _ (by decide +kernel),codeAny_builtin F.entry_type_call ?_⟩;rw [Around.under_plain (weight_type_call_type "set" [.ref l] []) rfl];have h1:=F.called_set.notType;have h2:=F.called_set.canCreate;have hct:=F.typeCall_set_1 (.ref l)
 repeat (any_goals (first | assumption | wp_step))
 refine codeAny_mono (aqdb (.ref l) (E:=E) (Q₁:=fun obj s₁=>obj=.ref s.heap.objs.size/\s₁={ s with heap:=s.heap.push { cls:=.type "set",dict:=none,data:=.set #[] 0 (.fresh 0 0 (!aqto w)) } }) ⟨rfl,rfl⟩) fun r s₁ hr=>?_;cases r with
 | error e=>exact hr
 | ok fl =>
  cases fl with
  | ret obj =>
   obtain ⟨rfl,rfl⟩:=hr;have hS:(s.heap.push { cls:=.type "set",dict:=none,data:=.set #[] 0 (.fresh 0 0 (!aqto w)) }).get? s.heap.objs.size=some { cls:=.type "set",dict:=none,data:=.set #[] 0 (.fresh 0 0 (!aqto w)) }:=Heap.get?_push_size _ rfl;have hT:Shared.TypeIs { s with heap:=s.heap.push { cls:=.type "set",dict:=none,data:=.set #[] 0 (.fresh 0 0 (!aqto w)) } } (.ref s.heap.objs.size) "set":=⟨_,hS,rfl⟩;have hli:=F.called_set.init.lookup;have hbi:=F.called_set.init.bind (.ref s.heap.objs.size)
   repeat (any_goals (first | assumption | wp_step))
   refine codeAny_mono (codeAny_call_builtin (R:=wants (fun r s₂=>r=.none/\∃ h' tk,s₂={ s with heap:=h',toks:=tk } /\
     aV9 prog w h' s.heap.objs.size (fun k'=>(PyProof.Rows.firstMet (fun i=>ns.getD i 0) items.size).any (· == k')) (PyProof.Rows.firstMet (fun i=>ns.getD i 0) items.size).length /\
     (∀ b o,b < s.heap.objs.size->s.heap.get? b=some o->h'.get? b=some o)) E) F.called_set.init.plain F.entry_set_init (check_set_init_1 hT ?_)) fun r₂ s₂ hr₂=>?_
   ·obtain ⟨ol,hol,hcl,nl,hdl⟩:=hl
    obtain ⟨ocls,odict,odata,oslots⟩:=ol;simp only at hcl hdl;subst hcl; subst hdl;have hol':(s.heap.push { cls:=.type "set",dict:=none,data:=.set #[] 0 (.fresh 0 0 (!aqto w)) }).get? l=some { cls:=.type "list",dict:=odict,data:=.seq items nl,slots:=oslots }:=Heap.get?_push_of_some _ hol;have hsls:=F.sub_list_set;have hslf:=F.sub_list_frozenset;have hne:(Value.type "list" == Value.type "dict")=false:=by decide
    have hl1:(s.heap.push { cls:=.type "set",dict:=none,data:=.set #[] 0 (.fresh 0 0 (!aqto w)) }).IsList l items:=⟨_,hol',rfl,nl,rfl⟩;unfold Builtin.«set.__init__» noKeywords Builtin.Frozenset.updateFrom;generalize hPI:pyIter=PI
    wp_walk
    subst hPI;refine wpAny_pyIter_list hl1 ?_;refine wpAny_bind (wpAny_runValue ?_);have hlS:l < s.heap.objs.size:=Heap.lt_size hol;have hh3:A.in1.in1.in1.handled=none:=by simp [hh]
    have hneI:l ≠ (s.heap.push { cls:=.type "set",dict:=none,data:=.set #[] 0 (.fresh 0 0 (!aqto w)) }).objs.size:=by
     rw [Heap.size_push]; exact ne_of_lt (lt_succ_of_lt hlS)
    have hSf:s.heap.objs.size ∉ [(s.heap.push { cls:=.type "set",dict:=none,data:=.set #[] 0 (.fresh 0 0 (!aqto w)) }).objs.size,l]:=by
     rw [Heap.size_push]; simp only [mem_cons,List.mem_singleton,not_mem_nil,or_false,not_or];exact ⟨ne_of_lt (lt_succ_self _),ne_of_gt hlS⟩
    have hval:∀ (i:Nat) (v:Value),items[i]?=some v->∃ t,v=.int ((fun i=>ns.getD i 0) i) t:=fun i v hv =>
     PyProof.Rows.IntsAre.int_at hi i v (by rw [getElem?_toList]; exact hv)
    refine aqfu ((Walks.list hh3 _ l hneI items).toS) s.heap.objs.size
     hSf (fun i=>ns.getD i 0) hval hb (items.size - 0) 0 _ (by omega) (zero_le _)
     ⟨⟨_,Heap.get?_push_size _ rfl,rfl,rfl⟩,(hl1.push _)⟩ ?hS0 ?hR
    case hS0 =>
     have hget:((s.heap.push { cls:=.type "set",dict:=none,data:=.set #[] 0 (.fresh 0 0 (!aqto w)) }).push { cls:=.type "list_iterator",data:=.fields #[.ref l,.int 0 0] }).get? s.heap.objs.size
      =some { cls:=.type "set",dict:=none,data:=.set #[] 0 (.fresh 0 0 (!aqto w)) }:=Heap.get?_push_of_some _ hS
     exact ⟨_,#[],0,_,hget,⟨rfl,rfl,rfl⟩,rfl,fun e he=>by simp at he,fun k=>by simp [PyProof.Rows.firstMet],by unfold scanBound; decide,by rfl,rfl,aZg.fresh _⟩
    case hR =>
     intro s' hm hS';obtain ⟨h',g',d',tk',os'⟩:=s';have eg:g'=s.gens:=hm.gens;have ed:d'=s.drawn:=hm.drawn;have eo:os'=s.os:=hm.os;subst eg; subst ed; subst eo;show wpAny _ _ _ _ _ _;refine wpAny_pure ?_;show wpAny _ _ (ret Value.none) _ _ _;refine wpAny_pure ⟨rfl,h',tk',rfl,hS',fun b o hb e=>?_⟩;have hb1:b ≠ s.heap.objs.size:=ne_of_lt hb;have hb2:b ≠ (s.heap.push { cls:=.type "set",dict:=none,data:=.set #[] 0 (.fresh 0 0 (!aqto w)) }).objs.size:=by
      rw [Heap.size_push]; exact ne_of_lt (lt_succ_of_lt hb)
     exact hm.heap b o (by simp only [mem_cons,List.mem_singleton,not_mem_nil,or_false,not_or]; exact ⟨hb1,hb2⟩) (Heap.get?_push_of_some _ (Heap.get?_push_of_some _ e))
   ·cases r₂ with
    | error e=>exact hr₂
    | ok fl₂ =>
     cases fl₂ with
     | ret r =>
      obtain ⟨rfl,h',tk,rfl,hS',hk'⟩:=hr₂
      repeat (any_goals (first | assumption | wp_step))
      exact h _ _ hS' hk'
     | next=>exact False.elim hr₂
     | brk=>exact False.elim hr₂
     | cont=>exact False.elim hr₂
  | next=>exact False.elim hr
  | brk=>exact False.elim hr
  | cont=>exact False.elim hr
end
end SetW
namespace SetW
open PySem PySem.Spec PyProof.Rows
theorem aXo {α:Type}:∀ {l:List α} {i:Nat} (h:i < l.length),(l[i] :: l.eraseIdx i).Perm l
 | a :: l,0,h=>.refl _
 | a :: l,i + 1,h=>by
  have:=aXo (l:=l) (i:=i) (by simpa using h)
  simp only [List.getElem_cons_succ,List.eraseIdx_cons_succ];exact (List.Perm.swap _ _ _).trans (this.cons a)
theorem aJ2 {α:Type} (next:Nat->Nat):∀ (fuel k:Nat) (left:List α) (out:Array α),left.length=fuel->(pickOrder.go next fuel k left out).toList.Perm (out.toList++left)
 | 0,k,left,out,h=>by
  have:left=[]:=List.length_eq_zero_iff.mp h
  subst this;simp [pickOrder.go]
 | fuel + 1,k,left,out,h=>by
  unfold pickOrder.go;have hlt:next k % left.length < left.length:=mod_lt _ (by omega);rw [getElem?_eq_getElem hlt];dsimp only;refine (aJ2 next fuel (k + 1) _ _ (by rw [List.length_eraseIdx_of_lt hlt]; omega)).trans ?_;rw [Array.toList_push,List.append_assoc];exact List.Perm.append_left _ (aXo hlt)
theorem aVh {α:Type} (next:Nat->Nat) (xs:Array α):(pickOrder next xs).toList.Perm xs.toList:=by
 have:=aJ2 next xs.size 0 xs.toList #[] (by simp)
 simpa [pickOrder] using this
section
variable {prog:Program} {w:World} {A:Around} {E:Value->Shared->Prop} {s:Shared}
theorem aWe {src:Source} {n:Nat} {Q:Nat->Shared->Prop} (hn:n ≠ 0) (h:∀ i,i < n->Q i { s with drawn:=s.drawn.bump src }):wpAny (model prog w) A (choose src n) Q E s:=by
 intro Γ p hΓ;unfold choose;rw [Sem.wp_choose];exact ⟨hn,h _ (mod_lt _ (Nat.pos_of_ne_zero hn))⟩
theorem aQy {α:Type}:∀ (n:Nat) (xs:List α) (s:Shared) (Q:List α->Shared->Prop),xs.length=n->(∀ ys d,ys.Perm xs->Q ys { s with drawn:=d })->wpAny (model prog w) A (drawOrder n xs) Q E s
 | 0,xs,s,Q,hl,h=>by
  have:xs=[]:=List.length_eq_zero_iff.mp hl
  subst this;exact wpAny_pure (h [] s.drawn (.refl _))
 | n + 1,[],s,Q,hl,h=>by cases hl
 | n + 1,x :: xs,s,Q,hl,h=>by
  show wpAny _ _ (choose .order (x :: xs).length >>= _) _ _ s;refine wpAny_bind (aWe (by simp) fun i hi=>?_);rw [getElem?_eq_getElem hi];dsimp only;refine wpAny_bind (aQy n _ _ _ (by rw [List.length_eraseIdx_of_lt hi]; omega) fun ys d hp=>wpAny_pure ?_);exact h _ d ((hp.cons _).trans (aXo hi))
def aqah (h:Heap) (a:Addr) (es:Array (Int × Value)) (ep:Nat) (t:SetTable):Prop:=∃ o,h.get? a=some o/\o.ExactSet/\o.data=.set es ep t/\t.fits es.size=true
def aqu5 (h:Heap) (I a:Addr) (first:Value) (i n ep:Nat):Prop:=∃ o,h.get? I=some o/\o.cls=.type "set_iterator"/\o.data=.fields #[first,.int i 0,.ref a,.int n 0,.int ep 0]
variable {es:Array (Int × Value)} {ep:Nat} {t:SetTable} {a I:Addr} {first:Value} {i n:Nat}
theorem aqah.at {h h':Heap} (x:aqah h a es ep t) (e:∀ o,h.get? a=some o->h'.get? a=some o):aqah h' a es ep t:=let ⟨o,ho,r⟩:=x; ⟨o,e o ho,r⟩
theorem aqu5.at {h h':Heap} (x:aqu5 h I a first i n ep) (e:∀ o,h.get? I=some o->h'.get? I=some o):aqu5 h' I a first i n ep:=let ⟨o,ho,r⟩:=x; ⟨o,e o ho,r⟩
theorem aqu5.typeIs (x:aqu5 s.heap I a first i n ep):s.TypeIs (.ref I) "set_iterator":=let ⟨o,ho,hc,_⟩:=x; ⟨o,ho,hc⟩
theorem aqah.typeIs (x:aqah s.heap a es ep t):s.TypeIs (.ref a) "set":=let ⟨o,ho,hc,_⟩:=x; ⟨o,ho,hc.1⟩
theorem aJ:Slot "set_iterator" "__next__" "set_iterator.__next__" :=
 .of (owner:="set_iterator") (n:="__next__") (by rw [typeLookup_type,builtinLookup_eq_fast]; kernel_rfl) (by decide +kernel) (by decide +kernel) (by decide +kernel)
  (by first | exact .inl (by decide +kernel) | exact .inr (by decide +kernel)) (by rw [isSubtype_type]; kernel_rfl)
theorem ax1:entryFor table "set_iterator.__next__"=some Builtin.«set_iterator.__next__»:=entryFor_of_tree (by kernel_rfl)
theorem aqdw:Manifest.owners.lookup (String.ofList ['r','o','t','a','r','e','t','i','_','t','e','s'].reverse)=some Manifest.sig_set_iterator:=by kernel_rfl
theorem ava (a:Value):argsOk "set_iterator.__next__" ⟨[a],[]⟩:=by
 unfold argsOk; rw [signature?_of (id:="set_iterator.__next__") (n:=['_','_','t','x','e','n','_','_']) (o:=['r','o','t','a','r','e','t','i','_','t','e','s']) (by kernel_rfl) aqdw]; kernel_rfl
theorem aJq:Slot "set_iterator" "__iter__" "set_iterator.__iter__" :=
 .of (owner:="set_iterator") (n:="__iter__") (by rw [typeLookup_type,builtinLookup_eq_fast]; kernel_rfl) (by decide +kernel) (by decide +kernel) (by decide +kernel)
  (by first | exact .inl (by decide +kernel) | exact .inr (by decide +kernel)) (by rw [isSubtype_type]; kernel_rfl)
theorem aK3:entryFor table "set_iterator.__iter__"=some Builtin.«dict_keyiterator.__iter__» :=
 entryFor_alias (id':="dict_keyiterator.__iter__") (by kernel_rfl) rfl (by decide +kernel) (by kernel_rfl)
theorem aqaf (a:Value):argsOk "set_iterator.__iter__" ⟨[a],[]⟩:=by
 unfold argsOk; rw [signature?_of (id:="set_iterator.__iter__") (n:=['_','_','r','e','t','i','_','_']) (o:=['r','o','t','a','r','e','t','i','_','t','e','s']) (by kernel_rfl) aqdw]; kernel_rfl
theorem aZe:entryFor table "set.__iter__"=some Builtin.«frozenset.__iter__» :=
 entryFor_alias (id':="frozenset.__iter__") (by kernel_rfl) rfl (by decide +kernel) (by kernel_rfl)
theorem aqb9 {Q:Value->Shared->Prop} (x:aqu5 s.heap I a first i n ep) (h:Q (.ref I) s):wpAny (model prog w) A (pyIter (.ref I)) Q E s:=by
 refine wpAny_pyIter_slot x.typeIs aJq (wpAny_call_entry aJq x.typeIs aK3 ?_ (aqaf _));show wpAny _ _ (ret (.ref I)) _ _ s;exact wpAny_pure ⟨_,rfl,"set_iterator",_,x.typeIs,aJ.lookup,h⟩
def aqu0 (w:World) (a:Addr) (es:Array (Int × Value)) (ep:Nat):List (Int × Value):=if aqto w=true then (pickOrder (w.params.setOrder a ep) es).toList else es.toList
def At (w:World) (t:SetTable) (i sl:Nat):Prop:=aqto w=true \/ SetTable.below t.place sl=i
def Plain (w:World) (es:Array (Int × Value)) (t:SetTable):Prop:=aqto w=true \/ (¬ (!t.plain && decide (es.size > 1))=true/\Ris t.place/\t.led=true)
theorem aqh3 (h:t.fits es.size=true):t.place.size=es.size:=by
 simp [SetTable.fits] at h; exact h.1
theorem aqms (p3:t.led=true) {Q:Unit->Shared->Prop} (h:Q () s):wpAny (model prog w) A (if (!t.led && !es.isEmpty)=true then unsupported "set:maker-not-led" else pure ()) Q E s:=by
 rw [p3];exact wpAny_pure h
theorem aqgp (S:aqah s.heap a es ep t) (pl:Plain w es t) {sl:Nat} (g:At w t i sl) {e:Int × Value} (he:(aqu0 w a es ep)[i]?=some e) {Q:Option (Value × Nat)->Shared->Prop}
  (h:∀ sl',At w t (i + 1) sl'->Q (some (e.2,sl')) s):wpAny (model prog w) A (setNext a sl i ep) Q E s:=by
 obtain ⟨o,ho,hex,hd,hf⟩:=S;unfold setNext;refine wpAny_bind (wpAny_setState_of ho hd hf ?_);refine wpAny_bind ?_;unfold setsByText;refine wpAny_bind (wpAny_askSetting (wpAny_pure ?_));dsimp only;unfold aqu0 at he
 by_cases hb:aqto w=true
 ·rw [if_pos hb] at he
  rw [if_pos (show (model prog w).w.params.followText "set-order"=true from hb)];refine wpAny_ite_split (fun hab=>absurd hab (by simp)) fun _=>?_;unfold setWalk;refine wpAny_bind (wpAny_bind (wpAny_setState_of ho hd hf ?_));refine wpAny_bind ?_;unfold setsByText;refine wpAny_bind (wpAny_askSetting (wpAny_pure ?_));dsimp only;rw [if_pos (show (model prog w).w.params.followText "set-order"=true from hb)];refine wpAny_bind (wpAny_askSetting (wpAny_pure ?_));refine wpAny_pure ?_;rw [<- getElem?_toList]
  have:(pickOrder ((model prog w).w.params.setOrder a ep) es).toList[i]?=some e:=he
  rw [this];exact h sl (.inl hb)
 ·rw [if_neg hb] at he
  rw [if_neg (show ¬ (model prog w).w.params.followText "set-order"=true from hb)];obtain ⟨p1,p2,p3⟩:=pl.resolve_left hb;have g':=g.resolve_left hb;refine wpAny_ite_split (fun hab=>absurd hab p1) fun _=>?_;refine wpAny_bind (aqms p3 ?_);have hlt:i < es.size:=by
   by_cases c:i < es.size
   ·exact c
   ·rw [List.getElem?_eq_none (by simpa using c)] at he; cases he
  obtain ⟨j,hj⟩:=aXz (xs:=t.place) (i:=i) (by rw [aqh3 hf]; exact hlt);rw [getElem?_toList] at he;rw [g',he,hj];exact wpAny_pure (h (j + 1) (.inr (aqff p2 hj)))
theorem aqgq (S:aqah s.heap a es ep t) (pl:Plain w es t) {sl:Nat} (g:At w t i sl) (he:(aqu0 w a es ep)[i]?=none) {Q:Option (Value × Nat)->Shared->Prop}
  (h:Q none s):wpAny (model prog w) A (setNext a sl i ep) Q E s:=by
 obtain ⟨o,ho,hex,hd,hf⟩:=S;unfold setNext;refine wpAny_bind (wpAny_setState_of ho hd hf ?_);refine wpAny_bind ?_;unfold setsByText;refine wpAny_bind (wpAny_askSetting (wpAny_pure ?_));dsimp only;unfold aqu0 at he
 by_cases hb:aqto w=true
 ·rw [if_pos hb] at he
  rw [if_pos (show (model prog w).w.params.followText "set-order"=true from hb)];refine wpAny_ite_split (fun hab=>absurd hab (by simp)) fun _=>?_;unfold setWalk;refine wpAny_bind (wpAny_bind (wpAny_setState_of ho hd hf ?_));refine wpAny_bind ?_;unfold setsByText;refine wpAny_bind (wpAny_askSetting (wpAny_pure ?_));dsimp only;rw [if_pos (show (model prog w).w.params.followText "set-order"=true from hb)];refine wpAny_bind (wpAny_askSetting (wpAny_pure ?_));refine wpAny_pure ?_;rw [<- getElem?_toList]
  have:(pickOrder ((model prog w).w.params.setOrder a ep) es).toList[i]?=none:=he
  rw [this];exact h
 ·rw [if_neg hb] at he
  rw [if_neg (show ¬ (model prog w).w.params.followText "set-order"=true from hb)];obtain ⟨p1,p2,p3⟩:=pl.resolve_left hb;have g':=g.resolve_left hb;refine wpAny_ite_split (fun hab=>absurd hab p1) fun _=>?_;refine wpAny_bind (aqms p3 ?_);rw [getElem?_toList] at he;rw [g',he];exact wpAny_pure h
end
end SetW
namespace SetW
open PySem PySem.Spec PyProof.Rows
section
variable {prog:Program} {w:World} {A:Around} {E:Value->Shared->Prop} {s:Shared}
variable {es:Array (Int × Value)} {ep:Nat} {t:SetTable} {a I:Addr} {first:Value} {i n:Nat}
theorem aqu5.set {h:Heap} (x:aqu5 h I a first i n ep) {k:Nat} {v first':Value} {i':Nat} (e:(#[first,.int i 0,.ref a,.int n 0,.int ep 0]:Array Value).setIfInBounds k v=#[first',.int i' 0,.ref a,.int n 0,.int ep 0]):aqu5 (h.update I (Obj.mapFields (·.setIfInBounds k v))) I a first' i' n ep:=by
 obtain ⟨o,ho,hc,hd⟩:=x;exact ⟨_,Heap.get?_update_self _ ho (Obj.isFreed_of_fields (Obj.data_mapFields hd _)),(Obj.cls_mapFields ..).trans hc,by rw [Obj.data_mapFields hd,e]⟩
theorem aqd7 (hh:A.handled=none) {h':Heap} {Q:Option Value->Shared->Prop} (hQ:∀ h'',(∀ b o,h'.get? b=some o->h''.get? b=some o)->Q none { s with heap:=h'' }) (P:Fin->Shared->Prop) :
  wpAny (model prog w) A.in1 (newExc (.type "StopIteration") [] >>= fun e=>(raiseNew e:Sem Fin)) P
   (fun e s'=>wpAny (model prog w) A (do let b <- isInstance e (.type "StopIteration"); if b=true then pure none else throw e) Q E s') { s with heap:=h' }:=by
 refine wpAny_bind ?_;simp only [newExc,newTuple];refine wpAny_bind (wpAny_newObj_type ?_ (by size_fits));refine wpAny_bind (m:=firstArgMember _ _) (wpAny_of_eq (a:=Value.none) (by first | rfl | (simp only [firstArgMember]; rfl)) ?_);refine wpAny_newObj_type ?_ (by size_fits);simp only [raiseNew];refine wpAny_bind (wpAny_handled ?_);rw [show A.in1.handled=none from hh];refine wpAny_bind (wpAny_pure (wpAny_throw ?_));refine wpAny_bind (wpAny_isInstance (T:="StopIteration") (b:=true) ⟨_,Heap.get?_push_size _ rfl,rfl⟩ isSubtype_stop ?_);exact wpAny_pure (hQ _ fun b o e=>Heap.get?_push_of_some _ (Heap.get?_push_of_some _ e))
theorem aqcy (hh:A.handled=none) (hne:a ≠ I) (pl:Plain w es t) (hs:(aqu0 w a es ep).length=es.size) :
  Walks prog w A I [I,a] [I] (aqu0 w a es ep).length (fun i v=>∃ e,(aqu0 w a es ep)[i]?=some e/\v=e.2) (fun i h=>∃ sl:Nat,aqu5 h I a (.int sl 0) i es.size ep/\aqah h a es ep t/\At w t i sl) where
 sub:=fun b hb=>by simp at hb; simp [hb]
 frame:=fun _ _ _ ⟨sl,x,y,g⟩ hk=>⟨sl,x.at fun o e=>hk I (by simp) o e,y.at fun o e=>hk a (by simp) o e,g⟩
 item:=fun i s Q E hi ⟨sl,x,y,g⟩ hQ=>by
  obtain ⟨e,he⟩:∃ e,(aqu0 w a es ep)[i]?=some e:=⟨_,getElem?_eq_getElem hi⟩;obtain ⟨o,ho,hc,hd⟩:=id x;obtain ⟨oS,hoS,hex,hdS,hf⟩:=id y;unfold pyNext;refine wpAny_bind (wpAny_attempt (wpAny_callSpecial?_slot (name:=Str.ofString "__next__") x.typeIs aJ (wpAny_call_entry aJ x.typeIs ax1 ?_ (ava _))));unfold Builtin.«set_iterator.__next__»;refine wpAny_bind (wpAny_pure ?_);refine wpAny_bind (wpAny_fieldsOf ho hd ?_);refine wpAny_bind (wpAny_setEntries_of hoS hdS hf ?_);dsimp only;refine wpAny_ite_split (fun hab=>absurd hab (by simp)) fun _=>?_;rw [Int.toNat_natCast,Int.toNat_natCast,Int.toNat_natCast];refine wpAny_bind (aqgp y pl g he fun sl' g'=>?_);dsimp only;refine wpAny_bind (wpAny_setField ho hd (by simp) ?_);have x1:=x.set (k:=0) (v:=rawInt (sl':Int)) (first':=.int sl' 0) (i':=i) (by simp [rawInt]);obtain ⟨o1,ho1,hc1,hd1⟩:=id x1;refine wpAny_bind (wpAny_setField (s:={ s with heap:=s.heap.update I (Obj.mapFields (·.setIfInBounds 0 (rawInt (sl':Int)))) }) ho1 hd1 (by simp) ?_);have x2:=x1.set (k:=1) (v:=rawInt ((i:Int) + 1)) (first':=.int sl' 0) (i':=i + 1) (by simp [rawInt]);have hk:∀ b o,b ∉ [I]->s.heap.get? b=some o->((s.heap.update I (Obj.mapFields (·.setIfInBounds 0 (rawInt (sl':Int))))).update I (Obj.mapFields (·.setIfInBounds 1 (rawInt ((i:Int) + 1))))).get? b=some o:=fun b o hb e =>
   (Heap.get?_update_other _ _ (fun h=>hb (by simp [h]))).trans ((Heap.get?_update_other _ _ (fun h=>hb (by simp [h]))).trans e)
  refine wpAny_pure ⟨_,rfl,wpAny_pure (hQ _ _ s.toks ⟨e,he,rfl⟩ ⟨sl',x2,y.at fun o e=>hk a o (by simp [hne]) e,g'⟩ hk)⟩
 done:=fun s Q E ⟨sl,x,y,g⟩ hQ=>by
  have he:(aqu0 w a es ep)[(aqu0 w a es ep).length]?=none:=by simp
  obtain ⟨o,ho,hc,hd⟩:=id x;obtain ⟨oS,hoS,hex,hdS,hf⟩:=id y;unfold pyNext;refine wpAny_bind (wpAny_attempt (wpAny_callSpecial?_slot (name:=Str.ofString "__next__") x.typeIs aJ (wpAny_call_entry aJ x.typeIs ax1 ?_ (ava _))));unfold Builtin.«set_iterator.__next__»;refine wpAny_bind (wpAny_pure ?_);refine wpAny_bind (wpAny_fieldsOf ho hd ?_);refine wpAny_bind (wpAny_setEntries_of hoS hdS hf ?_);dsimp only;refine wpAny_ite_split (fun hab=>absurd hab (by simp)) fun _=>?_;rw [Int.toNat_natCast,Int.toNat_natCast,Int.toNat_natCast];refine wpAny_bind (aqgq y pl g he ?_);dsimp only;refine wpAny_bind (wpAny_setField ho hd (by simp) ?_);exact aqd7 hh (fun h'' k=>hQ h'' s.toks fun b o hb e=>k b o ((Heap.get?_update_other _ _ (fun h=>hb (by simp [h]))).trans e)) _
 self:=fun _ _ _ _ ⟨sl,x,y,g⟩ hQ=>aqb9 x hQ
def Drw (es:Array (Int × Value)) (p:List Nat):List (Int × Value):=p.map fun k=>es.getD k (0,.none)
def TuAt (h:Heap) (T:Addr) (p:List Nat):Prop:=∃ o,h.get? T=some o/\o.data=.seq (p.map fun (i:Nat)=>rawInt i).toArray 0
theorem aqf2 (y:aqah s.heap a es ep t) {k:Nat} {e:Int × Value} (he:es[k]?=some e) {Q:Value->Shared->Prop} (h:Q e.2 s):wpAny (model prog w) A (setNextDrawn a k ep) Q E s:=by
 obtain ⟨oS,hoS,hex,hdS,hf⟩:=y;unfold setNextDrawn;refine wpAny_bind (wpAny_setState_of hoS hdS hf ?_);dsimp only;refine wpAny_ite_split (fun hab=>absurd hab (by simp)) fun _=>?_;rw [he];exact wpAny_pure h
theorem aqcz (hh:A.handled=none) {T:Addr} (hne:a ≠ I) (hT:T ≠ I) {p:List Nat} (hp:∀ k∈p,k < es.size) :
  Walks prog w A I [I,a,T] [I] (Drw es p).length (fun i v=>∃ e,(Drw es p)[i]?=some e/\v=e.2) (fun i h=>aqu5 h I a (.ref T) i es.size ep/\aqah h a es ep t/\TuAt h T p) where
 sub:=fun b hb=>by simp at hb; simp [hb]
 frame:=fun _ _ _ ⟨x,y,z⟩ hk=>⟨x.at fun o e=>hk I (by simp) o e,y.at fun o e=>hk a (by simp) o e,let ⟨o,ho,r⟩:=z; ⟨o,hk T (by simp) o ho,r⟩⟩
 item:=fun i s Q E hi ⟨x,y,z⟩ hQ=>by
  have hi':i < p.length:=by simpa [Drw] using hi
  obtain ⟨k,hk⟩:∃ k,p[i]?=some k:=⟨_,getElem?_eq_getElem hi'⟩;have hkl:=hp k (mem_of_getElem? hk);obtain ⟨e,he⟩:∃ e,es[k]?=some e:=⟨es[k],by rw [Array.getElem?_eq_getElem hkl]⟩;have hD:(Drw es p)[i]?=some e:=by simp [Drw,hk,Array.getD_eq_getD_getElem?,he]
  obtain ⟨o,ho,hc,hd⟩:=id x;obtain ⟨oS,hoS,hex,hdS,hf⟩:=id y;obtain ⟨oT,hoT,hdT⟩:=id z;unfold pyNext;refine wpAny_bind (wpAny_attempt (wpAny_callSpecial?_slot (name:=Str.ofString "__next__") x.typeIs aJ (wpAny_call_entry aJ x.typeIs ax1 ?_ (ava _))));unfold Builtin.«set_iterator.__next__»;refine wpAny_bind (wpAny_pure ?_);refine wpAny_bind (wpAny_fieldsOf ho hd ?_);refine wpAny_bind (wpAny_setEntries_of hoS hdS hf ?_);dsimp only;refine wpAny_ite_split (fun hab=>absurd hab (by simp)) fun _=>?_;refine wpAny_bind ?_;unfold seqItems?;refine wpAny_bind (wpAny_load hoT ?_);rw [hdT];refine wpAny_pure ?_;dsimp only;have hpl:(p.map fun (i:Nat)=>rawInt i).toArray[((i:Nat):Int).toNat]?=some (rawInt k):=by simp [hk]
  rw [hpl];dsimp only [rawInt];rw [Int.toNat_natCast,Int.toNat_natCast];refine wpAny_bind (aqf2 y he ?_);refine wpAny_bind (wpAny_setField ho hd (by simp) ?_);have x2:=x.set (k:=1) (v:=rawInt ((i:Int) + 1)) (first':=.ref T) (i':=i + 1) (by simp [rawInt]);have hkp:∀ b o,b ∉ [I]->s.heap.get? b=some o->(s.heap.update I (Obj.mapFields (·.setIfInBounds 1 (rawInt ((i:Int) + 1))))).get? b=some o:=fun b o hb e =>
   (Heap.get?_update_other _ _ (fun h=>hb (by simp [h]))).trans e
  exact wpAny_pure ⟨_,rfl,wpAny_pure (hQ _ _ s.toks ⟨e,hD,rfl⟩ ⟨x2,y.at fun o e=>hkp a o (by simp [hne]) e,oT,hkp T oT (by simp [hT]) hoT,hdT⟩ hkp)⟩
 done:=fun s Q E ⟨x,y,z⟩ hQ=>by
  obtain ⟨o,ho,hc,hd⟩:=id x;obtain ⟨oS,hoS,hex,hdS,hf⟩:=id y;obtain ⟨oT,hoT,hdT⟩:=id z;unfold pyNext;refine wpAny_bind (wpAny_attempt (wpAny_callSpecial?_slot (name:=Str.ofString "__next__") x.typeIs aJ (wpAny_call_entry aJ x.typeIs ax1 ?_ (ava _))));unfold Builtin.«set_iterator.__next__»;refine wpAny_bind (wpAny_pure ?_);refine wpAny_bind (wpAny_fieldsOf ho hd ?_);refine wpAny_bind (wpAny_setEntries_of hoS hdS hf ?_);dsimp only;refine wpAny_ite_split (fun hab=>absurd hab (by simp)) fun _=>?_;refine wpAny_bind ?_;unfold seqItems?;refine wpAny_bind (wpAny_load hoT ?_);rw [hdT];refine wpAny_pure ?_;dsimp only;have hpl:(p.map fun (i:Nat)=>rawInt i).toArray[(((Drw es p).length:Nat):Int).toNat]?=none:=by simp [Drw]
  rw [hpl];dsimp only;refine wpAny_bind (wpAny_setField ho hd (by simp) ?_);have hd1:=Obj.data_mapFields hd (·.setIfInBounds 0 (rawInt 0));have ho1:=Heap.get?_update_self (Obj.mapFields (·.setIfInBounds 0 (rawInt 0))) ho (Obj.isFreed_of_fields hd1);refine wpAny_bind (wpAny_setField (s:={ s with heap:=s.heap.update I (Obj.mapFields (·.setIfInBounds 0 (rawInt 0))) }) ho1 hd1 (by simp) ?_);exact aqd7 hh (fun h'' k=>hQ h'' s.toks fun b o hb e=>k b o ((Heap.get?_update_other _ _ (fun h=>hb (by simp [h]))).trans ((Heap.get?_update_other _ _ (fun h=>hb (by simp [h]))).trans e))) _
 self:=fun _ _ _ _ ⟨x,y,z⟩ hQ=>aqb9 x hQ
theorem aqkr {p:List Nat} (hp:p.Perm (List.range es.size)):(Drw es p).Perm es.toList:=by
 have e:(List.range es.size).map (fun k=>es.getD k (0,.none))=es.toList:=by
  apply ext_getElem
  ·simp
  ·intro i h1 h2
   simp at h1;simp [Array.getD_eq_getD_getElem?,h1]
 rw [<- e];exact hp.map _
theorem aqk5 (hh:A.handled=none) (y:aqah s.heap a es ep t) (ok:aZg (!aqto w) t) (hz:es.size <= sizeLine) {Q:Value->Shared->Prop}
  (h:∀ (I:Addr) (fp:List Addr) (St:Nat->Heap->Prop) (order:List (Int × Value)) (s':Shared),order.Perm es.toList->Walks prog w A I fp [I] order.length (fun i v=>∃ e,order[i]?=some e/\v=e.2) St->St 0 s'.heap ->
   (∀ b o,s.heap.get? b=some o->s'.heap.get? b=some o)->s.heap.objs.size <= I->(∀ b∈fp,b=a \/ s.heap.objs.size <= b)->(∃ h' d',s'={ s with heap:=h',drawn:=d' })->Q (.ref I) s') :
  wpAny (model prog w) A (pyIter (.ref a)) Q E s:=by
 obtain ⟨oS,hoS,hex,hdS,hf⟩:=id y;have hlt:a < s.heap.objs.size:=Heap.lt_size hoS;refine wpAny_pyIter_slot y.typeIs F.slot_set_iter (wpAny_call_entry F.slot_set_iter y.typeIs aZe ?_ (F.args_set_iter_1 _));unfold Builtin.«frozenset.__iter__»;refine wpAny_bind (wpAny_pure ?_);refine wpAny_bind ?_;unfold Builtin.Frozenset.sizeOf;refine wpAny_bind (wpAny_setEntries_of hoS hdS hf (wpAny_pure ?_));refine wpAny_bind ?_;unfold setDrawn;refine wpAny_bind (wpAny_setState_of hoS hdS hf ?_);dsimp only;refine wpAny_bind ?_;unfold setsByText;refine wpAny_bind (wpAny_askSetting (wpAny_pure ?_));refine wpAny_pure ?_;refine wpAny_ite_split (fun hab=>?_) fun hab=>?_
 ·refine wpAny_bind (aQy _ _ _ _ (by simp) fun p d hp=>?_)
  refine wpAny_bind (wpAny_newTuple ?_ (by rw [length_map,hp.length_eq,List.length_range]; exact hz));have hoS1:=Heap.get?_push_of_some { cls:=.type "tuple",data:=.seq (p.map fun (i:Nat)=>rawInt i).toArray } hoS;refine wpAny_bind ?_;unfold setEpoch;refine wpAny_bind (wpAny_setState_of hoS1 hdS hf (wpAny_pure ?_));refine wpAny_bind ?_;unfold newFields;refine wpAny_newObj_type (wpAny_pure ⟨_,rfl,"set_iterator",_,⟨_,Heap.get?_push_size _ rfl,rfl⟩,aJ.lookup,?_⟩);have hI:s.heap.objs.size < (s.heap.push { cls:=.type "tuple",data:=.seq (p.map fun (i:Nat)=>rawInt i).toArray }).objs.size:=by rw [Heap.size_push]; exact lt_succ_self _
  refine h _ _ _ (Drw es p) _ (aqkr hp) (aqcz (t:=t) (ep:=ep) hh (T:=s.heap.objs.size) (ne_of_lt (lt_trans hlt hI)) (ne_of_lt hI) fun k hk=>by
   have:=hp.mem_iff.mp hk
   simpa using this) ?_ (fun b o e=>Heap.get?_push_of_some _ (Heap.get?_push_of_some _ e)) (le_of_lt hI) (fun b hb=>?_) ⟨_,_,rfl⟩
  ·exact ⟨⟨_,Heap.get?_push_size _ rfl,rfl,by simp [rawInt]⟩,⟨_,Heap.get?_push_of_some _ hoS1,hex,hdS,hf⟩,_,Heap.get?_push_of_some _ (Heap.get?_push_size _ rfl),rfl⟩
  ·simp only [mem_cons,not_mem_nil,or_false] at hb
   rcases hb with rfl | rfl | rfl
   ·exact .inr (le_of_lt hI)
   ·exact .inl rfl
   ·exact .inr (le_refl _)
 ·refine wpAny_bind (wpAny_pure ?_)
  refine wpAny_bind ?_;unfold setEpoch;refine wpAny_bind (wpAny_setState_of hoS hdS hf (wpAny_pure ?_));refine wpAny_bind ?_;unfold newFields;refine wpAny_newObj_type (wpAny_pure ⟨_,rfl,"set_iterator",_,⟨_,Heap.get?_push_size _ rfl,rfl⟩,aJ.lookup,?_⟩);have pl:Plain w es t:=by
   by_cases hb:aqto w=true
   ·exact .inl hb
   ·have hb':aqto w=false:=by simpa using hb
    refine .inr ⟨fun hd=>hab ?_,ok.1,by rw [ok.2,hb']; rfl⟩;show (!aqto w && (!t.plain && decide (es.size > 1)))=true;rw [hb',hd]; rfl
  have hord:(aqu0 w a es ep).Perm es.toList:=by
   unfold aqu0;split
   ·exact aVh _ _
   ·exact .refl _
  refine h _ _ _ (aqu0 w a es ep) _ hord (aqcy (t:=t) (ep:=ep) hh (ne_of_lt hlt) pl (by rw [hord.length_eq,length_toList])) ?_ (fun b o e=>Heap.get?_push_of_some _ e) (le_refl _) (fun b hb=>?_) ⟨_,_,rfl⟩
  ·refine ⟨0,⟨_,Heap.get?_push_size _ rfl,rfl,by simp [rawInt]⟩,⟨_,Heap.get?_push_of_some _ hoS,hex,hdS,hf⟩,?_⟩
   by_cases hb:aqto w=true
   ·exact .inl hb
   ·exact .inr (aqfd ok.1)
  ·simp only [mem_cons,not_mem_nil,or_false] at hb
   rcases hb with rfl | rfl
   ·exact .inr (le_refl _)
   ·exact .inl rfl
theorem aqkb {Q:Bool->Shared->Prop} (hT:s.TypeIs (.ref a) "set") (h:Q false s):wpAny (model prog w) A (Builtin.List.listLengthHint (.ref a)) Q E s:=by
 unfold Builtin.List.listLengthHint;refine wpAny_bind (wpAny_specialOf hT PySem.F.slot_set_len.lookup ?_);generalize hid:("set.__len__":String)=id0
 wp_delta
 rw [show splitId id0=some ("set","__len__") from by subst hid; decide +kernel];subst hid;refine wpAny_bind (wpAny_isInstance (T:="set") (b:=true) hT (by rw [isSubtype_type]; kernel_rfl) ?_);refine wpAny_ite_split (fun hab=>absurd hab (by decide)) (fun _=>?_);refine wpAny_ite_split (fun _=>?_) (fun hab=>absurd (by decide +kernel) hab);refine wpAny_bind (wpAny_typeOf hT ?_);exact wpAny_pure h
theorem aqcp (hh:A.handled=none) (y:aqah s.heap a es ep t) (ok:aZg (!aqto w) t) (hz:es.size <= sizeLine) {Q:List Value->Shared->Prop}
  (h:∀ (order:List (Int × Value)) (s':Shared) ,order.Perm es.toList->(∀ b o,s.heap.get? b=some o->s'.heap.get? b=some o)->s.heap.objs.size < s'.heap.objs.size->(∃ h' d' tk,s'={ s with heap:=h',drawn:=d',toks:=tk })->Q (order.map (·.2)) s') :
  wpAny (model prog w) A (collect (.ref a)) Q E s:=by
 have hlt:a < s.heap.objs.size:=let ⟨o,ho,_⟩:=y; Heap.lt_size ho;unfold collect;refine wpAny_bind (wpAny_runValue (codeAny_builtin entry_proto_collect' ?_));rw [Around.under_plainId PySem.F.plain_proto_collect _];show wpAny _ A.in1 (newList [] >>= fun l=>again (.builtin "list.__iadd__" ⟨[l,.ref a],[]⟩)) _ _ s;refine wpAny_bind (wpAny_newObj_type ?_);refine wpAny_pure ⟨plainId_quiet PySem.F.plain_list_iadd _,codeAny_builtin entry_list_iadd' ?_⟩;rw [Around.under_plainId PySem.F.plain_list_iadd _];have hS₁:(s.heap.push { cls:=.type "list",data:=.seq ([]:List Value).toArray }).get? s.heap.objs.size=some { cls:=.type "list",data:=.seq #[] }:=Heap.get?_push_size _ rfl;show wpAny _ A.in1 (Builtin.List.listExtendWith (.ref s.heap.objs.size) (.ref a) (.ref s.heap.objs.size)) _ _ _;have y1:aqah (s.heap.push { cls:=.type "list",data:=.seq ([]:List Value).toArray }) a es ep t:=y.at fun o e=>Heap.get?_push_of_some _ e;unfold Builtin.List.listExtendWith;refine wpAny_bind (wpAny_typeOf (T:="set") (aqah.typeIs (s:={ s with heap:=s.heap.push { cls:=.type "list",data:=.seq ([]:List Value).toArray } }) y1) ?_);have h1:Builtin.List.listSameRef (.ref s.heap.objs.size) (.ref a)=false:=by simp [Builtin.List.listSameRef]; exact ne_of_gt hlt
 simp only [h1,show (Value.type "set" == Value.type "list")=false from by decide,show (Value.type "set" == Value.type "tuple")=false from by decide,Bool.or_false,Bool.false_eq_true,if_false];refine wpAny_bind (aqk5 (A:=A.in1) (s:={ s with heap:=s.heap.push { cls:=.type "list",data:=.seq ([]:List Value).toArray } }) hh y1 ok hz fun I fp St order s1 hord W st hk hI hfp hs1=>?_);obtain ⟨h1',d1',rfl⟩:=hs1;have hsz1:(s.heap.push { cls:=.type "list",data:=.seq ([]:List Value).toArray }).objs.size=s.heap.objs.size + 1:=Heap.size_push ..;have hSf:s.heap.objs.size ∉ fp:=fun hm=>by
  rcases hfp _ hm with e | e
  ·exact absurd hlt (by rw [e]; exact lt_irrefl _)
  ·exact absurd (show s.heap.objs.size + 1 <= s.heap.objs.size from hsz1 ▸ e) (Nat.not_succ_le_self _)
 have hbI:∀ b o,s.heap.get? b=some o->b ∉ s.heap.objs.size :: [I]:=fun b o e hm=>by
  have hb:=Heap.lt_size e;rcases List.mem_cons.mp hm with e' | hm
  ·exact absurd hb (by rw [e']; exact lt_irrefl _)
  ·have e2:b=I:=List.mem_singleton.mp hm
   have:s.heap.objs.size + 1 <= I:=hsz1 ▸ hI
   rw [e2] at hb;exact absurd (lt_trans hb (Nat.lt_of_succ_le this)) (lt_irrefl _)
 have hno:order.length <= sizeLine:=by rw [hord.length_eq,length_toList]; exact hz
 have key:∀ (s1:Shared) (c₁:Nat),(∃ h d tk,s1={ s with heap:=h,drawn:=d,toks:=tk })->St 0 s1.heap->(∀ b o,s.heap.get? b=some o->s1.heap.get? b=some o) ->
   s1.heap.get? s.heap.objs.size=some { cls:=.type "list",data:=.seq #[] c₁ } ->
   codeAny (model prog w) A (.builtin "list.extend.loop" ⟨[.ref s.heap.objs.size,.ref I,.ref s.heap.objs.size],[]⟩)
    (fun q s'=>∃ acc' c',q=.ok (.ret (.ref s.heap.objs.size))/\(∃ h' d' tk,s'={ s with heap:=h',drawn:=d',toks:=tk })/\(∀ b o,s.heap.get? b=some o->s'.heap.get? b=some o) /\
     s'.heap.get? s.heap.objs.size=some { cls:=.type "list",dict:=none,data:=.seq acc' c',slots:=#[] }/\acc'.toList=order.map (·.2)) s1:=by
  intro s1 c₁ hs1 hst hk1 hS1;refine codeAny_extend_loopS W.toS hno s.heap.objs.size hSf (.ref s.heap.objs.size) order.length 0 _ #[] c₁ rfl (zero_le _) hst hS1 (ItemsOf.nil _) fun s' acc' c' hm hS' hacc=>?_;refine ⟨acc',c',rfl,?_,fun b o e=>hm.heap b o (hbI b o e) (hk1 b o e),hS',?_⟩
  ·obtain ⟨h,d,tk,rfl⟩:=hs1
   rw [Moved.eq_with hm];exact ⟨_,_,_,rfl⟩
  ·apply ext_getElem
   ·rw [length_toList,length_map]; exact hacc.1
   ·intro j h1 h2
    obtain ⟨e,he,hv⟩:=hacc.2 j acc'.toList[j] (by rw [<- getElem?_toList,getElem?_eq_getElem h1]);rw [hv];rw [length_map] at h2;rw [getElem?_eq_getElem h2] at he;cases he
    simp
 refine wpAny_bind (wpAny_holding (aqkb (aqah.typeIs (y1.at fun o e=>hk a o e)) ?_));have fin:∀ (s1:Shared) (c₁:Nat),(∃ h d tk,s1={ s with heap:=h,drawn:=d,toks:=tk })->St 0 s1.heap->(∀ b o,s.heap.get? b=some o->s1.heap.get? b=some o) ->
   s1.heap.get? s.heap.objs.size=some { cls:=.type "list",data:=.seq #[] c₁ } ->
   codeAny (model prog w) A (.builtin "list.extend.loop" ⟨[.ref s.heap.objs.size,.ref I,.ref s.heap.objs.size],[]⟩)
    (fun q s'=>match q with
     | .ok (.ret v)=>wpAny (model prog w) A (match v with
      | .ref a=>do
       let o <- load a
       match o.data with
       | .seq xs _=>pure xs.toList
       | _=>unsupported "internal:collect"
      | _=>unsupported "internal:collect") Q E s'
     | .ok _=>False
     | .error e=>E e s') s1:=by
  intro s1 c₁ a1 a2 a3 a4;refine codeAny_mono (key s1 c₁ a1 a2 a3 a4) fun q s' hQ=>?_;obtain ⟨acc',c',hq,hs',hk',hS',hacc⟩:=hQ;subst hq;show wpAny _ A (load s.heap.objs.size >>= _) _ _ _;refine wpAny_bind (wpAny_load hS' ?_);show wpAny _ A (pure acc'.toList) _ _ _;rw [hacc];exact wpAny_pure (h order s' hord hk' (Heap.lt_size hS') hs')
 have hS2:=hk _ _ hS₁;refine wpAny_ite_split (fun _=>?_) (fun _=>wpAny_pure ⟨plainId_quiet PySem.F.plain_extend_loop _,?_⟩)
 ·refine wpAny_bind (wpAny_rule ?_)
  refine wpAny_bind ?_;show wpAny _ _ (updateSeq s.heap.objs.size (·.push .none) >>= fun _=>updateSeq s.heap.objs.size (·.pop)) _ _ _;refine wpAny_bind (wpAny_updateSeq hS2 rfl ?_);have hS₂:=Heap.get?_update_self (Obj.mapSeq (·.push Value.none)) hS2 rfl;refine wpAny_updateSeq (hz:=by seq_fits) hS₂ rfl ?_;have hS₃:=Heap.get?_update_self (Obj.mapSeq (·.pop)) hS₂ rfl;have oth:∀ b o,b ≠ s.heap.objs.size->h1'.get? b=some o->((h1'.update s.heap.objs.size (Obj.mapSeq (·.push Value.none))).update s.heap.objs.size (Obj.mapSeq (·.pop))).get? b=some o:=fun b o hb e =>
   (Heap.get?_update_other _ _ (Ne.symm hb)).trans ((Heap.get?_update_other _ _ (Ne.symm hb)).trans e)
  refine wpAny_pure ⟨plainId_quiet PySem.F.plain_extend_loop _,?_⟩;refine codeAny_mono (fin _ _ ⟨_,_,_,rfl⟩ ?_ (fun b o e=>oth b o (ne_of_lt (Heap.lt_size e)) (hk b o (Heap.get?_push_of_some _ e))) hS₃) fun q s' x=>x;exact W.frame 0 _ _ st fun b hb o e=>oth b o (fun h=>hSf (h ▸ hb)) e
 ·exact codeAny_mono (fin _ _ ⟨_,_,_,rfl⟩ st (fun b o e=>hk b o (Heap.get?_push_of_some _ e)) hS2) fun q s' x=>x
end
end SetW
namespace DL
open PySem PySem.Spec PyProof.Rows L2
section
variable {X:Cx} {K:Frag} {F:Hp}
def aqdu (K:Frag):V->List V->Hp->VK->Prop:=fun x vs H Q=>∃ l b xs zs,x=.ref l/\vs=[.ref b]/\H l=some (.lst xs)/\SqE K H b zs/\xs.length + zs.length <= sizeLine/\Q .non (upd H l (.lst (xs++zs)))
theorem aKs:MtM X "list.extend" (aqdu X.K):=by
 intro pins s σ H x vs v us Q I rx rv h;obtain ⟨l,b,xs,zs,rfl,rfl,hH,hB,hz,q⟩:=h;cases rx;obtain ⟨u,rfl,ru⟩:=rv.one;cases ru;obtain ⟨z,its,n,r,hl,e⟩:=I.lstM hH;obtain ⟨its2,n2,r2,e2,z2⟩:=Inv.listE I hB;have hl2:=r2.length;have hsz:its.toArray.size + its2.toArray.size <= sizeLine:=by rw [size_toArray,size_toArray]; omega
 have hlong:¬ (!its.toArray.isEmpty && Builtin.List.listTooLong (its.toArray.size + its2.toArray.size))=true:=by
  rw [notLongL hsz,Bool.and_false];exact Bool.false_ne_true
 refine call_meets F.slot_list_extend ⟨_,e,rfl⟩ F.entry_list_extend (F.args_list_extend_2 _ _)
  (AutoSeq1.list_extend_list_list_0 l its.toArray n b its2.toArray n2 hlong (by rw [size_toArray]; omega) (by omega)) ⟨e,e2,?_⟩
 refine ⟨.non,_,I.lset (its':=its++its2) hH e (by simp) (r.append r2) ?_,rfl,q⟩;rw [length_append];omega
theorem aqn9 {i:Nat} {S:List Bool} {p:FP} {f:FE} {st:Stmt} (hp:PS X st (tDrop (tBM X.K "list" (aqdu X.K) (tP X.K i S p) (tCons (tD X.K f) tNil)))):DS X st [] (bExt i S p f):=by
 refine PS.imp hp fun E σ H z=>?_;obtain ⟨β,F,ρ,o,r,hw,h,k⟩:=z;obtain ⟨q,hq,h⟩:=bind_some h;obtain ⟨d,hd,h⟩:=bind_some h;obtain ⟨c,hc,h⟩:=bind_some h;have hc:=aqam hc;split at h
 ·rename_i ds
  split at h
  ·rename_i hi
   obtain ⟨c',hc',rfl⟩:=map_some h;obtain ⟨m,m',g1,g2,g3⟩:=aV8 hc';unfold gExt at g2;split at g2
   ·rename_i os
    split at g2
    ·rename_i hlen
     cases g2;refine ⟨β,F,ρ,q,c,.lst os,r,hq,hc,g1,fun v0 v F1 H1 e0 s1 s2 r1 at1=>⟨?_,?_⟩⟩
     ·obtain ⟨A,h1,_⟩:=r1.own
      obtain ⟨v0',e0',qq⟩:=h1 i c hc;rw [e0] at e0'; cases e0';obtain ⟨v',Aa,Ab,a1,a2,a3⟩:=qq.focus g1
      have:=at1.uniq r1.ext.fh a1
      subst this;cases a2 with
      | lst h0 _ _ _=>exact .inl ⟨rfl,_,SqL.of h0⟩
     ·obtain ⟨G,l,re,rz⟩:=r1.look S
      refine ⟨G,frz S ρ,_,l.gh,re,hd,fun y F2 H2 e2 q2=>?_⟩;have r2:=r1.back l e2;have at2:=at1.mono (axt (F:=F1) (H:=H1) (F':=F2)) e2.hh;obtain ⟨A1,T,q1,qn,dj,fin⟩:=at_of (r2.sh .non) hc g1 e0 (Same.refl _) (Same.refl _) at2;cases q2 with
      | lst hq2 t =>
       have t2:=l.reps e2 r1.ext.fh hi t;cases q1 with
       | lst h0 n0 rv hA =>
        rename_i b zs a vs A';refine ⟨a,b,vs,zs,rfl,rfl,h0,aqsh e2.fh hq2,by rw [rv.length,t.length]; exact avb hlen,?_⟩;refine k _ _ σ (fin a _ (fun b=>b=a \/ A' b) _ c' ((hA a).mpr (.inl rfl)) (fun b z=>.inl ((hA b).mpr z)) (.lst upd_same (A':=A') n0 ?_ fun _=>Iff.rfl) g3);have o1:=rv.stay (Same.refl _) (H':=upd H2 a (.lst (vs++zs))) fun b z=>upd_ne (by rintro rfl; exact n0 z);exact (o1.append (aqhv t2) fun _ _ z=>z).congr fun b=>⟨fun z=>z.elim id False.elim,.inl⟩
    ·cases g2
   ·cases g2
  ·cases h
 ·cases h
end
theorem Inv.drawn {pins:List (Addr × Obj)} {σ:St} {H:Hp} {s:Shared} {d':Drawn} {X:Cx} (I:Inv X pins σ H s):Inv X pins σ H { s with drawn:=d' } :=
 ⟨I.ok,I.os,I.bare,I.base,I.loc,I.cell,I.free,I.freeC,I.pin,I.hok,I.len⟩
theorem aqd8 {σ:List Int} {v:Int} (h:σ.Nodup):(step_dedup σ v).Nodup:=by
 unfold step_dedup;split
 ·exact h
 ·rename_i hn
  refine List.nodup_append.mpr ⟨h,by simp,fun a ha b hb=>?_⟩;have e:b=v:=by simpa using hb
  rintro rfl;exact hn (by rw [any_eq_true]; exact ⟨a,ha,by simp [e]⟩)
theorem az2 (val:Nat->Int):∀ i,(firstMet val i).Nodup
 | 0=>by rw [firstMet_zero]; exact List.nodup_nil
 | i + 1=>by rw [firstMet_succ]; exact aqd8 (az2 val i)
theorem aZo:∀ {σ l:List Int},σ.Nodup->(∀ x∈σ,x∈l)->l.length=σ.length->l.Perm σ
 | [],l,_,_,h=>by
  have:l=[]:=List.length_eq_zero_iff.mp (by simpa using h)
  subst this; exact .refl _
 | x :: σ,l,hn,hs,h=>by
  rw [nodup_cons] at hn;have hx:=hs x (by simp);have p:=List.perm_cons_erase hx;refine p.trans ((aZo hn.2 (fun y hy=>?_) ?_).cons x)
  ·exact (List.mem_erase_of_ne (by rintro rfl; exact hn.1 hy)).mpr (hs y (mem_cons_of_mem _ hy))
  ·have:=p.length_eq
   simp at this h ⊢;omega
theorem aZp:∀ {l σ:List Int},l.Nodup->σ.Nodup->(∀ x,x∈l ↔ x∈σ)->l.Perm σ
 | l,[],_,_,h=>by
  have:l=[]:=List.eq_nil_iff_forall_not_mem.mpr fun x hx=>absurd ((h x).mp hx) (by simp)
  subst this; exact .refl _
 | l,x :: σ,hl,hn,h=>by
  rw [nodup_cons] at hn;have p:=List.perm_cons_erase ((h x).mpr (by simp));refine p.trans ((aZp (hl.erase x) hn.2 fun y=>?_).cons x);rw [hl.mem_erase_iff,h y];constructor
  ·rintro ⟨a,b⟩
   exact (List.mem_cons.mp b).resolve_left a
  ·intro hy
   exact ⟨by rintro rfl; exact hn.1 hy,mem_cons_of_mem _ hy⟩
theorem aXi {prog:Program} {w:World}:∀ {l:List (Int × Value)},ElemsOf (intKind prog w) l->∃ ks:List Int,IntsAre (l.map (·.2)) ks/\∀ k,(∃ e∈l,(intKind prog w).is k e.2=true) ↔ k∈ks
 | [],_=>⟨[],.nil,fun k=>by simp⟩
 | e :: l,h=>by
  obtain ⟨ks,h1,h2⟩:=aXi h.tail;obtain ⟨⟨k,hk,_⟩,_⟩:=h.head;obtain ⟨t,ht⟩:=Value.isInt_shape hk;refine ⟨k :: ks,by rw [map_cons,ht]; exact .cons k t h1,fun j=>?_⟩;rw [mem_cons,<- h2 j];constructor
  ·rintro ⟨e',he',hj⟩
   rcases List.mem_cons.mp he' with rfl | he'
   ·exact .inl ((intKind prog w).inj _ _ _ hj hk)
   ·exact .inr ⟨e',he',hj⟩
  ·rintro (rfl | ⟨e',he',hj⟩)
   ·exact ⟨e,by simp,hk⟩
   ·exact ⟨e',mem_cons_of_mem _ he',hj⟩
theorem aqbb {vs:List Value} {ns:List Int} (h:IntsAre vs ns):vs.map (fun v=>match v with | .int k _=>k | _=>0)=ns:=by
 induction h with
 | nil=>rfl
 | cons n t hr ih=>rw [map_cons,ih]
theorem akn:∀ {us:List Value} {ns:List Int},IntsAre us ns->Vals (ns.map V.int) us
 | _,_,.nil=>.nil
 | _,_,.cons n t hr=>.cons ⟨t,rfl⟩ (akn hr)
theorem aZ5 {prog:Program} {w:World} {A:Around} {E:Value->Shared->Prop} {s:Shared} {a:Addr} {ns:List Int} (hh:A.handled=none)
  (hS:SetW.aV9 prog w s.heap a (fun k'=>(firstMet (fun i=>ns.getD i 0) ns.length).any (· == k')) (firstMet (fun i=>ns.getD i 0) ns.length).length) (h64:(aqi ns).length < 64) {Q:Value->Shared->Prop}
  (h:∀ (D:Addr) (out:List Value) (n:Nat) (s':Shared),IntsAre out (aqi ns)->s.heap.objs.size <= D->s'.heap.get? D=some { cls:=.type "list",data:=.seq out.toArray n }->(∀ b o,s.heap.get? b=some o->s'.heap.get? b=some o) ->
   (∃ h' d' tk,s'={ s with heap:=h',drawn:=d',toks:=tk })->Q (.ref D) s') :
  wpAny (model prog w) A (call (.builtin "sorted") [.ref a]) Q E s:=by
 obtain ⟨o,es,ep,t,ho,hex,hd,hel,hmem,hb,hf,hn,ht⟩:=hS;obtain ⟨ks,hI,hks⟩:=aXi hel;have hmet:∀ k,k∈firstMet (fun i=>ns.getD i 0) ns.length ↔ k∈ns:=by
  intro k;have e:=firstMet_any (fun i=>ns.getD i 0) ns.length k;have e2:(List.range ns.length).map (fun i=>ns.getD i 0)=ns:=by
   apply ext_getElem
   ·simp
   ·intro i h1 h2; simp at h1; simp [h1]
  rw [e2] at e
  have:=Bool.eq_iff_iff.mp e
  simpa [any_eq_true] using this
 have hk2:∀ k,k∈ks ↔ k∈firstMet (fun i=>ns.getD i 0) ns.length:=by
  intro k;rw [<- hks k,<- hmem k];simp [any_eq_true]
 have hlen:ks.length=(firstMet (fun i=>ns.getD i 0) ns.length).length:=by
  rw [<- hI.length,length_map,length_toList,hn]
 have hkp:ks.Perm (firstMet (fun i=>ns.getD i 0) ns.length):=aZo (az2 _ _) (fun x hx=>(hk2 x).mpr hx) hlen;have hkn:ks.Nodup:=hkp.symm.nodup (az2 _ _);have fin:∀ ns':List Int,ns'.Perm ks->ns'.Pairwise (· <= ·)->ns'=aqi ns:=by
  intro ns' hp hs;refine aQf ?_ (axz ns) fun x=>?_
  ·have hnd:ns'.Nodup:=hp.symm.nodup hkn
   have:=List.Pairwise.and hs hnd
   exact this.imp fun ⟨a,b⟩=>by omega
  ·rw [hp.mem_iff,hk2,hmet,av7]
 have hsize:es.size=(aqi ns).length:=by
  have:(aqi ns).Perm ks:=aZp ((axz ns).imp fun h=>Int.ne_of_lt h) hkn fun x=>by rw [av7,hk2,hmet]
  rw [this.length_eq,hlen,hn]
 refine Calls.call_function_entry kind_sorted plain_sorted entry_sorted (args_sorted1 _) ?_;unfold Builtin.«sorted»;refine wpAny_bind (m:=checkCount "sorted" 1 1 _) (wpAny_pure ?_);refine wpAny_bind (SetW.aqcp (A:=A.in1) hh ⟨o,ho,hex,hd,hf⟩ ht (by rw [hsize,sizeLine_eq]; omega) fun order s1 hord hk1 hsz1 hs1=>?_);obtain ⟨h1,d1,tk1,rfl⟩:=hs1;have hio:∃ ks',IntsAre (order.map (·.2)) ks'/\ks'.Perm ks:=by
  obtain ⟨ks',g1,g2⟩:=aXi (hel.perm hord);refine ⟨ks',g1,?_⟩;have e1:=aqbb g1;have e2:=aqbb hI;rw [<- e1,<- e2];exact (hord.map _).map _
 obtain ⟨ks',g1,g2⟩:=hio;have hol:(order.map (·.2)).length < 64:=by rw [length_map,hord.length_eq,length_toList,hsize]; exact h64
 refine wpAny_bind (wpAny_newList ?_ (by rw [sizeLine_eq]; omega));have hoL:(h1.push (seqObj "list" (order.map (·.2)).toArray 0)).get? h1.objs.size=some (seqObj "list" (order.map (·.2)).toArray 0):=Heap.get?_push_size _ rfl;refine wpAny_bind (wpAny_holding (wpAny_call_entry slot_list_sort ⟨_,hoL,rfl⟩ entry_list_sort (list_sort_tree hoL g1 hol fun out ns' a1 a2 a3=>⟨_,rfl,?_⟩) (args_list_sort _)));refine wpAny_pure ⟨_,rfl,?_⟩;obtain ⟨e,he⟩:=sortedHeap_at (out:=out) hoL;have hsz:s.heap.objs.size <= h1.objs.size:=le_of_lt hsz1;refine h _ out.toList e _ (by rw [<- fin ns' (a2.trans g2) a3]; exact a1) hsz (by simpa [seqObj] using he) (fun b o' hb'=>?_) ⟨_,_,_,rfl⟩;have hb1:=hk1 b o' hb';have hlt:=Heap.lt_size hb1;rw [sortedHeap_old (ne_of_lt hlt) (by rw [size_push']; exact lt_succ_of_lt hlt)];exact Heap.get?_push_of_some _ hb1
theorem aW6 {X:Cx} {e:Expr} {te:TE} {p p2 p3 pos:Pos} (hc:X.calm=true) (hg1:Gl X "sorted") (hg2:Gl X "set") (hm1:X.mg "sorted"=none) (hm2:X.mg "set"=none) (he:PE X e te) (hs:starEach [e] X.env=(false,eval e X.env) :: starEach [] X.env:=by rfl) :
  PE X (.Call (.Name "sorted" p) [.Call (.Name "set" p2) [e] [] p3] [] pos) (fun σ H Q=>te σ H fun x H1=>∃ (a:Addr) (ns:List Int),x=.ref a/\SqL X.K H1 a (ns.map V.int)/\ns.length < 4000/\(aqi ns).length < 64 /\
   ∀ l,H1 l=none->Q (.ref l) (upd H1 l (.lst ((aqi ns).map V.int)))):=by
 intro pins s σ H Q I h;refine wpAny_Call_Name_kw (ld_blt I hg1 hm1 akd ?_ (by decide) (by decide));refine callWith_builtin1 ?_ rfl rfl;show wpAny _ _ (spliced ((false,eval (.Call (.Name "set" p2) [e] [] p3) X.env) :: backTo pos (starEach [] X.env))) _ _ s;refine Calls.spliced_cons ?_;refine wpAny_Call_Name_kw (ld_blt I hg2 hm2 aqpk ?_ (by decide) (by decide));have ha:=(pa_cons he pa_nil hs) p3 pins s σ H (fun xs H1=>∃ (a:Addr) (ns:List Int),xs=[.ref a]/\SqL X.K H1 a (ns.map V.int)/\ns.length < 4000/\(aqi ns).length < 64 /\
   ∀ l,H1 l=none->Q (.ref l) (upd H1 l (.lst ((aqi ns).map V.int)))) I (by
  refine (?_:te σ H _);refine cast (congrArg (te σ H) (funext fun x=>funext fun H1=>?_)) h;simp [tNil])
 refine PyProof.Rows.callWith_type1 (thn ha fun us s1 hQ=>?_) hs rfl;obtain ⟨vs,H1,I1,r1,a,ns,ev,hq,hl4,h64,q⟩:=hQ;subst ev;obtain ⟨u,rfl,ru⟩:=r1.one;cases ru;obtain ⟨its,rv,ht,hz⟩:=I1.list hq;have ia:=intsAre_of rv;have hil:its.length=ns.length:=ia.length;refine SetW.aqcq (items:=its.toArray) (ns:=ns) (I1.ok.hd hc) ht.isList (by simpa using ia) (by rw [size_toArray,hil]; unfold scanBound; omega) fun h' tk hS hk=>?_;refine Calls.spliced_nil ?_;have hk':∀ b o,s1.heap.get? b=some o->h'.get? b=some o:=fun b o e=>hk b o (Heap.lt_size e) e;have hsz0:s1.heap.objs.size < h'.objs.size:=let ⟨o,_,_,_,ho,_⟩:=hS; Heap.lt_size ho;rw [show its.toArray.size=ns.length by rw [size_toArray,hil]] at hS;refine aZ5 (s:={ s1 with heap:=h',toks:=tk }) (I1.ok.hd hc) hS h64 fun D out n s' hout hD hget hk2 hs'=>?_;obtain ⟨h2,d2,tk2,rfl⟩:=hs';have hDs:s1.heap.objs.size <= D:=le_trans (le_of_lt hsz0) hD;have I2:=Inv.drawn (d':=d2) (I1.laid (h':=h2) (t':=tk2) (a:=D) (o:=.lst ((aqi ns).map V.int)) (fun b u e=>hk2 b u (hk' b u e)) hDs ⟨by rw [length_map,sizeLine_eq]; omega,out,n,akn hout,hget⟩);exact ⟨.ref D,_,I2,rfl,q D (I1.hok.fresh hDs)⟩
theorem aY8 {X:Cx} {e:Expr} {f:FE} {p p2 p3 pos:Pos} (hc:X.calm=true) (hg1:Gl X "sorted") (hg2:Gl X "set") (hm1:X.mg "sorted"=none) (hm2:X.mg "set"=none) (he:DE X e f) (hs:starEach [e] X.env=(false,eval e X.env) :: starEach [] X.env:=by rfl) :
  DO X (.Call (.Name "sorted" p) [.Call (.Name "set" p2) [e] [] p3] [] pos) (aqsw aVs (gd f aqty)):=by
 refine PE.imp (aW6 hc hg1 hg2 hm1 hm2 he hs) fun σ H Q q=>?_;obtain ⟨F,ρ,o,s,re,hf,kk⟩:=q;obtain ⟨zs,hf2,rfl⟩:=map_some hf;obtain ⟨ds,hd,hf⟩:=bind_some hf2;obtain ⟨d,hd1,hd⟩:=bind_some hd;obtain ⟨ds',hd2,rfl⟩:=map_some hd;cases hd2;refine ⟨F,ρ,d,s,re,hd1,fun v F1 H1 e1 r1=>?_⟩;unfold aVs at hf;split at hf
 ·rename_i xs heq
  cases heq;obtain ⟨ns,hns,hf⟩:=bind_some hf;split at hf
  ·rename_i hcnd
   cases hf
   have:=avt hns
   subst this;cases r1 with
   | lst q t =>
    have hv:=ajn t;subst hv;refine ⟨_,ns,rfl,(aqsh e1.fh q).l,hcnd.1,hcnd.2,fun l hl=>kk (.ref l) F1 _ _ (e1.trans (Ext.laidH e1.fh hl)) (aW7 upd_same ?_) fun b z=>by subst z; exact ⟨e1.fh.free hl,e1.hh.free hl⟩⟩;exact aVf _
  ·cases hf
 ·cases hf
end DL
namespace DL
open PySem PySem.Spec PyProof.Rows L2
section
variable {X:Cx} {K:Frag} {F:Hp}
theorem az4:CallR X (.builtin "sorted") (fun xs H Q=>∃ (p:Addr) (ns:List Int),xs=[.ref p]/\SqL X.K H p (ns.map V.int)/\ns.length < 64/\∀ l,H l=none->Q (.ref l) (upd H l (.lst ((awa ns).map V.int)))):=by
 intro pins s σ H xs us Q I r h;obtain ⟨p,ns,rfl,hq,h64,q⟩:=h;cases r with
 | cons r1 r =>
  cases r;cases r1;obtain ⟨its,rv,ht,hz⟩:=I.list hq;have ia:=intsAre_of rv;have hil:its.length=ns.length:=ia.length;refine sorted_ints ht.isList ia (by rw [hil]; exact h64) fun out ns' a1 a2 a3=>?_;obtain ⟨e,he⟩:=sortedAll_at s.heap its out;have e':=aqkl a2 a3;subst e';have hlen:(awa ns).length=ns.length:=(aqm ns).length_eq;exact ⟨.ref _,_,I.laid (t':=s.toks) (o:=.lst ((awa ns).map V.int)) (fun b u e=>sortedAll_old e) (le_succ _) ⟨by rw [length_map,hlen,sizeLine_eq]; omega,out.toList,e,akn a1,by simpa [seqObj] using he⟩,rfl,q _ (I.hok.fresh (le_succ _))⟩
theorem az3:CallO K (fun xs H Q=>∃ (p:Addr) (ns:List Int),xs=[.ref p]/\SqL K H p (ns.map V.int)/\ns.length < 64/\∀ l,H l=none->Q (.ref l) (upd H l (.lst ((awa ns).map V.int)))) aqi7:=by
 intro ds es F H vs Q h s r k;unfold aqi7 at h;split at h
 ·obtain ⟨ns,hns,h⟩:=bind_some h
  split at h
  ·rename_i h64
   cases h
   have:=avt hns
   subst this;cases r with
   | cons r r' =>
    cases r';cases r with
    | lst q t =>
     have hv:=ajn t;subst hv;exact ⟨_,ns,rfl,(aqsh s q).l,h64,fun l hl=>k l _ F _ (Ext.laidH s hl) upd_same (s.free hl) hl (aVf _)⟩
  ·cases h
 ·cases h
end
end DL
namespace DL
open PySem PySem.Spec PyProof.Rows L2
section
variable {X:Cx} {K:Frag} {F:Hp}
end
end DL
namespace DL
open PySem PySem.Spec PyProof.Rows L2
section
variable {prog:Program} {w:World} {A:Around} {E:Value->Shared->Prop} {s:Shared}
end
section
variable {X:Cx} {K:Frag} {F:Hp}
end
end DL
namespace DL
open PySem PySem.Spec PyProof.Rows L2
section
variable {X:Cx} {K:Frag} {F:Hp}
end
end DL
namespace DL
open PySem
def aqlf (ns:List Int):FA:=ns.foldr (fun n g=>gd (fC (.int n)) g) aqty
theorem aqfs (ns:List Int) (ρ:aqu7):aqlf ns ρ=some (ns.map .int):=by
 induction ns with
 | nil=>rfl
 | cons n ns ih =>
  show gd (fC (.int n)) (aqlf ns) ρ=_;simp [ih]
end DL
namespace DL
open PySem PySem.Spec PyProof.Rows L2
def intOf:Expr->Option Int
 | .Constant (.int i) _ _=>some i
 | _=>none
variable {X:Cx}
theorem aqf3:∀ {es:List Expr} {ns:List Int},es.map intOf=ns.map some->DA X es (aqlf ns)
 | [],[],_=>ae
 | [],_ :: _,h=>by simp at h
 | _ :: _,[],h=>by simp at h
 | e :: es,n :: ns,h=>by
  have h1:intOf e=some n:=(List.cons.inj h).1;have h2:es.map intOf=ns.map some:=(List.cons.inj h).2;unfold intOf at h1;split at h1
  ·cases h1
   exact aa ah (aqf3 h2) rfl
  ·cases h1
theorem aqnd {x:Str} {i:Int} {pos:Pos} (hg:Gl X x) (hm:∃ t,X.mg x=some (.int i t)) (hd:(x == ("__debug__":Str))=false:=by decide):DE X (.Name x pos) (fC (.int i)):=by
 obtain ⟨t,hm⟩:=hm;exact de_c (pe_glob (v:=V.int i) hg hm ⟨t,rfl⟩ hd) fun _=>.int i
end DL
namespace DL
open PySem
end DL
namespace DL
end DL
namespace DL
open PySem
def lexP (p q:Int × Int):Bool:=if p.1=q.1 then decide (p.2 < q.2) else decide (p.1 < q.1)
theorem aVp {p q:Int × Int}:lexP p q=true ↔ p.1 < q.1 \/ p.1=q.1/\p.2 < q.2:=by
 unfold lexP;split <;> simp <;> omega
def insP (x:Int × Int):List (Int × Int)->List (Int × Int)
 | []=>[x]
 | y :: ys=>if lexP x y=true then x :: y :: ys else y :: insP x ys
def aJp (ps:List (Int × Int)):List (Int × Int):=ps.foldr insP []
theorem aVi (x:Int × Int):∀ l:List (Int × Int),(insP x l).Perm (x :: l)
 | []=>.refl _
 | y :: ys=>by
  unfold insP;split
  ·exact .refl _
  ·exact ((aVi x ys).cons y).trans (List.Perm.swap _ _ _)
theorem azn:∀ ps:List (Int × Int),(aJp ps).Perm ps
 | []=>.refl _
 | n :: ns=>(aVi n _).trans ((azn ns).cons n)
theorem aKj (x:Int × Int):∀ l:List (Int × Int),l.Pairwise (fun a b=>lexP a b=true)->x ∉ l->(insP x l).Pairwise (fun a b=>lexP a b=true)
 | [],_,_=>by simp [insP]
 | y :: ys,h,hn=>by
  rw [pairwise_cons] at h;unfold insP;split
  ·rename_i hx
   rw [pairwise_cons];refine ⟨fun z hz=>?_,List.pairwise_cons.mpr h⟩;rcases List.mem_cons.mp hz with rfl | hz
   ·exact hx
   ·have h2:=h.1 z hz
    rw [aVp] at *;omega
  ·rename_i hx
   rw [pairwise_cons];refine ⟨fun z hz=>?_,aKj x ys h.2 (fun m=>hn (by simp [m]))⟩;rcases List.mem_cons.mp ((aVi x ys).mem_iff.mp hz) with rfl | hz
   ·have hne:z ≠ y:=fun e=>hn (by simp [e])
    rw [aVp] at *
    have:¬ (z.1=y.1/\z.2=y.2):=fun e=>hne (Prod.ext e.1 e.2)
    omega
   ·exact h.1 z hz
theorem aw9:∀ ps:List (Int × Int),ps.Nodup->(aJp ps).Pairwise (fun a b=>lexP a b=true)
 | [],_=>.nil
 | n :: ns,h=>by
  rw [nodup_cons] at h;exact aKj n _ (aw9 ns h.2) fun m=>h.1 ((azn ns).mem_iff.mp m)
theorem aqkk {ps ps':List (Int × Int)} (hn:ps.Nodup) (hp:ps'.Perm ps) (hs:ps'.Pairwise (fun a b=>lexP a b=true)):ps'=aJp ps :=
 List.Perm.eq_of_pairwise (fun a b _ _ h1 h2=>by rw [aVp] at h1 h2; omega) hs (aw9 ps hn) (hp.trans (azn ps).symm)
def aqgd (p:Int × Int):D:=.tup [.int p.1,.int p.2]
def aVr:List D->Option (List D)
 | [.lst xs,.lst ys]=>(aqcu xs).bind fun ns=>(aqcu ys).bind fun ms=>if ns.length=ms.length/\1 <= ns.length/\ns.length < 64/\(ns.zip ms).Nodup then some ((aJp (ns.zip ms)).map aqgd) else none
 | _=>none
end DL
namespace DL
open PySem PySem.Spec PyProof.Rows L2
variable {X:Cx} {tg:Expr}
end DL
namespace DL
open PySem PySem.Spec PyProof.Rows L2
variable {X:Cx}
end DL
namespace DL
end DL
namespace DL
open PySem PySem.Spec PyProof.Rows L2
section
variable {K:Frag} {β:Bs} {F H:Hp} {σ:St} {ρ:Cs}
end
section
variable {X:Cx} {pos:Pos} {W2:List Nat}
end
end DL
set_option maxHeartbeats 2000000
namespace DL
open PySem PySem.Spec PyProof.Rows L2
section
variable {X:Cx} {elt target iter:Expr} {ifs:List Expr} {scope:Scope} {pos:Pos} {cl:List (Str × Addr)} {kx:Str} {N':List Str} {js:List (Option Nat)}
structure CompOk2 (X:Cx) (scope:Scope) (kx:Str) (cl:List (Str × Addr)) (N':List Str) (js:List (Option Nat)):Prop where
 calm:X.calm=true
 clo:clo X.env scope.names []=some cl
 free:ak7 X scope cl js N'
 cf:∀ (n:Nat) (acc:List (Str × Addr)),cellsFrom n scope.names acc=(kx,n) :: acc
 pc:∀ h:Heap,pushCells h scope.names=h.push { cls:=.type "cell",data:=.cell none }
 kN:∀ p∈js.zip N',p.1=none \/ p.2 ≠ kx
 cell:∀ y∈scope.names,y.2=.cell->y.1=kx
 kind:scope.kind=.function
 names:∀ x∈scope.names,x.2=.local->scope.names.lookup x.1=some .local
theorem CompOk2.hcl (k:CompOk2 X scope kx cl N' js):∀ x c,cl.lookup x=some c->X.env.cells.lookup x=some c:=fun x c h=>by
 rcases aqbp k.clo x c (axp h) with z | z
 ·simp at z
 ·exact z
theorem CompOk2.hhas (k:CompOk2 X scope kx cl N' js):∀ x,((relabel scope X.env).names.lookup x=some .cell \/ (relabel scope X.env).names.lookup x=some .free)->x=kx \/ ∃ c,cl.lookup x=some c:=fun x h=>by
 have h':∃ k,(x,k)∈(relabel scope X.env).names/\(k=.cell \/ k=.free):=by
  rcases h with h | h
  ·exact ⟨_,axp h,.inl rfl⟩
  ·exact ⟨_,axp h,.inr rfl⟩
 obtain ⟨kk,hk,hkk⟩:=h';unfold relabel at hk;obtain ⟨⟨n,k'⟩,hm,he⟩:=List.mem_map.mp hk;dsimp only at he;have fin:(x,NameKind.free)∈scope.names->x=kx \/ ∃ c,cl.lookup x=some c:=fun z=>by
  obtain ⟨c,hc⟩:=(aqbq k.clo).2 x z;exact .inr (aXe hc)
 split at he
 ·rename_i hc
  cases he;simp only [Bool.and_eq_true,beq_iff_eq] at hc;rw [hc.1.1] at hm;exact fin hm
 ·cases he
  rcases hkk with rfl | rfl
  ·exact .inl (k.cell _ hm rfl)
  ·exact fin hm
end
end DL
namespace DL
open PySem PySem.Spec PyProof.Rows L2
section
variable {env:Env} {es:List Expr} {p:Pos}
end
section
variable {X:Cx} {a:Expr} {es:List Expr} {pos:Pos} {x1:Nat} {f:FE} {g:FA} {o:FO} {u:FAO}
end
section
variable {X:Cx} {a e:Expr} {pos pos':Pos} {o:FO}
end
section
variable {P:Program} {w:World} {K:Frag} {mg:Str->Option Value} {base:Heap}
end
end DL
set_option maxHeartbeats 1000000
namespace SortW
open PySem PySem.W PyProof.Rows
def aqsj {α:Type} (lt:Nat->Nat->Bool):KasT α->α
 | .ret a=>a
 | .ask i j k=>aqsj lt (k (lt i j))
theorem av5 {α β:Type} (lt:Nat->Nat->Bool):∀ (t:KasT α) (f:α->KasT β),aqsj lt (t.bind f)=aqsj lt (f (aqsj lt t))
 | .ret a,f=>by simp [KasT.bind,aqsj]
 | .ask i j k,f=>by
  rw [KasT.bind];show aqsj lt ((k (lt i j)).bind f)=_;rw [av5 lt (k (lt i j)) f];rfl
def at0 (p:Array Nat) (i:Nat):Nat:=p.getD i 0
theorem aX0 (p:Array Nat) (i:Nat):at0 p i=(p[i]?).getD 0:=by simp [at0]
structure Ord (n:Nat) (lt:Nat->Nat->Bool):Prop where
 trans:∀ a b c,lt a b=true->lt b c=true->lt a c=true
 asym:∀ a b,lt a b=true->lt b a=false
 total:∀ a b,a < n->b < n->a ≠ b->lt a b=false->lt b a=true
def SP (lt:Nat->Nat->Bool) (p:Array Nat) (k:Nat):Prop:=∀ i j,i < j->j < k->lt (at0 p i) (at0 p j)=true
section
variable {n:Nat} {lt:Nat->Nat->Bool} (O:Ord n lt)
def PA (n:Nat) (p:Array Nat):Prop:=p.Perm (List.range n).toArray
theorem PA.size {p:Array Nat} (h:PA n p):p.size=n:=by
 have:=h.size_eq
 simpa using this
theorem PA.bd {p:Array Nat} (h:PA n p) {i:Nat} (hi:i < n):at0 p i < n:=by
 have hs:i < p.size:=by rw [h.size]; exact hi
 have:p[i]∈(List.range n).toArray:=(Array.Perm.mem_iff h).mp (Array.getElem_mem hs)
 have e:at0 p i=p[i]:=by simp [at0,hs]
 rw [e];simpa using this
theorem PA.ne {p:Array Nat} (h:PA n p) {i j:Nat} (hi:i < n) (hj:j < n) (hij:i ≠ j):at0 p i ≠ at0 p j:=by
 have hl:p.toList.Perm (List.range n):=by simpa using h.toList
 have hn:p.toList.Nodup:=hl.nodup_iff.mpr List.nodup_range;have hsi:i < p.toList.length:=by rw [length_toList,h.size]; exact hi
 have hsj:j < p.toList.length:=by rw [length_toList,h.size]; exact hj
 have ei:at0 p i=p.toList[i]:=by simp [at0,show i < p.size by simpa using hsi]
 have ej:at0 p j=p.toList[j]:=by simp [at0,show j < p.size by simpa using hsj]
 rw [ei,ej];exact fun e=>hij ((List.getElem_inj hn).mp e)
include O
theorem flip {p:Array Nat} (h:PA n p) {i j:Nat} (hi:i < n) (hj:j < n) (hij:i ≠ j) (hf:lt (at0 p i) (at0 p j)=false):lt (at0 p j) (at0 p i)=true:=O.total _ _ (h.bd hi) (h.bd hj) (h.ne hi hj hij) hf
theorem SP.succ {p:Array Nat} {k:Nat} (hs:SP lt p k) (h1:1 <= k) (hl:lt (at0 p (k - 1)) (at0 p k)=true):SP lt p (k + 1):=by
 intro i j hij hj
 by_cases e:j=k
 ·subst e
  by_cases e2:i=j - 1
  ·subst e2; exact hl
  ·exact O.trans _ _ _ (hs i (j - 1) (by omega) (by omega)) hl
 ·exact hs i j hij (by omega)
theorem aql7 {p:Array Nat} (h:PA n p):∀ (f x:Nat),1 <= x->x + f <= n->SP lt p x->x <= aqsj lt (kas_asc p f x)/\aqsj lt (kas_asc p f x) <= x + f/\SP lt p (aqsj lt (kas_asc p f x))/\(aqsj lt (kas_asc p f x) < x + f->lt (at0 p (aqsj lt (kas_asc p f x))) (at0 p (aqsj lt (kas_asc p f x) - 1))=true)
 | 0,x,h1,h2,hs=>by
  rw [kas_asc];exact ⟨le_refl _,le_refl _,hs,fun z=>by simp [aqsj] at z⟩
 | f + 1,x,h1,h2,hs=>by
  rw [kas_asc];show _ <= aqsj lt (if lt (at0 p x) (at0 p (x - 1))=true then KasT.ret x else kas_asc p f (x + 1))/\aqsj lt (if lt (at0 p x) (at0 p (x - 1))=true then KasT.ret x else kas_asc p f (x + 1)) <= _/\SP lt p (aqsj lt (if lt (at0 p x) (at0 p (x - 1))=true then KasT.ret x else kas_asc p f (x + 1)))/\(aqsj lt (if lt (at0 p x) (at0 p (x - 1))=true then KasT.ret x else kas_asc p f (x + 1)) < _->lt (at0 p (aqsj lt (if lt (at0 p x) (at0 p (x - 1))=true then KasT.ret x else kas_asc p f (x + 1)))) (at0 p (aqsj lt (if lt (at0 p x) (at0 p (x - 1))=true then KasT.ret x else kas_asc p f (x + 1)) - 1))=true);cases hc:lt (at0 p x) (at0 p (x - 1)) with
  | true =>
   simp only [if_true,aqsj];exact ⟨le_refl _,by omega,hs,fun _=>hc⟩
  | false =>
   simp only [Bool.false_eq_true,if_false];have hl:=flip O h (i:=x) (j:=x - 1) (by omega) (by omega) (by omega) hc;obtain ⟨a,b,c,d⟩:=aql7 h f (x + 1) (by omega) (by omega) (SP.succ O hs h1 hl);exact ⟨by omega,by omega,c,fun z=>d (by omega)⟩
def DP (lt:Nat->Nat->Bool) (p:Array Nat) (k:Nat):Prop:=∀ i j,i < j->j < k->lt (at0 p j) (at0 p i)=true
theorem aqic {p:Array Nat} (h:PA n p):∀ (f k:Nat),1 <= k->k + f <= n->DP lt p k->∃ m,aqsj lt (kas_desc f p k 0)=(p,m,0)/\k <= m/\m <= k + f/\DP lt p m
 | 0,k,h1,h2,hd=>⟨k,by rw [kas_desc]; rfl,le_refl _,le_refl _,hd⟩
 | f + 1,k,h1,h2,hd=>by
  rw [kas_desc];show ∃ m,aqsj lt (if lt (at0 p k) (at0 p (k - 1))=true then if 0 > 0 then _ else kas_desc f p (k + 1) 0 else KasT.ask (at0 p (k - 1)) (at0 p k) fun d=>if d=true then KasT.ret (p,k,0) else kas_desc f p (k + 1) (0 + 1))=_/\_;cases hc:lt (at0 p k) (at0 p (k - 1)) with
  | true =>
   simp only [if_true,lt_irrefl,gt_iff_lt,if_false];have hd':DP lt p (k + 1):=by
    intro i j hij hj
    by_cases e:j=k
    ·subst e
     by_cases e2:i=j - 1
     ·subst e2; exact hc
     ·exact O.trans _ _ _ hc (hd i (j - 1) (by omega) (by omega))
    ·exact hd i j hij (by omega)
   obtain ⟨m,m1,m2,m3,m4⟩:=aqic h f (k + 1) (by omega) (by omega) hd';exact ⟨m,m1,by omega,by omega,m4⟩
  | false =>
   simp only [Bool.false_eq_true,if_false];have hl:=flip O h (i:=k) (j:=k - 1) (by omega) (by omega) (by omega) hc;refine ⟨k,?_,le_refl _,by omega,hd⟩;show aqsj lt (if lt (at0 p (k - 1)) (at0 p k)=true then KasT.ret (p,k,0) else kas_desc f p (k + 1) (0 + 1))=_;rw [hl];rfl
omit O in
theorem aqm3 {p:Array Nat} {m:Nat} (hm:m <= p.size) (k:Nat):at0 (kas_rev p 0 m) k=if k < m then at0 p (m - 1 - k) else at0 p k:=by
 rw [aX0,aX0,aX0];unfold kas_rev;rw [getElem?_mirror_all hm];simp only [zero_le,true_and,Nat.zero_add];split <;> rfl
theorem aqlm {p:Array Nat} (h:PA n p) {m:Nat} (h1:1 <= m) (hm:m <= n) (hd:DP lt p m):∃ c q,aqsj lt (kas_tail3 m n p)=(c,q)/\PA n q/\1 <= c/\c <= n/\SP lt q c:=by
 have hq:PA n (kas_rev p 0 m):=(mirror_perm _ _ _ _).trans h;have hs:SP lt (kas_rev p 0 m) m:=by
  intro i j hij hj;have hz:m <= p.size:=by rw [h.size]; exact hm
  rw [aqm3 hz,aqm3 hz,if_pos (by omega),if_pos hj];exact hd _ _ (by omega) (by omega)
 obtain ⟨a,b,c,_⟩:=aql7 O hq (n - m) m h1 (by omega) hs;refine ⟨_,_,?_,hq,?_,?_,c⟩
 ·unfold kas_tail3
  rw [av5];rfl
 ·omega
 ·omega
theorem aqkx {p:Array Nat} (h:PA n p) (h1:1 <= n):∃ c q,aqsj lt (kas_count n p)=(c,q)/\PA n q/\1 <= c/\c <= n/\SP lt q c:=by
 have hs1:SP lt p 1:=fun i j hij hj=>by omega
 obtain ⟨a,b,c,d⟩:=aql7 O h (n - 1) 1 (le_refl _) (by omega) hs1;unfold kas_count;rw [av5];generalize aqsj lt (kas_asc p (n - 1) 1)=m at *
 by_cases e:m=n
 ·rw [if_pos (by simpa using e)]
  exact ⟨m,p,rfl,h,a,by omega,c⟩
 ·rw [if_neg (by simpa using e)]
  by_cases e2:m > 1
  ·rw [if_pos e2]
   have hl:=c 0 (m - 1) (by omega) (by omega);refine ⟨m,p,?_,h,a,by omega,c⟩;show aqsj lt (if lt (at0 p 0) (at0 p (m - 1))=true then _ else _)=_;rw [hl];rfl
  ·rw [if_neg e2]
   have em:m=1:=by omega
   subst em;have hl:=d (by omega);have hd:DP lt p 2:=fun i j hij hj=>by
    have:i=0/\j=1:=by omega
    obtain ⟨rfl,rfl⟩:=this;exact hl
   obtain ⟨m,m1,m2,m3,m4⟩:=aqic O h (n - (1 + 1)) (1 + 1) (by omega) (by omega) hd;unfold kas_descPart;rw [av5,m1];simp only [gt_iff_lt,lt_irrefl,if_false];exact aqlm O h (by omega) (by omega) m4
theorem aW3 {p:Array Nat} (h:PA n p) {k:Nat} (hk:k < n) (hs:SP lt p k):∀ (f lo hi:Nat),lo <= hi->hi <= k->hi - lo <= f->(∀ i,i < lo->lt (at0 p i) (at0 p k)=true)->(∀ i,hi <= i->i < k->lt (at0 p k) (at0 p i)=true) ->
  aqsj lt (kas_place p k f lo hi) <= k/\(∀ i,i < aqsj lt (kas_place p k f lo hi)->lt (at0 p i) (at0 p k)=true)/\(∀ i,aqsj lt (kas_place p k f lo hi) <= i->i < k->lt (at0 p k) (at0 p i)=true)
 | 0,lo,hi,h1,h2,h3,ha,hb=>by
  rw [kas_place]
  have:lo=hi:=by omega
  subst this;exact ⟨h2,ha,hb⟩
 | f + 1,lo,hi,h1,h2,h3,ha,hb=>by
  rw [kas_place]
  by_cases e:lo ≥ hi
  ·rw [if_pos e]
   have:lo=hi:=by omega
   subst this;exact ⟨h2,ha,hb⟩
  ·rw [if_neg e]
   have hmid:(lo + hi) / 2 < hi/\lo <= (lo + hi) / 2:=by omega
   show aqsj lt (if lt (at0 p k) (at0 p ((lo + hi) / 2))=true then _ else _) <= _/\_;simp only [aqsj];have eqd:lt (p.getD k 0) (p.getD ((lo + hi) / 2) 0)=lt (at0 p k) (at0 p ((lo + hi) / 2)):=rfl;rw [eqd];cases hc:lt (at0 p k) (at0 p ((lo + hi) / 2)) with
   | true =>
    simp only [if_true];refine aW3 h hk hs f lo ((lo + hi) / 2) hmid.2 (by omega) (by omega) ha fun i hi1 hi2=>?_
    by_cases e2:i=(lo + hi) / 2
    ·subst e2; exact hc
    ·exact O.trans _ _ _ hc (hs _ _ (by omega) hi2)
   | false =>
    simp only [Bool.false_eq_true,if_false];have hl:=flip O h (i:=k) (j:=(lo + hi) / 2) hk (by omega) (by omega) hc;refine aW3 h hk hs f ((lo + hi) / 2 + 1) hi (by omega) h2 (by omega) (fun i hi1=>?_) hb
    by_cases e2:i=(lo + hi) / 2
    ·subst e2; exact hl
    ·exact O.trans _ _ _ (hs i ((lo + hi) / 2) (by omega) (by omega)) hl
theorem aqno:∀ (f:Nat) (p:Array Nat) (x:Nat),PA n p->x + f=n->SP lt p x->PA n (aqsj lt (kas_bin f p x))/\SP lt (aqsj lt (kas_bin f p x)) n
 | 0,p,x,h,hx,hs=>by
  rw [kas_bin]
  have:x=n:=by omega
  subst this;exact ⟨h,hs⟩
 | f + 1,p,x,h,hx,hs=>by
  rw [kas_bin,av5];obtain ⟨l1,l2,l3⟩:=aW3 O h (k:=x) (by omega) hs x 0 x (by omega) (le_refl _) (by omega) (fun i hi=>by omega) (fun i h1 h2=>by omega);generalize aqsj lt (kas_place p x x 0 x)=l at *;have hsz:x < p.size:=by rw [h.size]; omega
  have hat:∀ k,at0 (bubble p x (x - l)) k=if k=l then at0 p x else if l < k/\k <= x then at0 p (k - 1) else at0 p k:=by
   intro k;rw [aX0,aX0,aX0,aX0,getElem?_bubble hsz (x - l) (by omega),show x - (x - l)=l by omega];split
   ·rfl
   ·split <;> rfl
  refine aqno f (bubble p x (x - l)) (x + 1) ((bubble_perm _ _ _).trans h) (by omega) fun i j hij hj=>?_;rw [hat,hat]
  by_cases ei:i=l
  ·rw [if_pos ei,if_neg (by omega),if_pos (by omega)]
   exact l3 _ (by omega) (by omega)
  ·rw [if_neg ei]
   by_cases ej:j=l
   ·rw [if_pos ej,if_neg (by omega)]
    exact l2 i (by omega)
   ·rw [if_neg ej]
    by_cases ci:l < i/\i <= x
    ·rw [if_pos ci,if_pos (by omega)]
     exact hs _ _ (by omega) (by omega)
    ·rw [if_neg ci]
     by_cases cj:l < j/\j <= x
     ·rw [if_pos cj]
      exact hs _ _ (by omega) (by omega)
     ·rw [if_neg cj]
      exact hs _ _ hij (by omega)
theorem aqlq (h1:1 <= n):PA n (aqsj lt (kas_sort n))/\SP lt (aqsj lt (kas_sort n)) n:=by
 have h0:PA n (List.range n).toArray:=Array.Perm.refl _;obtain ⟨c,q,e,hq,c1,c2,hs⟩:=aqkx O h0 h1;unfold kas_sort;rw [av5,e];dsimp only
 by_cases hc:c < n
 ·rw [if_pos hc,show max c 1=c by omega]
  exact aqno O (n - c) q c hq (by omega) hs
 ·rw [if_neg hc]
  have:c=n:=by omega
  subst this;exact ⟨hq,hs⟩
end
end SortW
namespace SortW
open PySem PySem.W PyProof.Rows
section
variable {prog:Program} {w:World} {A:Around} {E:Value->Shared->Prop} {s:Shared}
theorem aKx {a:Addr} {vs:List Value} {n:Nat} {P:PySem.Fin->Shared->Prop} (ho:s.heap.get? a=some (seqObj "list" vs.toArray n)) (h64:vs.length < 64) (h2:2 <= vs.length)
  (h:wpAny (model prog w) A (keyKind' vs.toArray) (fun κ s'=>KasT.kasWp (kas_ask prog w A κ vs) (kas_sort vs.length) (fun p s''=>s''=s'/\s'={ s with heap:=((s.heap.update a (Obj.mapSeq fun _=>#[])).push (seqObj "tuple" vs.toArray 0)).push (seqObj "list" #[] 0) }/\P (.done (.ret .none)) { s with heap:=sortedHeap s.heap a vs ((p.toList.map fun i=>vs.getD i .none).toArray) }) s') (fun _ _=>False) { s with heap:=((s.heap.update a (Obj.mapSeq fun _=>#[])).push (seqObj "tuple" vs.toArray 0)).push (seqObj "list" #[] 0) }) :
  wpAny (model prog w) A (Builtin.«list.sort» { pos:=[Value.ref a] }) P E s:=by
 rw [list_sort_plain a];have ha:=Heap.lt_size ho;refine wpAny_bind (listItems_at ho rfl (wpAny_bind (listUpdate_at ho rfl ?_)));obtain ⟨e1,ho1⟩:∃ e1,(s.heap.update a (Obj.mapSeq fun _=>#[])).get? a=some (seqObj "list" #[] e1):=⟨_,get?_update_seq ho fun _=>#[]⟩;refine wpAny_bind (seqEpoch_at ho1 rfl (wpAny_bind (wpAny_newTuple (wpAny_bind (wpAny_newList (wpAny_holding ?_))))));have ho6:(((s.heap.update a (Obj.mapSeq fun _=>#[])).push (seqObj "tuple" vs.toArray 0)).push (seqObj "list" #[] 0)).get? a=some (seqObj "list" #[] e1):=by
  rw [Heap.get?_push_ne _ _ _ (by rw [size_push',Heap.size_update]; exact ne_of_lt (lt_succ_of_lt ha)),Heap.get?_push_ne _ _ _ (by rw [Heap.size_update]; exact ne_of_lt ha)];exact ho1
 have hsz:¬ vs.toArray.size < 2:=by simp; omega
 refine (?_:wpAny (model prog w) A (if vs.toArray.size < 2 then _ else _) P E { s with heap:=((s.heap.update a (Obj.mapSeq fun _=>#[])).push (seqObj "tuple" vs.toArray 0)).push (seqObj "list" #[] 0) });rw [if_neg hsz];refine wpAny_bind (wpAny_mono h (fun κ s' hk=>?_) (fun _ _ z=>z.elim));rw [if_neg hsz];refine wpAny_bind (wpAny_mono (kat_run (ks:=vs) (vs:=vs) (E:=E) (Q:=fun st' s''=>∃ p:Array Nat,p.size=vs.length/\arrOf st'=Array.map (kas_item (vs.toArray.zip vs.toArray)) p/\failedOf st'=none/\_) rfl h2 h64 (fun p st' s'' hp harr hfail hG=>⟨p,hp,harr,hfail,hG⟩) hk) (fun r s'' hQ=>?_) (fun _ _ z=>z));obtain ⟨p,hps,harr,hfail,rfl,rfl,hP⟩:=hQ;have hs:=kat_snds (vs:=vs) (ks:=vs) rfl harr;obtain ⟨u,st'⟩:=r;dsimp only at hs harr hfail ⊢;refine wpAny_bind (seqEpoch_at ho6 rfl ?_);have hz1:(Array.map (fun x=>x.snd) (arrOf st')).size <= sizeLine + 1:=by rw [hs]; simp [hps,sizeLine_eq]; omega
 refine wpAny_bind (listUpdate_at ho6 rfl ?_ (by simp) hz1);simp only [hfail,bne_self_eq_false,Bool.false_eq_true,if_false];refine wpAny_pure ?_;rw [hs];exact hP
end
end SortW
namespace SortW
open PySem PySem.W PyProof.Rows
def inR {α:Type} (n:Nat) (G:α->Prop):KasT α->Prop
 | .ret a=>G a
 | .ask i j k=>i < n/\j < n/\∀ b,inR n G (k b)
theorem aQc {α β:Type} {n:Nat} {G:α->Prop} {G':β->Prop}:∀ (t:KasT α) (f:α->KasT β),inR n G t->(∀ a,G a->inR n G' (f a))->inR n G' (t.bind f)
 | .ret a,f,h,k=>by rw [KasT.bind]; exact k a h
 | .ask i j g,f,h,k=>by
  rw [KasT.bind];exact ⟨h.1,h.2.1,fun b=>aQc (g b) f (h.2.2 b) k⟩
theorem PA.all {n:Nat} {p:Array Nat} (h:PA n p) (hn:1 <= n) (i:Nat):p.getD i 0 < n:=by
 by_cases hi:i < n
 ·exact h.bd hi
 ·have:p.getD i 0=0:=by
   have hs:=h.size;simp [Array.getD,show ¬ i < p.size by omega]
  rw [this]; omega
section
variable {n:Nat} (hn:1 <= n)
include hn
theorem aql8 {p:Array Nat} (h:PA n p):∀ (f x:Nat),inR n (fun _=>True) (kas_asc p f x)
 | 0,x=>by rw [kas_asc]; trivial
 | f + 1,x=>by
  rw [kas_asc];refine ⟨h.all hn _,h.all hn _,fun b=>?_⟩;cases b
  ·simpa using aql8 h f (x + 1)
  ·trivial
theorem aqdp {p:Array Nat} (h:PA n p) (i j:Nat):PA n (kas_rev p i j):=(mirror_perm _ _ _ _).trans h
theorem aqbm:∀ (f:Nat) (p:Array Nat) (k e:Nat),PA n p->inR n (fun r=>PA n r.1) (kas_desc f p k e)
 | 0,p,k,e,h=>by rw [kas_desc]; exact h
 | f + 1,p,k,e,h=>by
  rw [kas_desc];refine ⟨h.all hn _,h.all hn _,fun b=>?_⟩;cases b
  ·refine ⟨h.all hn _,h.all hn _,fun d=>?_⟩
   cases d
   ·simpa using aqbm f p (k + 1) (e + 1) h
   ·exact h
  ·by_cases c:e > 0
   ·simp only [if_true,if_pos c]
    exact aqbm f _ _ _ (aqdp hn h _ _)
   ·simp only [if_true,if_neg c]
    exact aqbm f _ _ _ h
theorem aqhm {p:Array Nat} (h:PA n p) (m nrem:Nat):inR n (fun r=>PA n r.2) (kas_tail3 m nrem p):=by
 unfold kas_tail3;exact aQc _ _ (aql8 hn (aqdp hn h _ _) _ _) fun a _=>aqdp hn h _ _
theorem aZx {p:Array Nat} (h:PA n p) (m nrem:Nat):inR n (fun r=>PA n r.2) (kas_descPart m nrem p):=by
 unfold kas_descPart;refine aQc _ _ (aqbm hn _ _ _ _ h) fun r hr=>?_;split
 ·exact aqhm hn (aqdp hn hr _ _) _ _
 ·exact aqhm hn hr _ _
theorem aqky {p:Array Nat} (h:PA n p) (nrem:Nat):inR n (fun r=>PA n r.2) (kas_count nrem p):=by
 unfold kas_count;refine aQc _ _ (aql8 hn h _ _) fun m _=>?_;split
 ·exact h
 ·split
  ·refine ⟨h.all hn _,h.all hn _,fun b=>?_⟩
   cases b
   ·simpa using aZx hn (aqdp hn h _ _) _ _
   ·exact h
  ·exact aZx hn h _ _
theorem aW4 {p:Array Nat} (h:PA n p) (k:Nat):∀ (f lo hi:Nat),inR n (fun _=>True) (kas_place p k f lo hi)
 | 0,lo,hi=>by rw [kas_place]; trivial
 | f + 1,lo,hi=>by
  rw [kas_place];split
  ·trivial
  ·refine ⟨h.all hn _,h.all hn _,fun b=>?_⟩
   cases b
   ·simpa using aW4 h k f ((lo + hi) / 2 + 1) hi
   ·simpa using aW4 h k f lo ((lo + hi) / 2)
theorem aqnp:∀ (f:Nat) (p:Array Nat) (x:Nat),PA n p->inR n (fun r=>PA n r) (kas_bin f p x)
 | 0,p,x,h=>by rw [kas_bin]; exact h
 | f + 1,p,x,h=>by
  rw [kas_bin];exact aQc _ _ (aW4 hn h _ _ _ _) fun l _=>aqnp f _ _ ((bubble_perm _ _ _).trans h)
theorem aqlr:inR n (fun r=>PA n r) (kas_sort n):=by
 have h0:PA n (List.range n).toArray:=Array.Perm.refl _;unfold kas_sort;refine aQc _ _ (aqky hn h0 _) fun r hr=>?_;split
 ·exact aqnp hn _ _ _ hr
 ·exact hr
end
theorem aqeh {α:Type} {n:Nat} {lt:Nat->Nat->Bool} {cmp:Nat->Nat->(Bool->Shared->Prop)->Shared->Prop} {s:Shared} (hc:∀ i j C,i < n->j < n->C (lt i j) s->cmp i j C s) {G':α->Prop} {G:α->Shared->Prop}:∀ (t:KasT α),inR n G' t->G (aqsj lt t) s->KasT.kasWp cmp t G s
 | .ret a,_,h=>by rw [KasT.kasWp]; exact h
 | .ask i j k,hi,h=>by
  rw [KasT.kasWp];exact hc i j _ hi.1 hi.2.1 (aqeh hc (k (lt i j)) (hi.2.2 _) h)
end SortW
namespace SortW
open PySem PySem.W PyProof.Rows
def lexB (p q:Int × Int):Bool:=if p.1=q.1 then decide (p.2 < q.2) else decide (p.1 < q.1)
section
variable {prog:Program} {w:World} {A:Around} {E:Value->Shared->Prop} {s:Shared}
theorem aqmd {x y:Addr} {ox oy:Obj} {n k:Nat} {a b c d:Int} {t1 t2 t3 t4:Tok} {C:Bool->Shared->Prop} (hx:s.heap.get? x=some ox) (dx:ox.data=.seq #[.int a t1,.int b t2] n) (hy:s.heap.get? y=some oy) (dy:oy.data=.seq #[.int c t3,.int d t4] k) (h:C (lexB (a,b) (c,d)) s) :
  wpAny (model prog w) A (keyLt' (tuples' true) (.ref x) (.ref y)) C E s:=by
 refine kat_lt hx dx hy dy ?_;show KatLex prog w A true _ C [(Value.int a t1,Value.int c t3),(Value.int b t2,Value.int d t4)] 0 s;rw [KatLex];refine wpAny_eqBool_int ?_;unfold lexB at h
 by_cases e1:a=c
 ·rw [if_pos (by simpa using e1),KatLex]
  simp only [e1,if_true] at h;refine wpAny_eqBool_int ?_
  by_cases e2:b=d
  ·rw [if_pos (by simpa using e2),KatLex]
   subst e2;simpa using h
  ·rw [if_neg (by simpa using e2)]
   refine kat_one _ _ ?_;exact PyProof.Rows.lt_int h
 ·rw [if_neg (by simpa using e1)]
  simp only [e1,if_false] at h;exact oneLt_int h
def aqct (h:Heap) (v:Value) (p:Int × Int):Prop:=∃ (x:Addr) (o:Obj) (n:Nat) (t1 t2:Tok),v=.ref x/\h.get? x=some o/\o.cls=.type "tuple"/\o.data=.seq #[.int p.1 t1,.int p.2 t2] n
theorem aqk1 {n:Nat} {key:Nat->Int × Int} (hinj:∀ i j,i < n->j < n->key i=key j->i=j):Ord n fun i j=>lexB (key i) (key j) where
 trans:=by
  intro a b c h1 h2;unfold lexB at *;generalize key a=x at *;generalize key b=y at *;generalize key c=z at *;split at h1 <;> split at h2 <;> split <;> simp at * <;> omega
 asym:=by
  intro a b h1;unfold lexB at *;generalize key a=x at *;generalize key b=y at *;split at h1 <;> split <;> simp at * <;> omega
 total:=by
  intro a b ha hb hab h1;have hne:key a ≠ key b:=fun e=>hab (hinj a b ha hb e);unfold lexB at *;generalize key a=x at *;generalize key b=y at *;obtain ⟨x1,x2⟩:=x;obtain ⟨y1,y2⟩:=y;simp at hne;split at h1 <;> split <;> simp at * <;> omega
theorem aqhh {vs:List Value} {ps:List (Int × Int)} (hl:ps.length=vs.length) (hp:∀ i,i < vs.length->aqct s.heap (vs.getD i .none) (ps.getD i (0,0))) (i j:Nat) (C:Bool->Shared->Prop) (hi:i < vs.length) (hj:j < vs.length) (h:C (lexB (ps.getD i (0,0)) (ps.getD j (0,0))) s):kas_ask prog w A (tuples' true) vs i j C s:=by
 unfold kas_ask;obtain ⟨x,ox,n,t1,t2,e1,e2,_,e3⟩:=hp i hi;obtain ⟨y,oy,m,t3,t4,f1,f2,_,f3⟩:=hp j hj;rw [e1,f1];exact aqmd e2 e3 f2 f3 h
end
end SortW
namespace SortW
open PySem PySem.W PyProof.Rows
section
variable {prog:Program} {w:World} {A:Around} {E:Value->Shared->Prop} {s:Shared}
def aqtz (h:Heap) (z TI TO:Addr) (T:Nat) (b:Bool):Prop:=h.get? z=some { cls:=.type "zip",data:=.fields #[rawInt (T:Int),.bool b,.bool false,.ref TI,.ref TO] }
theorem aqin {M:Model} {a:Addr} {Q:Option Obj->Shared->Prop} (h:Q (s.heap.get? a) s):wpAny M A (loadIfAlive a) Q E s:=fun Γ p i=>by
 unfold loadIfAlive;rw [Sem.wp_loadIfAlive];exact (wpAny_pure (M:=M) (A:=A) (E:=E) h) Γ p i
theorem aqtz.flag {h:Heap} {z TI TO:Addr} {T:Nat} {b:Bool} (hz:aqtz h z TI TO T b):aqtz (h.update z (Obj.mapFields fun f=>f.setIfInBounds 1 (.bool true))) z TI TO T true:=by
 unfold aqtz at *;rw [Heap.get?_update_self _ hz rfl];rfl
theorem aqe8 {z TI TO T:Addr} {fb:Bool} {oT:Obj} {Q:Bool->Shared->Prop} (hz:aqtz s.heap z TI TO T fb) (hT:s.heap.get? T=some oT)
  (hQ:∀ h':Heap,aqtz h' z TI TO T true->h'.objs.size=s.heap.objs.size->(∀ c,c ≠ z->h'.get? c=s.heap.get? c)->Q false { s with heap:=h' }):wpAny (model prog w) A (Builtin.SmallTypes.ownedTupleIsFree (.ref z)) Q E s:=by
 unfold Builtin.SmallTypes.ownedTupleIsFree;refine wpAny_bind (wpAny_field hz rfl rfl ?_);refine (?_:wpAny (model prog w) A (loadIfAlive ((T:Int).toNat) >>= _) Q E s);refine wpAny_bind (aqin ?_);rw [Int.toNat_natCast,hT];refine wpAny_ite_split (fun h=>by simp at h) fun _=>?_;refine wpAny_bind (wpAny_field hz rfl rfl ?_);refine wpAny_ite_split (fun _=>?_) (fun h=>?_)
 ·refine wpAny_bind (wpAny_setField hz rfl (by simp) ?_)
  exact wpAny_pure (hQ _ hz.flag (by rw [Heap.size_update]) fun c hc=>Heap.get?_update_other _ _ (Ne.symm hc))
 ·refine wpAny_pure ?_
  have e:fb=true:=by
   cases fb with
   | true=>rfl
   | false=>exact absurd rfl h
  subst e;exact hQ s.heap hz rfl fun _ _=>rfl
theorem aqim {z TI TO i1 i2 l1 l2 T:Addr} {fb:Bool} {oT:Obj} {k1 k2:Nat} {xs ys:Array Value} {x y:Value} {Q:Value->Shared->Prop} (ap:ZipApart z TI TO i1 i2 l1 l2) (hz:aqtz s.heap z TI TO T fb) (hT:s.heap.get? T=some oT)
  (hTI:IsPair s.heap TI (.ref i1) (.ref i2)) (h1:s.heap.IsListIter i1 l1 k1) (h2:s.heap.IsListIter i2 l2 k2) (hl1:s.heap.IsList l1 xs) (hl2:s.heap.IsList l2 ys) (hx:xs[k1]?=some x) (hy:ys[k2]?=some y)
  (hQ:∀ h':Heap,aqtz h' z TI TO T true->h'.IsListIter i1 l1 (k1 + 1)->h'.IsListIter i2 l2 (k2 + 1)->IsPair h' s.heap.objs.size x y->h'.objs.size=s.heap.objs.size + 1->(∀ c o,c ≠ z->c ≠ i1->c ≠ i2->s.heap.get? c=some o->h'.get? c=some o) ->
   Q (.ref s.heap.objs.size) { s with heap:=h' }) :
  wpAny (model prog w) A (Builtin.«zip.__next__» { pos:=[.ref z] }) (fun fin s'=>∃ v,fin=.done (.ret v)/\Q v s') E s:=by
 unfold Builtin.«zip.__next__»;refine wpAny_bind (wpAny_pure ?_);dsimp only;refine wpAny_bind (wpAny_field hz rfl rfl ?_);refine wpAny_bind (wpAny_field hz rfl rfl ?_);refine wpAny_bind (wpAny_seqItems hTI rfl ?_);refine wpAny_ite_split (fun h=>absurd h (by simp)) fun _=>?_;refine wpAny_bind (aqe8 hz hT fun h0 hz0 hsz0 hk0=>?_);refine wpAny_ite_split (fun h=>absurd h (by simp)) fun _=>?_;have h10:h0.IsListIter i1 l1 k1:=h1.at fun o e=>by rw [hk0 _ ap.i1z]; exact e
 have h20:h0.IsListIter i2 l2 k2:=h2.at fun o e=>by rw [hk0 _ ap.i2z]; exact e
 have hl10:h0.IsList l1 xs:=hl1.at fun o e=>by rw [hk0 _ ap.l1z]; exact e
 have hl20:h0.IsList l2 ys:=hl2.at fun o e=>by rw [hk0 _ ap.l2z]; exact e
 refine wpAny_bind ?_;rw [<- Array.forIn_toList];show wpAny _ _ (forIn [Value.ref i1,Value.ref i2] _ _) _ _ _;rw [forIn_cons];refine wpAny_bind (wpAny_bind (wpAny_holding ?_));change wpAny _ _ (if _=true then _ else (Builtin.SmallTypes.nextOf (.ref i1) >>= fun v=>pure (some v))) _ _ _;refine wpAny_ite_split (fun h=>(Bool.false_ne_true h).elim) fun _=>?_;refine wpAny_bind (wpAny_nextOf_list_item (s:={ s with heap:=h0 }) h10 hl10 hx fun hA itA sbA=>wpAny_pure ?_);refine wpAny_pure ?_;show wpAny _ _ (forIn [Value.ref i2] _ _) _ _ _;rw [forIn_cons];have hkA:∀ c,c ≠ i1->hA.get? c=h0.get? c:=fun c hc=>sbA.2 c hc;have h2A:hA.IsListIter i2 l2 k2:=h20.at fun o e=>by rw [hkA _ ap.i12.symm]; exact e
 have hl2A:hA.IsList l2 ys:=hl20.at fun o e=>by rw [hkA _ ap.l2i1]; exact e
 refine wpAny_bind (wpAny_bind (wpAny_holding ?_));change wpAny _ _ (if _=true then _ else (Builtin.SmallTypes.nextOf (.ref i2) >>= fun v=>pure (some v))) _ _ _;refine wpAny_ite_split (fun h=>(Bool.false_ne_true h).elim) fun _=>?_;refine wpAny_bind (wpAny_nextOf_list_item (s:={ s with heap:=hA }) h2A hl2A hy fun hB itB sbB=>wpAny_pure ?_);refine wpAny_pure ?_;show wpAny _ _ (forIn ([]:List Value) _ _) _ _ _;rw [List.forIn_nil];refine wpAny_pure ?_;have hkB:∀ c,c ≠ i2->hB.get? c=hA.get? c:=fun c hc=>sbB.2 c hc;refine wpAny_bind (wpAny_newTuple ?_ (by simp [sizeLine_eq]));refine wpAny_pure ⟨_,rfl,?_⟩;have hsz:hB.objs.size=s.heap.objs.size:=by
  have a1:=sbA.1;have a2:=sbB.1;rw [a2,a1]; exact hsz0
 rw [hsz];have all:∀ c,c ≠ z->c ≠ i1->c ≠ i2->hB.get? c=s.heap.get? c:=fun c c1 c2 c3=>by rw [hkB c c3,hkA c c2,hk0 c c1]
 have ltz:z < s.heap.objs.size:=Heap.lt_size hz;have lt1:i1 < s.heap.objs.size:=let ⟨o,ho,_⟩:=h1; Heap.lt_size ho;have lt2:i2 < s.heap.objs.size:=let ⟨o,ho,_⟩:=h2; Heap.lt_size ho;have np:∀ c,c < s.heap.objs.size->∀ o,(hB.push o).get? c=hB.get? c:=fun c hc o=>Heap.get?_push_ne _ _ _ (by rw [hsz]; exact ne_of_lt hc);refine hQ _ ?_ ?_ ?_ ?_ ?_ ?_
 ·unfold aqtz
  rw [np z ltz,hkB z ap.i2z.symm,hkA z ap.i1z.symm];exact hz0
 ·exact itA.at fun o e=>by
   rw [np i1 lt1,hkB i1 ap.i12]; exact e
 ·exact itB.at fun o e=>by rw [np i2 lt2]; exact e
 ·rw [<- hsz]
  exact Heap.get?_push_size _ rfl
 ·rw [Heap.size_push,hsz]
 ·intro c o c1 c2 c3 e
  rw [np c (Heap.lt_size e),all c c1 c2 c3];exact e
end
end SortW
namespace SortW
open PySem PySem.W PyProof.Rows
section
variable {prog:Program} {w:World} {A:Around} {E:Value->Shared->Prop} {s:Shared}
theorem aWd {z TI TO i1 i2 l1 l2 T:Addr} {fb:Bool} {oT:Obj} {k1:Nat} {xs:Array Value} {Q:PySem.Fin->Shared->Prop} (hh:A.handled=none) (ap:ZipApart z TI TO i1 i2 l1 l2) (hz:aqtz s.heap z TI TO T fb) (hT:s.heap.get? T=some oT)
  (hTI:IsPair s.heap TI (.ref i1) (.ref i2)) (h1:s.heap.IsListIter i1 l1 k1) (hl1:s.heap.IsList l1 xs) (hx:xs[k1]?=none)
  (hE:∀ (h':Heap) (e:Addr),(∀ c o,c ≠ z->c ≠ i1->s.heap.get? c=some o->h'.get? c=some o)->(∃ o,h'.get? e=some o/\o.cls=.type "StopIteration")->E (.ref e) { s with heap:=h' }) :
  wpAny (model prog w) A (Builtin.«zip.__next__» { pos:=[.ref z] }) Q E s:=by
 unfold Builtin.«zip.__next__»;refine wpAny_bind (wpAny_pure ?_);dsimp only;refine wpAny_bind (wpAny_field hz rfl rfl ?_);refine wpAny_bind (wpAny_field hz rfl rfl ?_);refine wpAny_bind (wpAny_seqItems hTI rfl ?_);refine wpAny_ite_split (fun h=>absurd h (by simp)) fun _=>?_;refine wpAny_bind (aqe8 hz hT fun h0 hz0 hsz0 hk0=>?_);refine wpAny_ite_split (fun h=>absurd h (by simp)) fun _=>?_;have h10:h0.IsListIter i1 l1 k1:=h1.at fun o e=>by rw [hk0 _ ap.i1z]; exact e
 have hl10:h0.IsList l1 xs:=hl1.at fun o e=>by rw [hk0 _ ap.l1z]; exact e
 refine wpAny_bind ?_;rw [<- Array.forIn_toList];show wpAny _ _ (forIn [Value.ref i1,Value.ref i2] _ _) _ _ _;rw [forIn_cons];refine wpAny_bind (wpAny_bind (wpAny_holding ?_));change wpAny _ _ (if _=true then _ else (Builtin.SmallTypes.nextOf (.ref i1) >>= fun v=>pure (some v))) _ _ _;refine wpAny_ite_split (fun h=>(Bool.false_ne_true h).elim) fun _=>?_;refine wpAny_bind (wpAny_nextOf_list_end (s:={ s with heap:=h0 }) hh h10 hl10 hx fun hA e ex st=>?_);exact hE hA e (fun c o c1 c2 q=>ex c o c2 (by rw [hk0 c c1]; exact q)) st
theorem aqek:isSubtype (.type "StopIteration") (.type "StopIteration")=pure true:=by rw [isSubtype_type]; kernel_rfl
theorem aZt {z:Addr} {Q:Option Value->Shared->Prop} (ht:s.TypeIs (.ref z) "zip")
  (h:wpAny (model prog w) A.in1 (Builtin.«zip.__next__» { pos:=[.ref z] }) (fun fin s'=>∃ v,fin=.done (.ret v)/\Q (some v) s') (fun e s'=>s'.TypeIs e "StopIteration"/\Q none s') s) :
  wpAny (model prog w) A (pyNext (.ref z)) Q E s:=by
 unfold pyNext;refine wpAny_bind (wpAny_attempt (wpAny_callSpecial?_slot (name:=Str.ofString "__next__") ht F.slot_zip_next (wpAny_call_entry F.slot_zip_next ht F.entry_zip_next ?_ (F.args_zip_next_1 _))));refine wpAny_mono h (fun fin s' hq=>?_) (fun e s' hq=>?_)
 ·obtain ⟨v,rfl,hq⟩:=hq
  exact ⟨v,rfl,wpAny_pure hq⟩
 ·obtain ⟨t,hq⟩:=hq
  refine wpAny_bind (wpAny_isInstance (T:="StopIteration") (b:=true) t aqek ?_);exact wpAny_pure hq
end
end SortW
namespace SortW
open PySem PySem.W PyProof.Rows
section
variable {prog:Program} {w:World} {A:Around} {E:Value->Shared->Prop} {s:Shared}
theorem aYr:typeLookup (.type "zip") "__len__"=pure none:=by rw [typeLookup_type,builtinLookup_eq_fast]; kernel_rfl
theorem aKv:typeLookup (.type "zip") "__length_hint__"=pure none:=by rw [typeLookup_type,builtinLookup_eq_fast]; kernel_rfl
theorem aqka {r:Addr} {Q:Bool->Shared->Prop} (hT:s.TypeIs (.ref r) "zip") (h:Q true s):wpAny (model prog w) A (Builtin.List.listLengthHint (.ref r)) Q E s:=by
 unfold Builtin.List.listLengthHint;refine wpAny_bind (wpAny_specialOf hT aYr ?_);dsimp only;refine wpAny_ite_split (fun hab=>absurd hab (by decide)) (fun _=>?_);refine wpAny_ite_split (fun hab=>absurd hab (by decide)) (fun _=>?_);refine wpAny_bind (wpAny_specialOf hT aKv ?_);exact wpAny_pure h
theorem aqch {a b:Addr} {n:Nat} (h1:n > a) (h2:n <= b):b ≠ a:=fun e=>absurd h1 (Nat.not_lt.mpr (e ▸ h2))
structure ZSt (h:Heap) (z TI TO i1 i2 l1 l2 S:Addr) (xs ys:Array Value) (N0:Nat) (Ts:List Addr) (c:Nat):Prop where
 zs:(Ts=[]/\IsZip h z TI TO .none/\∃ a b,IsPair h TO a b) \/ (∃ T fb oT,aqtz h z TI TO T fb/\h.get? T=some oT/\N0 <= T)
 ti:IsPair h TI (.ref i1) (.ref i2)
 a1:h.IsListIter i1 l1 Ts.length
 a2:h.IsListIter i2 l2 Ts.length
 la1:h.IsList l1 xs
 la2:h.IsList l2 ys
 ls:h.get? S=some { cls:=.type "list",data:=.seq (Ts.map Value.ref).toArray c }
 tup:∀ (j:Nat) (T:Addr),Ts[j]?=some T->N0 <= T/\∃ x y,xs[j]?=some x/\ys[j]?=some y/\IsPair h T x y
theorem ZSt.type {h:Heap} {z TI TO i1 i2 l1 l2 S:Addr} {xs ys:Array Value} {N0:Nat} {Ts:List Addr} {c:Nat} (q:ZSt h z TI TO i1 i2 l1 l2 S xs ys N0 Ts c) (hs:s.heap=h):s.TypeIs (.ref z) "zip":=by
 subst hs;rcases q.zs with ⟨_,h,_⟩ | ⟨T,fb,oT,h,_⟩
 ·exact ⟨_,h,rfl⟩
 ·exact ⟨_,h,rfl⟩
theorem aqkj {z TI TO i1 i2 l1 l2 S:Addr} {xs ys:Array Value} {N0 n:Nat} {res:Value} {R:Result->Shared->Prop} (hh:A.handled=none) (ap:ZipApart z TI TO i1 i2 l1 l2) (hxs:xs.size=n) (hys:ys.size=n) (hn:n <= 1000) (h1n:1 <= n)
  (hS:S ≠ z/\S ≠ TI/\S ≠ TO/\S ≠ i1/\S ≠ i2/\S ≠ l1/\S ≠ l2) (hlt:N0 > z/\N0 > TO/\N0 > i1/\N0 > i2/\N0 > S) :
  ∀ (k:Nat) (s:Shared) (Ts:List Addr) (c:Nat),n - Ts.length=k->Ts.length <= n->N0 <= s.heap.objs.size->ZSt s.heap z TI TO i1 i2 l1 l2 S xs ys N0 Ts c ->
  (∀ (h':Heap) (Ts':List Addr) (c':Nat),Ts'.length=n->h'.get? S=some { cls:=.type "list",data:=.seq (Ts'.map Value.ref).toArray c' }->(∀ (j:Nat) (T:Addr),Ts'[j]?=some T->N0 <= T/\∃ x y,xs[j]?=some x/\ys[j]?=some y/\IsPair h' T x y)->(∀ b o,b ∉ [S,z,TO,i1,i2]->s.heap.get? b=some o->h'.get? b=some o)->R (.ok (.ret res)) { s with heap:=h' }) ->
  codeAny (model prog w) A (.builtin "list.extend.loop" ⟨[.ref S,.ref z,res],[]⟩) R s:=by
 intro k
 induction k with
 | zero =>
  intro s Ts c hk hle hsz q hR;have hTn:Ts.length=n:=by omega
  refine codeAny_builtin F.entry_extend_loop ?_;rw [Around.under_plainId PySem.F.plain_extend_loop _];show wpAny _ A.in1 (pyNext (.ref z) >>= _) _ _ s;refine wpAny_bind (aZt (A:=A.in1) (q.type rfl) ?_);have hx:xs[Ts.length]?=none:=by simp [hTn,hxs]
  rcases q.zs with ⟨e,_⟩ | ⟨T,fb,oT,hz,hT,hNT⟩
  ·subst e; simp at hTn; omega
  ·refine aWd (A:=A.in1.in1) hh ap hz hT q.ti q.a1 q.la1 hx fun h' e hk' st=>⟨?_,?_⟩
   ·obtain ⟨o,ho,hc⟩:=st
    exact ⟨o,ho,hc⟩
   ·refine wpAny_pure ?_
    refine hR h' Ts c hTn (hk' S _ hS.1 hS.2.2.2.1 q.ls) (fun j T' hj=>?_) (fun b o hb e=>hk' b o (fun z=>hb (by simp [z])) (fun z=>hb (by simp [z])) e);obtain ⟨g1,x,y,g2,g3,g4⟩:=q.tup j T' hj;exact ⟨g1,x,y,g2,g3,hk' T' _ (aqch hlt.1 g1) (aqch hlt.2.2.1 g1) g4⟩
 | succ k ih =>
  intro s Ts c hk hle hsz q hR;have hlt':Ts.length < n:=by omega
  obtain ⟨x,hx⟩:∃ x,xs[Ts.length]?=some x:=⟨xs[Ts.length]'(by omega),by simp [hxs,hlt']⟩;obtain ⟨y,hy⟩:∃ y,ys[Ts.length]?=some y:=⟨ys[Ts.length]'(by omega),by simp [hys,hlt']⟩;refine codeAny_builtin F.entry_extend_loop ?_;rw [Around.under_plainId PySem.F.plain_extend_loop _];show wpAny _ A.in1 (pyNext (.ref z) >>= _) _ _ s;refine wpAny_bind (aZt (A:=A.in1) (q.type rfl) ?_);have step:∀ h':Heap,(∃ T fb oT,aqtz h' z TI TO T fb/\h'.get? T=some oT/\N0 <= T)->h'.IsListIter i1 l1 (Ts.length + 1)->h'.IsListIter i2 l2 (Ts.length + 1)->IsPair h' s.heap.objs.size x y->h'.objs.size=s.heap.objs.size + 1 ->
    (∀ b o,b ≠ z->b ≠ TO->b ≠ i1->b ≠ i2->s.heap.get? b=some o->h'.get? b=some o) ->
    wpAny (model prog w) A.in1 (match some (Value.ref s.heap.objs.size) with | none=>ret res | some x=>do Builtin.List.listUpdate (.ref S) fun x_1=>x_1.push x; again (.builtin "list.extend.loop" ⟨[.ref S,.ref z,res],[]⟩)) (fun fin s'=>match fin with | .done f=>R (.ok f) s' | .again c'=>c'.quiet=true/\codeAny (model prog w) A c' R s') (fun e s'=>R (.error e) s') { s with heap:=h' }:=by
   intro h' hzs b1 b2 bp bsz bk;have hS':h'.get? S=some { cls:=.type "list",data:=.seq (Ts.map Value.ref).toArray c }:=bk S _ hS.1 hS.2.2.1 hS.2.2.2.1 hS.2.2.2.2.1 q.ls;refine wpAny_bind (listUpdate_at (s:={ s with heap:=h' }) hS' rfl ?_ (by simp [sizeLine_eq]; omega) (by simp [sizeLine_eq]; omega));refine wpAny_pure ⟨plainId_quiet PySem.F.plain_extend_loop _,?_⟩;have oth:∀ b,b ≠ S->(h'.update S (Obj.mapSeq fun a=>a.push (.ref s.heap.objs.size))).get? b=h'.get? b:=fun b hb=>Heap.get?_update_other _ _ (Ne.symm hb);obtain ⟨c2,hS2⟩:∃ c2,(h'.update S (Obj.mapSeq fun a=>a.push (.ref s.heap.objs.size))).get? S=some { cls:=.type "list",data:=.seq ((Ts++[s.heap.objs.size]).map Value.ref).toArray c2 }:=by
    have e:((Ts++[s.heap.objs.size]).map Value.ref).toArray=(Ts.map Value.ref).toArray.push (.ref s.heap.objs.size):=by simp
    rw [e];exact ⟨_,get?_update_seq (n:=c) hS' fun a=>a.push (.ref s.heap.objs.size)⟩
   have sel:S ≠ s.heap.objs.size:=(aqch hlt.2.2.2.2 hsz).symm;refine ih _ (Ts++[s.heap.objs.size]) c2 (by simp; omega) (by simp; omega) (by show N0 <= (h'.update S _).objs.size; rw [Heap.size_update,bsz]; omega) ⟨.inr ?_,?_,?_,?_,?_,?_,?_,fun j T hj=>?_⟩ fun h2 Ts2 c3 hl hs2 ht2 hk2=>?_
   ·obtain ⟨T,fb,oT,g1,g2,g3⟩:=hzs
    exact ⟨T,fb,oT,by unfold aqtz at *; rw [oth z hS.1.symm]; exact g1,by rw [oth T (aqch hlt.2.2.2.2 g3)]; exact g2,g3⟩
   ·rw [IsPair,oth TI hS.2.1.symm]
    exact bk TI _ ap.TIz ap.TITO ap.TIi1 ap.TIi2 q.ti
   ·simpa using b1.at fun o e=>by rw [oth i1 hS.2.2.2.1.symm]; exact e
   ·simpa using b2.at fun o e=>by rw [oth i2 hS.2.2.2.2.1.symm]; exact e
   ·exact q.la1.at fun o e=>by rw [oth l1 hS.2.2.2.2.2.1.symm]; exact bk l1 o ap.l1z ap.l1TO ap.l1i1 ap.l1i2 e
   ·exact q.la2.at fun o e=>by rw [oth l2 hS.2.2.2.2.2.2.symm]; exact bk l2 o ap.l2z ap.l2TO ap.l2i1 ap.l2i2 e
   ·exact hS2
   ·by_cases hj':j < Ts.length
    ·rw [List.getElem?_append_left hj'] at hj
     obtain ⟨g1,x,y,g2,g3,g4⟩:=q.tup j T hj;refine ⟨g1,x,y,g2,g3,?_⟩;rw [IsPair,oth T (aqch hlt.2.2.2.2 g1)];exact bk T _ (aqch hlt.1 g1) (aqch hlt.2.1 g1) (aqch hlt.2.2.1 g1) (aqch hlt.2.2.2.1 g1) g4
    ·have:j=Ts.length:=by
      have:=(List.getElem?_eq_some_iff.mp hj).1
      simp at this; omega
     subst this;have hT:T=s.heap.objs.size:=by simpa using hj.symm
     subst hT;exact ⟨hsz,x,y,hx,hy,by rw [IsPair,oth _ sel.symm]; exact bp⟩
   ·refine hR h2 Ts2 c3 hl hs2 ht2 fun b o hb e=>hk2 b o hb ?_
    simp only [mem_cons,not_mem_nil,or_false,not_or] at hb;show (h'.update S _).get? b=some o;rw [oth b hb.1];exact bk b o hb.2.1 hb.2.2.1 hb.2.2.2.1 hb.2.2.2.2 e
  rcases q.zs with ⟨e,hz,a,b,hTO⟩ | ⟨T,fb,oT,hz,hT,hNT⟩
  ·refine zip_next_item (A:=A.in1.in1) ap hz q.ti hTO q.a1 q.a2 q.la1 q.la2 hx hy fun h' z1 z2 z3 z4 z5 z6 z7=>?_
   exact step h' ⟨s.heap.objs.size,false,_,z1,z5,hsz⟩ z3 z4 z5 z6 fun b o b1 b2 b3 b4 e=>z7 b o b1 b2 b3 b4 e
  ·refine aqim (A:=A.in1.in1) ap hz hT q.ti q.a1 q.a2 q.la1 q.la2 hx hy fun h' z1 z3 z4 z5 z6 z7=>?_
   exact step h' ⟨T,true,oT,z1,z7 T oT (aqch hlt.1 hNT) (aqch hlt.2.2.1 hNT) (aqch hlt.2.2.2.1 hNT) hT,hNT⟩ z3 z4 z5 z6 fun b o b1 b2 b3 b4 e=>z7 b o b1 b3 b4 e
end
end SortW
namespace SortW
open PySem PySem.W PyProof.Rows
section
variable {prog:Program} {w:World} {A:Around} {E:Value->Shared->Prop} {s:Shared}
structure ZNew (h:Heap) (z TI TO i1 i2 l1 l2:Addr) (xs ys:Array Value):Prop where
 zs:IsZip h z TI TO .none
 ti:IsPair h TI (.ref i1) (.ref i2)
 to:∃ a b,IsPair h TO a b
 a1:h.IsListIter i1 l1 0
 a2:h.IsListIter i2 l2 0
 la1:h.IsList l1 xs
 la2:h.IsList l2 ys
theorem aqco {z TI TO i1 i2 l1 l2:Addr} {xs ys:Array Value} {n:Nat} (hh:A.handled=none) (ap:ZipApart z TI TO i1 i2 l1 l2) (q:ZNew s.heap z TI TO i1 i2 l1 l2 xs ys) (hxs:xs.size=n) (hys:ys.size=n) (hn:n <= 1000) (h1n:1 <= n) {Q:List Value->Shared->Prop}
  (h:∀ (h':Heap) (Ts:List Addr),Ts.length=n->(∀ (j:Nat) (T:Addr),Ts[j]?=some T->s.heap.objs.size <= T/\∃ x y,xs[j]?=some x/\ys[j]?=some y/\IsPair h' T x y)->s.heap.objs.size < h'.objs.size->(∀ b o,b ∉ [z,TO,i1,i2]->s.heap.get? b=some o->h'.get? b=some o)->Q (Ts.map Value.ref) { s with heap:=h' }) :
  wpAny (model prog w) A (collect (.ref z)) Q E s:=by
 have ltz:z < s.heap.objs.size:=Heap.lt_size q.zs;have ltTI:TI < s.heap.objs.size:=Heap.lt_size q.ti;have ltTO:TO < s.heap.objs.size:=let ⟨a,b,h⟩:=q.to; Heap.lt_size h;have lt1:i1 < s.heap.objs.size:=let ⟨o,ho,_⟩:=q.a1; Heap.lt_size ho;have lt2:i2 < s.heap.objs.size:=let ⟨o,ho,_⟩:=q.a2; Heap.lt_size ho;have ltl1:l1 < s.heap.objs.size:=let ⟨o,ho,_⟩:=q.la1; Heap.lt_size ho;have ltl2:l2 < s.heap.objs.size:=let ⟨o,ho,_⟩:=q.la2; Heap.lt_size ho;unfold collect;refine wpAny_bind (wpAny_runValue (codeAny_builtin entry_proto_collect' ?_));rw [Around.under_plainId PySem.F.plain_proto_collect _];show wpAny _ A.in1 (newList [] >>= fun l=>again (.builtin "list.__iadd__" ⟨[l,.ref z],[]⟩)) _ _ s;refine wpAny_bind (wpAny_newObj_type ?_);refine wpAny_pure ⟨plainId_quiet PySem.F.plain_list_iadd _,codeAny_builtin entry_list_iadd' ?_⟩;rw [Around.under_plainId PySem.F.plain_list_iadd _];have hS₁:(s.heap.push { cls:=.type "list",data:=.seq ([]:List Value).toArray }).get? s.heap.objs.size=some { cls:=.type "list",data:=.seq #[] }:=Heap.get?_push_size _ rfl;show wpAny _ A.in1 (Builtin.List.listExtendWith (.ref s.heap.objs.size) (.ref z) (.ref s.heap.objs.size)) _ _ _;have kp:∀ b o,s.heap.get? b=some o->(s.heap.push { cls:=.type "list",data:=.seq ([]:List Value).toArray }).get? b=some o:=fun b o e=>Heap.get?_push_of_some _ e;have hz1:=kp _ _ q.zs;have tz:Shared.TypeIs { s with heap:=s.heap.push { cls:=.type "list",data:=.seq ([]:List Value).toArray } } (.ref z) "zip":=⟨_,hz1,rfl⟩;unfold Builtin.List.listExtendWith;refine wpAny_bind (wpAny_typeOf (T:="zip") tz ?_);have h1:Builtin.List.listSameRef (.ref s.heap.objs.size) (.ref z)=false:=by simp [Builtin.List.listSameRef]; exact ne_of_gt ltz
 simp only [h1,show (Value.type "zip" == Value.type "list")=false from by decide,show (Value.type "zip" == Value.type "tuple")=false from by decide,Bool.or_false,Bool.false_eq_true,if_false];refine wpAny_bind (wpAny_pyIter_zip hz1 ?_);refine wpAny_bind (wpAny_holding (aqka tz ?_));have hsz1:(s.heap.push { cls:=.type "list",data:=.seq ([]:List Value).toArray }).objs.size=s.heap.objs.size + 1:=Heap.size_push ..;have ne:∀ a:Addr,a < s.heap.objs.size->s.heap.objs.size ≠ a:=fun a h=>ne_of_gt h;have key:∀ (h1':Heap) (c₁:Nat),h1'.objs.size=s.heap.objs.size + 1->(∀ b o,s.heap.get? b=some o->h1'.get? b=some o)->h1'.get? s.heap.objs.size=some { cls:=.type "list",data:=.seq #[] c₁ } ->
   codeAny (model prog w) A (.builtin "list.extend.loop" ⟨[.ref s.heap.objs.size,.ref z,.ref s.heap.objs.size],[]⟩)
    (fun r s'=>match r with
     | .ok (.ret v)=>wpAny (model prog w) A (match v with
      | .ref a=>do
       let o <- load a
       match o.data with
       | .seq xs _=>pure xs.toList
       | _=>unsupported "internal:collect"
      | _=>unsupported "internal:collect") Q E s'
     | .ok _=>False
     | .error e=>E e s') { s with heap:=h1' }:=by
  intro h1' c₁ hsz hk1 hS1;refine aqkj (N0:=s.heap.objs.size + 1) (n:=n) (S:=s.heap.objs.size) hh ap hxs hys hn h1n ⟨ne _ ltz,ne _ ltTI,ne _ ltTO,ne _ lt1,ne _ lt2,ne _ ltl1,ne _ ltl2⟩ ⟨lt_succ_of_lt ltz,lt_succ_of_lt ltTO,lt_succ_of_lt lt1,lt_succ_of_lt lt2,lt_succ_self _⟩ (n - 0) _ [] c₁ rfl (zero_le _) (by show _ <= h1'.objs.size; omega)
   ⟨.inl ⟨rfl,hk1 _ _ q.zs,let ⟨a,b,h⟩:=q.to; ⟨a,b,hk1 _ _ h⟩⟩,hk1 _ _ q.ti,q.a1.at fun o e=>hk1 _ _ e,q.a2.at fun o e=>hk1 _ _ e,q.la1.at fun o e=>hk1 _ _ e,q.la2.at fun o e=>hk1 _ _ e,hS1,fun j T hj=>by simp at hj⟩ fun h2 Ts c2 hl hs2 ht2 hk2=>?_
  show wpAny _ A (load s.heap.objs.size >>= _) _ _ _;refine wpAny_bind (wpAny_load (s:={ s with heap:=h2 }) hs2 ?_);refine wpAny_pure (h h2 Ts hl (fun j T hj=>?_) (Heap.lt_size hs2) (fun b o hb e=>hk2 b o ?_ (hk1 b o e)))
  ·obtain ⟨g1,g2⟩:=ht2 j T hj
   exact ⟨Nat.le_of_succ_le g1,g2⟩
  ·simp only [mem_cons,not_mem_nil,or_false,not_or] at hb ⊢
   exact ⟨ne_of_lt (Heap.lt_size e),hb⟩
 refine wpAny_ite_split (fun _=>?_) (fun hab=>absurd rfl hab);refine wpAny_bind (wpAny_rule ?_);refine wpAny_bind ?_;show wpAny _ _ (updateSeq s.heap.objs.size (·.push .none) >>= fun _=>updateSeq s.heap.objs.size (·.pop)) _ _ _;refine wpAny_bind (wpAny_updateSeq hS₁ rfl ?_);have hS₂:=Heap.get?_update_self (Obj.mapSeq (·.push Value.none)) hS₁ rfl;refine wpAny_updateSeq (hz:=by seq_fits) hS₂ rfl ?_;have hS₃:=Heap.get?_update_self (Obj.mapSeq (·.pop)) hS₂ rfl;refine wpAny_pure ⟨plainId_quiet PySem.F.plain_extend_loop _,?_⟩;refine codeAny_mono (key _ _ ?_ (fun b o e=>?_) hS₃) fun q s' x=>x
 ·rw [Heap.size_update,Heap.size_update,hsz1]
 ·exact (Heap.get?_update_other _ _ (Ne.symm (ne_of_lt (Heap.lt_size e)))).trans ((Heap.get?_update_other _ _ (Ne.symm (ne_of_lt (Heap.lt_size e)))).trans (kp b o e))
end
end SortW
namespace SortW
open PySem PySem.W PyProof.Rows
section
variable {prog:Program} {w:World} {A:Around} {E:Value->Shared->Prop} {s:Shared}
theorem aKw {a:Addr} {v:Value} {n:Nat} {P:PySem.Fin->Shared->Prop} (ho:s.heap.get? a=some (seqObj "list" #[v] n))
  (h:P (.done (.ret .none)) { s with heap:=sortedHeap s.heap a [v] #[v] }) :
  wpAny (model prog w) A (Builtin.«list.sort» { pos:=[Value.ref a] }) P E s:=by
 rw [list_sort_plain a];have ha:=Heap.lt_size ho;refine wpAny_bind (listItems_at ho rfl (wpAny_bind (listUpdate_at ho rfl ?_)));obtain ⟨e1,ho1⟩:∃ e1,(s.heap.update a (Obj.mapSeq fun _=>#[])).get? a=some (seqObj "list" #[] e1):=⟨_,get?_update_seq ho fun _=>#[]⟩;refine wpAny_bind (seqEpoch_at ho1 rfl (wpAny_bind (wpAny_newTuple (wpAny_bind (wpAny_newList (wpAny_holding ?_))))));have ho6:(((s.heap.update a (Obj.mapSeq fun _=>#[])).push (seqObj "tuple" #[v] 0)).push (seqObj "list" #[] 0)).get? a=some (seqObj "list" #[] e1):=by
  rw [Heap.get?_push_ne _ _ _ (by rw [size_push',Heap.size_update]; exact ne_of_lt (lt_succ_of_lt ha)),Heap.get?_push_ne _ _ _ (by rw [Heap.size_update]; exact ne_of_lt ha)];exact ho1
 have hsz:(#[v]:Array Value).size < 2:=by simp
 refine (?_:wpAny (model prog w) A (if (#[v]:Array Value).size < 2 then _ else _) P E { s with heap:=((s.heap.update a (Obj.mapSeq fun _=>#[])).push (seqObj "tuple" #[v] 0)).push (seqObj "list" #[] 0) });rw [if_pos hsz];refine wpAny_bind (wpAny_pure ?_);dsimp only;rw [if_pos hsz];refine wpAny_bind ?_;refine (?_:wpAny _ _ (pure ((),_)) _ _ _);refine wpAny_pure ?_;have hs:Array.map (fun x=>x.snd) (arrOf ((),SortSt.mk' general' (#[v].zip #[v]) #[] 7 none).snd)=#[v]:=by
  show Array.map (fun x=>x.snd) (#[v].zip #[v])=#[v]
  simp
 refine wpAny_bind (seqEpoch_at ho6 rfl ?_);refine wpAny_bind (listUpdate_at ho6 rfl ?_ (by simp) (by rw [hs]; simp [sizeLine_eq]));have hf:failedOf ((),SortSt.mk' general' (#[v].zip #[v]) #[] 7 none).snd=none:=rfl;simp only [hf,bne_self_eq_false,Bool.false_eq_true,if_false];refine wpAny_pure ?_;have hs':Array.map (fun x=>x.snd) (arrOf (SortSt.mk' general' (#[v].zip #[v]) #[] 7 none))=#[v]:=hs;rw [hs'];exact h
theorem aqnq:∀ {vs:List Value} {ps:List (Int × Int)},vs.length=ps.length->(∀ i,i < vs.length->aqct s.heap (vs.getD i .none) (ps.getD i (0,0)))->∃ fs,KatTups s.heap vs fs/\fs.length=vs.length/\∀ v∈fs,∃ k t,v=Value.int k t
 | [],[],_,_=>⟨[],KatTups.nil ..,rfl,by simp⟩
 | [],_ :: _,h,_=>by simp at h
 | _ :: _,[],h,_=>by simp at h
 | v :: vs,p :: ps,h,k=>by
  obtain ⟨fs,h1,h2,h3⟩:=aqnq (vs:=vs) (ps:=ps) (by simpa using h) fun i hi=>by have:=k (i + 1) (by simp; omega); simpa using this
  obtain ⟨x,o,n,t1,t2,e1,e2,e3,e4⟩:=k 0 (by simp);simp at e1;subst e1;exact ⟨_,KatTups.cons e2 e3 e4 (f:=Value.int p.1 t1) rfl h1,by simp [h2],fun v hv=>by
   rcases List.mem_cons.mp hv with rfl | hv
   ·exact ⟨_,_,rfl⟩
   ·exact h3 v hv⟩
theorem aqdv {vs:List Value} {ps:List (Int × Int)} {Q:SortKind->Shared->Prop} (h0:0 < vs.length) (hl:vs.length=ps.length) (hp:∀ i,i < vs.length->aqct s.heap (vs.getD i .none) (ps.getD i (0,0))) (h:Q (tuples' true) s):wpAny (model prog w) A (keyKind' vs.toArray) Q E s:=by
 obtain ⟨fs,h1,h2,h3⟩:=aqnq hl hp;refine kat_kind (T:=.type "int") h1 (by omega) (fun v hv=>?_) (by decide) h;obtain ⟨k,t,rfl⟩:=h3 v hv;exact Looks.of_pure rfl
theorem aqc5 {vs:List Value} {ps:List (Int × Int)} {p:Array Nat} (hl:vs.length=ps.length) (hn:ps.Nodup) (pa:PA vs.length p) (sp:SP (fun i j=>lexB (ps.getD i (0,0)) (ps.getD j (0,0))) p vs.length) :
  (p.toList.map fun i=>ps.getD i (0,0))=DL.aJp ps:=by
 have hp:p.toList.Perm (List.range vs.length):=by
  have:=pa
  unfold PA at this;exact Array.perm_iff_toList_perm.mp this
 refine DL.aqkk hn ?_ ?_
 ·have e:ps=(List.range vs.length).map fun i=>ps.getD i (0,0):=by
   apply ext_getElem
   ·simp [hl]
   ·intro i h1 h2; simp [h1]
  conv=>rhs; rw [e]
  exact hp.map _
 ·have hs:p.size=vs.length:=by have:=hp.length_eq; simpa using this
  rw [List.pairwise_map,List.pairwise_iff_getElem];intro i j hi hj hij
  have:=sp i j hij (by simpa [hs] using hj)
  simp at hi hj;have a0:∀ k,(hk:k < p.size)->at0 p k=p.toList[k]'(by simpa using hk):=fun k hk=>by simp [at0,hk]
  rw [a0 i hi,a0 j hj] at this;exact this
end
end SortW
namespace SortW
open PySem PySem.W PyProof.Rows
section
variable {prog:Program} {w:World} {A:Around} {E:Value->Shared->Prop} {s:Shared}
theorem aqd9 {z TI TO i1 i2 l1 l2:Addr} {xs ys:Array Value} {ns ms:List Int} {Q:Value->Shared->Prop} (hh:A.handled=none) (ap:ZipApart z TI TO i1 i2 l1 l2) (q:ZNew s.heap z TI TO i1 i2 l1 l2 xs ys) (hx:IntsAre xs.toList ns) (hy:IntsAre ys.toList ms) (hl:ns.length=ms.length) (h1:1 <= ns.length) (h64:ns.length < 64) (hnd:(ns.zip ms).Nodup)
  (h:∀ (D:Addr) (out:List Addr) (n:Nat) (h':Heap),s.heap.objs.size <= D->h'.get? D=some { cls:=.type "list",data:=.seq (out.map Value.ref).toArray n }->out.length=(DL.aJp (ns.zip ms)).length->(∀ j (hj:j < out.length),s.heap.objs.size <= out[j]/\D ≠ out[j]/\aqct h' (.ref out[j]) ((DL.aJp (ns.zip ms)).getD j (0,0)))->(∀ b o,b ∉ [z,TO,i1,i2]->s.heap.get? b=some o->h'.get? b=some o)->Q (.ref D) { s with heap:=h' }) :
  wpAny (model prog w) A (call (.builtin "sorted") [.ref z]) Q E s:=by
 have hxl:=hx.length;have hyl:=hy.length;have hxs:xs.size=ns.length:=by simpa using hxl
 have hys:ys.size=ns.length:=by rw [hl]; simpa using hyl
 refine Calls.call_function_entry kind_sorted plain_sorted entry_sorted (args_sorted1 _) ?_;unfold Builtin.«sorted»;refine wpAny_bind (m:=checkCount "sorted" 1 1 _) (wpAny_pure ?_);refine wpAny_bind (aqco (A:=A.in1) hh ap q hxs hys (by omega) h1 fun h1' Ts hTl hT hsz1 hk1=>?_);have hps:∀ i,i < Ts.length->aqct h1' ((Ts.map Value.ref).getD i .none) ((ns.zip ms).getD i (0,0)):=by
  intro i hi;obtain ⟨_,x,y,e1,e2,e3⟩:=hT i Ts[i] (by simp [hi]);have g1:xs.toList[i]?=some x:=by rw [getElem?_toList]; exact e1
  have g2:ys.toList[i]?=some y:=by rw [getElem?_toList]; exact e2
  obtain ⟨t1,f1⟩:∃ t,x=.int (ns.getD i 0) t:=by
   exact IntsAre.int_at hx i x g1
  obtain ⟨t2,f2⟩:∃ t,y=.int (ms.getD i 0) t:=by
   exact IntsAre.int_at hy i y g2
  refine ⟨Ts[i],_,0,t1,t2,by simp [hi],e3,rfl,?_⟩;subst f1 f2
  have:i < ns.length:=by omega
  have:i < ms.length:=by omega
  simp [*]
 have hzl:(ns.zip ms).length=ns.length:=by simp [hl]
 refine wpAny_bind (wpAny_newList ?_ (by rw [sizeLine_eq]; simp; omega));have hoL:(h1'.push (seqObj "list" (Ts.map Value.ref).toArray 0)).get? h1'.objs.size=some (seqObj "list" (Ts.map Value.ref).toArray 0):=Heap.get?_push_size _ rfl;have fin:∀ (out:List Addr),out.length=(DL.aJp (ns.zip ms)).length->(∀ j (hj:j < out.length),∃ i,∃ hi:i < Ts.length,out[j]=Ts[i]/\(DL.aJp (ns.zip ms)).getD j (0,0)=(ns.zip ms).getD i (0,0)) ->
   Q (.ref h1'.objs.size) { s with heap:=sortedHeap (h1'.push (seqObj "list" (Ts.map Value.ref).toArray 0)) h1'.objs.size (Ts.map Value.ref) (out.map Value.ref).toArray }:=by
  intro out ho hout;obtain ⟨e,he⟩:=sortedHeap_at (out:=(out.map Value.ref).toArray) hoL;have old:∀ b o,h1'.get? b=some o->(sortedHeap (h1'.push (seqObj "list" (Ts.map Value.ref).toArray 0)) h1'.objs.size (Ts.map Value.ref) (out.map Value.ref).toArray).get? b=some o:=fun b o hb=>by
   have hlt:=Heap.lt_size hb;rw [sortedHeap_old (ne_of_lt hlt) (by rw [size_push']; exact lt_succ_of_lt hlt)];exact Heap.get?_push_of_some _ hb
  refine h _ out e _ (le_of_lt hsz1) (by simpa [seqObj] using he) ho (fun j hj=>?_) (fun b o hb e=>old b o (hk1 b o hb e));obtain ⟨i,hi,e1,e2⟩:=hout j hj;obtain ⟨g1,_⟩:=hT i Ts[i] (by simp [hi]);obtain ⟨x,o,n,t1,t2,f1,f2,f3,f4⟩:=hps i hi;have ex:x=Ts[i]:=by simpa [hi] using f1.symm
  rw [e1,e2];refine ⟨g1,?_,⟨Ts[i],o,n,t1,t2,rfl,old _ _ (ex ▸ f2),f3,f4⟩⟩
  have:=Heap.lt_size f2
  rw [ex] at this;exact ne_of_gt this
 refine wpAny_bind (wpAny_holding (wpAny_call_entry slot_list_sort ⟨_,hoL,rfl⟩ entry_list_sort ?_ (args_list_sort _)))
 by_cases h2:2 <= ns.length
 ·refine aKx (vs:=Ts.map Value.ref) hoL (by simp; omega) (by simp; omega) ?_
  generalize hh6:(((h1'.push (seqObj "list" (Ts.map Value.ref).toArray 0)).update h1'.objs.size (Obj.mapSeq fun _=>#[])).push (seqObj "tuple" (Ts.map Value.ref).toArray 0)).push (seqObj "list" #[] 0)=h6;have old6:∀ b o,h1'.get? b=some o->h6.get? b=some o:=fun b o hb=>by
   rw [<- hh6];refine Heap.get?_push_of_some _ (Heap.get?_push_of_some _ ?_);rw [Heap.get?_update_other _ _ (ne_of_gt (Heap.lt_size hb))];exact Heap.get?_push_of_some _ hb
  have hp6:∀ i,i < (Ts.map Value.ref).length->aqct h6 ((Ts.map Value.ref).getD i .none) ((ns.zip ms).getD i (0,0)):=fun i hi=>by
   obtain ⟨x,o,n,t1,t2,f1,f2,f3,f4⟩:=hps i (by simpa using hi);exact ⟨x,o,n,t1,t2,f1,old6 _ _ f2,f3,f4⟩
  have hvl:(Ts.map Value.ref).length=(ns.zip ms).length:=by simp [hTl,hl]
  refine aqdv (s:={ s with heap:=h6 }) (ps:=ns.zip ms) (by simp; omega) hvl hp6 ?_;have key:∀ i j,i < (Ts.map Value.ref).length->j < (Ts.map Value.ref).length->(ns.zip ms).getD i (0,0)=(ns.zip ms).getD j (0,0)->i=j:=fun i j hi hj e=>by
   rw [hvl] at hi hj;have e':(ns.zip ms)[i]=(ns.zip ms)[j]:=by
    rw [List.getD_eq_getElem?_getD,List.getD_eq_getElem?_getD,getElem?_eq_getElem hi,getElem?_eq_getElem hj] at e;exact e
   exact (List.getElem_inj hnd).mp e'
  have ord:=aqk1 (key:=fun i=>(ns.zip ms).getD i (0,0)) key;obtain ⟨pa,sp⟩:=aqlq ord (by simp; omega);refine aqeh (n:=(Ts.map Value.ref).length) (lt:=fun i j=>lexB ((ns.zip ms).getD i (0,0)) ((ns.zip ms).getD j (0,0))) (fun i j C hi hj hC=>aqhh hvl.symm hp6 i j C hi hj hC) _ (aqlr (by simp; omega)) ⟨rfl,rfl,_,rfl,wpAny_pure ⟨_,rfl,?_⟩⟩;generalize aqsj _ (kas_sort (Ts.map Value.ref).length)=p at pa sp;have hsl:=aqc5 hvl hnd pa sp;have hpl:p.toList.Perm (List.range (Ts.map Value.ref).length):=Array.perm_iff_toList_perm.mp pa;have hpb:∀ i∈p.toList,i < Ts.length:=fun i hi=>by
   have:=List.mem_range.mp (hpl.mem_iff.mp hi)
   simpa using this
  have eo:(p.toList.map fun i=>(Ts.map Value.ref).getD i .none)=(p.toList.map fun i=>Ts.getD i 0).map Value.ref:=by
   rw [map_map];apply map_congr_left;intro i hi
   have:=hpb i hi
   simp [this]
  rw [eo];refine fin _ (by rw [<- hsl]; simp) fun j hj=>?_;have hj':j < p.toList.length:=by simpa using hj
  have hb:=hpb p.toList[j] (getElem_mem hj');refine ⟨p.toList[j],hb,by simp only [getElem_map]; rw [List.getD_eq_getElem?_getD,getElem?_eq_getElem hb]; rfl,?_⟩;rw [<- hsl,List.getD_eq_getElem?_getD,getElem?_map,getElem?_eq_getElem hj'];rfl
 ·have hT1:Ts.length=1:=by omega
  obtain ⟨T,rfl⟩:∃ T,Ts=[T]:=by
   match Ts,hT1 with
   | [T],_=>exact ⟨T,rfl⟩
  refine aKw (v:=.ref T) hoL ⟨_,rfl,wpAny_pure ⟨_,rfl,?_⟩⟩;have hp1:DL.aJp (ns.zip ms)=ns.zip ms:=by
   obtain ⟨p,hp⟩:∃ p,ns.zip ms=[p]:=by
    have:(ns.zip ms).length=1:=by omega
    match ns.zip ms,this with
    | [p],_=>exact ⟨p,rfl⟩
   rw [hp]; rfl
  refine fin [T] (by rw [hp1]; simp at hTl ⊢; omega) fun j hj=>⟨j,hj,rfl,by rw [hp1]⟩
end
end SortW
namespace DL
open PySem PySem.Spec PyProof.Rows L2
section
variable {X:Cx}
theorem aqgw {pins:List (Addr × Obj)} {σ:St} {H H':Hp} {s:Shared} {h':Heap} {t':Nat} (I:Inv X pins σ H s) (k:∀ b u,s.heap.get? b=some u->h'.get? b=some u) (same:∀ b u,H b=some u->H' b=some u)
  (hn:∀ b u,H' b=some u->H b=some u \/ s.heap.objs.size <= b/\ObjOk X.prog X.w H' h' b u):Inv X pins σ H' { s with heap:=h',toks:=t' }:=by
 refine I.un ⟨fun b u q _ _ _=>k b u q,fun b u q _ _ _=>⟨u.slots,k b u q⟩,fun b u q n _=>?_,fun b u q _=>⟨u,k b u q⟩,fun b xs q=>same _ _ q,fun b u xs q=>same _ _ q,fun b ps q=>⟨#[],by rw [same _ _ q]; simp⟩⟩ fun b u e=>?_
 ·cases e:H' b with
  | none=>rfl
  | some u' =>
   rcases hn b u' e with z | ⟨z,_⟩
   ·rw [n] at z; cases z
   ·exact absurd (Heap.lt_size q) (Nat.not_lt.mpr z)
 ·rcases hn b u e with z | ⟨_,z⟩
  ·exact (I.hok b u z).stay (fun c v _ q=>k c v q) (fun c q=>same _ _ q) fun c xs q=>same _ _ q
  ·exact z
open Classical in
noncomputable def aqsa (H:Hp) (out:List Addr) (ps:List (Int × Int)):Hp:=fun b=>if b∈out then some (.tup [.int (ps.getD (out.idxOf b) (0,0)).1,.int (ps.getD (out.idxOf b) (0,0)).2]) else H b
theorem aJo {H:Hp} {out:List Addr} {ps:List (Int × Int)} {b:Addr} (h:b ∉ out):aqsa H out ps b=H b:=by unfold aqsa; rw [if_neg h]
theorem aWg {H:Hp} {out:List Addr} {ps:List (Int × Int)} {b:Addr} (h:b∈out):aqsa H out ps b=some (.tup [.int (ps.getD (out.idxOf b) (0,0)).1,.int (ps.getD (out.idxOf b) (0,0)).2]):=by unfold aqsa; rw [if_pos h]
def OneP (out:List Addr) (ps:List (Int × Int)):Prop:=∀ j,(hj:j < out.length)->ps.getD (out.idxOf out[j]) (0,0)=ps.getD j (0,0)
theorem aW5 {a b:Expr} {ta:TA} {p p2 p3 pos:Pos} (hc:X.calm=true) (hg1:Gl X "sorted") (hg2:Gl X "zip") (hm1:X.mg "sorted"=none) (hm2:X.mg "zip"=none) (ha:PA X [a,b] ta) (hs:starEach [a,b] X.env=[(false,eval a X.env),(false,eval b X.env)]:=by rfl) (hs2:starEach [b] X.env=[(false,eval b X.env)]:=by rfl) :
  PE X (.Call (.Name "sorted" p) [.Call (.Name "zip" p2) [a,b] [] p3] [] pos) (fun σ H Q=>ta σ H fun vs H1=>∃ (l1 l2:Addr) (ns ms:List Int),vs=[.ref l1,.ref l2]/\SqL X.K H1 l1 (ns.map V.int)/\SqL X.K H1 l2 (ms.map V.int)/\ns.length=ms.length/\1 <= ns.length/\ns.length < 64/\(ns.zip ms).Nodup /\
   ∀ (D:Addr) (out:List Addr),H1 D=none->(∀ b∈out,H1 b=none)->D ∉ out->out.length=(aJp (ns.zip ms)).length->OneP out (aJp (ns.zip ms))->Q (.ref D) (upd (aqsa H1 out (aJp (ns.zip ms))) D (.lst (out.map V.ref)))):=by
 intro pins s σ H Q I h;refine wpAny_Call_Name_kw (ld_blt I hg1 hm1 akd ?_ (by decide) (by decide));refine callWith_builtin1 ?_ rfl rfl;show wpAny _ _ (spliced ((false,eval (.Call (.Name "zip" p2) [a,b] [] p3) X.env) :: backTo pos (starEach [] X.env))) _ _ s;refine Calls.spliced_cons ?_;refine wpAny_Call_Name_kw (ld_blt I hg2 hm2 aqnl ?_ (by decide) (by decide));refine PyProof.Rows.callWith_type1 (thn (ha p3 pins s σ H _ I h) fun us s1 hQ=>?_) (by rw [hs,hs2]) (by rw [hs2]; rfl);obtain ⟨vs,H1,I1,r1,l1,l2,ns,ms,ev,hq1,hq2,hl,h1,h64,hnd,q⟩:=hQ;subst ev;cases r1 with
 | cons r rr =>
  cases rr with
  | cons r' rr =>
   cases rr;cases r;cases r';obtain ⟨its1,rv1,p1,hz1⟩:=I1.list hq1;obtain ⟨its2,rv2,p2,hz2⟩:=I1.list hq2;have lt1:=aqlp I1 hq1;have lt2:=aqlp I1 hq2;refine call_zip_2 p1.isList p2.isList fun h' hz hTI hTO hi1 hi2 hsz hk=>?_;refine Calls.spliced_nil ?_;have ap:=aqlj s1.heap.objs.size l1 l2 lt1 lt2;refine SortW.aqd9 (s:={ s1 with heap:=h' }) (xs:=its1.toArray) (ys:=its2.toArray) (ns:=ns) (ms:=ms) (I1.ok.hd hc) ap ⟨hz,hTI,⟨_,_,hTO⟩,hi1,hi2,p1.isList.at fun o e=>hk _ _ e,p2.isList.at fun o e=>hk _ _ e⟩ (by simpa using intsAre_of rv1) (by simpa using intsAre_of rv2) hl h1 h64 hnd fun D out n h2 hD hget hol hout hk2=>?_;have hle:s1.heap.objs.size <= D:=le_trans (by show s1.heap.objs.size <= h'.objs.size; omega) hD;have hleo:∀ b∈out,s1.heap.objs.size <= b/\D ≠ b:=fun b hb=>by
    obtain ⟨j,hj,rfl⟩:=getElem_of_mem hb;obtain ⟨g1,g2,_⟩:=hout j hj;exact ⟨le_trans (by show s1.heap.objs.size <= h'.objs.size; omega) g1,g2⟩
   have hDo:D ∉ out:=fun m=>(hleo D m).2 rfl;have one:OneP out (aJp (ns.zip ms)):=fun j hj=>by
    have hm:out[j]∈out:=getElem_mem hj;have hi:out.idxOf out[j] < out.length:=List.idxOf_lt_length_of_mem hm;have e:out[out.idxOf out[j]]=out[j]:=List.getElem_idxOf hi;obtain ⟨_,_,x,o,k,t1,t2,f1,f2,f3,f4⟩:=hout j hj;obtain ⟨_,_,x',o',k',t1',t2',f1',f2',f3',f4'⟩:=hout (out.idxOf out[j]) hi;rw [e] at f1';have ex:x=x':=by rw [<- (Value.ref.inj f1),<- (Value.ref.inj f1')]
    subst ex;rw [f2] at f2'; cases f2';rw [f4] at f4';injection f4' with g1 g2;injection g1 with g1;injection g1 with g3 g4;injection g3 with g3 _;injection g4 with g4 _;injection g4 with g4 _;exact (Prod.ext g3 g4).symm
   have hH:∀ b,s1.heap.objs.size <= b->H1 b=none:=fun b hb=>I1.hok.fresh hb;have kk:∀ b u,s1.heap.get? b=some u->h2.get? b=some u:=fun b u e=>hk2 b u (fun hm=>by
    have hlt:=Heap.lt_size e;simp only [mem_cons,not_mem_nil,or_false] at hm;rcases hm with z | z | z | z <;> (rw [z] at hlt; exact absurd hlt (Nat.not_lt.mpr (by omega)))) (hk b u e)
   refine ⟨.ref D,_,(show L2.Inv X pins σ _ { s1 with heap:=h2 } from aqgw (s:=s1) (h':=h2) (t':=s1.toks) I1 kk (fun b u e=>?_) (fun b u e=>?_)),rfl,q D out (hH D hle) (fun b hb=>hH b (hleo b hb).1) hDo hol one⟩
   ·have nb:b ≠ D:=fun z=>by rw [z,hH D hle] at e; cases e
    have nm:b ∉ out:=fun z=>by rw [hH b (hleo b z).1] at e; cases e
    rw [upd_ne nb,aJo nm]; exact e
   ·by_cases nb:b=D
    ·subst nb
     rw [upd_same] at e; cases e;refine .inr ⟨hle,by rw [length_map,hol,(azn _).length_eq,sizeLine_eq]; simp; omega,out.map Value.ref,n,?_,hget⟩;clear hget hol hout hk2 hleo hDo one kk q
     induction out with
     | nil=>exact .nil
     | cons x xs ih=>exact .cons rfl ih
    ·rw [upd_ne nb] at e
     by_cases hm:b∈out
     ·rw [aWg hm] at e; cases e
      have hi:out.idxOf b < out.length:=List.idxOf_lt_length_of_mem hm;have eb:out[out.idxOf b]=b:=List.getElem_idxOf hi;obtain ⟨_,_,x,o,k,t1,t2,f1,f2,f3,f4⟩:=hout (out.idxOf b) hi;rw [eb] at f1;have ex:x=b:=(Value.ref.inj f1).symm;subst ex;refine .inr ⟨(hleo _ hm).1,by simp [sizeLine_eq],_,.cons ⟨t1,rfl⟩ (.cons ⟨t2,rfl⟩ .nil),o,f2,f3,k,f4⟩
     ·rw [aJo hm] at e
      exact .inl e
theorem aqdq {K:Frag} {F:Hp}:∀ {out:List Addr} {ps:List (Int × Int)},out.length=ps.length->(∀ j,(hj:j < out.length)->F out[j]=some (.tup [.int (ps.getD j (0,0)).1,.int (ps.getD j (0,0)).2]))->Reps K F (out.map V.ref) (ps.map aqgd)
 | [],[],_,_=>.nil
 | [],_ :: _,h,_=>by simp at h
 | _ :: _,[],h,_=>by simp at h
 | a :: out,p :: ps,h,k=>by
  refine .cons ?_ (aqdq (by simpa using h) fun j hj=>by have:=k (j + 1) (by simp; omega); simpa using this)
  have:=k 0 (by simp)
  exact .tup (SqT.of this) (.cons (.int _) (.cons (.int _) .nil))
theorem aY7 {a b:Expr} {f:FA} {p p2 p3 pos:Pos} (hc:X.calm=true) (hg1:Gl X "sorted") (hg2:Gl X "zip") (hm1:X.mg "sorted"=none) (hm2:X.mg "zip"=none) (ha:DA X [a,b] f) (hs:starEach [a,b] X.env=[(false,eval a X.env),(false,eval b X.env)]:=by rfl) (hs2:starEach [b] X.env=[(false,eval b X.env)]:=by rfl) :
  DO X (.Call (.Name "sorted" p) [.Call (.Name "zip" p2) [a,b] [] p3] [] pos) (aqsw aVr f):=by
 refine PE.imp (aW5 hc hg1 hg2 hm1 hm2 ha hs hs2) fun σ H Q q=>?_;obtain ⟨F,ρ,o,s,re,hf,kk⟩:=q;obtain ⟨zs,hf2,rfl⟩:=map_some hf;obtain ⟨ds,hd,hf⟩:=bind_some hf2;refine ⟨F,ρ,ds,s,re,hd,fun vs F1 H1 e1 r1=>?_⟩;unfold aVr at hf;split at hf
 ·rename_i xs ys
  obtain ⟨ns,hns,hf⟩:=bind_some hf;obtain ⟨ms,hms,hf⟩:=bind_some hf;split at hf
  ·rename_i hcnd
   cases hf
   have:=avt hns
   subst this
   have:=avt hms
   subst this;cases r1 with
   | cons q1 r2 =>
    cases r2 with
    | cons q2 r3 =>
     cases r3;cases q1 with
     | lst g1 t1 =>
      cases q2 with
      | lst g2 t2 =>
       have hv1:=ajn t1;have hv2:=ajn t2;subst hv1 hv2;refine ⟨_,_,ns,ms,rfl,(aqsh e1.fh g1).l,(aqsh e1.fh g2).l,hcnd.1,hcnd.2.1,hcnd.2.2.1,hcnd.2.2.2,fun D out hD ho hDo hol one=>?_⟩;have hF:∀ b,H1 b=none->F1 b=none:=fun b hb=>e1.fh.free hb;have ntD:aqsa F1 out (aJp (ns.zip ms)) D=F1 D:=aJo hDo;have sFF:Same F1 (aqsa F1 out (aJp (ns.zip ms))):=fun b u e=>by
        rw [aJo (fun m=>by rw [hF b (ho b m)] at e; cases e)]; exact e
       have sFH:Same (aqsa F1 out (aJp (ns.zip ms))) (upd (aqsa H1 out (aJp (ns.zip ms))) D (.lst (out.map V.ref))):=fun b u e=>by
        have nb:b ≠ D:=fun z=>by rw [z,ntD,hF D hD] at e; cases e
        rw [upd_ne nb]
        by_cases m:b∈out
        ·rw [aWg m] at e ⊢; exact e
        ·rw [aJo m] at e ⊢; exact e1.fh b u e
       have sHH:Same H1 (upd (aqsa H1 out (aJp (ns.zip ms))) D (.lst (out.map V.ref))):=fun b u e=>by
        have nb:b ≠ D:=fun z=>by rw [z,hD] at e; cases e
        rw [upd_ne nb,aJo (fun m=>by rw [ho b m] at e; cases e)]; exact e
       have ex:Ext F1 H1 (aqsa F1 out (aJp (ns.zip ms))) (upd (aqsa H1 out (aJp (ns.zip ms))) D (.lst (out.map V.ref))):=⟨sFF,sFH,sHH,fun b u e=>by
        by_cases m:b∈out
        ·exact .inr (ho b m)
        ·rw [aJo m] at e; exact .inl e⟩
       refine kk (.ref D) _ _ _ (e1.trans ex) (aW7 upd_same (aqdq hol fun j hj=>?_)) fun b z=>by
        subst z;exact ⟨by rw [ntD]; exact hF _ hD,e1.hh.free hD⟩
       rw [aWg (getElem_mem hj),one j hj]
  ·cases hf
 ·cases hf
end
end DL
namespace DL
open PySem
end DL
namespace DL
open PySem PySem.Spec PyProof.Rows L2
section
variable {K:Frag} {F H:Hp}
end
section
variable {X:Cx} {i j:Nat} {S:List Bool}
end
end DL
namespace DL
open PySem PySem.Spec PyProof.Rows L2
theorem fsc {N P:List Str} {sc:Scope} (a:sc.kind=.function:=by rfl) (b:sc.isCoroutine=false:=by rfl) (c:sc.isGenerator=false:=by rfl) (d:N.Nodup:=by decide +kernel) (e:N.take P.length=P:=by rfl) (f:∀ x∈P,sc.names.lookup x=some .local \/ sc.names.lookup x=some .cell:=by decide +kernel) (g:∀ y∈sc.names,y.2 ≠ .free:=by decide +kernel):FnScope N P sc:=⟨a,b,c,d,e,f,g⟩
theorem hm {k n:Nat} {A:Around} (h:Room n A) (d:k <= n:=by decide):Room k A:=h.mono d
theorem pgc {X:Cx} {N':List Str} {scope:Scope} {cl:List (Str × Addr)} {C:Addr} {s₀:Shared} {H₀:Hp} {ex:List Addr} {pn:List (Addr × Obj)} (i:Nat) {x:Str} {pos:Pos} (hN:N'.Nodup:=by decide) (hi:N'[i]?=some x:=by rfl) (hx:Loc (ajh X N' scope cl C s₀ H₀ ex pn).env.scope x:=by first | exact .inl rfl | exact .inr rfl) (hf:(ajh X N' scope cl C s₀ H₀ ex pn).fn x=true \/ (ajh X N' scope cl C s₀ H₀ ex pn).env.scope.names.lookup x=some .local:=by first | exact .inl rfl | exact .inr rfl | assumption):PG (ajh X N' scope cl C s₀ H₀ ex pn) (.Name x pos) (gName i):=pg_name hN hi hx hf
end DL
namespace MB
open PySem DL
theorem aqfa {n k:Nat} (h:n < 2 ^ k) (hk:k <= 1000000):n < BIG:=by
 unfold BIG;exact lt_of_lt_of_le h (pow_le_pow_right (by decide) hk)
theorem awj {n k:Nat} (h:n < 2 ^ k) (hk:k <= 9000):n < BIGD:=by
 unfold BIGD;exact lt_of_lt_of_le h (pow_le_pow_right (by decide) hk)
theorem aqpt (i:Int):(if i < 0 then -i else i)=(i.natAbs:Int):=by split <;> omega
theorem aqgr {a b m n:Nat} (h:a < 2 ^ m) (h':b < 2 ^ n):a * b < 2 ^ (m + n):=by
 rw [pow_add];exact Nat.mul_lt_mul_of_lt_of_lt h h'
theorem aqp7 {a b:Int} {k:Nat} (h:a.natAbs < 2 ^ k) (h':b.natAbs < 2 ^ k):Int.gcd a b < 2 ^ k:=by
 by_cases ha:a=0
 ·subst ha; rw [Int.gcd_zero_left]; exact h'
 ·have:Int.gcd a b ∣ a.natAbs:=Nat.gcd_dvd_left _ _
  exact lt_of_le_of_lt (Nat.le_of_dvd (by omega) this) h
def rng (n:Nat):Nat:=max 1 (min n 30)
def Sz (k:Nat) (v:Int):Prop:=v.natAbs < 2 ^ k
theorem Sz.mono {a b:Nat} {v:Int} (h:Sz a v) (hab:a <= b):Sz b v:=lt_of_lt_of_le h (pow_le_pow_right (by decide) hab)
theorem Sz.mul {a b:Nat} {x y:Int} (h:Sz a x) (h':Sz b y):Sz (a + b) (x * y):=by
 unfold Sz; rw [Int.natAbs_mul]; exact aqgr h h'
theorem Sz.add {a:Nat} {x y:Int} (h:Sz a x) (h':Sz a y):Sz (a + 1) (x + y):=by
 unfold Sz at *; rw [Nat.pow_succ]; omega
theorem Sz.sub {a:Nat} {x y:Int} (h:Sz a x) (h':Sz a y):Sz (a + 1) (x - y):=by
 unfold Sz at *; rw [Nat.pow_succ]; omega
theorem Sz.le {a:Nat} {x y:Int} (h:Sz a x) (h':y.natAbs <= x.natAbs):Sz a y:=lt_of_le_of_lt h' h
theorem Sz.big {a:Nat} {x:Int} (h:Sz a x) (ha:a <= 1000000):x.natAbs < BIG:=aqfa h ha
theorem Sz.one:Sz 1 1:=by show (1:Int).natAbs < 2 ^ 1; decide
theorem Sz.zero (k:Nat):Sz k 0:=Nat.pos_of_ne_zero (by simp)
def nf1 (t b:Int):Int:=t / (Int.gcd t b:Int)
def nf2 (t b:Int):Int:=b / (Int.gcd t b:Int)
section
variable {t b:Int}
theorem aY1 (hb:0 < b):0 < (Int.gcd t b:Int):=by
 have:Int.gcd t b ≠ 0:=fun h=>by have:=(Int.gcd_eq_zero_iff.mp h).2; omega
 omega
theorem aqmm:nf1 t b * (Int.gcd t b:Int)=t:=Int.ediv_mul_cancel (Int.gcd_dvd_left t b)
theorem aqml:nf2 t b * (Int.gcd t b:Int)=b:=Int.ediv_mul_cancel (Int.gcd_dvd_right t b)
theorem aqov (hb:0 < b):(nf1 t b).natAbs <= t.natAbs:=by
 have h1:=congrArg Int.natAbs (aqmm (t:=t) (b:=b));rw [Int.natAbs_mul] at h1;rw [<- h1]
 have:=aY1 (t:=t) hb
 exact Nat.le_mul_of_pos_right _ (by omega)
theorem aqou (hb:0 < b):(nf2 t b).natAbs <= b.natAbs:=by
 have h1:=congrArg Int.natAbs (aqml (t:=t) (b:=b));rw [Int.natAbs_mul] at h1;rw [<- h1]
 have:=aY1 (t:=t) hb
 exact Nat.le_mul_of_pos_right _ (by omega)
end
def fr (p q:Int):D:=.tup [.int p,.int q]
def frD (a:Rat):D:=.tup [.int a.num,.int a.den]
theorem aqn1 {a b:Rat} (h:a.num=b.num) (h':(a.den:Int)=b.den):a=b:=Rat.ext h (by omega)
@[simp] theorem aqqk (a:Rat):imm (frD a)=true:=by simp [frD]
@[simp] theorem aqpz {n:Nat} (a:Rat):shp (n + 1) (frD a)=true:=by simp [frD]
theorem aqia (a b:Rat):eqD (frD a) (frD b)=decide (a=b):=by
 rw [Bool.eq_iff_iff];simp only [frD,eqD,aqtb,Bool.and_true,Bool.and_eq_true,beq_iff_eq,decide_eq_true_eq];exact ⟨fun ⟨h,h'⟩=>aqn1 h h',fun h=>by subst h; exact ⟨rfl,rfl⟩⟩
@[simp] theorem aqqy (a b:Rat):dEq (frD a) (frD b)=some (.bl (decide (a=b))):=by simp [dEq,aqia]
@[simp] theorem aqqv (a b:Rat):dNe (frD a) (frD b)=some (.bl (!decide (a=b))):=by simp [dNe,aqia]
theorem aqhz {t:Int} {b:Nat} (hb:b ≠ 0):nf1 t b=(Rat.normalize t b hb).num/\nf2 t b=((Rat.normalize t b hb).den:Int):=by
 rw [Rat.normalize_eq];unfold nf1 nf2;have e:Int.gcd t (b:Int)=t.natAbs.gcd b:=by simp [Int.gcd]
 rw [e];exact ⟨rfl,by rw [Int.natCast_ediv]⟩
theorem nf_mk {t:Int} {b:Nat} (hb:b ≠ 0):D.tup [.int (nf1 t b),.int (nf2 t b)]=frD (mkRat t b):=by
 obtain ⟨h1,h2⟩:=aqhz (t:=t) hb;rw [h1,h2,Rat.normalize_eq_mkRat]; rfl
theorem den_pos (a:Rat):0 < (a.den:Int):=by have:=a.den_pos; omega
theorem aqnt (a b:Rat):mkRat (a.num * b.den + b.num * a.den) (a.den * b.den)=a + b:=by rw [Rat.add_def,Rat.normalize_eq_mkRat]
theorem aqlo (a b:Rat):mkRat (a.num * b.den - b.num * a.den) (a.den * b.den)=a - b:=by rw [Rat.sub_def,Rat.normalize_eq_mkRat]
theorem aqmn (a b:Rat):mkRat (a.num * b.num) (a.den * b.den)=a * b:=by rw [Rat.mul_def,Rat.normalize_eq_mkRat]
def Bd (n d:Nat) (a:Rat):Prop:=a.num.natAbs < 2 ^ n/\a.den < 2 ^ d
theorem Bd.mono {n d n' d':Nat} {a:Rat} (h:Bd n d a) (hn:n <= n') (hd:d <= d'):Bd n' d' a:=⟨lt_of_lt_of_le h.1 (pow_le_pow_right (by decide) hn),lt_of_lt_of_le h.2 (pow_le_pow_right (by decide) hd)⟩
theorem Bd.num {n d:Nat} {a:Rat} (h:Bd n d a):Sz n a.num:=h.1
theorem Bd.den {n d:Nat} {a:Rat} (h:Bd n d a):Sz d (a.den:Int):=by show (a.den:Int).natAbs < 2 ^ d; rw [Int.natAbs_natCast]; exact h.2
theorem Bd.mk {n d:Nat} {t:Int} {b:Nat} (hb:b ≠ 0) (ht:Sz n t) (hd:b < 2 ^ d):Bd n d (mkRat t b):=by
 obtain ⟨h1,h2⟩:=aqhz (t:=t) hb;rw [Rat.normalize_eq_mkRat] at h1 h2;have hp:(0:Int) < b:=by omega
 refine ⟨?_,?_⟩
 ·rw [<- h1]; exact lt_of_le_of_lt (aqov hp) ht
 ·have:=aqou (t:=t) hp
  rw [h2] at this;omega
theorem Bd.add {n d m e:Nat} {a b:Rat} (ha:Bd n d a) (hb:Bd m e b):Bd (max (n + e) (m + d) + 1) (d + e) (a + b):=by
 rw [<- aqnt];refine Bd.mk (mul_ne_zero a.den_nz b.den_nz) ?_ (aqgr ha.2 hb.2);exact Sz.add ((ha.num.mul hb.den).mono (Nat.le_max_left _ _)) ((hb.num.mul ha.den).mono (Nat.le_max_right _ _))
theorem Bd.sub {n d m e:Nat} {a b:Rat} (ha:Bd n d a) (hb:Bd m e b):Bd (max (n + e) (m + d) + 1) (d + e) (a - b):=by
 rw [<- aqlo];refine Bd.mk (mul_ne_zero a.den_nz b.den_nz) ?_ (aqgr ha.2 hb.2);exact Sz.sub ((ha.num.mul hb.den).mono (Nat.le_max_left _ _)) ((hb.num.mul ha.den).mono (Nat.le_max_right _ _))
theorem Bd.mul {n d m e:Nat} {a b:Rat} (ha:Bd n d a) (hb:Bd m e b):Bd (n + m) (d + e) (a * b):=by
 rw [<- aqmn];exact Bd.mk (mul_ne_zero a.den_nz b.den_nz) (ha.num.mul hb.num) (aqgr ha.2 hb.2)
theorem Bd.zero:Bd 1 1 0:=⟨by decide,by decide⟩
def P17:Int:=10 ^ 17
theorem aqft:0 < P17:=by decide
theorem aqpv:P17 ≠ 0:=by decide
theorem pw17:dPow (.int 10) (.int 17)=some (.int P17):=by rfl
def P18:Int:=10 ^ 18
theorem aqby:0 < P18:=by decide
theorem aqnu:P18 ≠ 0:=by decide
theorem pw18:dPow (.int 10) (.int 18)=some (.int P18):=by rfl
end MB
namespace MB
open PySem DL
def ev {α:Type}:List α->List α
 | []=>[]
 | [x]=>[x]
 | x :: _ :: l=>x :: ev l
def od {α:Type}:List α->List α
 | []=>[]
 | [_]=>[]
 | _ :: y :: l=>y :: od l
theorem aqa0 {α:Type} (l:List α) (n:Nat):aqtm l none (some (n:Int))=l.take n:=by
 unfold aqtm slI;have h:¬ ((n:Int) < 0):=by omega
 simp only [h,if_false,Int.toNat_natCast,List.drop_zero,Nat.sub_zero]
 by_cases hl:n <= l.length
 ·rw [min_eq_left hl]
 ·rw [min_eq_right (by omega),take_of_length_le (le_refl _),take_of_length_le (by omega)]
theorem aqkv {α:Type} (l:List α) (n:Nat):aqtm l (some (n:Int)) none=l.drop n:=by
 unfold aqtm slI;have h:¬ ((n:Int) < 0):=by omega
 simp only [h,if_false,Int.toNat_natCast]
 by_cases hl:n <= l.length
 ·rw [min_eq_left hl,take_of_length_le (by simp)]
 ·rw [min_eq_right (by omega),drop_of_length_le (le_refl _),drop_of_length_le (by omega)]; simp
theorem aqkw {α:Type} (l:List α) (m n:Nat):aqtm l (some (m:Int)) (some (n:Int))=(l.take n).drop m:=by
 unfold aqtm slI;have h1:¬ ((m:Int) < 0):=by omega
 have h2:¬ ((n:Int) < 0):=by omega
 simp only [h1,h2,if_false,Int.toNat_natCast];rw [List.drop_take]
 by_cases hm:m <= l.length
 ·rw [min_eq_left hm]
  by_cases hn:n <= l.length
  ·rw [min_eq_left hn]
  ·rw [min_eq_right (by omega),take_of_length_le (by simp),take_of_length_le (by simp; omega)]
 ·have e:min m l.length=l.length:=min_eq_right (by omega)
  rw [e,drop_of_length_le (le_refl _),drop_of_length_le (by omega)]; simp
end MB
namespace MB
open PySem DL
abbrev aqu2:=Int × List Int
def ag (l:List Int):D:=.lst (l.map .int)
def axy (p:aqu2):D:=.tup [.int p.1,ag p.2]
def bt (h:List aqu2):D:=.lst (h.map axy)
@[simp] theorem aqo7 (l:List Int):imm (ag l)=false:=by simp [ag]
@[simp] theorem aqny {n:Nat} (l:List Int):shp (n + 1) (ag l)=true:=by simp [ag]
@[simp] theorem aqnx {n:Nat} (p:aqu2):shp (n + 2) (axy p)=true:=by simp [axy]
@[simp] theorem aqnz {n:Nat} (h:List aqu2):shp (n + 3) (bt h)=true:=by
 simp only [bt,aqho];exact aWj.mpr fun d m=>by obtain ⟨p,_,rfl⟩:=List.mem_map.mp m; simp
@[simp] theorem aqo6 (p:aqu2):imm (axy p)=false:=by simp [axy]
@[simp] theorem aqo8 (h:List aqu2):imm (bt h)=false:=by simp [bt]
theorem aVw (a b:List Int):eqD (ag a) (ag b)=decide (a=b):=by simp [ag,eqD,aqh4]
@[simp] theorem aqbn (a b:List Int):dEq (ag a) (ag b)=some (.bl (decide (a=b))):=by simp [dEq,aVw]
@[simp] theorem aqo9 (a b:List Int):dNe (ag a) (ag b)=some (.bl (!decide (a=b))):=by simp [dNe,aVw]
theorem aqh5 (p q:aqu2):eqD (axy p) (axy q)=decide (p=q):=by
 obtain ⟨a,l⟩:=p;obtain ⟨b,m⟩:=q;rw [Bool.eq_iff_iff];simp [axy,eqD,aqtb,aVw]
theorem aqey {α:Type} [DecidableEq α] {inj:α->D} (h:∀ a b,eqD (inj a) (inj b)=decide (a=b)):∀ (xs ys:List α),aqtb (xs.map inj) (ys.map inj)=decide (xs=ys)
 | [],[]=>by simp [aqtb]
 | [],_ :: _=>by simp [aqtb]
 | _ :: _,[]=>by simp [aqtb]
 | x :: xs,y :: ys=>by rw [Bool.eq_iff_iff]; simp [aqtb,h,aqey h xs ys]
theorem aqbi (h k:List aqu2):eqD (bt h) (bt k)=decide (h=k):=by
 simp only [bt,eqD];exact aqey aqh5 h k
@[simp] theorem aqh8 (a b:List aqu2):dEq (bt a) (bt b)=some (.bl (decide (a=b))):=by simp [dEq,aqbi]
@[simp] theorem aqoa (a b:List aqu2):dNe (bt a) (bt b)=some (.bl (!decide (a=b))):=by simp [dNe,aqbi]
def has (l:List Int) (c:Int):Bool:=l.contains c
theorem aj1 {l:List Int} {c:Int}:has l c=true ↔ c∈l:=by simp [has]
theorem aX2 (c:Int) (l:List Int):((l.map D.int).any fun y=>eqD y (.int c))=has l c:=by
 rw [Bool.eq_iff_iff,aj1];simp [any_eq_true,eqD]
@[simp] theorem aqpg (c:Int) (l:List Int):dIn (.int c) (ag l)=some (.bl (has l c)):=by
 have:=aX2 c l
 simp only [ag,dIn,this]; simp
@[simp] theorem aqle (c:Int) (l:List Int):aQ8 (.int c) (ag l)=some (.bl (!has l c)):=by
 have:=aX2 c l
 simp only [ag,aQ8,this]; simp
@[simp] theorem aqh7 (p:aqu2):dIx (axy p) (.int 0)=some (.int p.1):=aqcn
@[simp] theorem aqod (p:aqu2):dIx (axy p) (.int 1)=some (ag p.2):=aqku
theorem aVu (l:List Int):oD (ow (l.map .int))=some (ag l):=by simp [ag]
def atB {α:Type} (p:α->Bool):Option α->Bool
 | some x=>p x
 | none=>false
@[simp] theorem aqmq (l:List Int):akv (ag l)=some (l.map .int):=rfl
@[simp] theorem aqmr (h:List aqu2):akv (bt h)=some (h.map axy):=rfl
@[simp] theorem aqob (l:List Int):aqtg [ag l]=some (.int l.length):=by simp [ag]
@[simp] theorem aqoc (h:List aqu2):aqtg [bt h]=some (.int h.length):=by simp [bt]
@[simp] theorem aqo2 (l:List Int):aqsx "list" (ag l)=some (.bl true):=rfl
@[simp] theorem aqo3 (l:List aqu2):aqsx "list" (bt l)=some (.bl true):=rfl
@[simp] theorem aqo1 (l:aqu2):aqsx "tuple" (axy l)=some (.bl true):=rfl
@[simp] theorem aqp4 (l:List Int):isT (ag l) "list"=true:=rfl
@[simp] theorem aqmu (l:List Int):aZd [ag l]=some (l.map .int):=rfl
def aj7 (m s:List Int):Bool:=s.all fun c=>has m c
def agr (h:List aqu2) (s:List Int):List Int:=((List.range h.length).filter fun i=>atB (fun p:aqu2=>aj7 p.2 s) h[i]?).map fun (i:Nat)=>(i:Int)
theorem aqbj {α:Type} (inj:α->D) (h:List α):aqez (h.map inj)=((List.range h.length).zip h).map fun q=>.tup [.int (q.1:Int),inj q.2]:=by
 unfold aqez;rw [length_map];apply ext_getElem
 ·simp
 ·intro i h1 h2
  simp
theorem aqcw {α:Type} (p:α->Bool) (h:List α):((((List.range h.length).zip h).filter fun q=>p q.2).map fun q=>q.1)=(List.range h.length).filter fun i=>atB p h[i]?:=by
 have key:∀ (l:List Nat) (h':List α),(∀ i∈l,i < h.length)->(l.zip h').length=l.length->(∀ j (hj:j < l.length),h'[j]?=h[l[j]]?)->(((l.zip h').filter fun q=>p q.2).map fun q=>q.1)=l.filter fun i=>atB p h[i]?:=by
  intro l
  induction l with
  | nil=>intro h' _ _ _; simp
  | cons i l ih =>
   intro h' hl hlen hget;cases h' with
   | nil=>simp at hlen
   | cons x h' =>
    have h0:=hget 0 (by simp);simp at h0;have ih':=ih h' (fun j m=>hl j (mem_cons_of_mem _ m)) (by simpa using hlen) (fun j hj=>by have:=hget (j + 1) (by simpa using hj); simpa using this);have e:atB p h[i]?=p x:=by rw [<- h0]; rfl
    rw [List.zip_cons_cons,filter_cons,filter_cons];simp only [e];cases p x with
    | true=>simp [ih']
    | false=>simpa using ih'
 exact key (List.range h.length) h (fun i m=>List.mem_range.mp m) (by simp) (fun j hj=>by simp)
def pw2 (k:Int):Int:=[1,2,4,8,16,32].getD k.toNat 1
def mkb (b:Int):List Int:=[0,1,2,3,4,5].filter fun k=>(b.fdiv (pw2 k)).fmod 2 == 1
theorem rng6:aqsm 0 6=([0,1,2,3,4,5]:List Int).map D.int:=by simp [aqsm,List.range,List.range.loop]
theorem aqog {k:Int} (h:k∈([0,1,2,3,4,5]:List Int)):dIx (.lst [.int 1,.int 2,.int 4,.int 8,.int 16,.int 32]) (.int k)=some (.int (pw2 k))/\pw2 k ≠ 0/\(pw2 k).natAbs < BIGD:=by
 have hb:∀ n:Int,n.natAbs < 2 ^ 7->n.natAbs < BIGD:=fun n hn=>awj hn (by decide);simp at h;rcases h with rfl | rfl | rfl | rfl | rfl | rfl <;> exact ⟨rfl,by decide,hb _ (by decide)⟩
end MB
namespace MB
open PySem DL
theorem aXk {α:Type} {inj:α->D} {g:GD} {b:Blk} (P:Cs->Prop) (bad:α->Bool) (o:α->O):∀ (xs:List α) (ρ:Cs),P ρ ->
  (∀ a∈xs,∀ ρ,P ρ->∃ ρ1,g (inj a) ρ=some ρ1/\(bad a=true->∃ ρ2,b ρ1=some (.rt (o a) ρ2))/\(bad a=false->∃ ρ2,(b ρ1=some (.nx ρ2) \/ b ρ1=some (.ct ρ2))/\P ρ2)) ->
  (∀ a,xs.find? bad=some a->∃ ρ',aqt6 g b (xs.map inj) ρ=some (.rt (o a) ρ'))/\(xs.find? bad=none->∃ ρ',aqt6 g b (xs.map inj) ρ=some (.nx ρ')/\P ρ')
 | [],ρ,h,_=>⟨fun a e=>by simp at e,fun _=>⟨ρ,rfl,h⟩⟩
 | x :: xs,ρ,h,k=>by
  obtain ⟨ρ1,h1,h2,h3⟩:=k x mem_cons_self ρ h;cases hb:bad x with
  | true =>
   obtain ⟨ρ2,e2⟩:=h2 hb;refine ⟨fun a e=>?_,fun e=>?_⟩
   ·rw [List.find?_cons_of_pos hb] at e
    cases e;exact ⟨ρ2,aqes h1 e2⟩
   ·rw [List.find?_cons_of_pos hb] at e
    cases e
  | false =>
   obtain ⟨ρ2,e2,p2⟩:=h3 hb;have ih:=aXk P bad o xs ρ2 p2 fun a m=>k a (mem_cons_of_mem _ m);rw [List.find?_cons_of_neg (by simp [hb]),map_cons,aK2 h1 e2];exact ih
@[irreducible] def aqu6 (g:GD) (b:Blk) (d:D) (ρ:Cs) (Q:Cs->Prop):Prop:=match g d ρ with
 | some ρ1=>(match b ρ1 with
  | some (.nx ρ2)=>Q ρ2
  | some (.ct ρ2)=>Q ρ2
  | _=>False)
 | none=>False
@[irreducible] def Rets (g:GD) (b:Blk) (d:D) (ρ:Cs) (o:O):Prop:=match g d ρ with
 | some ρ1=>(match b ρ1 with
  | some (.rt x _)=>x=o
  | _=>False)
 | none=>False
theorem aqu6.use {g:GD} {b:Blk} {d:D} {ρ:Cs} {Q:Cs->Prop} (h:aqu6 g b d ρ Q):∃ ρ1 ρ2,g d ρ=some ρ1/\(b ρ1=some (.nx ρ2) \/ b ρ1=some (.ct ρ2))/\Q ρ2:=by
 unfold aqu6 at h;split at h
 ·rename_i ρ1 e1
  split at h
  ·rename_i ρ2 e2; exact ⟨ρ1,ρ2,e1,.inl e2,h⟩
  ·rename_i ρ2 e2; exact ⟨ρ1,ρ2,e1,.inr e2,h⟩
  ·exact h.elim
 ·exact h.elim
theorem Rets.use {g:GD} {b:Blk} {d:D} {ρ:Cs} {o:O} (h:Rets g b d ρ o):∃ ρ1 ρ2,g d ρ=some ρ1/\b ρ1=some (.rt o ρ2):=by
 unfold Rets at h;split at h
 ·rename_i ρ1 e1
  split at h
  ·rename_i x ρ2 e2; subst h; exact ⟨ρ1,ρ2,e1,e2⟩
  ·exact h.elim
 ·exact h.elim
theorem aju {α:Type} {inj:α->D} {g:GD} {b:Blk} (P:List α->Cs->Prop) (xs:List α) (ρ:Cs) (h0:P [] ρ)
  (step:∀ (pre:List α) (a:α) (post:List α) (ρ:Cs),xs=pre++a :: post->P pre ρ->aqu6 g b (inj a) ρ (P (pre++[a]))) :
  ∃ ρ',aqt6 g b (xs.map inj) ρ=some (.nx ρ')/\P xs ρ' :=
 aY2 P xs ρ h0 fun pre a post ρ e h=>(step pre a post ρ e h).use
theorem aQe {α:Type} {inj:α->D} {g:GD} {b:Blk} (P:Cs->Prop) (bad:α->Bool) (o:α->O) (xs:List α) (ρ:Cs) (h0:P ρ)
  (step:∀ a∈xs,∀ ρ,P ρ->(bad a=true->Rets g b (inj a) ρ (o a))/\(bad a=false->aqu6 g b (inj a) ρ P)) :
  (∀ a,xs.find? bad=some a->∃ ρ',aqt6 g b (xs.map inj) ρ=some (.rt (o a) ρ'))/\(xs.find? bad=none->∃ ρ',aqt6 g b (xs.map inj) ρ=some (.nx ρ')/\P ρ') :=
 aXk P bad o xs ρ h0 fun a m ρ h=>by
  obtain ⟨s1,s2⟩:=step a m ρ h;cases hb:bad a with
  | true =>
   obtain ⟨ρ1,ρ2,e1,e2⟩:=(s1 hb).use;exact ⟨ρ1,e1,(fun _=>⟨ρ2,e2⟩),(fun e=>by cases e)⟩
  | false =>
   obtain ⟨ρ1,ρ2,e1,e2,p2⟩:=(s2 hb).use;exact ⟨ρ1,e1,(fun e=>by cases e),fun _=>⟨ρ2,e2,p2⟩⟩
@[simp] theorem gN_ap {i:Nat} {d:D} {ρ:Cs}:gN i d ρ=some (ρ.set i (some (.sh d))):=rfl
theorem aqv {α:Type} {l:List α} {i:Nat} {d:α} (h:i < l.length):l.getD i d=l[i]:=by simp [h]
theorem aK {α:Type} [DecidableEq α]:∀ {l m:List α},l.Nodup->(∀ x∈l,x∈m)->l.length <= m.length
 | [],_,_,_=>by simp
 | a :: l,m,hn,hs=>by
  have ha:a∈m:=hs a (by simp);rw [nodup_cons] at hn;have ih:=aK (l:=l) (m:=m.erase a) hn.2 fun x hx=>by
   have:x ≠ a:=fun e=>hn.1 (e ▸ hx)
   exact (List.mem_erase_of_ne this).mpr (hs x (by simp [hx]))
  have:=List.length_erase_of_mem ha
  have hp:=List.length_pos_of_mem ha
  simp
  omega
theorem azm {l:List Int} (h:l.Pairwise (· < ·)):l.Nodup:=h.imp fun {a b} hab e=>by omega
def six:List Int:=[0,1,2,3,4,5]
theorem av3:six.Pairwise (· < ·):=by decide
theorem aqi1 (b:Int):(mkb b).Sublist six:=filter_sublist
def okH (h:List aqu2):Prop:=∀ p∈h,p.2.Sublist six
theorem okH.len {h:List aqu2} (k:okH h):∀ p∈h,p.2.length <= 6:=fun p m=>(k p m).length_le
theorem okH.mem {h:List aqu2} (k:okH h) {p:aqu2} (m:p∈h) {x:Int} (hx:x∈p.2):x∈six:=(k p m).subset hx
def ak (h:List aqu2):List Int:=six.filter fun c=>h.any fun p=>has p.2 c
theorem awf (h:List aqu2):(ak h).Sublist six:=filter_sublist
theorem aP (h:List aqu2):(ak h).length <= 6:=length_filter_le _ _
end MB
namespace MB
def az (l:List Nat) (f:Nat->Rat):Rat:=(l.map f).sum
theorem ajt (f:Nat->Rat):az [] f=0:=rfl
theorem aq (i:Nat) (l:List Nat) (f:Nat->Rat):az (i :: l) f=f i + az l f:=by simp [az]
theorem ajj {f:Nat->Rat}:∀ {l:List Nat},(∀ i∈l,0 <= f i)->0 <= az l f
 | [],_=>by rw [ajt]; grind
 | i :: l,h=>by
  have h1:=h i (by simp);have h2:=ajj (f:=f) (l:=l) fun j hj=>h j (by simp [hj]);rw [aq]; grind
theorem awr {f g:Nat->Rat}:∀ {l:List Nat},(∀ i∈l,f i <= g i)->az l f <= az l g
 | [],_=>by rw [ajt,ajt]; grind
 | i :: l,h=>by
  have h1:=h i (by simp);have h2:=awr (f:=f) (g:=g) (l:=l) fun j hj=>h j (by simp [hj]);rw [aq,aq]; grind
theorem av1 {f:Nat->Rat}:∀ {l m:List Nat},l.Sublist m->(∀ i∈m,0 <= f i)->az l f <= az m f:=by
 intro l m h
 induction h with
 | slnil=>intro _; grind
 | cons a _ ih =>
  intro hf;have h1:=hf a (by simp);have h2:=ih fun i hi=>hf i (by simp [hi]);rw [aq]; grind
 | cons_cons a _ ih =>
  intro hf;have h2:=ih fun i hi=>hf i (by simp [hi]);rw [aq,aq]; grind
theorem aqy (c:Rat) (f:Nat->Rat):∀ (l:List Nat),az l (fun i=>f i * c)=az l f * c
 | []=>by simp [az]
 | i :: l=>by rw [aq,aq,aqy c f l]; grind
theorem aD {f g:Nat->Rat}:∀ {l:List Nat},(∀ i∈l,f i=g i)->az l f=az l g
 | [],_=>rfl
 | i :: l,h=>by rw [aq,aq,h i (by simp),aD fun j hj=>h j (by simp [hj])]
theorem aqn {α:Type} [DecidableEq α]:∀ {s l:List α},s.Nodup->(∀ x∈s,x∈l)->s.length <= l.length
 | [],_,_,_=>zero_le _
 | x :: s,l,hn,h=>by
  rw [nodup_cons] at hn;have hx:=h x (by simp);have ih:=aqn (s:=s) (l:=l.erase x) hn.2 fun y hy=>(List.mem_erase_of_ne (by rintro rfl; exact hn.1 hy)).mpr (h y (by simp [hy]));have e:(l.erase x).length=l.length - 1:=List.length_erase_of_mem hx;have p:0 < l.length:=List.length_pos_of_mem hx
  simp; omega
def cnt (lk:Nat->Int->Bool) (rows:List (Int × Rat)) (i t:Nat):Nat:=((rows.take t).filter fun q=>lk i q.1).length
theorem aqpj (lk:Nat->Int->Bool) (rows:List (Int × Rat)) (i t:Nat):cnt lk rows i t <= (rows.filter fun q=>lk i q.1).length :=
 ((take_sublist t rows).filter _).length_le
theorem aqkz (lk:Nat->Int->Bool) {rows:List (Int × Rat)} (i:Nat) {t:Nat} {q:Int × Rat} (h:rows[t]?=some q):cnt lk rows i (t + 1)=cnt lk rows i t + if lk i q.1 then 1 else 0:=by
 unfold cnt;rw [List.take_add_one,h];simp [List.filter_append,filter_cons];split <;> simp
theorem aQ4 {n:Nat} {w:Nat->Rat} {lk:Nat->Int->Bool} {k N:Rat} (hw:∀ i,0 <= w i) (hk:0 <= k) (hN:0 < N)
  (rows:List (Int × Rat)) (P:Nat->Nat->Rat) (h0:∀ i,i < n->P 0 i=k)
  (hstep:∀ t c r,rows[t]?=some (c,r)->∀ i,i < n->P (t + 1) i=if lk i c then P t i - min (P t i) r else P t i)
  (hmin:∀ t c r,rows[t]?=some (c,r)->∀ d,(∀ q∈rows,q.1 ≠ d)->∀ x,x < r->az ((List.range n).filter (lk · d)) (fun i=>w i * min (P t i) x) < N)
  (hend:∀ d,(∀ q∈rows,q.1 ≠ d)->az ((List.range n).filter (lk · d)) (fun i=>w i * P rows.length i) < N)
  (hpos:∀ t i,i < n->0 <= P t i)
  (T:List Int) (hT:T.Nodup) (hL:0 < T.length) (g:List Nat) (hg:g.Sublist (List.range n)) (hl:∀ i∈g,∀ c∈T,lk i c=true) (hfew:∀ i∈g,(rows.filter fun q=>lk i q.1).length < T.length) :
  k * az g w < T.length * N:=by
 false_or_by_contra;rename_i hc;have hLr:(0:Rat) < (T.length:Rat):=by exact_mod_cast hL
 have hge:(T.length:Rat) * N <= k * az g w:=Rat.not_lt.mp hc;have hgne:g ≠ []:=by
  rintro rfl;rw [ajt] at hge
  have:=Rat.mul_pos hLr hN
  grind
 obtain ⟨d,hdT,hd⟩:∃ d∈T,∀ q∈rows,q.1 ≠ d:=by
  false_or_by_contra;rename_i hno;obtain ⟨i,g',rfl⟩:=List.exists_cons_of_ne_nil hgne;have hlen:T.length <= ((rows.filter fun q=>lk i q.1).map (·.1)).length:=aqn hT fun c hcT=>by
   false_or_by_contra;rename_i hcn;refine hno ⟨c,hcT,fun q hq e=>hcn ?_⟩;exact List.mem_map.mpr ⟨q,List.mem_filter.mpr ⟨hq,by rw [e]; exact hl i (by simp) c hcT⟩,e⟩
  have:=hfew i (by simp)
  rw [length_map] at hlen;omega
 obtain ⟨D,hD⟩:∃ D:Rat,D * (T.length:Rat)=k:=⟨k / (T.length:Rat),Rat.div_mul_cancel (by grind)⟩;have hD0:0 <= D:=by
  false_or_by_contra;rename_i hn;have h1:(T.length:Rat) * D < (T.length:Rat) * 0:=Rat.mul_lt_mul_of_pos_left (Rat.not_le.mp hn) hLr;grind
 have hWD:N <= az g w * D:=by
  false_or_by_contra;rename_i hn;have h1:=Rat.mul_lt_mul_of_pos_left (Rat.not_le.mp hn) hLr;have h2:(T.length:Rat) * (az g w * D)=k * az g w:=by rw [<- hD]; grind
  rw [h2] at h1;grind
 have hgn:∀ i∈g,i < n:=fun i hi=>List.mem_range.mp (hg.subset hi);have hsub:g.Sublist ((List.range n).filter (lk · d)):=by
  have:=hg.filter (lk · d)
  rwa [List.filter_eq_self.mpr fun i hi=>hl i hi d hdT] at this
 have enough:∀ (f:Nat->Rat),(∀ i,i < n->0 <= f i)->(∀ i∈g,D <= f i)->N <= az ((List.range n).filter (lk · d)) (fun i=>w i * f i):=by
  intro f hf0 hf;have s1:az g (fun i=>w i * f i) <= az ((List.range n).filter (lk · d)) (fun i=>w i * f i):=av1 hsub fun i hi=>Rat.mul_nonneg (hw i) (hf0 i (List.mem_range.mp (List.mem_filter.mp hi).1));have s2:az g (fun i=>w i * D) <= az g (fun i=>w i * f i):=awr fun i hi=>Rat.mul_le_mul_of_nonneg_left (hf i hi) (hw i);rw [aqy] at s2;grind
 have few:∀ t,∀ i∈g,(cnt lk rows i t:Rat) * D <= ((T.length:Rat) - 1) * D:=by
  intro t i hi;have h1:=aqpj lk rows i t;have h2:=hfew i hi;have h3:cnt lk rows i t + 1 <= T.length:=by omega
  have h4:((cnt lk rows i t:Nat):Rat) + 1 <= (T.length:Rat):=by exact_mod_cast h3
  have h5:D * ((cnt lk rows i t:Nat):Rat) <= D * ((T.length:Rat) - 1):=Rat.mul_le_mul_of_nonneg_left (by grind) hD0;grind
 have key:∀ t,t <= rows.length->∀ i∈g,k - (cnt lk rows i t:Rat) * D <= P t i:=by
  intro t
  induction t with
  | zero =>
   intro _ i hi
   have:cnt lk rows i 0=0:=by simp [cnt]
   rw [this,h0 i (hgn i hi)];have z:((0:Nat):Rat)=0:=rfl;grind
  | succ t ih =>
   intro ht i hi;obtain ⟨⟨c,r⟩,hr⟩:∃ q,rows[t]?=some q:=⟨rows[t],getElem?_eq_getElem (by omega)⟩;have hall:∀ j∈g,D <= P t j:=fun j hj=>by
    have a1:=ih (by omega) j hj;have a2:=few t j hj;grind
   have hrD:r <= D:=by
    false_or_by_contra;rename_i hn;have b1:=hmin t c r hr d hd D (Rat.not_le.mp hn);have b2:=enough (fun j=>min (P t j) D) (fun j hj=>by have:=hpos t j hj; grind) fun j hj=>by have:=hall j hj; grind
    grind
   have e1:=hstep t c r hr i (hgn i hi);have e2:=aqkz lk i hr;have a1:=ih (by omega) i hi;rw [e1,e2]
   by_cases hlk:lk i c=true
   ·simp only [hlk,if_true]
    have z:((cnt lk rows i t + 1:Nat):Rat)=(cnt lk rows i t:Rat) + 1:=by simp
    rw [z]
    have:min (P t i) r <= r:=by grind
    grind
   ·simp only [hlk]
    simpa using a1
 have b1:=hend d hd;have b2:=enough (P rows.length) (hpos _) fun i hi=>by
  have a1:=key rows.length (le_refl _) i hi;have a2:=few rows.length i hi;grind
 grind
def tot (rows:List (Int × (Nat->Rat))) (i:Nat):Rat:=(rows.map fun q=>q.2 i).sum
theorem aqir (q:Int × (Nat->Rat)) (rows:List (Int × (Nat->Rat))) (i:Nat):tot (q :: rows) i=q.2 i + tot rows i:=by simp [tot]
theorem av2 (f g:Nat->Rat):∀ l:List Nat,az l (fun i=>f i + g i)=az l f + az l g
 | []=>by simp [az]; grind
 | i :: l=>by rw [aq,aq,aq,av2 f g l]; grind
theorem aqal (w:Nat->Rat) (g:List Nat):∀ rows:List (Int × (Nat->Rat)),az g (fun i=>w i * tot rows i)=(rows.map fun q=>az g fun i=>w i * q.2 i).sum
 | []=>by
  have:az g (fun i=>w i * tot [] i)=az g (fun i=>(fun _=>(0:Rat)) i * 0):=aD fun i _=>by simp [tot]
  rw [this,aqy]; simp
 | q :: rows=>by
  have:az g (fun i=>w i * tot (q :: rows) i)=az g (fun i=>w i * q.2 i + w i * tot rows i):=aD fun i _=>by rw [aqir]; grind
  rw [this,av2,aqal w g rows]; simp
theorem aqhp {α:Type} {f:α->Rat} {N:Rat}:∀ {l:List α},(∀ q∈l,f q <= N)->(l.map f).sum <= l.length * N
 | [],_=>by
  simp
 | q :: l,h=>by
  have h1:=h q (by simp);have h2:=aqhp (f:=f) (N:=N) (l:=l) fun p hp=>h p (by simp [hp]);have z:(((q :: l).length:Nat):Rat)=(l.length:Rat) + 1:=by simp
  rw [z,map_cons,sum_cons];grind
theorem aZj {α:Type} {f:α->Rat} {p:α->Bool}:∀ {l:List α},(∀ q∈l,p q=false->f q=0)->(l.map f).sum=((l.filter p).map f).sum
 | [],_=>rfl
 | q :: l,h=>by
  have h2:=aZj (f:=f) (p:=p) (l:=l) fun r hr=>h r (by simp [hr]);rw [filter_cons];split
  ·simp [h2]
  ·rename_i hp
   have:=h q (by simp) (by simpa using hp)
   simp [this,h2]; grind
theorem aQ6 {n:Nat} {w:Nat->Rat} {lk:Nat->Int->Bool} {k N:Rat} (hw:∀ i,0 <= w i) (hN:0 < N)
  (rows:List (Int × (Nat->Rat))) (hnd:(rows.map (·.1)).Nodup) (h0:∀ q∈rows,∀ i,i < n->0 <= q.2 i) (hlike:∀ q∈rows,∀ i,i < n->lk i q.1=false->q.2 i=0)
  (hprice:∀ q∈rows,az (List.range n) (fun i=>w i * q.2 i)=N) (hcap:∀ i,i < n->tot rows i <= k)
  (hrest:∀ d,(∀ q∈rows,q.1 ≠ d)->az ((List.range n).filter (lk · d)) (fun i=>w i * (k - tot rows i)) < N)
  (T:List Int) (hT:T.Nodup) (hL:0 < T.length) (K:List Int) (hK:K.length < T.length) (g:List Nat) (hg:g.Sublist (List.range n)) (hl:∀ i∈g,∀ c∈T,lk i c=true) (hin:∀ i∈g,∀ q∈rows,lk i q.1=true->q.1∈K) :
  k * az g w < T.length * N:=by
 have hLr:(0:Rat) < (T.length:Rat):=by exact_mod_cast hL
 have hgn:∀ i∈g,i < n:=fun i hi=>List.mem_range.mp (hg.subset hi)
 by_cases hgne:g=[]
 ·subst hgne
  rw [ajt]
  have:=Rat.mul_pos hLr hN
  grind
 obtain ⟨d,hdT,hd⟩:∃ d∈T,∀ q∈rows,q.1 ≠ d:=by
  false_or_by_contra;rename_i hno;obtain ⟨i,g',rfl⟩:=List.exists_cons_of_ne_nil hgne
  have:T.length <= K.length:=aqn hT fun c hcT=>by
   false_or_by_contra;rename_i hcn;refine hno ⟨c,hcT,fun q hq e=>hcn ?_⟩
   have:=hin i (by simp) q hq (by rw [e]; exact hl i (by simp) c hcT)
   rwa [e] at this
  omega
 have hsub:g.Sublist ((List.range n).filter (lk · d)):=by
  have:=hg.filter (lk · d)
  rwa [List.filter_eq_self.mpr fun i hi=>hl i hi d hdT] at this
 have s1:az g (fun i=>w i * (k - tot rows i)) <= az ((List.range n).filter (lk · d)) (fun i=>w i * (k - tot rows i)):=av1 hsub fun i hi=>Rat.mul_nonneg (hw i) (by have:=hcap i (List.mem_range.mp (List.mem_filter.mp hi).1); grind);have s2:=hrest d hd;have s3:az g (fun i=>w i * k)=az g (fun i=>w i * (k - tot rows i)) + az g (fun i=>w i * tot rows i):=by
  rw [<- av2];exact aD fun i _=>by grind
 rw [aqy] at s3;have s4:az g (fun i=>w i * tot rows i) <= (T.length:Rat) * N - N:=by
  rw [aqal,aZj (p:=fun q=>K.contains q.1) fun q hq hp=>?_]
  ·have a1:(((rows.filter fun q=>K.contains q.1).map fun q=>az g fun i=>w i * q.2 i)).sum <= ((rows.filter fun q=>K.contains q.1).length:Rat) * N:=aqhp fun q hq=>by
    have hq':=(List.mem_filter.mp hq).1
    have:=av1 (f:=fun i=>w i * q.2 i) hg fun i hi=>Rat.mul_nonneg (hw i) (h0 q hq' i (List.mem_range.mp hi))
    rw [hprice q hq'] at this;exact this
   have a2:(rows.filter fun q=>K.contains q.1).length <= K.length:=by
    have hn2:((rows.filter fun q=>K.contains q.1).map (·.1)).Nodup:=hnd.sublist ((filter_sublist).map _)
    have:=aqn (l:=K) hn2 fun c hc=>by
     obtain ⟨q,hq,rfl⟩:=List.mem_map.mp hc;simpa using (List.mem_filter.mp hq).2
    rwa [length_map] at this
   have a3:(rows.filter fun q=>K.contains q.1).length + 1 <= T.length:=by omega
   have a4:(((rows.filter fun q=>K.contains q.1).length:Nat):Rat) + 1 <= (T.length:Rat):=by exact_mod_cast a3
   have a5:N * (((rows.filter fun q=>K.contains q.1).length:Nat):Rat) <= N * ((T.length:Rat) - 1):=Rat.mul_le_mul_of_nonneg_left (by grind) (by grind);grind
  ·have:az g (fun i=>w i * q.2 i)=az g (fun i=>(fun _=>(0:Rat)) i * 0):=aD fun i hi=>by
    have hz:q.2 i=0:=hlike q hq i (hgn i hi) (by
     cases hlk:lk i q.1 with
     | false=>rfl
     | true =>
      have:=hin i hi q hq hlk
      simp [this] at hp)
    rw [hz]; grind
   rw [this,aqy]; grind
 grind
def tau (rows:List (Int × Rat)) (t:Nat):Rat:=((rows.take t).map (·.2)).sum
theorem aZk:∀ l m:List Rat,(l++m).sum=l.sum + m.sum
 | [],m=>by simp; grind
 | a :: l,m=>by rw [List.cons_append,sum_cons,sum_cons,aZk l m]; grind
theorem aqd3 {rows:List (Int × Rat)} {t:Nat} {q:Int × Rat} (h:rows[t]?=some q):tau rows (t + 1)=tau rows t + q.2:=by
 unfold tau;rw [List.take_add_one,h,Option.toList_some,map_append,aZk]
 simp; grind
def aqtn (K:List Int) (rows:List (Int × Rat)) (t:Nat):Nat:=((rows.take t).filter fun q=>K.contains q.1).length
theorem aqh9 (K:List Int) {rows:List (Int × Rat)} {t:Nat} {q:Int × Rat} (h:rows[t]?=some q):aqtn K rows (t + 1)=aqtn K rows t + if K.contains q.1 then 1 else 0:=by
 unfold aqtn;rw [List.take_add_one,h];simp [List.filter_append,filter_cons];split <;> simp
theorem aqnj (K:List Int) {rows:List (Int × Rat)} (hnd:(rows.map (·.1)).Nodup) (t:Nat):aqtn K rows t <= K.length:=by
 have hn2:(((rows.take t).filter fun q=>K.contains q.1).map (·.1)).Nodup:=hnd.sublist (((filter_sublist).trans (take_sublist _ _)).map _)
 have:=aqn (l:=K) hn2 fun c hc=>by
  obtain ⟨q,hq,rfl⟩:=List.mem_map.mp hc;simpa using (List.mem_filter.mp hq).2
 rwa [length_map] at this
theorem aKd (p:Nat->Bool) (f:Nat->Rat):∀ l:List Nat,az l (fun i=>if p i=true then 0 else f i)=az l f - az (l.filter p) f
 | []=>by simp [az]; grind
 | i :: l=>by
  rw [aq,aq,aKd p f l,filter_cons];cases h:p i with
  | true=>simp [aq]; grind
  | false=>simp; grind
theorem aQd {n:Nat} {w:Nat->Rat} {lk:Nat->Int->Bool} (hw:∀ i,0 <= w i) (hN:0 < az (List.range n) w)
  (rows:List (Int × Rat)) (hnd:(rows.map (·.1)).Nodup) (P:Nat->Nat->Rat) (h0:∀ i,i < n->P 0 i=0) (hpos:∀ t i,t <= rows.length->i < n->0 <= P t i) (hW:∀ q∈rows,0 <= q.2)
  (hstep:∀ t c x,rows[t]?=some (c,x)->∀ i,i < n->P (t + 1) i=if lk i c=true then 0 else P t i + x)
  (hbuy:∀ t c x,rows[t]?=some (c,x)->az ((List.range n).filter (lk · c)) (fun i=>w i * (P t i + x))=az (List.range n) w)
  (hmin:∀ t c x,rows[t]?=some (c,x)->∀ d,(∀ q∈rows,q.1 ≠ d)->az ((List.range n).filter (lk · d)) (fun i=>w i * (P t i + x)) <= az (List.range n) w)
  (hm:0 < rows.length)
  (T:List Int) (hT:T.Nodup) (hL:0 < T.length) (K:List Int) (hK:K.length < T.length) (g:List Nat) (hg:g.Sublist (List.range n)) (hl:∀ i∈g,∀ c∈T,lk i c=true) (hin:∀ i∈g,∀ q∈rows,lk i q.1=true->q.1∈K) :
  (rows.length:Rat) * az g w < T.length * az (List.range n) w:=by
 generalize hNN:az (List.range n) w=N at *;have hLr:(0:Rat) < (T.length:Rat):=by exact_mod_cast hL
 have hgn:∀ i∈g,i < n:=fun i hi=>List.mem_range.mp (hg.subset hi)
 by_cases hgne:g=[]
 ·subst hgne
  rw [ajt]
  have:=Rat.mul_pos hLr hN
  grind
 obtain ⟨d,hdT,hd⟩:∃ d∈T,∀ q∈rows,q.1 ≠ d:=by
  false_or_by_contra;rename_i hno;obtain ⟨i,g',rfl⟩:=List.exists_cons_of_ne_nil hgne
  have:T.length <= K.length:=aqn hT fun c hcT=>by
   false_or_by_contra;rename_i hcn;refine hno ⟨c,hcT,fun q hq e=>hcn ?_⟩
   have:=hin i (by simp) q hq (by rw [e]; exact hl i (by simp) c hcT)
   rwa [e] at this
  omega
 have hsub:g.Sublist ((List.range n).filter (lk · d)):=by
  have:=hg.filter (lk · d)
  rwa [List.filter_eq_self.mpr fun i hi=>hl i hi d hdT] at this
 have stepsum:∀ (l:List Nat),(∀ i∈l,i < n)->∀ t c x,rows[t]?=some (c,x)->az l (fun i=>w i * P (t + 1) i)=az l (fun i=>w i * P t i) + az l w * x - az (l.filter (lk · c)) (fun i=>w i * (P t i + x)):=by
  intro l hln t c x hr;have e1:az l (fun i=>w i * P (t + 1) i)=az l (fun i=>if lk i c=true then 0 else w i * (P t i + x)):=aD fun i hi=>by
   rw [hstep t c x hr i (hln i hi)];split <;> grind
  rw [e1,aKd];have e2:az l (fun i=>w i * (P t i + x))=az l (fun i=>w i * P t i + w i * x):=aD fun i _=>by grind
  rw [e2,av2,aqy]
 have hrn:∀ i∈List.range n,i < n:=fun i hi=>List.mem_range.mp hi;have hA:∀ t,t <= rows.length->az (List.range n) (fun i=>w i * P t i)=N * tau rows t - (t:Rat) * N:=by
  intro t
  induction t with
  | zero =>
   intro _;have e1:az (List.range n) (fun i=>w i * P 0 i)=az (List.range n) (fun i=>w i * 0):=aD fun i hi=>by rw [h0 i (hrn i hi)]
   have z:((0:Nat):Rat)=0:=rfl;have z2:tau rows 0=0:=by simp [tau]
   rw [e1,aqy,z,z2]; grind
  | succ t ih =>
   intro ht;obtain ⟨⟨c,x⟩,hr⟩:∃ q,rows[t]?=some q:=⟨rows[t],getElem?_eq_getElem (by omega)⟩;have h1:=stepsum _ hrn t c x hr;have h2:=hbuy t c x hr;have h3:=ih (by omega);have h4:=aqd3 hr;have z:((t + 1:Nat):Rat)=(t:Rat) + 1:=by simp
   rw [h1,h2,h3,h4,z,hNN];grind
 have hB:∀ t,t <= rows.length->az g w * tau rows t - (aqtn K rows t:Rat) * N <= az g (fun i=>w i * P t i):=by
  intro t
  induction t with
  | zero =>
   intro _;have e1:az g (fun i=>w i * P 0 i)=az g (fun i=>w i * 0):=aD fun i hi=>by rw [h0 i (hgn i hi)]
   have z:((aqtn K rows 0:Nat):Rat)=0:=by simp [aqtn]
   have z2:tau rows 0=0:=by simp [tau]
   rw [e1,aqy,z,z2]; grind
  | succ t ih =>
   intro ht;obtain ⟨⟨c,x⟩,hr⟩:∃ q,rows[t]?=some q:=⟨rows[t],getElem?_eq_getElem (by omega)⟩;have hmem:(c,x)∈rows:=mem_of_getElem? hr;have hx:=hW _ hmem;have h1:=stepsum g hgn t c x hr;have h2:=hbuy t c x hr;have h3:=ih (by omega);have h4:=aqd3 hr;have h5:=aqh9 K hr;rw [h1,h4,h5]
   by_cases hcK:c∈K
   ·have a1:az (g.filter (lk · c)) (fun i=>w i * (P t i + x)) <= N:=by
     rw [<- h2];exact av1 (hg.filter _) fun i hi=>Rat.mul_nonneg (hw i) (by
      have:=hpos t i (by omega) (List.mem_range.mp (List.mem_filter.mp hi).1)
      grind)
    have z:(((aqtn K rows t + if K.contains c=true then 1 else 0:Nat)):Rat)=(aqtn K rows t:Rat) + 1:=by simp [hcK]
    rw [z];grind
   ·have a1:g.filter (lk · c)=[]:=by
     rw [List.filter_eq_nil_iff];intro i hi hlk;exact hcK (hin i hi _ hmem hlk)
    have z:(((aqtn K rows t + if K.contains c=true then 1 else 0:Nat)):Rat)=(aqtn K rows t:Rat):=by simp [hcK]
    rw [z,a1,ajt];grind
 have hend:az g (fun i=>w i * P rows.length i) <= N:=by
  obtain ⟨t,ht⟩:∃ t,rows.length=t + 1:=⟨rows.length - 1,by omega⟩;obtain ⟨⟨c,x⟩,hr⟩:∃ q,rows[t]?=some q:=⟨rows[t],getElem?_eq_getElem (by omega)⟩;have hx:=hW _ (mem_of_getElem? hr);have hp:∀ i,i < n->0 <= P t i:=fun i hi=>hpos t i (by omega) hi;have s1:az g (fun i=>w i * P rows.length i) <= az g (fun i=>w i * (P t i + x)):=awr fun i hi=>by
   rw [ht,hstep t c x hr i (hgn i hi)];refine Rat.mul_le_mul_of_nonneg_left ?_ (hw i)
   have:=hp i (hgn i hi)
   simp only at hx;split <;> grind
  have s2:az g (fun i=>w i * (P t i + x)) <= az ((List.range n).filter (lk · d)) (fun i=>w i * (P t i + x)):=av1 hsub fun i hi=>Rat.mul_nonneg (hw i) (by
   have:=hp i (List.mem_range.mp (List.mem_filter.mp hi).1)
   simp only at hx;grind)
  have s3:=hmin t c x hr d hd;grind
 have hAm:=hA rows.length (le_refl _);have hBm:=hB rows.length (le_refl _);have hBA:az g (fun i=>w i * P rows.length i) <= az (List.range n) (fun i=>w i * P rows.length i):=av1 hg fun i hi=>Rat.mul_nonneg (hw i) (hpos _ i (le_refl _) (hrn i hi));have hA0:0 <= az (List.range n) (fun i=>w i * P rows.length i):=ajj fun i hi=>Rat.mul_nonneg (hw i) (hpos _ i (le_refl _) (hrn i hi));have hwg:0 <= az g w:=ajj fun i _=>hw i;have hck:(aqtn K rows rows.length:Rat) * N <= (T.length:Rat) * N - N:=by
  have a2:=aqnj K hnd rows.length;have a3:aqtn K rows rows.length + 1 <= T.length:=by omega
  have a4:((aqtn K rows rows.length:Nat):Rat) + 1 <= (T.length:Rat):=by exact_mod_cast a3
  have a5:N * ((aqtn K rows rows.length:Nat):Rat) <= N * ((T.length:Rat) - 1):=Rat.mul_le_mul_of_nonneg_left (by grind) (by grind);grind
 have htau:(rows.length:Rat) <= tau rows rows.length:=by
  false_or_by_contra;rename_i hn
  have:=Rat.mul_lt_mul_of_pos_left (Rat.not_le.mp hn) hN
  grind
 by_cases hw0:az g w=0
 ·rw [hw0]
  have:=Rat.mul_pos hLr hN
  grind
 ·have hwp:0 < az g w:=by grind
  by_cases he:tau rows rows.length=(rows.length:Rat)
  ·rw [he] at hAm hBm
   grind
  ·have hlt:(rows.length:Rat) < tau rows rows.length:=by grind
   have:=Rat.mul_lt_mul_of_pos_left hlt hwp
   grind
theorem aqd5 {f g:Nat->Rat}:∀ {l:List Nat},(∀ i∈l,f i <= g i)->(∃ i∈l,f i < g i)->az l f < az l g
 | [],_,h=>by obtain ⟨i,hi,_⟩:=h; cases hi
 | j :: l,h,⟨i,hi,hlt⟩=>by
  rw [aq,aq];have h1:=h j (by simp);rcases List.mem_cons.mp hi with rfl | hi
  ·have h2:=awr (f:=f) (g:=g) (l:=l) fun k hk=>h k (by simp [hk])
   grind
  ·have h2:=aqd5 (f:=f) (g:=g) (l:=l) (fun k hk=>h k (by simp [hk])) ⟨i,hi,hlt⟩
   grind
def pays (l:List Nat) (w p:Nat->Rat) (r:Rat):Rat:=az l fun i=>w i * min (p i) r
theorem aqmc {l:List Nat} {w p:Nat->Rat} (hw:∀ i,0 <= w i) {x y:Rat} (h:x < y) {i:Nat} (hi:i∈l) (hwi:0 < w i) (hp:y <= p i):pays l w p x < pays l w p y:=by
 refine aqd5 (fun j _=>Rat.mul_le_mul_of_nonneg_left (by grind) (hw j)) ⟨i,hi,Rat.mul_lt_mul_of_pos_left ?_ hwi⟩;grind
theorem aqjb {l:List Nat} {w p:Nat->Rat} (hw:∀ i,0 <= w i) (r:Rat):pays l w p r <= az l fun i=>w i * p i :=
 awr fun i _=>Rat.mul_le_mul_of_nonneg_left (by grind) (hw i)
theorem aqds {l:List Nat} {w p:Nat->Rat} (hw:∀ i,0 <= w i) {r N:Rat} (hr:pays l w p r=N) {i:Nat} (hi:i∈l) (hwi:0 < w i) (hp:r <= p i):∀ x,x < r->pays l w p x < N:=fun x hx=>by
 rw [<- hr]; exact aqmc hw hx hi hwi hp
end MB
namespace MB
def aqu3 (D:Nat) (a:Rat):Prop:=∃ x:Int,a * (D:Rat)=(x:Rat)
theorem aqu3.add {D:Nat} {a b:Rat} (ha:aqu3 D a) (hb:aqu3 D b):aqu3 D (a + b):=by
 obtain ⟨x,hx⟩:=ha;obtain ⟨y,hy⟩:=hb;exact ⟨x + y,by rw [Rat.add_mul,hx,hy]; simp⟩
theorem aqu3.sub {D:Nat} {a b:Rat} (ha:aqu3 D a) (hb:aqu3 D b):aqu3 D (a - b):=by
 obtain ⟨x,hx⟩:=ha;obtain ⟨y,hy⟩:=hb;have e:(a - b) * (D:Rat)=a * D - b * D:=by grind
 exact ⟨x - y,by rw [e,hx,hy]; simp⟩
theorem aqu3.mulInt {D:Nat} {a:Rat} (ha:aqu3 D a) (n:Int):aqu3 D (a * n):=by
 obtain ⟨x,hx⟩:=ha;refine ⟨x * n,?_⟩;rw [Rat.mul_assoc,Rat.mul_comm (n:Rat),<- Rat.mul_assoc,hx]; simp
theorem aqu3.mn {D:Nat} {a b:Rat} (ha:aqu3 D a) (hb:aqu3 D b):aqu3 D (min a b):=by
 have:min a b=a \/ min a b=b:=by grind
 rcases this with e | e <;> rw [e] <;> assumption
theorem axa (D:Nat):(((D:Nat):Int):Rat)=(D:Rat):=rfl
theorem avf (D:Nat) (n:Int):aqu3 D (n:Rat):=⟨n * D,by simp [axa]⟩
theorem aqjr (a:Rat):a * (a.den:Rat)=(a.num:Rat):=by
 rw [<- aqmn];have e1:((a.den:Rat)).num=(a.den:Int):=by simp
 have e2:((a.den:Rat)).den=1:=by simp
 rw [e1,e2,Nat.mul_one];have e3:(a.num:Rat)=mkRat a.num 1:=by simp [Rat.mkRat_one]
 rw [e3,Rat.mkRat_eq_iff a.den_nz (by decide)]
 simp
theorem aqu3.dvd {D E:Nat} {a:Rat} (ha:aqu3 D a) (h:D ∣ E):aqu3 E a:=by
 obtain ⟨x,hx⟩:=ha;obtain ⟨e,rfl⟩:=h;refine ⟨x * e,?_⟩
 have:((D * e:Nat):Rat)=(D:Rat) * (e:Rat):=by simp
 rw [this,<- Rat.mul_assoc,hx]; simp [axa]
theorem aqu3.den {D:Nat} {a:Rat} (ha:aqu3 D a):a.den ∣ D:=by
 obtain ⟨x,hx⟩:=ha;have h1:a.num * (D:Int)=x * (a.den:Int):=by
  have h2:a * (a.den:Rat)=(a.num:Rat):=aqjr a;have h3:((a.num * (D:Int):Int):Rat)=((x * (a.den:Int):Int):Rat):=by
   have e1:((a.num * (D:Int):Int):Rat)=(a.num:Rat) * (D:Rat):=by simp [axa]
   have e2:((x * (a.den:Int):Int):Rat)=(x:Rat) * (a.den:Rat):=by simp [axa]
   rw [e1,e2,<- hx,<- h2]; grind
  exact_mod_cast h3
 have h4:a.den ∣ a.num.natAbs * D:=by
  have:=congrArg Int.natAbs h1
  rw [Int.natAbs_mul,Int.natAbs_mul,Int.natAbs_natCast,Int.natAbs_natCast] at this;exact ⟨x.natAbs,by rw [this,mul_comm]⟩
 exact (Nat.Coprime.dvd_of_dvd_mul_left (Nat.Coprime.symm a.reduced) h4)
theorem aqu3.bd {D d m:Nat} {a:Rat} (ha:aqu3 D a) (hD:0 < D) (hd:D < 2 ^ d) (hlo:-((2 ^ m:Nat):Rat) <= a) (hhi:a <= ((2 ^ m:Nat):Rat)):Bd (m + d) d a:=by
 have h1:a.den <= D:=Nat.le_of_dvd hD ha.den;refine ⟨?_,lt_of_le_of_lt h1 hd⟩;have hden:(0:Rat) <= (a.den:Rat):=by exact_mod_cast zero_le _
 have e:=aqjr a;have u1:(a.den:Rat) * a <= (a.den:Rat) * ((2 ^ m:Nat):Rat):=Rat.mul_le_mul_of_nonneg_left hhi hden;have u2:(a.den:Rat) * (-((2 ^ m:Nat):Rat)) <= (a.den:Rat) * a:=Rat.mul_le_mul_of_nonneg_left hlo hden;have v1:(a.num:Rat) <= ((a.den * 2 ^ m:Nat):Rat):=by
  have:((a.den * 2 ^ m:Nat):Rat)=(a.den:Rat) * ((2 ^ m:Nat):Rat):=by simp
  rw [this]; grind
 have v2:-((a.den * 2 ^ m:Nat):Rat) <= (a.num:Rat):=by
  have:((a.den * 2 ^ m:Nat):Rat)=(a.den:Rat) * ((2 ^ m:Nat):Rat):=by simp
  rw [this]; grind
 have w1:a.num <= ((a.den * 2 ^ m:Nat):Int):=by exact_mod_cast v1
 have w2:-((a.den * 2 ^ m:Nat):Int) <= a.num:=by
  have v3:(-a.num:Rat) <= ((a.den * 2 ^ m:Nat):Rat):=by grind
  have v4:((-a.num:Int):Rat) <= ((a.den * 2 ^ m:Nat):Rat):=by simpa using v3
  have v5:-a.num <= ((a.den * 2 ^ m:Nat):Int):=by exact_mod_cast v4
  omega
 have w3:a.num.natAbs <= a.den * 2 ^ m:=by omega
 have w4:a.den * 2 ^ m < 2 ^ d * 2 ^ m:=Nat.mul_lt_mul_of_pos_right (lt_of_le_of_lt h1 hd) (Nat.pos_of_ne_zero (by simp));rw [pow_add,mul_comm (2 ^ m)];omega
end MB
namespace MB
open PySem DL
theorem aqex (m n:Nat):((m:Int)).fdiv (n:Int)=((m / n:Nat):Int):=by
 rw [Int.fdiv_eq_ediv_of_nonneg _ (by omega)]; rfl
def cbF (b:Nat) (q:Rat):Nat:=b * (q.den / Nat.gcd b q.den)
def cb (l:List Rat):Nat:=l.foldl cbF 1
theorem aqbs (b:Nat) (q:Rat):cbF b q=Nat.lcm b q.den:=by
 unfold cbF Nat.lcm;rw [Nat.mul_div_assoc _ (Nat.gcd_dvd_right b q.den)]
theorem aqha:∀ (l:List Rat) (b:Nat),0 < b->0 < l.foldl cbF b/\b ∣ l.foldl cbF b/\(∀ q∈l,q.den ∣ l.foldl cbF b)/\∀ D,b ∣ D->(∀ q∈l,q.den ∣ D)->l.foldl cbF b ∣ D
 | [],b,h=>⟨h,Nat.dvd_refl _,by simp,fun D h _=>h⟩
 | q :: l,b,h=>by
  have hp:0 < cbF b q:=by rw [aqbs]; exact Nat.lcm_pos h q.den_pos
  obtain ⟨a1,a2,a3,a4⟩:=aqha l (cbF b q) hp;have d1:b ∣ cbF b q:=by rw [aqbs]; exact Nat.dvd_lcm_left _ _
  have d2:q.den ∣ cbF b q:=by rw [aqbs]; exact Nat.dvd_lcm_right _ _
  refine ⟨a1,dvd_trans d1 a2,fun r hr=>?_,fun D hb hq=>a4 D ?_ fun r hr=>hq r (by simp [hr])⟩
  ·rcases List.mem_cons.mp hr with rfl | hr
   ·exact dvd_trans d2 a2
   ·exact a3 r hr
  ·rw [aqbs]; exact Nat.lcm_dvd hb (hq q (by simp))
theorem aqa3 (l:List Rat):0 < cb l:=(aqha l 1 (by decide)).1
theorem aqhb {l:List Rat} {q:Rat} (h:q∈l):q.den ∣ cb l:=(aqha l 1 (by decide)).2.2.1 q h
theorem aqa4 {l:List Rat} {D:Nat} (h:∀ q∈l,q.den ∣ D):cb l ∣ D:=(aqha l 1 (by decide)).2.2.2 D (Nat.one_dvd _) h
theorem aqnk (l:List Rat) (q:Rat):cb (l++[q])=cbF (cb l) q:=by simp [cb]
def aqsc (b:Nat) (q:Rat):Int:=q.num * ((b / q.den:Nat):Int)
theorem aqd2 {b:Nat} {q:Rat} (h:q.den ∣ b):(aqsc b q:Rat)=q * (b:Rat):=by
 obtain ⟨k,rfl⟩:=h;have e:q.den * k / q.den=k:=Nat.mul_div_cancel_left k q.den_pos;unfold aqsc;rw [e];have e1:((q.den * k:Nat):Rat)=(q.den:Rat) * (k:Rat):=by simp
 have e2:((q.num * (k:Int):Int):Rat)=(q.num:Rat) * (k:Rat):=by simp [axa]
 rw [e1,e2,<- Rat.mul_assoc,aqjr]
def aZ (P:List Rat):D:=.lst (P.map frD)
@[simp] theorem aqmp (P:List Rat):akv (aZ P)=some (P.map frD):=rfl
@[simp] theorem aqel (P:List Rat):imm (aZ P)=false:=by simp [aZ]
def azu (t:Nat) (P:List Rat):Prop:=∃ D:Nat,0 < D/\D < 2 ^ (80 * t + 1)/\∀ q∈P,aqu3 D q/\0 <= q/\q <= ((t * 2 ^ 80:Nat):Rat)
theorem azu.bd {t:Nat} {P:List Rat} (h:azu t P) (ht:t <= 20) {q:Rat} (hq:q∈P):Bd 1800 1700 q:=by
 obtain ⟨D,h1,h2,h3⟩:=h;obtain ⟨o,q0,q1⟩:=h3 q hq;have hm:((t * 2 ^ 80:Nat):Rat) <= ((2 ^ 85:Nat):Rat):=by
  have:t * 2 ^ 80 <= 2 ^ 85:=le_trans (mul_le_mul_right _ (le_trans ht (by decide:20 <= 32))) (by decide)
  exact_mod_cast this
 have hz:(0:Rat) <= ((2 ^ 85:Nat):Rat):=by exact_mod_cast zero_le _
 exact (o.bd (m:=85) h1 h2 (by grind) (by grind)).mono (by omega) (by omega)
theorem azu.cb {t:Nat} {P:List Rat} (h:azu t P) (ht:t <= 20):cb P < 2 ^ 1700:=by
 obtain ⟨D,h1,h2,h3⟩:=h
 have:=Nat.le_of_dvd h1 (aqa4 fun q hq=>(h3 q hq).1.den)
 exact lt_of_le_of_lt this (lt_of_lt_of_le h2 (pow_le_pow_right (by decide) (by omega)))
theorem azu.sub {t:Nat} {P Q:List Rat} (h:azu t P) (hs:∀ q∈Q,q∈P):azu t Q:=by
 obtain ⟨D,h1,h2,h3⟩:=h;exact ⟨D,h1,h2,fun q hq=>h3 q (hs q hq)⟩
theorem azu.top {t:Nat} {P:List Rat} (h:azu t P) (ht:t <= 20) {q:Rat} (hq:q∈P) {b:Nat} (hb:b < 2 ^ 1700):Sz 3600 (aqsc b q):=by
 have h1:=(h.bd ht hq).num;have h2:Sz 1700 ((b / q.den:Nat):Int):=by
  show ((b / q.den:Nat):Int).natAbs < _;rw [Int.natAbs_natCast];exact lt_of_le_of_lt (Nat.div_le_self _ _) hb
 exact (h1.mul h2).mono (by decide)
end MB
namespace MB
def quo (w:List Int) (n:List Nat) (k:Nat):Rat:=mkRat (w.getD k 0) (n.getD k 0 + 1)
def freeL (c:List Int) (n:List Nat):List Nat:=(List.range n.length).filter fun k=>decide ((n.getD k 0:Int) < c.getD k 0)
def offs (w c:List Int) (n:List Nat):List (Nat × Rat):=(freeL c n).map fun k=>(k,quo w n k)
def gst:Option (Nat × Rat)->(Nat × Rat)->Option (Nat × Rat)
 | none,o=>some o
 | some f,o=>if f.2 < o.2 then some o else some f
def gre (l:List (Nat × Rat)):Option (Nat × Rat):=l.foldl gst none
def dlS (w c:List Int) (d:List Nat × Option Rat):List Nat × Option Rat:=match gre (offs w c d.1) with
 | none=>d
 | some o=>(d.1.set o.1 (d.1.getD o.1 0 + 1),some o.2)
def dl (w c:List Int):Nat->List Nat × Option Rat
 | 0=>(List.replicate w.length 0,none)
 | s + 1=>dlS w c (dl w c s)
structure Dealt (w c:List Int) (s:Nat) (n:List Nat) (q:Option Rat):Prop where
 len:n.length=w.length
 cap:∀ k,k < n.length->(n.getD k 0:Int) <= c.getD k 0
 sum:n.sum=s \/ n.sum < s/\∀ k,k < n.length->(n.getD k 0:Int)=c.getD k 0
 non:q=none->∀ k,n.getD k 0=0
 met:∀ r,q=some r->∃ k,k < n.length/\0 < n.getD k 0/\mkRat (w.getD k 0) (n.getD k 0)=r
 low:∀ r,q=some r->∀ k,k < n.length->0 < n.getD k 0->r <= mkRat (w.getD k 0) (n.getD k 0)
 top:∀ r,q=some r->∀ k,k < n.length->(n.getD k 0:Int) < c.getD k 0->mkRat (w.getD k 0) (n.getD k 0 + 1) <= r
end MB
namespace MB
open PySem DL
end MB
namespace MB
def sc (b:Int) (o:Nat × Rat):Nat × Rat:=(o.1,o.2 * (b:Rat))
end MB
namespace MB
def aqga:List (Int × Int)->Int->Int->Option (Int × Int)
 | [],_,_=>none
 | q :: l,rest,W=>if rest <= W * q.1 then some (rest,W) else aqga l (rest - q.2 * q.1) (W - q.2)
def aqse (l:List (Int × Int)):Int:=(l.map fun q=>q.2).sum
def sumT (l:List (Int × Int)):Int:=(l.map fun q=>q.2 * q.1).sum
def capS (l:List (Int × Int)) (x:Rat):Rat:=(l.map fun q=>(q.2:Rat) * min (q.1:Rat) x).sum
theorem av0:∀ {l:List (Int × Int)},(∀ q∈l,1 <= q.2)->0 <= aqse l
 | [],_=>by simp [aqse]
 | q :: l,h=>by
  have h1:=h q (by simp);have h2:=av0 (l:=l) fun q hq=>h q (by simp [hq]);simp only [aqse,map_cons,sum_cons] at h2 ⊢; omega
theorem aW0 {rest W t w:Int} (hr:¬ rest <= W * t):(W - w) * t < rest - w * t:=by
 rw [Int.sub_mul]; omega
theorem aKm:∀ (l:List (Int × Int)) (rest W:Int),(∀ q∈l,0 <= q.1/\1 <= q.2)->W=aqse l->0 < rest->aqga l rest W=none->sumT l < rest
 | [],rest,W,_,_,hp,_=>by simpa [sumT] using hp
 | q :: l,rest,W,hq,hW,hp,e=>by
  unfold aqga at e;split at e
  ·cases e
  ·rename_i hr
   have hq1:=hq q (by simp);have hl:∀ q∈l,0 <= q.1/\1 <= q.2:=fun q hm=>hq q (by simp [hm]);have hW':W - q.2=aqse l:=by rw [hW]; simp [aqse]; omega
   have h0:=av0 (l:=l) fun q hm=>(hl q hm).2;have hp':0 < rest - q.2 * q.1:=by
    have:=aW0 (w:=q.2) hr
    have:0 <= (W - q.2) * q.1:=Int.mul_nonneg (by omega) hq1.1
    omega
   have ih:=aKm l _ _ hl hW' hp' e;simp only [sumT,map_cons,sum_cons] at ih ⊢;omega
theorem aql0 {l:List (Int × Int)} {x:Rat} (h:∀ q∈l,x <= (q.1:Rat)):capS l x=(aqse l:Rat) * x:=by
 induction l with
 | nil=>simp only [capS,aqse,map_nil,List.sum_nil]; grind
 | cons q l ih =>
  have h1:=h q (by simp);have h2:=ih fun q hq=>h q (by simp [hq]);have hm:min (q.1:Rat) x=x:=by grind
  simp only [capS,aqse,map_cons,sum_cons] at h2 ⊢;rw [h2,hm];push_cast;grind
theorem aKl:∀ (l:List (Int × Int)) (rest W t0 ρ V:Int),(∀ q∈l,0 <= q.1/\1 <= q.2)->l.Pairwise (fun a b=>a.1 <= b.1)->(∀ q∈l,t0 <= q.1)->W=aqse l->0 < rest->W * t0 <= rest->aqga l rest W=some (ρ,V) ->
  0 < ρ/\ρ <= rest/\1 <= V/\V <= W/\t0 * V <= ρ/\∀ x:Rat,x * (V:Rat)=(ρ:Rat)->capS l x=(rest:Rat)/\∃ q∈l,x <= (q.1:Rat)
 | [],_,_,_,_,_,_,_,_,_,_,_,e=>by cases e
 | q :: l,rest,W,t0,ρ,V,hq,hs,ht,hW,hp,h0,e=>by
  have hq1:=hq q (by simp);have hl:∀ q∈l,0 <= q.1/\1 <= q.2:=fun q hm=>hq q (by simp [hm]);have hW':W - q.2=aqse l:=by rw [hW]; simp [aqse]; omega
  have hn:=av0 (l:=l) fun q hm=>(hl q hm).2;rw [pairwise_cons] at hs;unfold aqga at e;split at e
  ·rename_i hr
   cases e;refine ⟨hp,Int.le_refl _,by omega,Int.le_refl _,by rw [Int.mul_comm]; exact h0,fun x hx=>?_⟩;have Vp:(0:Rat) < (W:Rat):=by exact_mod_cast (by omega:0 < W)
   have hxq:x <= (q.1:Rat):=by
    have hr':(rest:Rat) <= (q.1:Rat) * (W:Rat):=by
     have:rest <= q.1 * W:=by rw [Int.mul_comm]; exact hr
     exact_mod_cast this
    rw [<- hx] at hr';exact Rat.le_of_mul_le_mul_right hr' Vp
   refine ⟨?_,q,by simp,hxq⟩;rw [aql0 fun r hm=>?_]
   ·rw [<- hW,<- hx,Rat.mul_comm]
   ·rcases List.mem_cons.mp hm with rfl | hm
    ·exact hxq
    ·have:(q.1:Rat) <= (r.1:Rat):=by exact_mod_cast hs.1 r hm
     exact Rat.le_trans hxq this
  ·rename_i hr
   have hlt:=aW0 (w:=q.2) hr;have hge:0 <= (W - q.2) * q.1:=Int.mul_nonneg (by omega) hq1.1;have hwt:0 <= q.2 * q.1:=Int.mul_nonneg (by omega) hq1.1;obtain ⟨r1,r2,r3,r4,r5,r6⟩:=aKl l (rest - q.2 * q.1) (W - q.2) q.1 ρ V hl hs.2 (fun r hm=>hs.1 r hm) hW' (by omega) (by omega) e;refine ⟨r1,by omega,r3,by omega,Int.le_trans (Int.mul_le_mul_of_nonneg_right (ht q (by simp)) (by omega)) r5,fun x hx=>?_⟩;obtain ⟨c1,p,c2,c3⟩:=r6 x hx;refine ⟨?_,p,by simp [c2],c3⟩;have Vp:(0:Rat) < (V:Rat):=by exact_mod_cast (by omega:0 < V)
   have hqx:(q.1:Rat) <= x:=by
    have:(q.1:Rat) * (V:Rat) <= (ρ:Rat):=by exact_mod_cast r5
    rw [<- hx] at this;exact Rat.le_of_mul_le_mul_right this Vp
   have hm:min (q.1:Rat) x=(q.1:Rat):=by grind
   simp only [capS,map_cons,sum_cons] at c1 ⊢;rw [c1,hm];push_cast;grind
end MB
namespace L_k80
open PySem DL
noncomputable def ak6:Blk :=
 (aqts (mO [true] (aqe6 [none,some 0] (gd (fC (.int 6)) aqty) (geN 0) (qV (f2 dEq (f2 aqtf (f2 aqti (aqt7 1) (f2 dIx (fL (aqsv (aqlf [1,2,4,8,16,32]))) (aqt7 0))) (fC (.int 2))) (fC (.int 1)))) (oE (aqt7 0)))))
noncomputable def axs:List D->Option D:=aqsk 1 ak6
noncomputable def axk:Blk :=
 (aqtr (aqtq 2 (mE [true,false,false,false,false] (f2 aqtf (f2 aqte (aqt7 0) (fC (.int 48271))) (fC (.int 2147483647)))))
  (aqtr (aqtq 3 (mE [false,false,true,false,false] (aA 1 axs (gd (aqt7 2) aqty))))
  (aqtr (bIf (qV (f2 dEq (f2 aqtf (f2 aqti (aqt7 2) (fC (.int 64))) (fC (.int 3))) (fC (.int 0)))) (aqtq 3 (mO [false,false,false,true,false] (oSl (aqt7 3) ptN (ptE (fC (.int 2)))))) aqtt)
  (aqtr (aqtq 4 (mE [false,true,true,false,false] (f2 aqte (aqt7 1) (f2 aqtl (fC (.int 1)) (f2 aqtf (f2 aqti (aqt7 2) (fC (.int 192))) (fC (.int 6)))))))
  (aqtr (bIf (qV (f2 dEq (f2 aqtf (f2 aqti (aqt7 2) (fC (.int 1152))) (fC (.int 4))) (fC (.int 0)))) (aqtq 4 (mE [true,false,false,false,false] (f2 aqtl (fC (.int 1)) (f2 aqtf (f2 aqti (aqt7 0) (fC (.int 7))) (f2 dPow (fC (.int 10)) (fC (.int 18))))))) aqtt)
  (aqts (mE [false,false,false,true,true] (aqt8 (gd (aqt7 4) (gd (aqt7 3) aqty))))))))))
noncomputable def aqe:List D->Option D:=aqsk 5 axk
noncomputable def aQq:Blk :=
 (aqts (mO [true,true] (aqa [none,some 1] (aqt7 0) (geN 0) qT (oE (aA 2 aqe (gd (aqt7 0) (gd (aqt7 1) aqty)))))))
noncomputable def azr:List D->Option D:=aqsk 2 aQq
noncomputable def aQp:Blk :=
 (aqts (mE [true] (f2 dIx (fL (aqsv (gd (fC (.int 1)) (gd (f2 aqtl (fC (.int 1)) (f2 aqtf (f2 aqti (aqt7 0) (fC (.int 5))) (fC (.int 1000)))) (gd (f2 aqtl (fC (.int 1)) (f2 aqtf (f2 aqti (aqt7 0) (fC (.int 5))) (f2 dPow (fC (.int 10)) (fC (.int 17))))) aqty))))) (f2 aqtf (aqt7 0) (fC (.int 3))))))
noncomputable def azq:List D->Option D:=aqsk 1 aQp
noncomputable def azt:Blk :=
 (aqtr (bIf (qV (f2 dLt (aqt7 1) (aqt9 aqtg (gd (aqt7 0) aqty)))) (aqts (mE [true,true] (f2 dIx (aqt7 0) (aqt7 1)))) aqtt)
  (aqtr (bIf (qV (f2 dEq (aqt7 0) (fL (aqsv aqty)))) (aqts (mE [false,true] (f2 aqtl (f2 aqte (f2 aqte (aqt7 1) (aqt7 1)) (fC (.int 7919))) (f2 aqte (fC (.int 13)) (aqt7 1))))) aqtt)
  (aqts (mE [true,true] (f2 aqtf (f2 aqte (f2 aqtl (f2 aqtl (f2 dIx (aqt7 0) (f2 aqtf (aqt7 1) (aqt9 aqtg (gd (aqt7 0) aqty)))) (f2 aqte (f2 aqte (aqt7 1) (aqt7 1)) (fC (.int 7919)))) (fC (.int 1))) (fC (.int 48271))) (fC (.int 2147483647)))))))
noncomputable def aU:List D->Option D:=aqsk 2 azt
noncomputable def axh:Blk :=
 (aqts (mO [true,true] (aqa [none,some 1] (aqt7 0) (geN 0) qT (oE (aqt8 (gd (aqt7 1) (gd (fC (.int 1)) aqty)))))))
noncomputable def aB:List D->Option D:=aqsk 2 axh
noncomputable def aqfp:Blk :=
 (aqts (mE [true,true] (f2 dLt (f2 aqte (f2 dIx (aqt7 0) (fC (.int 0))) (f2 dIx (aqt7 1) (fC (.int 1)))) (f2 aqte (f2 dIx (aqt7 1) (fC (.int 0))) (f2 dIx (aqt7 0) (fC (.int 1)))))))
noncomputable def aQx:List D->Option D:=aqsk 2 aqfp
noncomputable def awn:Blk :=
 (bIf (qOr (qV (f2 dIs (aqt7 1) (fC .non))) (qV (aA 2 aQx (gd (f2 dIx (aqt7 2) (fC (.int 1))) (gd (f2 dIx (aqt7 1) (fC (.int 1))) aqty))))) (aqtq 1 (mE [false,false,true] (aqt7 2))) aqtt)
noncomputable def aqfk:Blk :=
 (aqtr (aqtq 1 (mE [false,false,false] (fC .non)))
  (aqtr (aqtu [true,false,false] (aqt7 0) (gN 2) awn)
  (aqts (mE [false,true,false] (aqt7 1)))))
noncomputable def avq:List D->Option D:=aqsk 3 aqfk
noncomputable def aQi:Blk :=
 (aqts (mE [true] (aqt9 dSum (gd (fL (aqa [none,none] (aqt7 0) (aqt4 [(geN 0),(geN 1)]) qT (oE (aqt7 0)))) aqty))))
noncomputable def aI:List D->Option D:=aqsk 1 aQi
noncomputable def ak2:Blk :=
 (aqts (mE [true,true] (aqt9 aqtk (gd (fL (aqa [none,some 0] (aqt7 1) (geN 0) qT (oE (f2 dIn (aqt7 0) (f2 dIx (aqt7 1) (fC (.int 1))))))) aqty))))
noncomputable def aq0:List D->Option D:=aqsk 2 ak2
noncomputable def aqae:Blk :=
 (aqts (mO [true,true] (aqe7 [none,none,some 1] (aqt7 0) (aqt4 [(geN 0),(geN 1)]) (qV (aA 2 aq0 (gd (aqt7 1) (gd (aqt7 2) aqty)))) (oE (aqt7 0)))))
noncomputable def aj6:List D->Option O:=aqsi 2 aqae
noncomputable def aqac:Blk :=
 (aqts (mO [true,true] (aXa 2 aj6 (gd (aqt7 0) (gd (fL (aqsv (gd (aqt7 1) aqty))) aqty)))))
noncomputable def aX:List D->Option O:=aqsi 2 aqac
noncomputable def aQo:Blk :=
 (aqtr (aqtq 4 (mE [false,false,true,true,false] (f2 aqtf (aqt7 2) (aqt7 3))))
  (aqtr (aqtq 2 (mE [false,false,false,true,false] (aqt7 3)))
  (aqtq 3 (mE [false,false,false,false,true] (aqt7 4)))))
noncomputable def aV6:Blk :=
 (aqtr (aqtq 2 (mE [true,false,false,false,false] (aqt9 dAbs (gd (aqt7 0) aqty))))
  (aqtr (aqtq 3 (mE [false,true,false,false,false] (aqt9 dAbs (gd (aqt7 1) aqty))))
  (aqtr (awo (qV (f2 dNe (aqt7 3) (fC (.int 0)))) aQo)
  (aqts (mE [false,false,true,false,false] (aqt7 2))))))
noncomputable def axc:List D->Option D:=aqsk 5 aV6
noncomputable def aj8:Blk :=
 (aqtq 1 (mE [false,true,false,true] (f2 aqte (aqt7 1) (f2 aqti (aqt7 3) (aA 2 axc (gd (aqt7 1) (gd (aqt7 3) aqty)))))))
noncomputable def azg:Blk :=
 (aqtr (aqtq 1 (mE [false,false,false,false] (fC (.int 1))))
  (aqtr (aqtu [true,false,false,false] (aqt7 0) (gTp [(gN 2),(gN 3)]) aj8)
  (aqts (mE [false,true,false,false] (aqt7 1)))))
noncomputable def ay:List D->Option D:=aqsk 4 azg
noncomputable def aQk:Blk :=
 (aqts (mO [true,true] (aqa [none,none,some 0] (aqt7 1) (aqt4 [(geN 0),(geN 1)]) qT (oE (f2 aqte (aqt7 0) (f2 aqti (aqt7 2) (aqt7 1)))))))
noncomputable def aS:List D->Option D:=aqsk 2 aQk
noncomputable def aQj:Blk :=
 (aqts (mE [true,true] (aqt9 dSum (gd (fL (aqa [none,some 0] (aqt7 1) (geN 0) qT (oE (f2 dIx (f2 dIx (aqt7 1) (aqt7 0)) (fC (.int 0)))))) aqty))))
noncomputable def aqp:List D->Option D:=aqsk 2 aQj
noncomputable def aqfh:Blk :=
 (aqtr (bIf (qV (f2 dEq (aqt7 1) (fC (.int 0)))) bNever aqtt)
  (aqtr (aqtq 2 (mE [true,true,false] (aA 2 axc (gd (aqt7 0) (gd (aqt7 1) aqty)))))
  (aqtr (bIf (qV (f2 dLt (aqt7 1) (fC (.int 0)))) (aqtq 2 (mE [false,false,true] (f1 dNeg (aqt7 2)))) aqtt)
  (aqts (mE [true,true,true] (aqt8 (gd (f2 aqti (aqt7 0) (aqt7 2)) (gd (f2 aqti (aqt7 1) (aqt7 2)) aqty))))))))
noncomputable def avl:List D->Option D:=aqsk 3 aqfh
noncomputable def ak0:Blk :=
 (aqtr (bIf (qV (f2 dLe (aqt7 7) (f2 aqte (aqt7 8) (aqt7 9)))) (aqts (mE [false,false,false,false,false,true,false,true,true,false,false] (aA 2 avl (gd (aqt7 7) (gd (f2 aqte (aqt7 8) (aqt7 5)) aqty))))) aqtt)
  (aqtr (aqtq 7 (mE [true,false,false,false,false,false,false,true,false,true,true] (f2 dSub (aqt7 7) (f2 aqte (f2 dIx (f2 dIx (aqt7 0) (aqt7 10)) (fC (.int 0))) (aqt7 9)))))
  (aqtq 8 (mE [true,false,false,false,false,false,false,false,true,false,true] (f2 dSub (aqt7 8) (f2 dIx (f2 dIx (aqt7 0) (aqt7 10)) (fC (.int 0))))))))
noncomputable def aqhg:Blk :=
 (aqtr (aqtq 4 (mO [true,false,true,false,false,false,false,false,false,false,false] (aXa 2 aX (gd (aqt7 0) (gd (aqt7 2) aqty)))))
  (aqtr (aqtq 5 (mE [false,true,false,false,true,false,false,false,false,false,true] (aA 1 ay (gd (fL (aqa [none,some 1] (aqt7 4) (geN 0) qT (oE (f2 dIx (aqt7 1) (aqt7 0))))) aqty))))
  (aqtr (aqtq 6 (mE [false,true,false,false,true,true,false,false,false,false,true] (aA 2 aS (gd (aqt7 5) (gd (fL (aqa [none,some 1] (aqt7 4) (geN 0) qT (oE (f2 dIx (aqt7 1) (aqt7 0))))) aqty)))))
  (aqtr (aqtq 7 (mE [false,false,false,true,false,true,false,false,false,false,false] (f2 aqte (aqt7 3) (aqt7 5))))
  (aqtr (aqtq 8 (mE [true,false,false,false,true,false,false,false,false,false,false] (aA 2 aqp (gd (aqt7 0) (gd (aqt7 4) aqty)))))
  (aqtr (aqtu [false,false,false,false,true,false,true,false,false,false,false] (fL (aqsw aVr (gd (aqt7 6) (gd (aqt7 4) aqty)))) (gTp [(gN 9),(gN 10)]) ak0)
  (aqts (mE [false,false,false,false,false,false,false,false,false,false,false] (fC .non)))))))))
noncomputable def aYq:List D->Option D:=aqsk 11 aqhg
noncomputable def aV4:Blk :=
 (bExt 1 [false,false,false,true] aqsr (aqt7 3))
noncomputable def aqfj:Blk :=
 (aqtr (aqtq 1 (mO [false,false,false,false] (aqsv aqty)))
  (aqtr (aqtu [true,false,false,false] (aqt7 0) (gTp [(gN 2),(gN 3)]) aV4)
  (aqts (mO [false,true,false,false] (aqsw aVs (gd (aqt7 1) aqty))))))
noncomputable def axb:List D->Option O:=aqsi 4 aqfj
noncomputable def aqab:Blk :=
 (aqtr (aqtq 3 (mO [false,false,true,false,false,false] (aqa [none] (aqt7 2) (geN 0) qT (oE (f2 dIx (aqt7 0) (fC (.int 0)))))))
  (aqtr (aqtq 4 (mE [true,false,false,false,false,false] (aA 1 aI (gd (aqt7 0) aqty))))
  (aqtr (aqtq 5 (mO [true,true,false,true,true,false] (aqa [none,some 0,some 1,some 4,some 3] (fL (aXa 1 axb (gd (aqt7 0) aqty))) (geN 0) (qV (f2 aQ8 (aqt7 0) (aqt7 4))) (oE (aqt8 (gd (aqt7 0) (gd (aA 4 aYq (gd (aqt7 1) (gd (aqt7 2) (gd (aqt7 0) (gd (aqt7 3) aqty))))) aqty)))))))
  (aqts (mO [false,false,false,false,false,true] (aqa [none] (aqt7 5) (geN 0) (qV (f2 aqth (f2 dIx (aqt7 0) (fC (.int 1))) (fC .non))) (oE (aqt7 0))))))))
noncomputable def avo:List D->Option D:=aqsk 6 aqab
noncomputable def aqfi:Blk :=
 (aqts (mE [true,true] (aA 2 avl (gd (f2 dSub (f2 aqte (f2 dIx (aqt7 0) (fC (.int 0))) (f2 dIx (aqt7 1) (fC (.int 1)))) (f2 aqte (f2 dIx (aqt7 1) (fC (.int 0))) (f2 dIx (aqt7 0) (fC (.int 1))))) (gd (f2 aqte (f2 dIx (aqt7 0) (fC (.int 1))) (f2 dIx (aqt7 1) (fC (.int 1)))) aqty)))))
noncomputable def avp:List D->Option D:=aqsk 2 aqfi
noncomputable def axg:Blk :=
 (aqtr (bIf (qV (aA 2 aQx (gd (aqt7 0) (gd (aqt7 1) aqty)))) (aqts (mE [false,false] (aqt8 (gd (fC (.int 0)) (gd (fC (.int 1)) aqty))))) aqtt)
  (aqts (mE [true,true] (aA 2 avp (gd (aqt7 0) (gd (aqt7 1) aqty))))))
noncomputable def aqq:List D->Option D:=aqsk 2 axg
noncomputable def aqa9:Blk :=
 (bPut 4 [false,false,false,false,false,true] aqsr (aqt7 5) (mE [false,true,false,true,false,true] (aA 2 aqq (gd (f2 dIx (aqt7 1) (aqt7 5)) (gd (aqt7 3) aqty)))))
noncomputable def aql6:Blk :=
 (aqtr (aqtq 4 (mO [false,true,false,false,false,false] (aqsw aZd (gd (aqt7 1) aqty))))
  (aqtr (aqtu [true,false,true,false,false,false] (fL (aXa 2 aX (gd (aqt7 0) (gd (aqt7 2) aqty)))) (gN 5) aqa9)
  (aqts (mE [false,false,false,false,true,false] (aqt7 4)))))
noncomputable def aqeb:List D->Option D:=aqsk 6 aql6
noncomputable def aXu:Blk :=
 (aqtr (aqtq 2 (mE [true,false,true,false,true] (aA 4 aqeb (gd (aqt7 0) (gd (aqt7 2) (gd (f2 dIx (aqt7 4) (fC (.int 0))) (gd (f2 dIx (aqt7 4) (fC (.int 1))) aqty)))))))
  (aqtr (bMut 3 [false,false,false,false,false] aqsr (mE [false,false,true,false,true] (aqt8 (gd (f2 dIx (aqt7 4) (fC (.int 0))) (gd (f2 dIx (aqt7 4) (fC (.int 1))) (gd (aqt7 2) aqty))))) aqt5)
  (aqtq 4 (mE [true,false,true,true,false] (aA 1 avq (gd (aA 3 avo (gd (aqt7 0) (gd (aqt7 2) (gd (aqt7 3) aqty)))) aqty))))))
noncomputable def aqa8:Blk :=
 (aqtr (aqtq 2 (mE [true,true,false,false,false] (aA 2 aB (gd (aqt7 0) (gd (aqt7 1) aqty)))))
  (aqtr (aqtq 3 (mO [false,false,false,false,false] (aqsv aqty)))
  (aqtr (aqtq 4 (mE [true,false,true,true,false] (aA 1 avq (gd (aA 3 avo (gd (aqt7 0) (gd (aqt7 2) (gd (aqt7 3) aqty)))) aqty))))
  (aqtr (awo (qV (f2 aqth (aqt7 4) (fC .non))) aXu)
  (aqts (mE [false,false,false,true,false] (aqt7 3)))))))
noncomputable def avm:List D->Option D:=aqsk 5 aqa8
noncomputable def azh:Blk :=
 (aqts (mO [true] (aqa [none] (aqt7 0) (geN 0) qT (oE (f2 dIx (aqt7 0) (fC (.int 0)))))))
noncomputable def aqd:List D->Option D:=aqsk 1 azh
noncomputable def aV3:Blk :=
 (aqts (mE [true,true,true] (aqt9 dSum (gd (fL (aqa [none,some 1,some 0] (aqt7 2) (geN 0) qT (oE (f2 aqte (f2 dIx (f2 dIx (aqt7 2) (aqt7 0)) (fC (.int 0))) (f2 dIx (aqt7 1) (aqt7 0)))))) aqty))))
noncomputable def aq5:List D->Option D:=aqsk 3 aV3
noncomputable def aqhf:Blk :=
 (aqtr (aqtq 3 (mO [true,false,true,false,false,false] (aXa 2 aX (gd (aqt7 0) (gd (aqt7 2) aqty)))))
  (aqtr (aqtq 4 (mE [false,true,false,false,false,false] (aA 1 ay (gd (aqt7 1) aqty))))
  (aqtr (aqtq 5 (mE [true,true,false,true,true,false] (f2 dSub (f2 aqte (aA 1 aI (gd (aqt7 0) aqty)) (aqt7 4)) (aA 3 aq5 (gd (aqt7 0) (gd (aA 2 aS (gd (aqt7 4) (gd (aqt7 1) aqty))) (gd (aqt7 3) aqty)))))))
  (aqtr (bIf (qV (f2 dLe (aqt7 5) (fC (.int 0)))) (aqts (mE [false,false,false,false,false,false] (aqt8 (gd (fC (.int 0)) (gd (fC (.int 1)) aqty))))) aqtt)
  (aqts (mE [true,false,false,true,true,true] (aA 2 avl (gd (aqt7 5) (gd (f2 aqte (aA 2 aqp (gd (aqt7 0) (gd (aqt7 3) aqty))) (aqt7 4)) aqty)))))))))
noncomputable def aYp:List D->Option D:=aqsk 6 aqhf
noncomputable def aqbv:Blk :=
 (aqtr (bIf (qV (f2 dGe (aqt9 aqtg (gd (aqt7 2) aqty)) (aqt7 3))) (aqts (mO [false,false,false,false] (aqsv aqty))) aqtt)
  (aqts (mO [true,true,true,false] (aqa [none,some 0,some 1,some 2] (fL (aXa 1 axb (gd (aqt7 0) aqty))) (geN 0) (qV (f2 aQ8 (aqt7 0) (aqt7 3))) (oE (aqt8 (gd (aqt7 0) (gd (aA 3 aYp (gd (aqt7 1) (gd (aqt7 2) (gd (aqt7 0) aqty)))) aqty))))))))
noncomputable def aQw:List D->Option D:=aqsk 4 aqbv
noncomputable def aql4:Blk :=
 (aqts (mE [true,true] (aA 2 avl (gd (f2 aqtl (f2 aqte (f2 dIx (aqt7 0) (fC (.int 0))) (f2 dIx (aqt7 1) (fC (.int 1)))) (f2 aqte (f2 dIx (aqt7 1) (fC (.int 0))) (f2 dIx (aqt7 0) (fC (.int 1))))) (gd (f2 aqte (f2 dIx (aqt7 0) (fC (.int 1))) (f2 dIx (aqt7 1) (fC (.int 1)))) aqty)))))
noncomputable def aKt:List D->Option D:=aqsk 2 aql4
noncomputable def aze:Blk :=
 (aqtr (aqtq 3 (mO [true,false,true,false] (aXa 2 aX (gd (aqt7 0) (gd (f2 dIx (aqt7 2) (fC (.int 0))) aqty)))))
  (aqts (mO [false,true,true,true] (aqe7 [none,none,some 3,some 2] (aqt7 1) (aqt4 [(geN 0),(geN 1)]) qT (oE (fIf (qV (f2 dIn (aqt7 0) (aqt7 2))) (aqt8 (gd (fC (.int 0)) (gd (fC (.int 1)) aqty))) (aA 2 aKt (gd (aqt7 1) (gd (f2 dIx (aqt7 3) (fC (.int 1))) aqty)))))))))
noncomputable def aqu:List D->Option D:=aqsk 4 aze
noncomputable def aV5:Blk :=
 (aqtr (aqtq 1 (mE [true,true,false,false,false,false,true] (aA 3 aqu (gd (aqt7 0) (gd (aqt7 1) (gd (aqt7 6) aqty))))))
  (aqtr (bMut 5 [false,false,false,false,false,false,false] aqsr (mE [false,true,false,false,false,false,true] (aqt8 (gd (f2 dIx (aqt7 6) (fC (.int 0))) (gd (f2 dIx (aqt7 6) (fC (.int 1))) (gd (aqt7 1) aqty))))) aqt5)
  (aqtr (bMut 4 [false,false,false,false,false,false,false] aqsr (mE [false,false,false,false,false,false,true] (f2 dIx (aqt7 6) (fC (.int 0)))) aqt5)
  (aqtq 6 (mE [true,true,false,true,true,false,false] (aA 1 avq (gd (aA 4 aQw (gd (aqt7 0) (gd (aqt7 1) (gd (aqt7 4) (gd (aqt7 3) aqty))))) aqty)))))))
noncomputable def aqfn:Blk :=
 (aqtr (aqtq 4 (mO [false,false,true,false,false,false,false] (aqsw aZd (gd (aqt7 2) aqty))))
  (aqtr (aqtq 5 (mO [false,false,false,false,false,false,false] (aqsv aqty)))
  (aqtr (aqtq 6 (mE [true,true,false,true,true,false,false] (aA 1 avq (gd (aA 4 aQw (gd (aqt7 0) (gd (aqt7 1) (gd (aqt7 4) (gd (aqt7 3) aqty))))) aqty))))
  (aqtr (awo (qV (f2 aqth (aqt7 6) (fC .non))) aV5)
  (aqts (mE [false,false,false,false,false,true,false] (aqt7 5)))))))
noncomputable def aXd:List D->Option D:=aqsk 7 aqfn
noncomputable def ax6:Blk :=
 (aqtr (bIf (qV (f2 dEq (aqt7 2) (fL (aqsv aqty)))) (aqts (mE [true,true,false] (aA 2 aB (gd (aqt7 0) (gd (aqt7 1) aqty))))) aqtt)
  (aqts (mE [false,false,true] (f2 dIx (f2 dIx (aqt7 2) (f1 dNeg (fC (.int 1)))) (fC (.int 2))))))
noncomputable def aq1:List D->Option D:=aqsk 3 ax6
noncomputable def aqfo:Blk :=
 (aqtr (aqtq 2 (mE [true,true,false,false,false] (aA 2 avm (gd (aqt7 0) (gd (aqt7 1) aqty)))))
  (aqtr (aqtq 3 (mE [false,false,true,false,false] (aA 1 aqd (gd (aqt7 2) aqty))))
  (aqtr (aqtq 4 (mE [true,true,true,true,false] (aA 4 aXd (gd (aqt7 0) (gd (aA 3 aq1 (gd (aqt7 0) (gd (aqt7 1) (gd (aqt7 2) aqty)))) (gd (fL (aqsw aqi7 (gd (aqt7 3) aqty))) (gd (aqt7 1) aqty)))))))
  (aqts (mO [false,false,true,true,true] (aqld (aQs (aqsw aqi7 (gd (fL (o2 aqtj (aqt7 3) (aA 1 aqd (gd (aqt7 4) aqty)))) aqty)) (aQs (oE (aqt7 2)) (aQs (oE (aqt7 4)) aqik)))))))))
noncomputable def aKu:List D->Option D:=aqsk 5 aqfo
noncomputable def azf:Blk :=
 (aqts (mO [true,true,true] (aqa [none,some 0,some 1] (aqt7 2) (geN 0) (qV (f2 dIn (aqt7 0) (f2 dIx (f2 dIx (aqt7 1) (aqt7 2)) (fC (.int 1))))) (oE (aqt7 0)))))
noncomputable def ax:List D->Option D:=aqsk 3 azf
noncomputable def aZ2:Blk :=
 (aqtr (bIf (qOr (qV (f2 dEq (aqt9 aqtg (gd (aqt7 2) aqty)) (fC (.int 0)))) (qV (f2 dEq (aqt9 aqtg (gd (aqt7 3) aqty)) (fC (.int 0))))) (aqts (mE [false,false,false,false,false] (fC (.bl false)))) aqtt)
  (aqtr (aqtq 4 (mO [true,false,true,false,false] (aXa 2 aj6 (gd (aqt7 0) (gd (aqt7 2) aqty)))))
  (aqtr (bIf (aqsn (qV (aqt9 aqtk (gd (fL (aqa [none,some 4] (aqt7 3) (geN 0) qT (oE (f2 dIn (aqt7 0) (aqt7 1))))) aqty)))) (aqts (mE [false,false,false,false,false] (fC (.bl false)))) aqtt)
  (aqts (mE [true,true,true,true,false] (f2 dGe (f2 aqte (aqt7 1) (aA 2 aqp (gd (aqt7 0) (gd (aqt7 3) aqty)))) (f2 aqte (aqt9 aqtg (gd (aqt7 2) aqty)) (aA 1 aI (gd (aqt7 0) aqty)))))))))
noncomputable def axq:List D->Option D:=aqsk 5 aZ2
noncomputable def ake:Blk :=
 (aqtq 1 (mO [false,true,true] (o2 aqtj (aqt7 1) (fL (aqa [none,some 2] (aqt7 1) (geN 0) qT (o2 aqtj (aqt7 0) (fL (aqsv (gd (aqt7 1) aqty)))))))))
noncomputable def aV7:Blk :=
 (aqtr (aqtq 1 (mO [false,false,false] (oLstO (aQs (aqsv aqty) aqik))))
  (aqtr (aqtu [true,false,false] (aqt7 0) (gN 2) ake)
  (aqts (mE [false,true,false] (aqt7 1)))))
noncomputable def axd:List D->Option D:=aqsk 3 aV7
noncomputable def az7:Blk :=
 (aqtr (aqtq 4 (mO [true,false,true,true,false] (aqa [none,some 3,some 0,some 2] (fL (aXa 2 aj6 (gd (aqt7 0) (gd (aqt7 3) aqty)))) (geN 0) (qV (f2 dLt (aqt9 aqtg (gd (aA 3 ax (gd (aqt7 2) (gd (aqt7 0) (gd (aqt7 3) aqty)))) aqty)) (aqt9 aqtg (gd (aqt7 1) aqty)))) (oE (aqt7 0)))))
  (bIf (qV (aA 4 axq (gd (aqt7 0) (gd (aqt7 1) (gd (aqt7 3) (gd (aqt7 4) aqty)))))) (aqts (mE [false,false,false,true,true] (aqt8 (gd (aqt7 3) (gd (aqt7 4) aqty))))) aqtt))
noncomputable def awm:Blk :=
 (aqtr (aqtu [true,false,false,false,false] (aA 1 axd (gd (fL (aXa 1 axb (gd (aqt7 0) aqty))) aqty)) (gN 3) az7)
  (aqts (mE [false,false,false,false,false] (fC .non))))
noncomputable def ajy:List D->Option D:=aqsk 5 awm
noncomputable def az6:Blk :=
 (aqtr (aqtq 4 (mO [true,false,true,true,false] (aqa [none,some 0,some 2] (fL (aXa 2 aX (gd (aqt7 0) (gd (aqt7 3) aqty)))) (geN 0) (qV (f2 dEq (aA 3 ax (gd (aqt7 1) (gd (aqt7 0) (gd (aqt7 2) aqty)))) (fL (aqsv aqty)))) (oE (aqt7 0)))))
  (bIf (qV (aA 4 axq (gd (aqt7 0) (gd (aqt7 1) (gd (fL (aqsv (gd (aqt7 3) aqty))) (gd (aqt7 4) aqty)))))) (aqts (mO [false,false,false,true,true] (aqld (aQs (aqsv (gd (aqt7 3) aqty)) (aQs (oE (aqt7 4)) aqik))))) aqtt))
noncomputable def awl:Blk :=
 (aqtr (aqtu [true,false,false,false,false] (fL (aXa 1 axb (gd (aqt7 0) aqty))) (gN 3) az6)
  (aqts (mE [false,false,false,false,false] (fC .non))))
noncomputable def azp:List D->Option D:=aqsk 5 awl
noncomputable def axv:Blk :=
 (aqts (mE [true,true,true,true] (aqt9 aqtk (gd (fL (aqa [none,some 3] (aA 3 ax (gd (aqt7 0) (gd (aqt7 1) (gd (aqt7 2) aqty)))) (geN 0) qT (oE (f2 dIn (aqt7 0) (aqt7 1))))) aqty))))
noncomputable def aT:List D->Option D:=aqsk 4 axv
noncomputable def ak4:Blk :=
 (aqts (mO [true,true] (aqa [none,some 1] (aA 1 axd (gd (aqt7 0) aqty)) (geN 0) (qV (f2 dEq (aqt9 aqtg (gd (aqt7 0) aqty)) (aqt7 1))) (oE (aqt7 0)))))
noncomputable def ajr:List D->Option D:=aqsk 2 ak4
noncomputable def aqf:Blk :=
 (aqtr (aqtq 6 (mO [true,false,true,false,true,true,false] (aqa [none,some 0,some 2,some 5] (aqt7 4) (geN 0) (qV (aA 4 aT (gd (aqt7 1) (gd (aqt7 0) (gd (aqt7 2) (gd (aqt7 3) aqty)))))) (oE (aqt7 0)))))
  (bIf (qV (aA 4 axq (gd (aqt7 0) (gd (aqt7 1) (gd (aqt7 3) (gd (aqt7 6) aqty)))))) (aqts (mE [false,false,false,true,false,false,true] (aqt8 (gd (aqt7 3) (gd (aqt7 6) aqty))))) aqtt))
noncomputable def aqx:Blk :=
 (aqtr (aqtq 4 (mO [true,false,false,true,false,false,false] (aXa 2 aj6 (gd (aqt7 0) (gd (aqt7 3) aqty)))))
  (bIf (qV (aA 4 axq (gd (aqt7 0) (gd (aqt7 1) (gd (aqt7 3) (gd (aqt7 4) aqty)))))) (aqtu [false,false,true,true,false,false,false] (aA 2 ajr (gd (aqt7 2) (gd (aqt9 aqng (gd (f2 dSub (aqt9 aqtg (gd (aqt7 3) aqty)) (fC (.int 1))) (gd (aqt9 aqtg (gd (aqt7 2) aqty)) aqty))) aqty))) (gN 5) aqf) aqtt))
noncomputable def ax5:Blk :=
 (aqtr (aqtu [true,false,false,false,false,false,false] (aA 1 axd (gd (fL (aXa 1 axb (gd (aqt7 0) aqty))) aqty)) (gN 3) aqx)
  (aqts (mE [false,false,false,false,false,false,false] (fC .non))))
noncomputable def aE:List D->Option D:=aqsk 7 ax5
noncomputable def ak1:Blk :=
 (aqtr (bMut 3 [false,false,false,false,false,false,false] aqsr (mO [false,false,true,false,true,false,true] (aqld (aQs (oE (aqt7 4)) (aQs (aqcg [none,none] (aqt7 2) (aqt7 6) (aqt4 [(geN 0),(geN 1)]) qT (oE (aA 2 avp (gd (aqt7 0) (gd (aqt7 1) aqty))))) aqik)))) aqt5)
  (aqtq 2 (mE [false,false,false,false,false,false,true] (aqt7 6))))
noncomputable def aXv:Blk :=
 (aqtr (aqtq 2 (mE [true,true,false,false,false,false,false] (aA 2 aB (gd (aqt7 0) (gd (aqt7 1) aqty)))))
  (aqtr (aqtq 3 (mO [false,false,false,false,false,false,false] (aqsv aqty)))
  (aqtr (aqtu [true,true,false,false,false,false,false] (aA 2 avm (gd (aqt7 0) (gd (aqt7 1) aqty))) (gTp [(gN 4),(gN 5),(gN 6)]) ak1)
  (aqts (mMv 3)))))
noncomputable def avn:List D->Option O:=aqsi 7 aXv
noncomputable def aXw:Blk :=
 (aqts (mE [true] (aqta (fIsi "int" (aqt7 0)) (fNot (fIsi "bool" (aqt7 0))))))
noncomputable def ajz:List D->Option D:=aqsk 1 aXw
noncomputable def az9:Blk :=
 (aqts (mE [true] (aqta (aA 1 ajz (gd (aqt7 0) aqty)) (aqta (f2 dGe (aqt7 0) (fC (.int 0))) (f2 dLe (aqt7 0) (fC (.int 5)))))))
noncomputable def aq7:List D->Option D:=aqsk 1 az9
noncomputable def aQn:Blk :=
 (aqtr (bIf (qOr (aqsn (qV (fIsi "tuple" (aqt7 0)))) (qV (f2 dNe (aqt9 aqtg (gd (aqt7 0) aqty)) (fC (.int 2))))) (aqts (mE [false,false,false] (fC (.bl false)))) aqtt)
  (aqtr (aqtq 1 (mE [true,false,false] (f2 dIx (aqt7 0) (fC (.int 0)))))
  (aqtr (aqtq 2 (mE [true,false,false] (f2 dIx (aqt7 0) (fC (.int 1)))))
  (aqtr (bIf (qOr (aqsn (qV (aA 1 ajz (gd (aqt7 1) aqty)))) (aqsn (qV (aA 1 ajz (gd (aqt7 2) aqty))))) (aqts (mE [false,false,false] (fC (.bl false)))) aqtt)
  (aqts (mE [false,true,true] (aqta (f2 dGe (aqt7 1) (fC (.int 0))) (aqta (f2 dGe (aqt7 2) (fC (.int 1))) (f2 dEq (aA 2 axc (gd (aqt7 1) (gd (aqt7 2) aqty))) (fC (.int 1)))))))))))
noncomputable def ajq:List D->Option D:=aqsk 3 aQn
noncomputable def az8:Blk :=
 (aqts (mE [true,true] (aqta (fIsi "list" (aqt7 0)) (aqta (f2 dEq (aqt9 aqtg (gd (aqt7 0) aqty)) (aqt7 1)) (aqt9 aqtk (gd (fL (aqa [none] (aqt7 0) (geN 0) qT (oE (aA 1 ajq (gd (aqt7 0) aqty))))) aqty))))))
noncomputable def aq6:List D->Option D:=aqsk 2 az8
noncomputable def aXy:Blk :=
 (aqts (mE [true,true] (aqta (fIsi "tuple" (aqt7 0)) (aqta (f2 dEq (aqt9 aqtg (gd (aqt7 0) aqty)) (fC (.int 2))) (aqta (aA 1 aq7 (gd (f2 dIx (aqt7 0) (fC (.int 0))) aqty)) (aA 2 aq6 (gd (f2 dIx (aqt7 0) (fC (.int 1))) (gd (aqt7 1) aqty))))))))
noncomputable def avs:List D->Option D:=aqsk 2 aXy
noncomputable def ak3:Blk :=
 (aqtr (bIf (qOr (aqsn (qV (aA 2 avs (gd (aqt7 3) (gd (aqt7 1) aqty))))) (qV (f2 dIn (f2 dIx (aqt7 3) (fC (.int 0))) (aqt7 2)))) (aqts (mE [false,false,false,false] (fC (.bl false)))) aqtt)
  (bMut 2 [false,false,false,false] aqsr (mE [false,false,false,true] (f2 dIx (aqt7 3) (fC (.int 0)))) aqt5))
noncomputable def aXx:Blk :=
 (aqtr (bIf (aqsn (qV (fIsi "list" (aqt7 0)))) (aqts (mE [false,false,false,false] (fC (.bl false)))) aqtt)
  (aqtr (aqtq 2 (mO [false,false,false,false] (aqsv aqty)))
  (aqtr (aqtu [true,false,false,false] (aqt7 0) (gN 3) ak3)
  (aqts (mE [false,false,false,false] (fC (.bl true)))))))
noncomputable def avr:List D->Option D:=aqsk 4 aXx
noncomputable def aQm:Blk :=
 (aqtr (aqtq 3 (mO [true,true,false,false,false,false,false] (aXa 2 aX (gd (aqt7 0) (gd (aqt7 1) aqty)))))
  (aqtr (aqtq 4 (mE [false,false,true,false,false,false,false] (aA 1 ay (gd (aqt7 2) aqty))))
  (aqtr (aqtq 5 (mE [false,false,true,false,true,false,false] (aA 2 aS (gd (aqt7 4) (gd (aqt7 2) aqty)))))
  (aqtr (aqtq 6 (mO [true,false,false,true,false,false,false] (aqe6 [none,some 3] (gd (aqt9 aqtg (gd (aqt7 0) aqty)) aqty) (geN 0) (qV (f2 aQ8 (aqt7 0) (aqt7 1))) (oE (aqt7 0)))))
  (aqts (mE [true,false,false,true,true,true,true] (aqta (aqt9 aqtk (gd (fL (aqa [none,some 5] (aqt7 6) (geN 0) qT (oE (f2 dEq (f2 dIx (aqt7 1) (aqt7 0)) (fC (.int 0)))))) aqty)) (f2 dEq (aA 3 aq5 (gd (aqt7 0) (gd (aqt7 5) (gd (aqt7 3) aqty)))) (f2 aqte (aA 1 aI (gd (aqt7 0) aqty)) (aqt7 4))))))))))
noncomputable def ajp:List D->Option D:=aqsk 7 aQm
noncomputable def aje:Blk :=
 (bExt 1 [false,false,false,true] aqsr (aqt7 3))
noncomputable def aj9:Blk :=
 (aqtr (aqtq 1 (mO [false,false,false,false] (aqsv aqty)))
  (aqtr (aqtu [true,false,false,false] (aqt7 0) (gTp [(gN 2),(gN 3)]) aje)
  (aqts (mE [false,true,false,false] (aA 1 ay (gd (aqt7 1) aqty))))))
noncomputable def aqb:List D->Option D:=aqsk 4 aj9
noncomputable def avy:Blk :=
 (aqtq 4 (mO [false,false,false,true,true,false,true] (aqcg [none,none] (aqt7 4) (aA 2 aS (gd (aqt7 3) (gd (aqt7 6) aqty))) (aqt4 [(geN 0),(geN 1)]) qT (oE (f2 dSub (aqt7 0) (aqt7 1))))))
noncomputable def aQl:Blk :=
 (aqtr (aqtq 4 (mO [true,true,false,true,false,false,false] (aqa [none,some 1,some 3] (aqt7 0) (geN 0) qT (oE (f2 aqte (aqt7 1) (aqt7 2))))))
  (aqtr (aqtu [false,false,true,false,false,false,false] (aqt7 2) (gTp [(gN 5),(gN 6)]) avy)
  (aqts (mE [false,false,false,false,true,false,false] (aqt7 4)))))
noncomputable def azo:List D->Option D:=aqsk 7 aQl
noncomputable def aqaa:Blk :=
 (aqtr (aqtq 2 (mO [false,true,false] (aqa [none] (aqt7 1) (geN 0) qT (oE (f2 dIx (aqt7 0) (fC (.int 0)))))))
  (aqts (mO [true,false,true] (aqa [none,some 2] (fL (aXa 1 axb (gd (aqt7 0) aqty))) (geN 0) (qV (f2 aQ8 (aqt7 0) (aqt7 1))) (oE (aqt7 0))))))
noncomputable def aXb:List D->Option D:=aqsk 3 aqaa
noncomputable def ajd:Blk :=
 (aqtr (aqtq 3 (mE [false,false,true,false,false,false] (aA 1 aqb (gd (aqt7 2) aqty))))
  (aqtr (aqtq 4 (mE [true,true,true,true,false,false] (aA 4 azo (gd (aqt7 0) (gd (aqt7 1) (gd (aqt7 2) (gd (aqt7 3) aqty)))))))
  (aqtr (aqtq 5 (mE [true,false,false,true,false,false] (f2 aqte (aA 1 aI (gd (aqt7 0) aqty)) (aqt7 3))))
  (aqts (mE [true,false,true,false,true,true] (aqta (aqt9 aqtk (gd (fL (aqa [none] (aqt7 4) (geN 0) qT (oE (f2 dGe (aqt7 0) (fC (.int 0)))))) aqty)) (aqt9 aqtk (gd (fL (aqa [none,some 5,some 0,some 4] (aA 2 aXb (gd (aqt7 0) (gd (aqt7 2) aqty))) (geN 0) qT (oE (f2 dLt (aA 3 aq5 (gd (aqt7 2) (gd (aqt7 3) (gd (fL (aXa 2 aX (gd (aqt7 2) (gd (aqt7 0) aqty)))) aqty)))) (aqt7 1))))) aqty))))))))
noncomputable def aO:List D->Option D:=aqsk 6 ajd
noncomputable def aql5:Blk :=
 (aqtr (bIf (aqsn (qV (aA 2 avr (gd (aqt7 2) (gd (aqt9 aqtg (gd (aqt7 0) aqty)) aqty))))) (aqts (mE [false,false,false] (fC (.bl false)))) aqtt)
  (aqtr (bIf (aqsn (qV (aqt9 aqtk (gd (fL (aqa [none,none,some 0] (aqt7 2) (aqt4 [(geN 0),(geN 1)]) qT (oE (aA 3 ajp (gd (aqt7 2) (gd (aqt7 0) (gd (aqt7 1) aqty))))))) aqty)))) (aqts (mE [false,false,false] (fC (.bl false)))) aqtt)
  (aqts (mE [true,true,true] (aA 3 aO (gd (aqt7 0) (gd (aqt7 1) (gd (aqt7 2) aqty))))))))
noncomputable def aqci:List D->Option D:=aqsk 3 aql5
noncomputable def ajf:Blk :=
 (aqtr (aqtq 5 (mO [false,false,false,true,true,false,false] (o2 aqtj (fL (oSl (aqt7 3) ptN (ptE (aqt7 4)))) (fL (oSl (aqt7 3) (ptE (f2 aqtl (aqt7 4) (fC (.int 1)))) ptN)))))
  (aqtr (aqtq 6 (mO [false,false,false,false,false,true,false] (aqsw aqi7 (gd (fL (aqa [none] (aqt7 5) (geN 0) qT (oE (f2 dIx (aqt7 0) (fC (.int 0)))))) aqty))))
  (bIf (qAnd (qV (aA 3 aqci (gd (aqt7 0) (gd (aqt7 1) (gd (aqt7 5) aqty))))) (qV (f2 aqth (aA 3 aE (gd (aqt7 0) (gd (aqt7 1) (gd (aqt7 6) aqty)))) (fC .non)))) (aqts (mE [false,false,false,false,false,false,false] (fC (.bl false)))) aqtt)))
noncomputable def ak5:Blk :=
 (aqtr (aqtq 3 (mO [true,true,false,false,false,false,false] (aXa 2 avn (gd (aqt7 0) (gd (aqt7 1) aqty)))))
  (aqtr (bIf (qOr (qV (f2 aqth (aA 3 aqci (gd (aqt7 0) (gd (aqt7 1) (gd (aqt7 3) aqty)))) (fC (.bl true)))) (qV (f2 dNe (fL (aqa [none] (aqt7 3) (geN 0) qT (oE (f2 dIx (aqt7 0) (fC (.int 0)))))) (aqt7 2)))) (aqts (mE [false,false,false,false,false,false,false] (fC (.bl false)))) aqtt)
  (aqtr (bForR [false,false,false,true,false,false,false] (gd (aqt9 aqtg (gd (aqt7 3) aqty)) aqty) (gN 4) ajf)
  (aqts (mE [false,false,false,false,false,false,false] (fC (.bl true)))))))
noncomputable def axr:List D->Option D:=aqsk 7 ak5
noncomputable def aqad:Blk :=
 (aqts (mE [true,true] (aA 4 aXd (gd (aqt7 0) (gd (fL (aqa [none] (aqt7 0) (geN 0) qT (oE (aqt8 (gd (fC (.int 0)) (gd (fC (.int 1)) aqty)))))) (gd (fL (aqsv aqty)) (gd (aqt7 1) aqty)))))))
noncomputable def aXc:List D->Option D:=aqsk 2 aqad
noncomputable def axw:Blk :=
 (bIf (qV (f2 dGe (aqt9 aqtg (gd (fL (aqa [none,some 4] (f2 dIx (f2 dIx (aqt7 0) (aqt7 8)) (fC (.int 1))) (geN 0) (qV (f2 dIn (aqt7 0) (aqt7 1))) (oE (aqt7 0)))) aqty)) (aqt9 aqtg (gd (aqt7 6) aqty)))) (aqts (mE [false,false,false,false,false,false,false,false,false] (fC (.bl false)))) aqtt)
noncomputable def axi:Blk :=
 (aqtr (aqtq 4 (mO [false,false,true,true,false,false,false,false,false] (aqa [none,some 3] (aqt7 2) (geN 0) (qV (f2 dNe (aqt7 0) (aqt7 1))) (oE (aqt7 0)))))
  (aqtr (aqtq 5 (mE [true,true,false,false,true,false,false,false,false] (aA 3 ajy (gd (aqt7 0) (gd (aqt7 1) (gd (fL (aqsw aZd (gd (aqt7 4) aqty))) aqty))))))
  (aqtr (bIf (qV (f2 dIs (aqt7 5) (fC .non))) (aqts (mE [true,true,false,false,true,false,false,false,false] (f2 dIs (aA 3 aE (gd (aqt7 0) (gd (aqt7 1) (gd (fL (aqsw aZd (gd (aqt7 4) aqty))) aqty)))) (fC .non)))) aqtt)
  (aqtr (bUnp [false,false,false,false,false,true,false,false,false] (aqt7 5) (gTp [(gN 6),(gN 7)]))
  (aqtr (bIf (aqsn (qV (aA 4 axq (gd (aqt7 0) (gd (aqt7 1) (gd (fL (aqsw aZd (gd (aqt7 6) aqty))) (gd (fL (aqsw aZd (gd (aqt7 7) aqty))) aqty))))))) (aqts (mE [false,false,false,false,false,false,false,false,false] (fC (.bl false)))) aqtt)
  (aqtr (aqtu [false,false,false,false,false,false,false,true,false] (aqt7 7) (gN 8) axw)
  (aqts (mE [false,false,false,false,false,false,false,false,false] (fC (.bl true))))))))))
noncomputable def aqr:List D->Option D:=aqsk 9 axi
noncomputable def aqbw:Blk :=
 (bIf (qV (f2 aqth (aqt7 6) (fC .non))) (aqts (mE [false,false,false,false,false,false,false,false,false] (fC (.bl false)))) aqtt)
noncomputable def aqfm:Blk :=
 (bIf (aqsn (qV (aA 4 aqr (gd (aqt7 1) (gd (aqt7 2) (gd (aqt7 3) (gd (aqt7 8) aqty))))))) (aqts (mE [false,false,false,false,false,false,false,false,false] (fC (.bl false)))) aqtt)
noncomputable def aqii:Blk :=
 (aqtr (bIf (qV (f2 aqth (aA 3 aE (gd (aqt7 1) (gd (aqt7 2) (gd (fL (aqsw aqi7 (gd (fL (aqa [none] (aA 2 aXc (gd (aqt7 1) (gd (aqt7 2) aqty))) (geN 0) qT (oE (f2 dIx (aqt7 0) (fC (.int 0)))))) aqty))) aqty)))) (fC .non))) (aqts (mE [false,false,false,false,false,false,false,false,false] (fC (.bl false)))) aqtt)
  (aqtr (aqtu [false,false,false,true,false,false,false,false,false] (fL (oSl (aqt7 3) ptN (ptE (fC (.int 3))))) (gN 8) aqfm)
  (aqts (mE [false,false,false,false,false,false,false,false,false] (fC (.bl true))))))
noncomputable def aqfl:Blk :=
 (aqtr (aqtu [false,true,true,true,false,false,false,false,false] (fL (aqsv (gd (aA 3 ajy (gd (aqt7 1) (gd (aqt7 2) (gd (fL (aqsw aZd (gd (aqt7 3) aqty))) aqty)))) (gd (aA 3 azp (gd (aqt7 1) (gd (aqt7 2) (gd (fL (aqsw aZd (gd (aqt7 3) aqty))) aqty)))) aqty)))) (gN 6) aqbw)
  (aqtr (aqtq 7 (mO [false,false,false,false,true,false,false,false,false] (aqa [none] (aqt7 4) (geN 0) qT (oE (f2 dIx (aqt7 0) (fC (.int 0)))))))
  (aqtr (bIf (qOr (qV (f2 aqth (aA 3 aE (gd (aqt7 1) (gd (aqt7 2) (gd (fL (aqsw aZd (gd (aqt7 3) aqty))) aqty)))) (fC .non))) (aqsn (qV (aA 3 axr (gd (aqt7 1) (gd (aqt7 2) (gd (aqt7 7) aqty))))))) (aqts (mE [false,false,false,false,false,false,false,false,false] (fC (.bl false)))) aqtt)
  aqii)))
noncomputable def b_law:Blk :=
 (aqtr (aqtq 1 (mE [true,false,false,false,false,false,false,false,false] (aA 2 azr (gd (fL (oSl (aqt7 0) (ptE (fC (.int 2))) (ptE (fC (.int 8))))) (gd (aA 1 azq (gd (aA 2 aU (gd (aqt7 0) (gd (fC (.int 1)) aqty))) aqty)) aqty)))))
  (aqtr (bIf (qV (f2 dEq (aqt7 1) (fL (aqsv aqty)))) (aqtq 1 (mO [true,false,false,false,false,false,false,false,false] (oLstO (aQs (aqld (aQs (oE (f2 aqtl (fC (.int 1)) (f2 aqtf (aA 2 aU (gd (aqt7 0) (gd (fC (.int 1)) aqty))) (f2 dPow (fC (.int 10)) (fC (.int 18)))))) (aQs (aqsv (aqlf [0,1,2])) aqik))) aqik)))) aqtt)
  (aqtr (aqtq 2 (mE [true,false,false,false,false,false,false,false,false] (f2 aqtl (fC (.int 1)) (f2 aqtf (aA 2 aU (gd (aqt7 0) (gd (fC (.int 0)) aqty))) (fC (.int 6))))))
  (aqtr (bUnp [false,true,true,false,false,false,false,false,false] (aA 2 aKu (gd (aqt7 1) (gd (aqt7 2) aqty))) (gTp [(gN 3),(gN 4),(gN 5)]))
  aqfl))))
noncomputable def aqi3:List D->Option D:=aqsk 9 b_law
end L_k80
set_option maxHeartbeats 4000000
namespace L_k80
open PySem DL MB
theorem aJh (l:List Int):D.lst (l.map D.int)=ag l:=rfl
theorem aqe9 (b:Int) (d:Option D):aji (geN 0) (qV (f2 dEq (f2 aqtf (f2 aqti (aqt7 1) (f2 dIx (fL (aqsv (aqlf [1,2,4,8,16,32]))) (aqt7 0))) (fC (.int 2))) (fC (.int 1)))) (oE (aqt7 0)) (aqsm 0 6) [d,some (.int b)]=some ((mkb b).map fun k=>O.sh (.int k)):=by
 rw [rng6];exact al (inj:=D.int) (fun ρ=>∃ d,ρ=[d,some (.int b)]) (fun k=>(b.fdiv (pw2 k)).fmod 2 == 1) (fun k=>O.sh (.int k)) [0,1,2,3,4,5] [d,some (.int b)] ⟨_,rfl⟩ (by
  rintro k hk ρ ⟨d,rfl⟩;obtain ⟨e1,e2,e3⟩:=aqog hk;have m2:aqtf (.int (b.fdiv (pw2 k))) (.int 2)=some (.int ((b.fdiv (pw2 k)).fmod 2)):=ax2 (by decide);exact ⟨_,rfl,⟨_,rfl⟩,by simp [aqu4,aqfs,e1,awi e2 e3,m2],fun _=>by simp⟩)
theorem aK0 {h:List aqu2} {i:Nat} (hi:i < h.length):dIx (bt h) (.int (i:Int))=some (axy h[i]):=by
 have:=dIx_l (ds:=h.map axy) (i:=i) (by simpa using hi)
 rw [bt,this]; simp
theorem aqb8 {l:List Int} {i:Nat} (h:i < l.length):dIx (ag l) (.int (i:Int))=some (.int l[i]):=by
 have:=dIx_l (ds:=l.map .int) (i:=i) (by simpa using h)
 rw [ag,this]; simp
theorem aqjy (p:aqu2) (s:List Int) (hs:s.length <= 100):aq0 [axy p,ag s]=some (.bl (aj7 p.2 s)):=by
 have hc:aji (geN 0) qT (oE (f2 dIn (aqt7 0) (f2 dIx (aqt7 1) (fC (.int 1))))) (s.map D.int) [none,some (axy p)]=some (s.map fun c=>O.sh (.bl (has p.2 c))):=by
  have:=al (inj:=D.int) (g:=geN 0) (c:=qT) (e:=oE (f2 dIn (aqt7 0) (f2 dIx (aqt7 1) (fC (.int 1))))) (fun ρ=>∃ d,ρ=[d,some (axy p)]) (fun _=>true) (fun c=>O.sh (.bl (has p.2 c))) s [none,some (axy p)] ⟨_,rfl⟩ (by
   rintro c _ ρ ⟨d,rfl⟩;exact ⟨_,rfl,⟨_,rfl⟩,rfl,fun _=>by simp⟩)
  rwa [List.filter_eq_self.mpr (by simp)] at this
 have hd:oDs (s.map fun c=>O.sh (.bl (has p.2 c)))=some (s.map fun c=>D.bl (has p.2 c)):=aqt (fun c=>by simp) s;have hb:aqcr (s.map fun c=>D.bl (has p.2 c))=some (s.map fun c=>has p.2 c):=by
  clear hc hd hs
  induction s with
  | nil=>rfl
  | cons c s ih=>simp [aqcr,ih]
 have hl:s.length <= 100000:=by omega
 simp [aq0,aqsk,aqsi,ini,ak2,aqa,mkD,hl,aqu4,hc,hd,aqtk,hb,aj7,all_map,Function.comp_def]
theorem aJk (h:List aqu2) (s:List Int) (hh:h.length <= 100) (hs:s.length <= 100):aj6 [bt h,ag s]=some (ow ((agr h s).map .int)):=by
 have hc:aji (aqt4 [(geN 0),(geN 1)]) (qV (aA 2 aq0 (gd (aqt7 1) (gd (aqt7 2) aqty)))) (oE (aqt7 0)) (aqez (h.map axy)) [none,none,some (ag s)]=some ((agr h s).map fun i=>O.sh (.int i)):=by
  rw [aqbj]
  have:=al (inj:=fun q:Nat × aqu2=>D.tup [.int (q.1:Int),axy q.2]) (g:=aqt4 [(geN 0),(geN 1)]) (c:=qV (aA 2 aq0 (gd (aqt7 1) (gd (aqt7 2) aqty)))) (e:=oE (aqt7 0))
   (fun ρ=>∃ d d',ρ=[d,d',some (ag s)]) (fun q=>aj7 q.2.2 s) (fun q=>O.sh (.int (q.1:Int))) ((List.range h.length).zip h) [none,none,some (ag s)] ⟨_,_,rfl⟩ (by
   rintro ⟨i,p⟩ _ ρ ⟨d,d',rfl⟩;exact ⟨_,rfl,⟨_,_,rfl⟩,by simp [aqjy p s hs],fun _=>by simp⟩)
  rw [this];have e:=aqcw (fun p:aqu2=>aj7 p.2 s) h;show some _=some ((agr h s).map _);unfold agr;rw [<- e,map_map,map_map];rfl
 have hl:h.length <= 100000:=by omega
 simp [aj6,aqsi,ini,aqae,aqe7,mkD,hl,aqu4,hc,ow]
theorem az1 (h:List aqu2) (c:Int) (hh:h.length <= 100):aX [bt h,.int c]=some (ow ((agr h [c]).map .int)):=by
 have ha:=aJk h [c] hh (by simp);simp only [ag,map_cons,map_nil] at ha;simp [aX,aqsi,ini,aqac,aqu4,ha]
def ajx (h:List aqu2):List Int:=h.flatMap fun p=>p.2
theorem aqk0 (h:List aqu2) (hh:h.length <= 100) (hm:∀ p∈h,p.2.length <= 12) (h64:(aqi (ajx h)).length < 64):axb [bt h]=some (ow ((aqi (ajx h)).map .int)):=by
 have hlen:∀ l:List aqu2,(∀ p∈l,p.2.length <= 12)->(ajx l).length <= 12 * l.length:=by
  intro l
  induction l with
  | nil=>intro _; simp [ajx]
  | cons p l ih =>
   intro hp;have h1:=hp p (by simp);have h2:=ih fun q m=>hp q (by simp [m]);simp [ajx] at h2 ⊢;omega
 obtain ⟨ρ',h1,c,c',h2⟩:=aY2 (inj:=axy) (g:=gTp [(gN 2),(gN 3)]) (b:=aV4) (fun pre ρ=>∃ c c',ρ=[some (.sh (bt h)),some (ow ((ajx pre).map .int)),c,c']) h
  [some (.sh (bt h)),some (ow []),none,none] ⟨_,_,rfl⟩ (by
   rintro pre p post ρ e ⟨c,c',rfl⟩;have hp:p.2.length <= 12:=hm p (by rw [e]; simp);have hpre:(ajx pre).length <= 12 * pre.length:=hlen pre fun q m=>hm q (by rw [e]; simp [m]);have hpl:pre.length <= 100:=by have:=congrArg List.length e; simp at this; omega
   refine ⟨[some (.sh (bt h)),some (ow ((ajx pre).map .int)),some (.sh (.int p.1)),some (.sh (ag p.2))],_,rfl,.inl ?_,some (.sh (.int p.1)),some (.sh (ag p.2)),rfl⟩;have hl:(ajx pre).length + p.2.length <= aqu4:=by simp only [aqu4]; omega
   have em:ajx (pre++[p])=ajx pre++p.2:=by simp [ajx]
   rw [em];simp [aV4,bExt,aqsr,ag,atO,gExt,ow,hl,-map_append]
   simp)
 have hn:(ajx h).length < 4000:=by have:=hlen h hm; omega
 simp [axb,aqsi,ini,aqfj,aqtu,aqu4,h1,h2,aVs,hn,h64]
theorem aqjw (b:Int):axs [.int b]=some (ag (mkb b)):=by
 have mc:=aqe9 b none;have r6:(6:Int).toNat=6:=rfl;have hd:oDs ((mkb b).map fun k=>O.sh (.int k))=some ((mkb b).map .int):=aqt (fun p=>by simp) _;simp [axs,aqsk,aqsi,ini,ak6,aqe6,mkD,aqu4,r6,mc,hd,ag]
def akk (n:Int):Int:=(n * 48271).fmod 2147483647
def aYn (n:Int):List Int:=if ((akk n).fdiv 64).fmod 3=0 then (mkb (akk n)).take 2 else mkb (akk n)
def ak8 (n unit:Int):Int:=if ((akk n).fdiv 1152).fmod 4=0 then 1 + (n.fdiv 7).fmod P18 else unit * (1 + ((akk n).fdiv 192).fmod 6)
def aKn (unit n:Int):aqu2:=(ak8 n unit,aYn n)
theorem aqm9 (n unit:Int):aqe [.int n,.int unit]=some (axy (aKn unit n)):=by
 have h1:aqte (.int n) (.int 48271)=some (.int (n * 48271)):=aqh6 (by decide);have h2:aqtf (.int (n * 48271)) (.int 2147483647)=some (.int (akk n)):=ax2 (by decide);have h3:=aqjw (akk n);have d64:aqti (.int (akk n)) (.int 64)=some (.int ((akk n).fdiv 64)):=awi (by decide) (awj (k:=7) (by decide) (by decide));have d192:aqti (.int (akk n)) (.int 192)=some (.int ((akk n).fdiv 192)):=awi (by decide) (awj (k:=8) (by decide) (by decide));have d1152:aqti (.int (akk n)) (.int 1152)=some (.int ((akk n).fdiv 1152)):=awi (by decide) (awj (k:=11) (by decide) (by decide));have d7:aqti (.int n) (.int 7)=some (.int (n.fdiv 7)):=awi (by decide) (awj (k:=3) (by decide) (by decide));have m3:aqtf (.int ((akk n).fdiv 64)) (.int 3)=some (.int (((akk n).fdiv 64).fmod 3)):=ax2 (by decide);have m6:aqtf (.int ((akk n).fdiv 192)) (.int 6)=some (.int (((akk n).fdiv 192).fmod 6)):=ax2 (by decide);have m4:aqtf (.int ((akk n).fdiv 1152)) (.int 4)=some (.int (((akk n).fdiv 1152).fmod 4)):=ax2 (by decide);have mP:aqtf (.int (n.fdiv 7)) (.int P18)=some (.int ((n.fdiv 7).fmod P18)):=ax2 aqnu;have u1:=Int.fmod_lt_of_pos ((akk n).fdiv 192) (b:=6) (by decide);have u0:=Int.fmod_nonneg_of_pos ((akk n).fdiv 192) (b:=6) (by decide);have hw:aqte (.int unit) (.int (1 + ((akk n).fdiv 192).fmod 6))=some (.int (unit * (1 + ((akk n).fdiv 192).fmod 6))):=aqh6 (lt_of_lt_of_le (show _ < 8 by omega) (by decide));have k1:aqtm ((mkb (akk n)).map D.int) none (some 2)=((mkb (akk n)).take 2).map .int:=by rw [show (2:Int)=((2:Nat):Int) from rfl,aqa0,map_take]
 have hz:∀ l:List Int,oD (ow (l.map .int))=some (ag l):=fun l=>aVu l;have hi:∀ l:List Int,fzc (some (ow (l.map .int)))=some (.sh (ag l)):=fun l=>by simp [fzc,hz]
 have es:∀ l:List Int,D.lst (l.map .int)=ag l:=fun _=>rfl
 by_cases c1:((akk n).fdiv 64).fmod 3=0 <;> by_cases c2:((akk n).fdiv 1152).fmod 4=0
 ·simp [aqe,aqsk,aqsi,ini,axk,aqu4,h1,h2,h3,d64,d192,d1152,d7,m3,m6,m4,mP,hw,oSl,ptN,ptE,k1,pw18,c1,c2,hi,hz,es,axy,aKn,ak8,aYn,-map_take]
 ·simp [aqe,aqsk,aqsi,ini,axk,aqu4,h1,h2,h3,d64,d192,d1152,d7,m3,m6,m4,mP,hw,oSl,ptN,ptE,k1,pw18,c1,c2,hi,hz,es,axy,aKn,ak8,aYn,-map_take]
 ·simp [aqe,aqsk,aqsi,ini,axk,aqu4,h1,h2,h3,d64,d192,d1152,d7,m3,m6,m4,mP,hw,pw18,c1,c2,axy,aKn,ak8,aYn]
 ·simp [aqe,aqsk,aqsi,ini,axk,aqu4,h1,h2,h3,d64,d192,d1152,d7,m3,m6,m4,mP,hw,pw18,c1,c2,axy,aKn,ak8,aYn]
theorem aqmx (cells:List Int) (unit:Int) (hl:cells.length <= 100):azr [ag cells,.int unit]=some (bt (cells.map (aKn unit))):=by
 have hc:aji (geN 0) qT (oE (aA 2 aqe (gd (aqt7 0) (gd (aqt7 1) aqty)))) (cells.map D.int) [none,some (.int unit)]=some (cells.map fun n=>O.sh (axy (aKn unit n))):=by
  have:=al (inj:=D.int) (g:=geN 0) (c:=qT) (e:=oE (aA 2 aqe (gd (aqt7 0) (gd (aqt7 1) aqty)))) (fun ρ=>∃ d,ρ=[d,some (.int unit)]) (fun _=>true) (fun n=>O.sh (axy (aKn unit n))) cells [none,some (.int unit)] ⟨_,rfl⟩ (by
   rintro n _ ρ ⟨d,rfl⟩;have hp:=aqm9 n unit;exact ⟨_,rfl,⟨_,rfl⟩,rfl,fun _=>by simp [hp]⟩)
  rwa [List.filter_eq_self.mpr (by simp)] at this
 have hd:oDs (cells.map fun n=>O.sh (axy (aKn unit n)))=some ((cells.map (aKn unit)).map axy):=by
  have:=aqt (f:=fun n:Int=>O.sh (axy (aKn unit n))) (g:=fun n=>axy (aKn unit n)) (fun p=>by simp) cells
  rw [this,map_map]; rfl
 have hl':cells.length <= 100000:=by omega
 simp [azr,aqsk,aqsi,ini,aQq,aqa,mkD,hl',aqu4,hc,hd,bt,-map_map]
def aqc1 (n:Int):Int:=if n.fmod 3=0 then 1 else if n.fmod 3=1 then 1 + (n.fdiv 5).fmod 1000 else 1 + (n.fdiv 5).fmod P17
theorem aqll (n:Int):azq [.int n]=some (.int (aqc1 n)):=by
 have d5:aqti (.int n) (.int 5)=some (.int (n.fdiv 5)):=awi (by decide) (awj (k:=3) (by decide) (by decide));have m1:aqtf (.int (n.fdiv 5)) (.int 1000)=some (.int ((n.fdiv 5).fmod 1000)):=ax2 (by decide);have mP:aqtf (.int (n.fdiv 5)) (.int P17)=some (.int ((n.fdiv 5).fmod P17)):=ax2 aqpv;have m3:aqtf (.int n) (.int 3)=some (.int (n.fmod 3)):=ax2 (by decide);have u1:=Int.fmod_lt_of_pos n (b:=3) (by decide);have u0:=Int.fmod_nonneg_of_pos n (b:=3) (by decide);have hx:∀ a b c:Int,dIx (.lst [.int a,.int b,.int c]) (.int (n.fmod 3))=some (.int (if n.fmod 3=0 then a else if n.fmod 3=1 then b else c)):=by
  intro a b c;obtain h | h | h:n.fmod 3=0 \/ n.fmod 3=1 \/ n.fmod 3=2:=by omega
  ·rw [h]; rfl
  ·rw [h]; rfl
  ·rw [h]; rfl
 simp [azq,aqsk,aqsi,ini,aQp,d5,m1,mP,m3,pw17,aqu4,hx,aqc1]
theorem aqip (n:Int):1 <= aqc1 n/\aqc1 n <= P17:=by
 have a1:=Int.fmod_nonneg_of_pos (n.fdiv 5) (b:=1000) (by decide);have a2:=Int.fmod_lt_of_pos (n.fdiv 5) (b:=1000) (by decide);have b1:=Int.fmod_nonneg_of_pos (n.fdiv 5) (b:=P17) aqft;have b2:=Int.fmod_lt_of_pos (n.fdiv 5) (b:=P17) aqft;have hP:(1000:Int) <= P17:=by decide
 unfold aqc1;split
 ·omega
 ·split <;> omega
def cellOf (ns:List Int) (k:Nat):Int:=if k < ns.length then ns.getD k 0 else if ns=[] then (k:Int) * k * 7919 + 13 * k else ((ns.getD (k % ns.length) 0 + (k:Int) * k * 7919 + 1) * 48271).fmod 2147483647
theorem aqid (ns:List Int) (k:Nat) (hk:k <= 1000):aU [ag ns,.int (k:Int)]=some (.int (cellOf ns k)):=by
 have kk:aqte (.int (k:Int)) (.int (k:Int))=some (.int ((k:Int) * k)):=aqf4 (lt_of_le_of_lt (show _ <= 1000 by omega) (by decide));have k79:aqte (.int ((k:Int) * k)) (.int 7919)=some (.int ((k:Int) * k * 7919)):=aqh6 (by decide);have k13:aqte (.int 13) (.int (k:Int))=some (.int (13 * (k:Int))):=aqf4 (by decide)
 by_cases h1:k < ns.length
 ·have hx:dIx (ag ns) (.int (k:Int))=some (.int (ns.getD k 0)):=by rw [aqb8 h1]; simp [h1]
  have h1':(k:Int) < (ns.length:Int):=by omega
  simp [aU,aqsk,aqsi,ini,azt,h1,h1',hx,cellOf]
 ·have h1':¬ (k:Int) < (ns.length:Int):=by omega
  have he:dEq (ag ns) (.lst [])=some (.bl (decide (ns=[]))):=aqbn ns []
  by_cases h2:ns=[]
  ·subst h2
   have h1'':¬ (k:Int) < 0:=by omega
   simp [aU,h1'',aqsk,aqsi,ini,azt,he,aqu4,kk,k79,k13,cellOf]
  ·have hlen:0 < ns.length:=List.length_pos_iff.mpr h2
   have hm:aqtf (.int (k:Int)) (.int (ns.length:Int))=some (.int ((k % ns.length:Nat):Int)):=by
    rw [ax2 (by omega),Int.fmod_eq_emod_of_nonneg _ (by omega),<- Int.natCast_emod]
   have hlt:k % ns.length < ns.length:=mod_lt _ hlen;have hx:dIx (ag ns) (.int ((k % ns.length:Nat):Int))=some (.int (ns.getD (k % ns.length) 0)):=by rw [aqb8 hlt]; simp [hlt]
   have hm2:aqte (.int (ns.getD (k % ns.length) 0 + (k:Int) * k * 7919 + 1)) (.int 48271)=some (.int ((ns.getD (k % ns.length) 0 + (k:Int) * k * 7919 + 1) * 48271)):=aqh6 (by decide);have hm3:aqtf (.int ((ns.getD (k % ns.length) 0 + (k:Int) * k * 7919 + 1) * 48271)) (.int 2147483647)=some (.int (((ns.getD (k % ns.length) 0 + (k:Int) * k * 7919 + 1) * 48271).fmod 2147483647)):=ax2 (by decide);rw [show cellOf ns k=((ns.getD (k % ns.length) 0 + (k:Int) * k * 7919 + 1) * 48271).fmod 2147483647 by rw [cellOf,if_neg h1,if_neg h2]];generalize ns.getD (k % ns.length) 0=y at *;generalize k % ns.length=q at *;simp [aU,aqsk,aqsi,ini,azt,h1',he,h2,aqu4,kk,k79,hm,hx,hm2,hm3]
def plD (g:List Nat):D:=ag (g.map fun (i:Nat)=>(i:Int))
def aqtw (h:List aqu2) (s:List Int):List Nat:=(List.range h.length).filter fun i=>atB (fun p:aqu2=>aj7 p.2 s) h[i]?
theorem agr_N (h:List aqu2) (s:List Int):agr h s=(aqtw h s).map fun (i:Nat)=>(i:Int):=rfl
theorem av (h:List aqu2) (s:List Int):∀ i∈aqtw h s,i < h.length:=fun i m=>List.mem_range.mp (List.mem_filter.mp m).1
theorem ajg (h:List aqu2) (s:List Int):(aqtw h s).length <= h.length:=le_trans (length_filter_le _ _) (by simp)
theorem aJa:∀ (ns:List Int) (a:Int),sumD (ns.map D.int) a=some (a + ns.sum)
 | [],a=>by simp [sumD]
 | n :: ns,a=>by simp [sumD,aJa ns,Int.add_assoc]
def wAt (h:List aqu2) (i:Nat):Int:=(h.getD i (0,[])).1
def wG (h:List aqu2) (g:List Nat):Int:=(g.map (wAt h)).sum
def aqs9 (h:List aqu2):Int:=(h.map fun p=>p.1).sum
def aYu (h:List aqu2) (seats count:Int) (g:List Nat):Bool:=!decide (g=[]) && decide (count * aqs9 h <= seats * wG h g)
theorem axl (h:List aqu2) (hh:h.length <= 100):aI [bt h]=some (.int (aqs9 h)):=by
 have hc:aji (aqt4 [(geN 0),(geN 1)]) qT (oE (aqt7 0)) (h.map axy) [none,none]=some (h.map fun p=>O.sh (.int p.1)):=by
  have:=al (inj:=axy) (g:=aqt4 [(geN 0),(geN 1)]) (c:=qT) (e:=oE (aqt7 0)) (fun ρ=>∃ d d',ρ=[d,d']) (fun _=>true) (fun p=>O.sh (.int p.1)) h [none,none] ⟨_,_,rfl⟩ (by
   rintro p _ ρ ⟨d,d',rfl⟩;exact ⟨_,rfl,⟨_,_,rfl⟩,rfl,fun _=>rfl⟩)
  rwa [List.filter_eq_self.mpr (by simp)] at this
 have hd:oDs (h.map fun p=>O.sh (.int p.1))=some ((h.map fun p=>p.1).map D.int):=by
  have:=aqt (f:=fun p:aqu2=>O.sh (.int p.1)) (g:=fun p=>D.int p.1) (fun p=>by simp) h
  rw [this]; simp
 have hl:h.length <= 100000:=by omega
 simp [aI,aqsk,aqsi,ini,aQi,aqa,mkD,bt,hl,aqu4,hc,hd,dSum,aJa,aqs9,-map_map]
theorem akl (h:List aqu2) (g:List Nat) (hg:∀ i∈g,i < h.length) (hl:g.length <= 1000):aqp [bt h,plD g]=some (.int (wG h g)):=by
 have hc:aji (geN 0) qT (oE (f2 dIx (f2 dIx (aqt7 1) (aqt7 0)) (fC (.int 0)))) (g.map fun (i:Nat)=>D.int (i:Int)) [none,some (bt h)]=some (g.map fun i=>O.sh (.int (wAt h i))):=by
  have:=al (inj:=fun (i:Nat)=>D.int (i:Int)) (g:=geN 0) (c:=qT) (e:=oE (f2 dIx (f2 dIx (aqt7 1) (aqt7 0)) (fC (.int 0)))) (fun ρ=>∃ d,ρ=[d,some (bt h)]) (fun _=>true) (fun i=>O.sh (.int (wAt h i))) g [none,some (bt h)] ⟨_,rfl⟩ (by
   rintro i hi ρ ⟨d,rfl⟩;have hx:=aK0 (hg i hi);have hw:wAt h i=(h[i]'(hg i hi)).1:=by simp [wAt,hg i hi]
   exact ⟨_,rfl,⟨_,rfl⟩,rfl,fun _=>by simp [hx,hw]⟩)
  rwa [List.filter_eq_self.mpr (by simp)] at this
 have hd:oDs (g.map fun i=>O.sh (.int (wAt h i)))=some ((g.map (wAt h)).map D.int):=by
  have:=aqt (f:=fun i:Nat=>O.sh (.int (wAt h i))) (g:=fun i=>D.int (wAt h i)) (fun p=>by simp) g
  rw [this]; simp
 have hl':g.length <= 100000:=by omega
 have hlo:akv (plD g)=some (g.map fun (i:Nat)=>D.int (i:Int)):=by simp [plD]
 simp [aqp,aqsk,aqsi,ini,aQj,aqa,mkD,hl',aqu4,hlo,hc,hd,dSum,aJa,wG,-map_map]
def aqsz (l:List Nat) (i:Nat):Bool:=l.contains i
theorem akx {l:List Nat} {i:Nat}:aqsz l i=true ↔ i∈l:=by simp [aqsz]
theorem aqgy (l:List Nat) (i:Nat):has (l.map fun (j:Nat)=>(j:Int)) (i:Int)=aqsz l i:=by
 rw [Bool.eq_iff_iff,aj1,akx,List.mem_map];exact ⟨fun ⟨a,m,e⟩=>by rw [<- Int.ofNat_inj.mp e]; exact m,fun m=>⟨i,m,rfl⟩⟩
theorem axf {α:Type} (f:α->Bool):∀ l:List α,aqcr (l.map fun a=>D.bl (f a))=some (l.map f)
 | []=>rfl
 | a :: l=>by simp [aqcr,axf f l]
theorem aZ3 (h:List aqu2) (s:List Int):(agr h s).map D.int=(aqtw h s).map fun (i:Nat)=>D.int (i:Int):=by rw [agr_N,map_map]; rfl
theorem akt (g:List Nat):D.lst (g.map fun (i:Nat)=>D.int (i:Int))=plD g:=by simp [plD,ag]
def aja (h:List aqu2) (seats:Int) (s:List Int) (g:List Nat):Bool:=!decide (s=[]) && !decide (g=[]) && g.all (aqsz (aqtw h s)) && decide ((s.length:Int) * aqs9 h <= seats * wG h g)
theorem aXp (h:List aqu2) (seats:Int) (s:List Int) (g:List Nat) (hh:h.length <= 100) (hs:s.length <= 100) (hl:g.length <= 1000) (hse:seats.natAbs < 2 ^ 63):axq [bt h,.int seats,ag s,plD g]=some (.bl (aja h seats s g)):=by
 have e1:(((s.length:Int) == 0):Bool)=decide (s=[]):=by rw [Bool.eq_iff_iff]; simp
 have e2:(((g.length:Int) == 0):Bool)=decide (g=[]):=by rw [Bool.eq_iff_iff]; simp
 have hlen:aqtg [plD g]=some (.int g.length):=by simp [plD]
 have ha:aj6 [bt h,ag s]=some (ow ((agr h s).map .int)):=aJk h s hh hs;have hz:fzc (some (ow ((agr h s).map .int)))=some (.sh (ag (agr h s))):=by simp [ag]
 have hz2:oD (ow ((agr h s).map .int))=some (ag (agr h s)):=by simp [ag]
 have hlo:akv (plD g)=some (g.map fun (i:Nat)=>D.int (i:Int)):=by simp [plD]
 have hc:aji (geN 0) qT (oE (f2 dIn (aqt7 0) (aqt7 1))) (g.map fun (i:Nat)=>D.int (i:Int)) [none,some (ag (agr h s))]=some (g.map fun i=>O.sh (.bl (aqsz (aqtw h s) i))):=by
  have:=al (inj:=fun (i:Nat)=>D.int (i:Int)) (g:=geN 0) (c:=qT) (e:=oE (f2 dIn (aqt7 0) (aqt7 1))) (fun ρ=>∃ d,ρ=[d,some (ag (agr h s))]) (fun _=>true) (fun i=>O.sh (.bl (aqsz (aqtw h s) i))) g [none,some (ag (agr h s))] ⟨_,rfl⟩ (by
   rintro i hi ρ ⟨d,rfl⟩;exact ⟨_,rfl,⟨_,rfl⟩,rfl,fun _=>by simp [agr_N,aqgy]⟩)
  rwa [List.filter_eq_self.mpr (by simp)] at this
 have hc':=hc;have hl':g.length <= 100000:=by omega
 have hd:oDs (g.map fun i=>O.sh (.bl (aqsz (aqtw h s) i)))=some (g.map fun i=>D.bl (aqsz (aqtw h s) i)):=aqt (fun c=>by simp) g;have w2:=axl h hh;have m1:aqte (.int seats) (.int (wG h g))=some (.int (seats * wG h g)):=aqf4 hse;have m2:aqte (.int (s.length:Int)) (.int (aqs9 h))=some (.int ((s.length:Int) * aqs9 h)):=aqf4 (lt_of_le_of_lt (show _ <= 100 by omega) (by decide))
 by_cases c1:s=[]
 ·subst c1
  simp [axq,aqsk,aqsi,ini,aZ2,e1,aja]
 ·have c1':¬ ((s.length:Int)=0):=by simp [c1]
  by_cases c2:g=[]
  ·subst c2
   simp [axq,aqsk,aqsi,ini,aZ2,hlen,c1,aja]
  ·have c2':¬ ((g.length:Int)=0):=by simp [c2]
   cases c3:g.all (aqsz (aqtw h s)) with
   | false =>
    simp [axq,aqsk,aqsi,ini,aZ2,hlen,c1,c2,ha,aqa,mkD,hlo,hl',aqu4,hz2,hc',hd,aqtk,axf,all_map,Function.comp_def,aja,c3,-all_eq_true,-List.all_eq_false]
   | true =>
    have hg:∀ i∈g,i < h.length:=fun i m=>av h s i (akx.mp (List.all_eq_true.mp c3 i m));have w1:=akl h g hg hl;simp [axq,aqsk,aqsi,ini,aZ2,hlen,c1,c2,ha,aqa,mkD,hlo,hl',aqu4,hz2,hc',hd,aqtk,axf,all_map,Function.comp_def,aja,c3,w1,w2,m1,m2,-all_eq_true,-List.all_eq_false]
theorem aZu (h:List aqu2) (k:okH h) (hh:h.length <= 100):axb [bt h]=some (ow ((ak h).map .int)):=by
 have e:aqi (ajx h)=ak h:=by
  refine aQf (axz _) (List.Pairwise.filter _ av3) fun x=>?_;show x∈aqi (ajx h) ↔ x∈six.filter _;rw [av7,List.mem_filter,any_eq_true];simp only [ajx,List.mem_flatMap,aj1];exact ⟨fun ⟨p,hp,hx⟩=>⟨k.mem hp hx,p,hp,hx⟩,fun ⟨_,p,hp,hx⟩=>⟨p,hp,hx⟩⟩
 have hl:(aqi (ajx h)).length < 64:=by
  rw [e];exact lt_of_le_of_lt (aP h) (by decide)
 rw [<- e];exact aqk0 h hh (fun p hp=>le_trans (k.len p hp) (by decide)) hl
theorem aqea (n:Int):(aYn n).Sublist six:=by
 unfold aYn;split
 ·exact (take_sublist _ _).trans (aqi1 _)
 ·exact aqi1 _
theorem aqkc (cells:List Int) (unit:Int):okH (cells.map (aKn unit)):=fun p m=>by
 obtain ⟨n,_,rfl⟩:=List.mem_map.mp m;exact aqea n
theorem aqbz (n unit:Int) (hu:1 <= unit):1 <= ak8 n unit:=by
 unfold ak8;split
 ·have:=Int.fmod_nonneg_of_pos (n.fdiv 7) aqby
  omega
 ·have h6:=Int.fmod_nonneg_of_pos ((akk n).fdiv 192) (b:=6) (by decide)
  have:1 * 1 <= unit * (1 + ((akk n).fdiv 192).fmod 6):=Int.mul_le_mul hu (by omega) (by decide) (by omega)
  omega
theorem aqgx (cells:List Int) (unit:Int) (hu:1 <= unit):∀ p∈cells.map (aKn unit),1 <= p.1:=fun p m=>by
 obtain ⟨n,_,rfl⟩:=List.mem_map.mp m;exact aqbz n unit hu
def mlk (h:List aqu2) (mem:List Int) (i:Nat):List Int:=mem.filter (has (h.getD i (0,[])).2)
theorem aqk9 (g:List Nat):imm (plD g)=false:=by simp [plD]
theorem aqja (g:List Nat):akv (plD g)=some (g.map fun (i:Nat)=>D.int (i:Int)):=by simp [plD]
theorem aqaw (g:List Nat):D.lst (g.map fun (i:Nat)=>D.int (i:Int))=plD g:=by simp [plD,ag]
theorem aql9 (h:List aqu2) (s:List Int):(agr h s).map D.int=(aqtw h s).map fun (i:Nat)=>D.int (i:Int):=by rw [agr_N,map_map]; rfl
theorem pl_oD (g:List Nat):oDs (g.map fun (i:Nat)=>O.sh (.int (i:Int)))=some (g.map fun (i:Nat)=>D.int (i:Int)):=aqt (fun p=>by simp) g
theorem aqj9 (g:List Nat):aqst (g.map fun (i:Nat)=>O.sh (.int (i:Int)))=true:=aJ8 (fun _=>by simp) g
theorem aqjs (l:List Int):dEq (ag l) (.lst [])=some (.bl (decide (l=[]))):=aqbn l []
theorem aqju (h:List aqu2) (i:Nat) (hi:i < h.length) (mem:List Int) (hm:mem.length <= 100):ax [bt h,.int (i:Int),ag mem]=some (ag (mlk h mem i)):=by
 have hx:=aK0 hi;have hc:aji (geN 0) (qV (f2 dIn (aqt7 0) (f2 dIx (f2 dIx (aqt7 1) (aqt7 2)) (fC (.int 1))))) (oE (aqt7 0)) (mem.map D.int) [none,some (bt h),some (.int (i:Int))]=some ((mlk h mem i).map fun c=>O.sh (.int c)) :=
  al (inj:=D.int) (fun ρ=>∃ d,ρ=[d,some (bt h),some (.int (i:Int))]) (has (h.getD i (0,[])).2) (fun c=>O.sh (.int c)) mem _ ⟨_,rfl⟩ (by
   rintro c _ ρ ⟨d,rfl⟩;exact ⟨_,rfl,⟨_,rfl⟩,by simp [hx,hi],fun _=>by simp⟩)
 have hd:oDs ((mlk h mem i).map fun c=>O.sh (.int c))=some ((mlk h mem i).map D.int):=aqt (fun p=>by simp) _;have hl:mem.length <= 100000:=by omega
 simp [ax,aqsk,aqsi,ini,azf,aqa,mkD,hl,aqu4,hc,hd];rfl
def aqt0 (h:List aqu2) (mem s:List Int):List Nat:=(aqtw h s).filter fun i=>decide (mlk h mem i=[])
theorem aqkd (h:List aqu2) (mem s:List Int):(aqt0 h mem s).length <= h.length:=le_trans (length_filter_le _ _) (ajg h s)
def aqlu (h:List aqu2) (seats:Int) (mem:List Int):Option Int:=(ak h).find? fun c=>aja h seats [c] (aqt0 h mem [c])
def aqlv (h:List aqu2) (seats:Int) (mem:List Int):D:=match aqlu h seats mem with | some c=>.tup [ag [c],plD (aqt0 h mem [c])] | none=>.non
theorem aqlt (h:List aqu2) (k:okH h) (hh:h.length <= 100) (seats:Int) (hse:seats.natAbs < 2 ^ 63) (mem:List Int) (hm:mem.length <= 100) :
  azp [bt h,.int seats,ag mem]=some (aqlv h seats mem):=by
 have lk:=aZu h k hh;have hz:oD (ow ((ak h).map D.int))=some (ag (ak h)):=by simp [ag]
 obtain ⟨f1,f2'⟩:=aXk (inj:=D.int) (g:=gN 3) (b:=az6) (fun ρ=>∃ c c',ρ=[some (.sh (bt h)),some (.sh (.int seats)),some (.sh (ag mem)),c,c']) (fun c=>aja h seats [c] (aqt0 h mem [c])) (fun c=>O.tup [ow [.int c],.sh (plD (aqt0 h mem [c]))]) (ak h)
  [some (.sh (bt h)),some (.sh (.int seats)),some (.sh (ag mem)),none,none] ⟨_,_,rfl⟩ (by
   rintro c _ ρ ⟨d,d',rfl⟩;have l1:=az1 h c hh;rw [aql9] at l1;have hc:aji (geN 0) (qV (f2 dEq (aA 3 ax (gd (aqt7 1) (gd (aqt7 0) (gd (aqt7 2) aqty)))) (fL (aqsv aqty)))) (oE (aqt7 0)) ((aqtw h [c]).map fun (i:Nat)=>D.int (i:Int)) [none,some (bt h),some (ag mem)]=some ((aqt0 h mem [c]).map fun (i:Nat)=>O.sh (.int (i:Int))) :=
    al (inj:=fun (i:Nat)=>D.int (i:Int)) (fun ρ=>∃ d,ρ=[d,some (bt h),some (ag mem)]) (fun i=>decide (mlk h mem i=[])) (fun (i:Nat)=>O.sh (.int (i:Int))) (aqtw h [c]) _ ⟨_,rfl⟩ (by
     rintro i hi ρ ⟨d,rfl⟩;have ml:=aqju h i (av h [c] i hi) mem hm;have hn:=aqjs (mlk h mem i);exact ⟨_,rfl,⟨_,rfl⟩,by simp [ml,aqu4,hn],fun _=>by simp⟩)
   have hl:(aqtw h [c]).length <= 100000:=by have:=ajg h [c]; omega
   have hg:=pl_oD (aqt0 h mem [c]);have hgi:=aqj9 (aqt0 h mem [c]);have hf:=aqaw (aqt0 h mem [c]);have cl:=aXp h seats [c] (aqt0 h mem [c]) hh (by simp) (by have:=aqkd h mem [c]; omega) hse;have e1:ag [c]=.lst [.int c]:=rfl;rw [e1] at cl;refine ⟨_,rfl,fun hb=>?_,fun hb=>?_⟩
   ·apply Exists.intro
    simp [az6,l1,aqa,mkD,hl,aqu4,hc,hg,hgi,hf,cl,hb,aqk9];rfl
   ·refine ⟨_,.inl ?_,some (.sh (.int c)),some (.lst ((aqt0 h mem [c]).map fun (i:Nat)=>O.sh (.int (i:Int)))),rfl⟩
    simp [az6,l1,aqa,mkD,hl,aqu4,hc,hg,hgi,hf,cl,hb])
 cases hf:aqlu h seats mem with
 | none =>
  obtain ⟨ρ',e1,c,c',e2⟩:=f2' hf;simp [azp,aqsk,aqsi,ini,awl,lk,hz,aqtu,aqu4,e1,aqlv,hf]
 | some c =>
  obtain ⟨ρ',e1⟩:=f1 c hf;simp [azp,aqsk,aqsi,ini,awl,lk,hz,aqtu,aqu4,e1,aqlv,hf];rfl
theorem aqda {α:Type} {P:List α->Prop} (h0:P []) (h1:∀ l a,P l->P (l++[a])):∀ l,P l:=by
 intro l;have key:∀ m:List α,P m.reverse:=by
  intro m
  induction m with
  | nil=>exact h0
  | cons a m ih=>rw [List.reverse_cons]; exact h1 _ _ ih
 have:=key l.reverse
 rwa [List.reverse_reverse] at this
def aq2 (l:List Int):List (List Int):=l.foldl (fun rows t=>rows++rows.map (·++[t])) [[]]
theorem awt (l:List Int) (t:Int):aq2 (l++[t])=aq2 l++(aq2 l).map (·++[t]):=by simp [aq2]
theorem aQt:∀ l:List Int,(aq2 l).length=2 ^ l.length :=
 aqda (by simp [aq2]) fun l a ih=>by rw [awt,length_append,length_map,ih,length_append,List.length_singleton,Nat.pow_succ]; omega
theorem awe:∀ (l s:List Int),s∈aq2 l ↔ s.Sublist l :=
 aqda (by intro s; simp [aq2]) fun l a ih s=>by
  rw [awt,List.mem_append,ih,List.mem_map,List.sublist_append_iff];constructor
  ·rintro (h | ⟨r,hr,rfl⟩)
   ·exact ⟨s,[],by simp,h,by simp⟩
   ·exact ⟨r,[a],rfl,(ih r).mp hr,List.Sublist.refl _⟩
  ·rintro ⟨s1,s2,rfl,h1,h2⟩
   have h3:s2=[] \/ s2=[a]:=by
    cases h2 with
    | cons _ h=>left; exact List.sublist_nil.mp h
    | cons_cons _ h=>right; rw [List.sublist_nil.mp h]
   rcases h3 with rfl | rfl
   ·exact .inl (by simpa using h1)
   ·exact .inr ⟨s1,(ih s1).mpr h1,rfl⟩
def aWy (r:List (List Int)):D:=.lst (r.map ag)
theorem aqa2 (l:List Int) (o:O) (R:List (List Int)) (t:Int) (ho:oD o=some (aWy R)) (hR:R.length <= 64) (hr:∀ r∈R,r.length <= 10) :
  ake [some (.sh (ag l)),some o,some (.sh (.int t))]=some (.nx [some (.sh (ag l)),some (ow ((R++R.map (·++[t])).map ag)),some (.sh (.int t))]):=by
 have hc:aji (geN 0) qT (o2 aqtj (aqt7 0) (fL (aqsv (gd (aqt7 1) aqty)))) (R.map ag) [none,some (.int t)]=some (R.map fun r=>ow (r.map D.int++[D.int t])):=by
  have:=al (inj:=ag) (g:=geN 0) (c:=qT) (e:=o2 aqtj (aqt7 0) (fL (aqsv (gd (aqt7 1) aqty)))) (fun ρ=>∃ d,ρ=[d,some (.int t)]) (fun _=>true) (fun r=>ow (r.map D.int++[D.int t])) R [none,some (.int t)] ⟨_,rfl⟩ (by
   rintro r hm ρ ⟨d,rfl⟩;have h10:=hr r hm;have hl:r.length + 1 <= 100000:=by omega
   exact ⟨_,rfl,⟨_,rfl⟩,rfl,fun _=>by simp [aqtj,ag,aqu4,hl]⟩)
  rwa [List.filter_eq_self.mpr (by simp)] at this
 have hd:oDs (R.map fun r=>ow (r.map D.int++[D.int t]))=some (R.map fun r=>ag (r++[t])):=aqt (fun r=>by have:=aVu (r++[t]); simpa using this) R;have hl:R.length <= 100000:=by omega
 have hl2:R.length + R.length <= 100000:=by omega
 have hz:fzc (some o)=some (.sh (aWy R)):=by
  cases o with
  | sh d=>simp at ho; subst ho; rfl
  | _=>simp [fzc,ho]
 have hlo:akv (aWy R)=some (R.map ag):=rfl;simp [ake,frz,ho,aqa,mkD,hlo,hl,aqu4,hc,hd,o2,aqtj,aWy,hl2,Function.comp_def];split <;> rfl
theorem aXq (l:List Int) (hl:l.length <= 6):axd [ag l]=some (aWy (aq2 l)):=by
 obtain ⟨ρ',h1,c,o,h2,h3⟩:=aY2 (inj:=D.int) (g:=gN 2) (b:=ake) (fun pre ρ=>∃ (c:Option O) (o:O),ρ=[some (.sh (ag l)),some o,c]/\oD o=some (aWy (aq2 pre))) l
  [some (.sh (ag l)),some (.lst [.lst []]),none] ⟨none,.lst [.lst []],rfl,by simp [aWy,aq2,ag]⟩ (by
   rintro pre a post ρ e ⟨c,o,rfl,ho⟩;have hpl:pre.length <= 5:=by have:=congrArg List.length e; simp at this; omega
   have hR:(aq2 pre).length <= 64:=by
    rw [aQt];exact le_trans (pow_le_pow_right (by decide) hpl) (by decide)
   refine ⟨[some (.sh (ag l)),some o,some (.sh (.int a))],_,rfl,.inl (aqa2 l o (aq2 pre) a ho hR fun r hr=>?_),_,_,rfl,?_⟩
   ·have:=((awe pre r).mp hr).length_le
    omega
   ·rw [awt]
    simp [aWy])
 have hr:frz [false,true,false] ρ'=[none,some (aWy (aq2 l)),none]:=by rw [h2]; simp [frz,h3]
 have hi:imm (aWy (aq2 l))=false:=by simp [aWy]
 have e0:O.lst [ow []]=O.lst [O.lst []]:=rfl;simp [axd,aqsk,aqsi,ini,aV7,aqtu,aqu4,e0,h1,aqts,mE,hr,aqt7,hi]
theorem aw8 (R:List (List Int)):akv (aWy R)=some (R.map ag):=rfl
theorem aws {h:List aqu2} {s:List Int} (hs:s∈aq2 (ak h)):s.Sublist six:=((awe _ s).mp hs).trans (awf h)
def aqt2 (h:List aqu2) (mem s:List Int):List Nat:=(aqtw h s).filter fun i=>decide (((mlk h mem i).length:Int) < (s.length:Int))
theorem aqeo (h:List aqu2) (mem s:List Int):(aqt2 h mem s).length <= h.length:=le_trans (length_filter_le _ _) (ajg h s)
def aqk2 (h:List aqu2) (seats:Int) (mem:List Int):Option (List Int):=(aq2 (ak h)).find? fun s=>aja h seats s (aqt2 h mem s)
def aqgu (h:List aqu2) (seats:Int) (mem:List Int):D:=match aqk2 h seats mem with | some s=>.tup [ag s,plD (aqt2 h mem s)] | none=>.non
theorem aqi4 (h:List aqu2) (k:okH h) (hh:h.length <= 100) (seats:Int) (hse:seats.natAbs < 2 ^ 63) (mem:List Int) (hm:mem.length <= 100) :
  ajy [bt h,.int seats,ag mem]=some (aqgu h seats mem):=by
 have lk:=aZu h k hh;have hz:oD (ow ((ak h).map D.int))=some (ag (ak h)):=by simp [ag]
 have ch:=aXq (ak h) (aP h);obtain ⟨f1,f2'⟩:=aQe (inj:=ag) (g:=gN 3) (b:=az7) (fun ρ=>∃ c c',ρ=[some (.sh (bt h)),some (.sh (.int seats)),some (.sh (ag mem)),c,c']) (fun s=>aja h seats s (aqt2 h mem s)) (fun s=>O.sh (.tup [ag s,plD (aqt2 h mem s)])) (aq2 (ak h))
  [some (.sh (bt h)),some (.sh (.int seats)),some (.sh (ag mem)),none,none] ⟨_,_,rfl⟩ (by
   rintro s hs ρ ⟨d,d',rfl⟩;have hsl:s.length <= 6:=(aws hs).length_le;have l1:=aJk h s hh (by omega);rw [aql9] at l1;have hc:aji (geN 0) (qV (f2 dLt (aqt9 aqtg (gd (aA 3 ax (gd (aqt7 2) (gd (aqt7 0) (gd (aqt7 3) aqty)))) aqty)) (aqt9 aqtg (gd (aqt7 1) aqty)))) (oE (aqt7 0)) ((aqtw h s).map fun (i:Nat)=>D.int (i:Int)) [none,some (ag s),some (bt h),some (ag mem)]=some ((aqt2 h mem s).map fun (i:Nat)=>O.sh (.int (i:Int))) :=
    al (inj:=fun (i:Nat)=>D.int (i:Int)) (fun ρ=>∃ d,ρ=[d,some (ag s),some (bt h),some (ag mem)]) (fun i=>decide (((mlk h mem i).length:Int) < (s.length:Int))) (fun (i:Nat)=>O.sh (.int (i:Int))) (aqtw h s) _ ⟨_,rfl⟩ (by
     rintro i hi ρ ⟨d,rfl⟩;have ml:=aqju h i (av h s i hi) mem hm;exact ⟨_,rfl,⟨_,rfl⟩,by simp [ml],fun _=>by simp⟩)
   have hl:(aqtw h s).length <= 100000:=by have:=ajg h s; omega
   have hg:=pl_oD (aqt2 h mem s);have hgi:=aqj9 (aqt2 h mem s);have hf:=aqaw (aqt2 h mem s);have cl:=aXp h seats s (aqt2 h mem s) hh (by omega) (by have:=aqeo h mem s; omega) hse;refine ⟨fun hb=>?_,fun hb=>?_⟩
   ·simp [Rets,az7,l1,aqa,mkD,hl,aqu4,hc,hg,hgi,hf,cl,hb,aqk9]
   ·simp [aqu6,az7,l1,aqa,mkD,hl,aqu4,hc,hg,hgi,hf,cl,hb])
 cases hf:aqk2 h seats mem with
 | none =>
  obtain ⟨ρ',e1,c,c',e2⟩:=f2' hf;simp [ajy,aqsk,aqsi,ini,awm,lk,hz,ch,aw8,aqtu,aqu4,e1,aqgu,hf]
 | some c =>
  obtain ⟨ρ',e1⟩:=f1 c hf;simp [ajy,aqsk,aqsi,ini,awm,lk,hz,ch,aw8,aqtu,aqu4,e1,aqgu,hf]
def aqt1 (h:List aqu2) (mem s few:List Int):List Nat:=(aqtw h s).filter fun i=>(mlk h mem i).all (has few)
theorem aqke (h:List aqu2) (mem s few:List Int):(aqt1 h mem s few).length <= h.length:=le_trans (length_filter_le _ _) (ajg h s)
def aYo (s mem:List Int):Int:=if (mem.length:Int) < (s.length:Int) - 1 then (mem.length:Int) else (s.length:Int) - 1
def aqki (s mem:List Int):List (List Int):=(aq2 mem).filter fun f=>((f.length:Int) == aYo s mem)
def aqhx (h:List aqu2) (seats:Int) (mem s:List Int):Option (List Int):=(aqki s mem).find? fun f=>aja h seats s (aqt1 h mem s f)
def aqlc (h:List aqu2) (seats:Int) (mem s:List Int):Bool:=aja h seats s (aqtw h s) && (aqhx h seats mem s).isSome
def aWc (h:List aqu2) (seats:Int) (mem:List Int):Option (List Int):=(aq2 (ak h)).find? (aqlc h seats mem)
def aqdz (h:List aqu2) (seats:Int) (mem:List Int):D:=match aWc h seats mem with | some s=>.tup [ag s,plD (aqt1 h mem s ((aqhx h seats mem s).getD []))] | none=>.non
theorem aqjd (h:List aqu2) (i:Nat) (hi:i < h.length) (mem few:List Int) (hm:mem.length <= 100):aT [bt h,.int (i:Int),ag mem,ag few]=some (.bl ((mlk h mem i).all (has few))):=by
 have ml:=aqju h i hi mem hm;have hc:aji (geN 0) qT (oE (f2 dIn (aqt7 0) (aqt7 1))) ((mlk h mem i).map D.int) [none,some (ag few)]=some ((mlk h mem i).map fun c=>O.sh (.bl (has few c))):=by
  have:=al (inj:=D.int) (g:=geN 0) (c:=qT) (e:=oE (f2 dIn (aqt7 0) (aqt7 1))) (fun ρ=>∃ d,ρ=[d,some (ag few)]) (fun _=>true) (fun c=>O.sh (.bl (has few c))) (mlk h mem i) [none,some (ag few)] ⟨_,rfl⟩ (by
   rintro c _ ρ ⟨d,rfl⟩;exact ⟨_,rfl,⟨_,rfl⟩,rfl,fun _=>by simp⟩)
  rwa [List.filter_eq_self.mpr (by simp)] at this
 have hl:(mlk h mem i).length <= 100000:=by have:(mlk h mem i).length <= mem.length:=length_filter_le _ _; omega
 have hd:oDs ((mlk h mem i).map fun c=>O.sh (.bl (has few c)))=some ((mlk h mem i).map fun c=>D.bl (has few c)):=aqt (fun c=>by simp) _;simp [aT,aqsk,aqsi,ini,axv,ml,aqa,mkD,hl,aqu4,hc,hd,aqtk,axf,all_map,Function.comp_def,-all_eq_true]
theorem aK7 (mem:List Int) (hm:mem.length <= 6) (n:Int):ajr [ag mem,.int n]=some (aWy ((aq2 mem).filter fun f=>((f.length:Int) == n))):=by
 have ch:=aXq mem hm;have hc:aji (geN 0) (qV (f2 dEq (aqt9 aqtg (gd (aqt7 0) aqty)) (aqt7 1))) (oE (aqt7 0)) ((aq2 mem).map ag) [none,some (.int n)]=some (((aq2 mem).filter fun f=>((f.length:Int) == n)).map fun f=>O.sh (ag f)) :=
  al (inj:=ag) (fun ρ=>∃ d,ρ=[d,some (.int n)]) (fun f=>((f.length:Int) == n)) (fun f=>O.sh (ag f)) (aq2 mem) _ ⟨_,rfl⟩ (by
   rintro f hf ρ ⟨d,rfl⟩;exact ⟨_,rfl,⟨_,rfl⟩,by simp,fun _=>by simp⟩)
 have hl:(aq2 mem).length <= 100000:=by
  rw [aQt];exact le_trans (pow_le_pow_right (by decide) hm) (by decide)
 have hd:oDs (((aq2 mem).filter fun f=>((f.length:Int) == n)).map fun f=>O.sh (ag f))=some (((aq2 mem).filter fun f=>((f.length:Int) == n)).map ag):=aqt (fun c=>by simp) _;simp [ajr,aqsk,aqsi,ini,ak4,ch,aqa,mkD,aw8,hl,aqu4,hc,hd,aWy]
theorem aqmf (h:List aqu2) (hh:h.length <= 100) (seats:Int) (hse:seats.natAbs < 2 ^ 63) (mem s:List Int) (hm:mem.length <= 100) (hsl:s.length <= 6) (c4:Option O) (h4:c4.bind oD=some (plD (aqtw h s))) (c5 c6:Option O) (L:List (List Int)) :
  (∀ f,L.find? (fun f=>aja h seats s (aqt1 h mem s f))=some f->∃ ρ',aqt6 (gN 5) aqf (L.map ag) [some (.sh (bt h)),some (.sh (.int seats)),some (.sh (ag mem)),some (.sh (ag s)),c4,c5,c6]=some (.rt (.sh (.tup [ag s,plD (aqt1 h mem s f)])) ρ')) /\
  (L.find? (fun f=>aja h seats s (aqt1 h mem s f))=none->∃ ρ',aqt6 (gN 5) aqf (L.map ag) [some (.sh (bt h)),some (.sh (.int seats)),some (.sh (ag mem)),some (.sh (ag s)),c4,c5,c6]=some (.nx ρ')/\∃ c4 c5 c6,ρ'=[some (.sh (bt h)),some (.sh (.int seats)),some (.sh (ag mem)),some (.sh (ag s)),c4,c5,c6]/\c4.bind oD=some (plD (aqtw h s))):=by
 refine aQe (inj:=ag) (g:=gN 5) (b:=aqf) (fun ρ=>∃ c4 c5 c6,ρ=[some (.sh (bt h)),some (.sh (.int seats)),some (.sh (ag mem)),some (.sh (ag s)),c4,c5,c6]/\c4.bind oD=some (plD (aqtw h s))) (fun f=>aja h seats s (aqt1 h mem s f)) (fun f=>O.sh (.tup [ag s,plD (aqt1 h mem s f)])) L _ ⟨_,_,_,rfl,h4⟩ ?_;rintro f hf ρ ⟨c4,c5,c6,rfl,h4⟩;have lo:=aqja (aqtw h s);have hc:aji (geN 0) (qV (aA 4 aT (gd (aqt7 1) (gd (aqt7 0) (gd (aqt7 2) (gd (aqt7 3) aqty)))))) (oE (aqt7 0)) ((aqtw h s).map fun (i:Nat)=>D.int (i:Int)) [none,some (bt h),some (ag mem),some (ag f)]=some ((aqt1 h mem s f).map fun (i:Nat)=>O.sh (.int (i:Int))) :=
  al (inj:=fun (i:Nat)=>D.int (i:Int)) (fun ρ=>∃ d,ρ=[d,some (bt h),some (ag mem),some (ag f)]) (fun i=>(mlk h mem i).all (has f)) (fun (i:Nat)=>O.sh (.int (i:Int))) (aqtw h s) _ ⟨_,rfl⟩ (by
   rintro i hi ρ ⟨d,rfl⟩;have ml:=aqjd h i (av h s i hi) mem f hm;exact ⟨_,rfl,⟨_,rfl⟩,by simp [ml,-all_eq_true],fun _=>by simp⟩)
 have hl:(aqtw h s).length <= 100000:=by have:=ajg h s; omega
 have hg:=pl_oD (aqt1 h mem s f);have hgi:=aqj9 (aqt1 h mem s f);have hf':=aqaw (aqt1 h mem s f);have cl:=aXp h seats s (aqt1 h mem s f) hh (by omega) (by have:=aqke h mem s f; omega) hse;refine ⟨fun hb=>?_,fun hb=>?_⟩
 ·simp [Rets,aqf,h4,aqa,mkD,lo,hl,aqu4,hc,hg,hgi,hf',cl,hb,aqk9]
 ·simp [aqu6,aqf,h4,aqa,mkD,lo,hl,aqu4,hc,hg,hgi,hf',cl,hb]
theorem aqay (h:List aqu2) (k:okH h) (hh:h.length <= 100) (seats:Int) (hse:seats.natAbs < 2 ^ 63) (mem:List Int) (hm:mem.length <= 6) :
  aE [bt h,.int seats,ag mem]=some (aqdz h seats mem):=by
 have lk:=aZu h k hh;have hz:oD (ow ((ak h).map D.int))=some (ag (ak h)):=by simp [ag]
 have ch:=aXq (ak h) (aP h);obtain ⟨f1,f2'⟩:=aQe (inj:=ag) (g:=gN 3) (b:=aqx) (fun ρ=>∃ c c' c'' c3,ρ=[some (.sh (bt h)),some (.sh (.int seats)),some (.sh (ag mem)),c,c',c'',c3]) (aqlc h seats mem) (fun s=>O.sh (.tup [ag s,plD (aqt1 h mem s ((aqhx h seats mem s).getD []))])) (aq2 (ak h))
  [some (.sh (bt h)),some (.sh (.int seats)),some (.sh (ag mem)),none,none,none,none] ⟨_,_,_,_,rfl⟩ (by
   rintro s hs ρ ⟨d,d',d'',d3,rfl⟩;have hsl:s.length <= 6:=(aws hs).length_le;have l1:=aJk h s hh (by omega);rw [aql9] at l1;have hf:=aqaw (aqtw h s);have cl:=aXp h seats s (aqtw h s) hh (by omega) (by have:=ajg h s; omega) hse;have mn:aqng [.int ((s.length:Int) - 1),.int (mem.length:Int)]=some (.int (aYo s mem)):=aqnf;have co:=aK7 mem hm (aYo s mem);have rl:=aw8 (aqki s mem);have co':ajr [ag mem,.int (aYo s mem)]=some (aWy (aqki s mem)):=co;obtain ⟨i1,i2⟩:=aqmf h hh seats hse mem s (by omega) hsl (some (ow ((aqtw h s).map fun (i:Nat)=>D.int (i:Int)))) (by simp [hf]) d'' d3 (aqki s mem);refine ⟨fun hb=>?_,fun hb=>?_⟩
   ·have hb1:aja h seats s (aqtw h s)=true:=by simp [aqlc] at hb; exact hb.1
    have hb2:(aqhx h seats mem s).isSome=true:=by simp [aqlc] at hb; exact hb.2
    obtain ⟨f,hf2⟩:=Option.isSome_iff_exists.mp hb2;obtain ⟨ρ',e1⟩:=i1 f hf2;simp [Rets,aqx,l1,hf,cl,hb1,aqu4,mn,co',rl,aqtu,e1,hf2]
   ·cases hb1:aja h seats s (aqtw h s) with
    | false=>simp [aqu6,aqx,l1,hf,cl,hb1,aqu4]
    | true =>
     have hb2:aqhx h seats mem s=none:=by
      simp [aqlc,hb1] at hb;exact hb
     obtain ⟨ρ',e1,a4,a5,a6,e2,e3⟩:=i2 hb2;simp [aqu6,aqx,l1,hf,cl,hb1,aqu4,mn,co',rl,aqtu,e1,e2])
 cases hf:aWc h seats mem with
 | none =>
  obtain ⟨ρ',e1,c,c',c'',c3,e2⟩:=f2' hf;simp [aE,aqsk,aqsi,ini,ax5,lk,hz,ch,aw8,aqtu,aqu4,e1,aqdz,hf]
 | some c =>
  obtain ⟨ρ',e1⟩:=f1 c hf;simp [aE,aqsk,aqsi,ini,ax5,lk,hz,ch,aw8,aqtu,aqu4,e1,aqdz,hf]
theorem aqev {α:Type} {l:List α} {p q:α->Bool} (h:∀ a∈l,p a=true->q a=true):(l.filter p).Sublist (l.filter q):=by
 have e:l.filter p=(l.filter q).filter p:=by
  rw [List.filter_filter];refine List.filter_congr fun a m=>?_;cases hp:p a with
  | false=>simp
  | true=>simp [h a m hp]
 rw [e];exact filter_sublist
theorem aqof {h:List aqu2} (hw:∀ i,0 <= wAt h i) {g g':List Nat} (hs:g.Sublist g'):wG h g <= wG h g':=by
 induction hs with
 | slnil=>exact Int.le_refl _
 | cons a _ ih=>simp only [wG,map_cons,sum_cons] at ih ⊢; have:=hw a; omega
 | cons_cons a _ ih=>simp only [wG,map_cons,sum_cons] at ih ⊢; omega
theorem akc {h:List aqu2} {seats:Int} {s:List Int} {g:List Nat}:aja h seats s g=true ↔ s ≠ []/\g ≠ []/\(∀ i∈g,i∈aqtw h s)/\(s.length:Int) * aqs9 h <= seats * wG h g:=by
 have e:g.all (aqsz (aqtw h s))=true ↔ ∀ i∈g,i∈aqtw h s:=by rw [all_eq_true]; simp [akx]
 unfold aja;rw [Bool.and_eq_true,Bool.and_eq_true,Bool.and_eq_true,e];simp [and_assoc]
theorem aK6 {h:List aqu2} {seats:Int} {s:List Int} {g g':List Nat} (hw:∀ i,0 <= wAt h i) (h0:0 <= seats) (hc:aja h seats s g=true) (hs:g.Sublist g') (hg:∀ i∈g',i∈aqtw h s):aja h seats s g'=true:=by
 obtain ⟨c1,c2,c3,c4⟩:=akc.mp hc;refine akc.mpr ⟨c1,fun e=>c2 ?_,hg,Int.le_trans c4 (Int.mul_le_mul_of_nonneg_left (aqof hw hs) h0)⟩;rw [e] at hs;exact List.sublist_nil.mp hs
theorem aqb5 {h:List aqu2} {mem:List Int} {i:Nat} {x:Int}:x∈mlk h mem i ↔ x∈mem/\has (h.getD i (0,[])).2 x=true:=List.mem_filter
theorem awp {h:List aqu2} {s:List Int} {i:Nat} (hi:i∈aqtw h s):∀ c∈s,has (h.getD i (0,[])).2 c=true:=by
 have hl:=av h s i hi
 have:=(List.mem_filter.mp hi).2
 rw [getElem?_eq_getElem hl] at this;have hb:aj7 h[i].2 s=true:=this;rw [aqv hl];exact List.all_eq_true.mp hb
section
variable {h:List aqu2} {seats:Int} {mem:List Int}
theorem aqfz (hw:∀ i,0 <= wAt h i) (h0:0 <= seats) {c:Int} (hf:aqlu h seats mem=some c):aWc h seats mem ≠ none:=by
 have hc:aja h seats [c] (aqt0 h mem [c])=true:=find?_some (p:=fun c=>aja h seats [c] (aqt0 h mem [c])) hf;have hcl:c∈ak h:=List.mem_of_find?_eq_some hf;intro hn
 have:=List.find?_eq_none.mp hn [c] ((awe _ _).mpr (List.singleton_sublist.mpr hcl))
 apply this;have e:aqt1 h mem [c] []=aqt0 h mem [c]:=by
  refine List.filter_congr fun i m=>?_;rw [Bool.eq_iff_iff];simp [has,List.eq_nil_iff_forall_not_mem]
 have m0:aYo [c] mem=0:=by
  unfold aYo;split
  ·rename_i hlt; simp at hlt; omega
  ·simp
 have hin:([]:List Int)∈aqki [c] mem:=List.mem_filter.mpr ⟨(awe _ _).mpr (List.nil_sublist _),by simp [m0]⟩;have hsome:(aqhx h seats mem [c]).isSome=true:=by
  unfold aqhx;rw [List.find?_isSome];exact ⟨[],hin,by simp only [e]; exact hc⟩
 have hag:aja h seats [c] (aqtw h [c])=true:=aK6 hw h0 hc filter_sublist fun i m=>m;simp [aqlc,hag,hsome]
theorem aVl {s:List Int} (hf:aWc h seats mem=some s):∃ f,aqhx h seats mem s=some f/\f∈aqki s mem/\aja h seats s (aqt1 h mem s f)=true/\aja h seats s (aqtw h s)=true/\s∈aq2 (ak h):=by
 have hb:=find?_some hf;have hm:=List.mem_of_find?_eq_some hf;obtain ⟨b1,b2⟩:=Bool.and_eq_true _ _ |>.mp hb;obtain ⟨f,hf2⟩:=Option.isSome_iff_exists.mp b2;exact ⟨f,hf2,List.mem_of_find?_eq_some hf2,find?_some (p:=fun f=>aja h seats s (aqt1 h mem s f)) hf2,b1,hm⟩
theorem aqge (hw:∀ i,0 <= wAt h i) (h0:0 <= seats) (hmn:mem.Nodup) {s:List Int} (hf:aWc h seats mem=some s):aqk2 h seats mem ≠ none:=by
 obtain ⟨f,_,f1,f2,f3,f4⟩:=aVl hf;intro hn;apply List.find?_eq_none.mp hn s f4;have hs:s ≠ []:=(akc.mp f2).1;have hlen:1 <= s.length:=List.length_pos_iff.mpr hs;refine aK6 hw h0 f2 (aqev fun i m hi=>?_) fun i m=>(List.mem_filter.mp m).1;have h1:=(List.mem_filter.mp f1).2;have h2:(f.length:Int)=aYo s mem:=by simpa using h1
 have h3:aYo s mem <= (s.length:Int) - 1:=by unfold aYo; split <;> omega
 have h4:(mlk h mem i).length <= f.length:=aK (List.Pairwise.filter _ hmn) fun x hx=>aj1.mp (List.all_eq_true.mp hi x hx)
 simp
 omega
theorem aqmw:dIs (aqdz h seats mem) .non=some (.bl (aWc h seats mem).isNone):=by unfold aqdz; cases aWc h seats mem <;> rfl
theorem aqk7:aqth (aqdz h seats mem) .non=some (.bl (aWc h seats mem).isSome):=by unfold aqdz; cases aWc h seats mem <;> rfl
end
def pAt (P:List Rat) (i:Nat):Rat:=P.getD i 0
def aqsf (h:List aqu2) (P:List Rat) (c:Int):Rat:=az (aqtw h [c]) fun i=>(wAt h i:Rat) * pAt P i
def azj (h:List aqu2) (P:List Rat) (c:Int):Rat:=if (aqs9 h:Rat) - aqsf h P c <= 0 then 0 else ((aqs9 h:Rat) - aqsf h P c) / (wG h (aqtw h [c]):Rat)
theorem aqbc (l:List Int):((l.sum:Int):Rat)=(l.map fun (n:Int)=>(n:Rat)).sum:=by
 induction l with
 | nil=>rfl
 | cons a l ih=>simp [ih]
theorem aqc0 (h:List aqu2) (g:List Nat):(wG h g:Rat)=az g fun i=>(wAt h i:Rat):=by
 unfold wG az;rw [aqbc,map_map];rfl
theorem aKc (h:List aqu2):aqs9 h=wG h (List.range h.length):=by
 unfold aqs9 wG;congr 1;apply ext_getElem
 ·simp
 ·intro i h1 h2
  simp at h1;simp [wAt,h1]
structure okW (h:List aqu2):Prop where
 pos:∀ p∈h,1 <= p.1
 lt:∀ p∈h,p.1 < 2 ^ 72
 len:h.length <= 16
theorem okW.at0 {h:List aqu2} (k:okW h) (i:Nat):0 <= wAt h i:=by
 unfold wAt
 by_cases hi:i < h.length
 ·rw [aqv hi]; have:=k.pos _ (getElem_mem hi); omega
 ·simp [List.getD,hi]
theorem okW.at1 {h:List aqu2} (k:okW h) {i:Nat} (hi:i < h.length):1 <= wAt h i:=by
 unfold wAt;rw [aqv hi]; exact k.pos _ (getElem_mem hi)
theorem okW.atlt {h:List aqu2} (k:okW h) (i:Nat):wAt h i < 2 ^ 72:=by
 unfold wAt
 by_cases hi:i < h.length
 ·rw [aqv hi]; exact k.lt _ (getElem_mem hi)
 ·simp [List.getD,hi]
theorem aKb {h:List aqu2} (k:okW h):∀ g:List Nat,0 <= wG h g/\wG h g <= (g.length:Int) * 2 ^ 72
 | []=>by simp [wG]
 | i :: g=>by
  obtain ⟨a,b⟩:=aKb k g;have h1:=k.at0 i;have h2:=k.atlt i;have e:wG h (i :: g)=wAt h i + wG h g:=by simp [wG]
  have e2:(((i :: g).length:Nat):Int) * 2 ^ 72=(g.length:Int) * 2 ^ 72 + 2 ^ 72:=by
   rw [length_cons,Int.natCast_add,Int.add_mul]; simp
  rw [e,e2];omega
theorem aqla {h:List aqu2} (k:okW h) {g:List Nat} (hg:g.length <= 16):0 <= wG h g/\wG h g <= 2 ^ 76:=by
 obtain ⟨a,b⟩:=aKb k g;refine ⟨a,Int.le_trans b ?_⟩
 have:(g.length:Int) * 2 ^ 72 <= 16 * 2 ^ 72:=Int.mul_le_mul_of_nonneg_right (by omega) (by decide)
 exact Int.le_trans this (by decide)
theorem aZh {h:List aqu2} (k:okW h):0 <= aqs9 h/\aqs9 h <= 2 ^ 76:=by
 rw [aKc];exact aqla k (by simpa using k.len)
theorem aWf {h:List aqu2} (k:okW h) {g:List Nat} (hne:g ≠ []) (hg:∀ i∈g,i < h.length):1 <= wG h g:=by
 cases g with
 | nil=>exact absurd rfl hne
 | cons i g =>
  have e:wG h (i :: g)=wAt h i + wG h g:=by simp [wG]
  have:=k.at1 (hg i (by simp))
  have:=(aKb k g).1
  omega
theorem av8 {h:List aqu2} {c:Int} (hc:c∈ak h):aqtw h [c] ≠ []:=by
 obtain ⟨hs,ha⟩:=List.mem_filter.mp hc;obtain ⟨p,hp,hl⟩:=List.any_eq_true.mp ha;obtain ⟨i,hi,rfl⟩:=getElem_of_mem hp;refine List.ne_nil_of_mem (a:=i) (List.mem_filter.mpr ⟨List.mem_range.mpr hi,?_⟩);rw [getElem?_eq_getElem hi];simpa [atB,aj7] using hl
def aqj (f:Option (Int × Rat)) (o:Int × Rat):Option (Int × Rat):=match f with
 | none=>some o
 | some a=>if o.2 < a.2 then some o else some a
def aY (l:List (Int × Rat)):Option (Int × Rat):=l.foldl aqj none
def ajv (h:List aqu2) (P:List Rat) (ch:List Int) (seats:Int):List (Int × Rat):=if seats <= (ch.length:Int) then [] else ((ak h).filter fun c=>!has ch c).map fun c=>(c,azj h P c)
def au (h:List aqu2) (P:List Rat) (o:Int × Rat):List Rat:=(List.range P.length).map fun i=>if aqsz (aqtw h [o.1]) i=true then 0 else pAt P i + o.2
def aj2 (h:List aqu2) (seats:Int):Nat->List Rat->List Int->List (Int × Rat × List Rat)
 | 0,_,_=>[]
 | n + 1,P,ch=>match aY (ajv h P ch seats) with
  | none=>[]
  | some o=>(o.1,o.2,au h P o) :: aj2 h seats n (au h P o) (ch++[o.1])
theorem aR {P:List Rat} {i:Nat} (h:i < P.length):pAt P i∈P:=by unfold pAt; rw [aqv h]; exact getElem_mem h
theorem aj0 {l:List (Int × Rat)} {o:Int × Rat} (h:aY l=some o):o∈l:=by
 have key:∀ (l:List (Int × Rat)) (f:Option (Int × Rat)) (o:Int × Rat),l.foldl aqj f=some o->o∈l \/ f=some o:=by
  intro l
  induction l with
  | nil=>intro f o h; exact .inr h
  | cons a l ih =>
   intro f o h;rcases ih _ _ h with h | h
   ·exact .inl (by simp [h])
   ·cases f with
    | none=>simp [aqj] at h; exact .inl (by simp [h])
    | some b =>
     simp only [aqj] at h;split at h
     ·simp at h; exact .inl (by simp [h])
     ·exact .inr h
 rcases key l none o h with h | h
 ·exact h
 ·cases h
theorem akm {h:List aqu2} (k:okW h) (P:List Rat) (c:Int):0 <= azj h P c:=by
 unfold azj;split
 ·exact Rat.le_refl
 ·rename_i hn
  have h1:(0:Rat) <= (wG h (aqtw h [c]):Rat):=by exact_mod_cast (aKb k _).1
  have h2:(0:Rat) <= (aqs9 h:Rat) - aqsf h P c:=by grind
  rw [Rat.div_def];refine Rat.mul_nonneg h2 ?_
  by_cases h3:(wG h (aqtw h [c]):Rat)=0
  ·rw [h3]; simp
  ·exact Rat.le_of_lt (Rat.inv_pos.mpr (by grind))
theorem aqc3 {h:List aqu2} (k:okW h) {P:List Rat} (hP:∀ q∈P,(0:Rat) <= q) (c:Int):0 <= aqsf h P c:=by
 refine ajj fun i _=>Rat.mul_nonneg (by exact_mod_cast k.at0 i) ?_;unfold pAt
 by_cases hi:i < P.length
 ·rw [aqv hi]; exact hP _ (getElem_mem hi)
 ·simp [List.getD,hi]
theorem aqd1 {h:List aqu2} (k:okW h) {P:List Rat} (hP:∀ q∈P,(0:Rat) <= q) {c:Int} (hc:c∈ak h):azj h P c <= ((2 ^ 80:Nat):Rat):=by
 unfold azj;have hN:(aqs9 h:Rat) <= ((2 ^ 80:Nat):Rat):=by
  have:=(aZh k).2
  have h2:aqs9 h <= ((2 ^ 80:Nat):Int):=Int.le_trans this (by decide);rw [<- axa];exact Rat.intCast_le_intCast.mpr h2
 split
 ·exact_mod_cast zero_le _
 ·have h1:(1:Rat) <= (wG h (aqtw h [c]):Rat):=by exact_mod_cast aWf k (av8 hc) (av h [c])
  have h2:=aqc3 k hP c;generalize hx:((aqs9 h:Rat) - aqsf h P c) / (wG h (aqtw h [c]):Rat)=x;generalize (wG h (aqtw h [c]):Rat)=W at *;have hW:W ≠ 0:=by grind
  have e:x * W=(aqs9 h:Rat) - aqsf h P c:=by rw [<- hx,Rat.div_mul_cancel hW]
  false_or_by_contra;rename_i hgt;have hgt':((2 ^ 80:Nat):Rat) < x:=by grind
  have hx0:(0:Rat) <= x:=by
   have:(0:Rat) <= ((2 ^ 80:Nat):Rat):=by exact_mod_cast zero_le _
   grind
  have:x * 1 <= x * W:=Rat.mul_le_mul_of_nonneg_left h1 hx0
  grind
theorem aW8 {D:Nat}:∀ (l:List Nat) (f:Nat->Rat),(∀ i∈l,aqu3 D (f i))->aqu3 D (az l f)
 | [],f,_=>⟨0,by simp [az]⟩
 | i :: l,f,h=>by
  rw [aq];exact (h i (by simp)).add (aW8 l f fun j m=>h j (by simp [m]))
theorem aqa7 {h:List aqu2} (k:okW h) {P:List Rat} {t:Nat} (hs:azu t P) (hl:P.length=h.length) {c:Int} (hc:c∈ak h):azu (t + 1) (au h P (c,azj h P c)):=by
 obtain ⟨D,h1,h2,h3⟩:=hs;have hP:∀ q∈P,(0:Rat) <= q:=fun q m=>(h3 q m).2.1;have hW1:=aWf k (av8 hc) (av h [c]);have hW2:=(aqla k (g:=aqtw h [c]) (le_trans (ajg h [c]) k.len)).2;obtain ⟨W,hW⟩:∃ W:Nat,wG h (aqtw h [c])=(W:Int):=⟨(wG h (aqtw h [c])).toNat,by omega⟩;rw [hW] at hW1 hW2;have hWlt:W < 2 ^ 80:=by
  have:(W:Int) < ((2 ^ 80:Nat):Int):=Int.lt_of_le_of_lt hW2 (by decide)
  exact_mod_cast this
 have hWp:0 < W:=by omega
 have hoS:aqu3 D (aqsf h P c):=aW8 _ _ fun i hi=>by
  have:=av h [c] i hi
  have o:=(h3 _ (aR (P:=P) (i:=i) (by omega))).1;rw [Rat.mul_comm];exact o.mulInt _
 have hoW:aqu3 (W * D) (azj h P c):=by
  unfold azj;split
  ·exact avf _ 0
  ·have o2:aqu3 D ((aqs9 h:Rat) - aqsf h P c):=(avf D _).sub hoS
   obtain ⟨x,hx⟩:=o2;refine ⟨x,?_⟩;rw [hW];have hne:((W:Int):Rat) ≠ 0:=by
    have:(0:Rat) < ((W:Int):Rat):=by exact_mod_cast hW1
    grind
   have e1:((W * D:Nat):Rat)=((W:Int):Rat) * (D:Rat):=by simp [axa]
   rw [e1,<- Rat.mul_assoc,Rat.div_mul_cancel hne];exact hx
 have hx0:=akm k P c;have hx1:=aqd1 k hP hc;have hcast:(((t + 1) * 2 ^ 80:Nat):Rat)=((t * 2 ^ 80:Nat):Rat) + ((2 ^ 80:Nat):Rat):=by
  rw [Nat.add_mul,Nat.one_mul]
  simp
 refine ⟨W * D,mul_pos hWp h1,?_,fun q hq=>?_⟩
 ·have:W * D < 2 ^ 80 * 2 ^ (80 * t + 1):=by
   calc W * D < 2 ^ 80 * D:=Nat.mul_lt_mul_of_pos_right hWlt h1
    _ <= 2 ^ 80 * 2 ^ (80 * t + 1):=Nat.mul_le_mul_left _ (le_of_lt h2)
  rw [<- pow_add] at this;rw [show 80 * (t + 1) + 1=80 + (80 * t + 1) by omega];exact this
 ·obtain ⟨i,hi,rfl⟩:=List.mem_map.mp hq
  have hi':=List.mem_range.mp hi;have hz:(0:Rat) <= (((t + 1) * 2 ^ 80:Nat):Rat):=by exact_mod_cast zero_le _
  split
  ·exact ⟨avf _ 0,Rat.le_refl,hz⟩
  ·obtain ⟨o,q0,q1⟩:=h3 _ (aR hi')
   refine ⟨(o.dvd (Nat.dvd_mul_left D W)).add hoW,?_,?_⟩
   ·grind
   ·rw [hcast]
    grind
theorem aXt (h:List aqu2) (P:List Rat) (o:Int × Rat):(au h P o).length=P.length:=by simp [au]
theorem aqkf:∀ (n:Nat) (p q:Option O) (c:Option O) (a b:Nat),b=n->∃ c',awo (qV (f2 dNe (aqt7 3) (fC (.int 0)))) aQo [p,q,some (.sh (.int (a:Int))),some (.sh (.int (b:Int))),c]=some (.nx [p,q,some (.sh (.int (Nat.gcd a b:Int))),some (.sh (.int 0)),c']):=by
 intro n
 induction n using Nat.strongRecOn with
 | ind n ih =>
  intro p q c a b hn
  by_cases hb:b=0
  ·subst hb
   exact ⟨c,by simpa using axx (by simp)⟩
  ·have hb':(b:Int) ≠ 0:=by omega
   have e:(a:Int).fmod (b:Int)=((a % b:Nat):Int):=by rw [Int.fmod_eq_emod_of_nonneg _ (by omega)]; rfl
   obtain ⟨c',h⟩:=ih (a % b) (by rw [<- hn]; exact mod_lt _ (by omega)) p q (some (.sh (.int ((a % b:Nat):Int)))) b (a % b) rfl;refine ⟨c',aQr (by simp [hb]) ?_ (by rw [h,Nat.gcd_comm a b,Nat.gcd_rec b a,Nat.gcd_comm])⟩;simp [aQo,ax2 hb',e]
theorem aqkg (a b:Int):axc [.int a,.int b]=some (.int (Int.gcd a b)):=by
 obtain ⟨c',h⟩:=aqkf _ (some (.sh (.int a))) (some (.sh (.int b))) none a.natAbs b.natAbs rfl;simp [axc,aqsk,aqsi,ini,aV6,aqpt,h,Int.gcd]
theorem aZ7 (t b:Int) (hb:0 < b) (ht:Sz 8000 t) (hb':Sz 8000 b):avl [.int t,.int b]=some (.tup [.int (nf1 t b),.int (nf2 t b)]):=by
 have hg:=aY1 (t:=t) hb;have hz:(Int.gcd t b:Int) ≠ 0:=by omega
 have hB:(Int.gcd t b:Int).natAbs < BIGD:=awj (k:=8000) (by rw [Int.natAbs_natCast]; exact aqp7 ht hb') (by decide);have e1:t.fdiv (Int.gcd t b:Int)=nf1 t b:=Int.fdiv_eq_ediv_of_dvd (Int.gcd_dvd_left t b);have e2:b.fdiv (Int.gcd t b:Int)=nf2 t b:=Int.fdiv_eq_ediv_of_dvd (Int.gcd_dvd_right t b);have h0:¬ b=0:=by omega
 have h1:¬ b < 0:=by omega
 simp [avl,aqsk,aqsi,ini,aqfh,aqkg,h0,h1,awi hz hB,e1,e2,aqu4]
section
variable {p q r s:Int} (hq:0 < q) (hs:0 < s) (zp:Sz 2000 p) (zq:Sz 2000 q) (zr:Sz 2000 r) (zs:Sz 2000 s)
include hq hs zp zq zr zs
theorem aqm8:aKt [.tup [.int p,.int q],.tup [.int r,.int s]]=some (.tup [.int (nf1 (p * s + r * q) (q * s)),.int (nf2 (p * s + r * q) (q * s))]):=by
 have m1:=aq9 (zp.big (by decide)) (zs.big (by decide));have m2:=aq9 (zr.big (by decide)) (zq.big (by decide));have m3:=aq9 (zq.big (by decide)) (zs.big (by decide));have sh:=aZ7 (p * s + r * q) (q * s) (Int.mul_pos hq hs) (((zp.mul zs).add (zr.mul zq)).mono (by decide)) ((zq.mul zs).mono (by decide));simp [aKt,aqsk,aqsi,ini,aql4,m1,m2,m3,sh]
end
theorem aql3 {p q r s:Int} (hp:Sz 2000 p) (hq:Sz 2000 q) (hr:Sz 2000 r) (hs:Sz 2000 s):aQx [.tup [.int p,.int q],.tup [.int r,.int s]]=some (.bl (decide (p * s < r * q))):=by
 simp [aQx,aqsk,aqsi,ini,aqfp,aq9 (hp.big (by decide)) (hs.big (by decide)),aq9 (hr.big (by decide)) (hq.big (by decide))]
section
variable {a b:Rat} (ha:Bd 2000 2000 a) (hb:Bd 2000 2000 b)
include ha hb
theorem aqoj:aKt [frD a,frD b]=some (frD (a + b)):=by
 have h:=aqm8 (den_pos a) (den_pos b) ha.num ha.den hb.num hb.den;have e:=nf_mk (t:=a.num * b.den + b.num * a.den) (b:=a.den * b.den) (mul_ne_zero a.den_nz b.den_nz);rw [Int.natCast_mul] at e;rw [aqnt] at e;rw [<- e]; exact h
theorem aqih:aQx [frD a,frD b]=some (.bl (decide (a < b))):=by
 have h:=aql3 ha.num ha.den hb.num hb.den;have e:decide (a < b)=decide (a.num * b.den < b.num * a.den):=by rw [Bool.eq_iff_iff]; simp [Rat.lt_iff]
 rw [e]; exact h
end
section
variable {p q r s:Int} (hq:0 < q) (hs:0 < s) (zp:Sz 2000 p) (zq:Sz 2000 q) (zr:Sz 2000 r) (zs:Sz 2000 s)
include hq hs zp zq zr zs
theorem aqjv:avp [.tup [.int p,.int q],.tup [.int r,.int s]]=some (.tup [.int (nf1 (p * s - r * q) (q * s)),.int (nf2 (p * s - r * q) (q * s))]):=by
 have m1:=aq9 (zp.big (by decide)) (zs.big (by decide));have m2:=aq9 (zr.big (by decide)) (zq.big (by decide));have m3:=aq9 (zq.big (by decide)) (zs.big (by decide));have sh:=aZ7 (p * s - r * q) (q * s) (Int.mul_pos hq hs) (((zp.mul zs).sub (zr.mul zq)).mono (by decide)) ((zq.mul zs).mono (by decide));simp [avp,aqsk,aqsi,ini,aqfi,m1,m2,m3,sh]
end
section
variable {a b:Rat} (ha:Bd 2000 2000 a) (hb:Bd 2000 2000 b)
include ha hb
theorem aqi2:avp [frD a,frD b]=some (frD (a - b)):=by
 have h:=aqjv (den_pos a) (den_pos b) ha.num ha.den hb.num hb.den;have e:=nf_mk (t:=a.num * b.den - b.num * a.den) (b:=a.den * b.den) (mul_ne_zero a.den_nz b.den_nz);rw [Int.natCast_mul] at e;rw [aqlo] at e;rw [<- e]; exact h
end
theorem aqbr (l:List Rat) {t:Nat} (hs:azu t l) (ht:t <= 20):ay [aZ l]=some (.int (cb l:Nat)):=by
 obtain ⟨ρ',e1,c,c',e2⟩:=aju (inj:=frD) (g:=gTp [(gN 2),(gN 3)]) (b:=aj8) (fun pre ρ=>∃ c c',ρ=[some (.sh (aZ l)),some (.sh (.int (cb pre:Nat))),c,c']) l [some (.sh (aZ l)),some (.sh (.int 1)),none,none] ⟨_,_,rfl⟩ (by
  rintro pre q post ρ e ⟨c,c',rfl⟩;have hq:q∈l:=by rw [e]; simp
  have hb:=(hs.sub (Q:=pre) fun r hr=>by rw [e]; simp [hr]).cb ht;have hd:=(hs.bd ht hq).2;have g1:=aqkg (cb pre:Nat) (q.den:Nat);have eg:(Int.gcd ((cb pre:Nat):Int) (q.den:Int))=Nat.gcd (cb pre) q.den:=rfl;rw [eg] at g1;have gp:0 < Nat.gcd (cb pre) q.den:=Nat.gcd_pos_of_pos_left _ (aqa3 pre);have gl:Nat.gcd (cb pre) q.den <= q.den:=Nat.gcd_le_right _ q.den_pos;have d1:aqti (.int (q.den:Int)) (.int (Nat.gcd (cb pre) q.den:Nat))=some (.int ((q.den / Nat.gcd (cb pre) q.den:Nat):Int)):=by
   rw [awi (by omega) (awj (k:=1700) (by rw [Int.natAbs_natCast]; omega) (by decide)),aqex]
  have m1:aqte (.int (cb pre:Nat)) (.int ((q.den / Nat.gcd (cb pre) q.den:Nat):Int))=some (.int ((cbF (cb pre) q:Nat):Int)):=by
   rw [aq9 (aqfa (k:=1700) (by rw [Int.natAbs_natCast]; exact hb) (by decide)) (aqfa (k:=1700) (by rw [Int.natAbs_natCast]; exact lt_of_le_of_lt (Nat.div_le_self _ _) hd) (by decide))];simp [cbF]
  rw [aqnk];have hg:gTp [(gN 2),(gN 3)] (frD q) [some (.sh (aZ l)),some (.sh (.int (cb pre:Nat))),c,c']=some [some (.sh (aZ l)),some (.sh (.int (cb pre:Nat))),some (.sh (.int q.num)),some (.sh (.int (q.den:Nat)))]:=rfl;generalize cbF (cb pre) q=z at *;generalize q.den / Nat.gcd (cb pre) q.den=y at *;simp only [aqu6,hg];simp [aj8,g1,d1,m1])
 simp [ay,aqsk,aqsi,ini,azg,aqtu,aqu4,e1,e2]
theorem aqaj (l:List Rat) {t:Nat} (hs:azu t l) (ht:t <= 20) (b:Nat) (hb:b < 2 ^ 1700) (hl:l.length <= 1000):aS [.int (b:Int),aZ l]=some (ag (l.map (aqsc b))):=by
 have hc:aji (aqt4 [(geN 0),(geN 1)]) qT (oE (f2 aqte (aqt7 0) (f2 aqti (aqt7 2) (aqt7 1)))) (l.map frD) [none,none,some (.int (b:Int))]=some (l.map fun q=>O.sh (.int (aqsc b q))):=by
  have:=al (inj:=frD) (g:=aqt4 [(geN 0),(geN 1)]) (c:=qT) (e:=oE (f2 aqte (aqt7 0) (f2 aqti (aqt7 2) (aqt7 1)))) (fun ρ=>∃ d d',ρ=[d,d',some (.int (b:Int))]) (fun _=>true) (fun q=>O.sh (.int (aqsc b q))) l [none,none,some (.int (b:Int))] ⟨_,_,rfl⟩ (by
   rintro q hq ρ ⟨d,d',rfl⟩;have hd:=(hs.bd ht hq).2;have hn:=(hs.bd ht hq).num;have d1:aqti (.int (b:Int)) (.int (q.den:Int))=some (.int ((b / q.den:Nat):Int)):=by
    rw [awi (by have:=q.den_pos; omega) (awj (k:=1700) (by rw [Int.natAbs_natCast]; exact hd) (by decide)),aqex]
   have m1:aqte (.int q.num) (.int ((b / q.den:Nat):Int))=some (.int (aqsc b q)):=by
    rw [aq9 (hn.big (by decide)) (aqfa (k:=1700) (by rw [Int.natAbs_natCast]; exact lt_of_le_of_lt (Nat.div_le_self _ _) hb) (by decide))];rfl
   refine ⟨[some (.int q.num),some (.int (q.den:Int)),some (.int (b:Int))],rfl,⟨_,_,rfl⟩,rfl,fun _=>?_⟩;generalize aqsc b q=z at *;generalize b / q.den=y at *;simp [d1,m1])
  rwa [List.filter_eq_self.mpr (by simp)] at this
 have hd:oDs (l.map fun q=>O.sh (.int (aqsc b q)))=some ((l.map (aqsc b)).map .int):=by
  have:=aqt (f:=fun q:Rat=>O.sh (.int (aqsc b q))) (g:=fun q=>D.int (aqsc b q)) (fun p=>by simp) l
  rw [this,map_map]; rfl
 have hl':l.length <= 100000:=by omega
 simp [aS,aqsk,aqsi,ini,aQk,aqa,mkD,hl',aqu4,hc,hd,-map_map];rfl
def tAt (T:List Int) (i:Nat):Int:=T.getD i 0
def aqs8 (h:List aqu2) (T:List Int) (g:List Nat):Int:=(g.map fun i=>wAt h i * tAt T i).sum
theorem aJn (h:List aqu2) (k:okW h) (T:List Int) (hT:∀ x∈T,Sz 3600 x) (g:List Nat) (hg:∀ i∈g,i < h.length) (hg2:∀ i∈g,i < T.length) (hl:g.length <= 1000):aq5 [bt h,ag T,plD g]=some (.int (aqs8 h T g)):=by
 have hc:aji (geN 0) qT (oE (f2 aqte (f2 dIx (f2 dIx (aqt7 2) (aqt7 0)) (fC (.int 0))) (f2 dIx (aqt7 1) (aqt7 0)))) (g.map fun (i:Nat)=>D.int (i:Int)) [none,some (ag T),some (bt h)]=some (g.map fun i=>O.sh (.int (wAt h i * tAt T i))):=by
  have:=al (inj:=fun (i:Nat)=>D.int (i:Int)) (g:=geN 0) (c:=qT) (e:=oE (f2 aqte (f2 dIx (f2 dIx (aqt7 2) (aqt7 0)) (fC (.int 0))) (f2 dIx (aqt7 1) (aqt7 0)))) (fun ρ=>∃ d,ρ=[d,some (ag T),some (bt h)]) (fun _=>true) (fun i=>O.sh (.int (wAt h i * tAt T i))) g [none,some (ag T),some (bt h)] ⟨_,rfl⟩ (by
   rintro i hi ρ ⟨d,rfl⟩;have hx:=aK0 (hg i hi);have hx2:=aqb8 (hg2 i hi);have hw:wAt h i=(h[i]'(hg i hi)).1:=by unfold wAt; rw [aqv (hg i hi)]
   have ht:tAt T i=T[i]'(hg2 i hi):=aqv (hg2 i hi);have hz:=hT _ (getElem_mem (hg2 i hi));have w0:=k.at0 i;have w1:=k.atlt i;have m1:aqte (.int (h[i]'(hg i hi)).1) (.int (T[i]'(hg2 i hi)))=some (.int (wAt h i * tAt T i)):=by
    rw [ht,hw];exact aq9 (aqfa (k:=72) (by rw [<- hw]; omega) (by decide)) (hz.big (by decide))
   refine ⟨_,rfl,⟨_,rfl⟩,rfl,fun _=>?_⟩;generalize wAt h i * tAt T i=z at *;simp [hx,hx2,m1])
  rwa [List.filter_eq_self.mpr (by simp)] at this
 have hd:oDs (g.map fun i=>O.sh (.int (wAt h i * tAt T i)))=some ((g.map fun i=>wAt h i * tAt T i).map D.int):=by
  have:=aqt (f:=fun i:Nat=>O.sh (.int (wAt h i * tAt T i))) (g:=fun i=>D.int (wAt h i * tAt T i)) (fun p=>by simp) g
  rw [this,map_map]; rfl
 have hl':g.length <= 100000:=by omega
 have hlo:akv (plD g)=some (g.map fun (i:Nat)=>D.int (i:Int)):=by simp [plD]
 generalize hv:(g.map fun i=>wAt h i * tAt T i)=vals at *;simp [aq5,aqsk,aqsi,ini,aV3,aqa,mkD,hl',aqu4,hlo,hc,hd,dSum,aJa,aqs8,hv,-map_map]
theorem aqai (h:List aqu2) (P:List Rat) (b:Nat) (hb:∀ q∈P,q.den ∣ b) (g:List Nat) (hg:∀ i∈g,i < P.length):(aqs8 h (P.map (aqsc b)) g:Rat)=(az g fun i=>(wAt h i:Rat) * pAt P i) * (b:Rat):=by
 unfold aqs8;rw [aqbc,map_map,<- aqy];unfold az;congr 1;refine map_congr_left fun i hi=>?_;have h1:=hg i hi;have h2:tAt (P.map (aqsc b)) i=aqsc b P[i]:=by rw [tAt,aqv (by simpa using h1)]; simp
 have h3:pAt P i=P[i]:=aqv h1;simp only [Function.comp_def];rw [h2,h3]
 have:=aqd2 (hb _ (getElem_mem h1))
 have e:((wAt h i * aqsc b P[i]:Int):Rat)=(wAt h i:Rat) * (aqsc b P[i]:Rat):=by simp
 rw [e,this,Rat.mul_assoc]
theorem aqlk (h:List aqu2) (k:okW h) (P:List Rat) (hl:P.length=h.length) {t:Nat} (hs:azu t P) (ht:t <= 20) (c:Int) (hc:c∈ak h):aYp [bt h,aZ P,.int c]=some (frD (azj h P c)):=by
 have hh:=k.len;have l1:=az1 h c (by omega);rw [aZ3] at l1;have hlen:=ajg h [c];have b1:=aqbr P hs ht;have hb:=hs.cb ht;have t1:=aqaj P hs ht (cb P) hb (by omega);have hTz:∀ x∈P.map (aqsc (cb P)),Sz 3600 x:=fun x hx=>by
  obtain ⟨q,hq,rfl⟩:=List.mem_map.mp hx;exact hs.top ht hq hb
 have w1:=aJn h k (P.map (aqsc (cb P))) hTz (aqtw h [c]) (av h [c]) (fun i hi=>by simp; have:=av h [c] i hi; omega) (by omega);have w2:=axl h (by omega);have w3:=akl h (aqtw h [c]) (av h [c]) (by omega);have hN:=aZh k;have hW:=aqla k (g:=aqtw h [c]) (by omega);have hW1:=aWf k (av8 hc) (av h [c]);have zN:Sz 77 (aqs9 h):=by show _ < _; omega
 have zW:Sz 77 (wG h (aqtw h [c])):=by show _ < _; omega
 have zb:Sz 1700 ((cb P:Nat):Int):=by show _ < _; rw [Int.natAbs_natCast]; exact hb
 have m1:=aq9 (zN.big (by decide)) (zb.big (by decide));have m2:=aq9 (zW.big (by decide)) (zb.big (by decide));have hbp:=aqa3 P;have key:((aqs9 h * (cb P:Nat) - aqs8 h (P.map (aqsc (cb P))) (aqtw h [c]):Int):Rat)=((aqs9 h:Rat) - aqsf h P c) * ((cb P:Nat):Rat):=by
  have e:=aqai h P (cb P) (fun q hq=>aqhb hq) (aqtw h [c]) (fun i hi=>by have:=av h [c] i hi; omega);have e2:((aqs9 h * ((cb P:Nat):Int) - aqs8 h (P.map (aqsc (cb P))) (aqtw h [c]):Int):Rat)=(aqs9 h:Rat) * ((cb P:Nat):Rat) - (aqs8 h (P.map (aqsc (cb P))) (aqtw h [c]):Rat):=by simp [axa]
  rw [e2,e];unfold aqsf;grind
 have zs:Sz 3700 (aqs8 h (P.map (aqsc (cb P))) (aqtw h [c])):=by
  have gen:∀ g:List Nat,(∀ i∈g,i < P.length)->(aqs8 h (P.map (aqsc (cb P))) g).natAbs <= g.length * 2 ^ 3672:=by
   intro g
   induction g with
   | nil=>intro _; simp [aqs8]
   | cons i g ih =>
    intro hi;have h1:=ih fun j m=>hi j (by simp [m]);have h2:=hi i (by simp);have e:aqs8 h (P.map (aqsc (cb P))) (i :: g)=wAt h i * tAt (P.map (aqsc (cb P))) i + aqs8 h (P.map (aqsc (cb P))) g:=by simp [aqs8]
    have h3:Sz 3600 (tAt (P.map (aqsc (cb P))) i):=by rw [tAt,aqv (by simpa using h2)]; exact hTz _ (getElem_mem _)
    have w0:=k.at0 i;have wl:=k.atlt i;have h4:Sz 72 (wAt h i):=by show _ < _; omega
    have h5:(wAt h i * tAt (P.map (aqsc (cb P))) i).natAbs < 2 ^ (72 + 3600):=h4.mul h3;rw [e,length_cons,Nat.add_mul,Nat.one_mul];have h6:=Int.natAbs_add_le (wAt h i * tAt (P.map (aqsc (cb P))) i) (aqs8 h (P.map (aqsc (cb P))) g);omega
  have g1:=gen (aqtw h [c]) fun i hi=>by have:=av h [c] i hi; omega
  have g2:(aqtw h [c]).length * 2 ^ 3672 <= 16 * 2 ^ 3672:=mul_le_mul_right _ (by omega);have g3:16 * 2 ^ 3672 < 2 ^ 3700:=by
   have:16 * 2 ^ 3672=2 ^ 3676:=by rw [show 3676=4 + 3672 by decide,pow_add]
   rw [this];exact Nat.pow_lt_pow_right (by decide) (by decide)
  exact lt_of_le_of_lt (le_trans g1 g2) g3
 have zm:Sz 3701 (aqs9 h * (cb P:Nat) - aqs8 h (P.map (aqsc (cb P))) (aqtw h [c])):=((zN.mul zb).mono (by decide)).sub zs;generalize hmiss:aqs9 h * ((cb P:Nat):Int) - aqs8 h (P.map (aqsc (cb P))) (aqtw h [c])=miss at *;have hf:=akt (aqtw h [c]);have hbr:(0:Rat) < ((cb P:Nat):Rat):=by exact_mod_cast hbp
 by_cases cm:miss <= 0
 ·have hle:(aqs9 h:Rat) - aqsf h P c <= 0:=by
   false_or_by_contra;rename_i hgt
   have:(0:Rat) < (aqs9 h:Rat) - aqsf h P c:=by grind
   have h2:=Rat.mul_pos this hbr;rw [<- key] at h2
   have:(miss:Rat) <= 0:=by exact_mod_cast cm
   grind
  have e0:azj h P c=0:=by unfold azj; rw [if_pos hle]
  rw [e0];simp [aYp,aqsk,aqsi,ini,aqhf,l1,b1,w2,hf,t1,w1,m1,hmiss,cm,aqu4];rfl
 ·have hgt:¬ (aqs9 h:Rat) - aqsf h P c <= 0:=fun hle=>by
   have:(0:Rat) < (miss:Rat):=by
    have:0 < miss:=by omega
    exact_mod_cast this
   rw [key] at this;have h2:((aqs9 h:Rat) - aqsf h P c) * ((cb P:Nat):Rat) <= 0 * ((cb P:Nat):Rat):=Rat.mul_le_mul_of_nonneg_right hle (Rat.le_of_lt hbr);grind
  have sh:=aZ7 miss (wG h (aqtw h [c]) * (cb P:Nat)) (Int.mul_pos (by omega) (by omega)) (zm.mono (by decide)) ((zW.mul zb).mono (by decide));obtain ⟨W,hWn⟩:∃ W:Nat,wG h (aqtw h [c])=(W:Int):=⟨(wG h (aqtw h [c])).toNat,by omega⟩;have hne:W * cb P ≠ 0:=mul_ne_zero (by omega) (by omega);have e1:wG h (aqtw h [c]) * ((cb P:Nat):Int)=((W * cb P:Nat):Int):=by rw [hWn]; simp
  have e2:=nf_mk (t:=miss) hne;rw [<- e1] at e2;rw [e2] at sh;have e3:mkRat miss (W * cb P)=azj h P c:=by
   unfold azj;rw [if_neg hgt,hWn];have hWr:((W:Int):Rat) ≠ 0:=by
    have:(0:Rat) < ((W:Int):Rat):=by
     have:0 < (W:Int):=by omega
     exact_mod_cast this
    grind
   have hbr':((cb P:Nat):Rat) ≠ 0:=by grind
   have e4:mkRat miss (W * cb P)=(miss:Rat) / (((W * cb P:Nat):Rat)):=by
    rw [<- Rat.divInt_ofNat,Rat.divInt_eq_div]; rfl
   have e5:((W * cb P:Nat):Rat)=((W:Int):Rat) * ((cb P:Nat):Rat):=by simp [axa]
   rw [e4,e5,key];generalize (aqs9 h:Rat) - aqsf h P c=X at *;generalize ((cb P:Nat):Rat)=B at *;generalize ((W:Int):Rat)=V at *;have hVB:V * B ≠ 0:=by
    intro hz;rcases Rat.mul_eq_zero.mp hz with hz | hz
    ·exact hWr hz
    ·exact hbr' hz
   have q1:X * B / (V * B) * (V * B)=X * B:=Rat.div_mul_cancel hVB;have q2:X / V * V=X:=Rat.div_mul_cancel hWr;generalize X * B / (V * B)=Y at *;generalize X / V=Z at *;grind
  rw [e3] at sh;simp [aYp,aqsk,aqsi,ini,aqhf,l1,b1,w2,hf,t1,w1,m1,hmiss,cm,w3,m2,sh,aqu4]
def aqsu (o:Int × Rat):D:=.tup [.int o.1,frD o.2]
@[simp] theorem aqqg (o:Int × Rat):imm (aqsu o)=true:=by simp [aqsu]
def aqss:Option (Int × Rat)->D
 | none=>.non
 | some o=>aqsu o
theorem aqbd (o:Option (Int × Rat)):imm (aqss o)=true:=by cases o <;> simp [aqss]
def aqb1 (l:List (Int × Rat)):D:=.lst (l.map aqsu)
theorem off0 (o:Int × Rat):dIx (aqsu o) (.int 0)=some (.int o.1):=aqcn
theorem off1 (o:Int × Rat):dIx (aqsu o) (.int 1)=some (frD o.2):=aqku
theorem aqee (l:List (Int × Rat)) (hb:∀ o∈l,Bd 2000 2000 o.2):avq [aqb1 l]=some (aqss (aY l)):=by
 have hmem:∀ pre:List (Int × Rat),(∀ o∈pre,Bd 2000 2000 o.2)->∀ o,aY pre=some o->Bd 2000 2000 o.2:=fun pre hp o ho=>hp o (aj0 ho);obtain ⟨ρ',e1,c,e2⟩:=aju (inj:=aqsu) (g:=gN 2) (b:=awn) (fun pre ρ=>∃ c,ρ=[some (.sh (aqb1 l)),some (.sh (aqss (aY pre))),c]) l [some (.sh (aqb1 l)),some (.sh .non),none] ⟨_,rfl⟩ (by
  rintro pre o post ρ e ⟨c,rfl⟩;have ho:=hb o (by rw [e]; simp);have es:aY (pre++[o])=aqj (aY pre) o:=by simp [aY]
  rw [es];have hp:=hmem pre fun r hr=>hb r (by rw [e]; simp [hr]);cases hl:aY pre with
  | none =>
   have i0:dIs .non .non=some (.bl true):=rfl;simp [aqu6,awn,aqss,i0,aqj]
  | some a =>
   have ba:=hp a hl;have i0:dIs (aqsu a) .non=some (.bl false):=rfl;have bl:=aqih ho ba
   by_cases hlt:o.2 < a.2
   ·rw [decide_eq_true hlt] at bl
    simp [aqu6,awn,aqss,i0,aqj,off1,bl,hlt]
   ·rw [decide_eq_false hlt] at bl
    simp [aqu6,awn,aqss,i0,aqj,off1,bl,hlt])
 have hlo:akv (aqb1 l)=some (l.map aqsu):=rfl;simp [avq,aqsk,aqsi,ini,aqfk,aqtu,aqu4,hlo,e1,e2]
theorem aqhk {h:List aqu2} (k:okW h) {P:List Rat} (hl:P.length=h.length) {t:Nat} (hs:azu t P) (ht:t <= 19) {c:Int} (hc:c∈ak h):Bd 2000 2000 (azj h P c):=by
 obtain ⟨D,h1,h2,h3⟩:=hs;have hP:∀ q∈P,(0:Rat) <= q:=fun q m=>(h3 q m).2.1;have hW1:=aWf k (av8 hc) (av h [c]);have hW2:=(aqla k (g:=aqtw h [c]) (le_trans (ajg h [c]) k.len)).2;obtain ⟨W,hW⟩:∃ W:Nat,wG h (aqtw h [c])=(W:Int):=⟨(wG h (aqtw h [c])).toNat,by omega⟩;rw [hW] at hW1 hW2;have hWlt:W < 2 ^ 80:=by
  have:(W:Int) < ((2 ^ 80:Nat):Int):=Int.lt_of_le_of_lt hW2 (by decide)
  exact_mod_cast this
 have hWp:0 < W:=by omega
 have hoS:aqu3 D (aqsf h P c):=aW8 _ _ fun i hi=>by
  have:=av h [c] i hi
  have o:=(h3 _ (aR (P:=P) (i:=i) (by omega))).1;rw [Rat.mul_comm];exact o.mulInt _
 have hoW:aqu3 (W * D) (azj h P c):=by
  unfold azj;split
  ·exact avf _ 0
  ·have o2:aqu3 D ((aqs9 h:Rat) - aqsf h P c):=(avf D _).sub hoS
   obtain ⟨x,hx⟩:=o2;refine ⟨x,?_⟩;rw [hW];have hne:((W:Int):Rat) ≠ 0:=by
    have:(0:Rat) < ((W:Int):Rat):=by exact_mod_cast hW1
    grind
   have e1:((W * D:Nat):Rat)=((W:Int):Rat) * (D:Rat):=by simp [axa]
   rw [e1,<- Rat.mul_assoc,Rat.div_mul_cancel hne];exact hx
 have hx0:=akm k P c;have hx1:=aqd1 k hP hc;have hlt:W * D < 2 ^ (80 + (80 * t + 1)):=by
  rw [pow_add]
  calc W * D < 2 ^ 80 * D:=Nat.mul_lt_mul_of_pos_right hWlt h1
   _ <= 2 ^ 80 * 2 ^ (80 * t + 1):=Nat.mul_le_mul_left _ (le_of_lt h2)
 have hz:(0:Rat) <= ((2 ^ 80:Nat):Rat):=by exact_mod_cast zero_le _
 exact (hoW.bd (m:=80) (mul_pos hWp h1) hlt (by grind) hx1).mono (by omega) (by omega)
theorem aqio (h:List aqu2) (kh:okH h) (k:okW h) (P:List Rat) (hl:P.length=h.length) {t:Nat} (hs:azu t P) (ht:t <= 19) (ch:List Int) (seats:Int):aQw [bt h,aZ P,ag ch,.int seats]=some (aqb1 (ajv h P ch seats)):=by
 have hh:=k.len
 by_cases c1:seats <= (ch.length:Int)
 ·simp [aQw,aqsk,aqsi,ini,aqbv,c1,aqu4,ajv,aqb1]
 ·have lk:=aZu h kh (by omega)
  have hz:oD (ow ((ak h).map D.int))=some (ag (ak h)):=by simp [ag]
  have hc:aji (geN 0) (qV (f2 aQ8 (aqt7 0) (aqt7 3))) (oE (aqt8 (gd (aqt7 0) (gd (aA 3 aYp (gd (aqt7 1) (gd (aqt7 2) (gd (aqt7 0) aqty)))) aqty)))) ((ak h).map D.int) [none,some (bt h),some (aZ P),some (ag ch)]=some (((ak h).filter fun c=>!has ch c).map fun c=>O.sh (aqsu (c,azj h P c))) :=
   al (inj:=D.int) (fun ρ=>∃ d,ρ=[d,some (bt h),some (aZ P),some (ag ch)]) (fun c=>!has ch c) (fun c=>O.sh (aqsu (c,azj h P c))) (ak h) _ ⟨_,rfl⟩ (by
    rintro c hc ρ ⟨d,rfl⟩;have w:=aqlk h k P hl hs (by omega) c hc;exact ⟨_,rfl,⟨_,rfl⟩,by simp,fun _=>by simp [w,aqu4,aqsu]⟩)
  have hd:oDs (((ak h).filter fun c=>!has ch c).map fun c=>O.sh (aqsu (c,azj h P c)))=some ((((ak h).filter fun c=>!has ch c).map fun c=>(c,azj h P c)).map aqsu):=by
   have:=aqt (f:=fun c:Int=>O.sh (aqsu (c,azj h P c))) (g:=fun c=>aqsu (c,azj h P c)) (fun p=>by simp) ((ak h).filter fun c=>!has ch c)
   rw [this,map_map]; rfl
  have hll:(ak h).length <= 100000:=by have:=aP h; omega
  have e:ajv h P ch seats=((ak h).filter fun c=>!has ch c).map fun c=>(c,azj h P c):=by unfold ajv; rw [if_neg c1]
  rw [e];simp [aQw,aqsk,aqsi,ini,aqbv,c1,aqu4,lk,hz,aqa,mkD,hll,hc,hd,aqb1,-map_map]
theorem aQ9 {h:List aqu2} {P:List Rat} {ch:List Int} {seats:Int} {o:Int × Rat} (ho:o∈ajv h P ch seats):o.1∈ak h/\o.1 ∉ ch/\o.2=azj h P o.1/\(ch.length:Int) < seats:=by
 unfold ajv at ho;split at ho
 ·simp at ho
 ·obtain ⟨c,hc,rfl⟩:=List.mem_map.mp ho
  obtain ⟨h1,h2⟩:=List.mem_filter.mp hc;refine ⟨h1,fun hm=>?_,rfl,by omega⟩;rw [aj1.mpr hm] at h2;simp at h2
theorem aqhe (h:List aqu2) (k:okW h) (P:List Rat) (hl:P.length=h.length) {t:Nat} (hs:azu t P) (ht:t <= 19) (c:Int) (hc:c∈ak h):aqu [bt h,aZ P,aqsu (c,azj h P c)]=some (aZ (au h P (c,azj h P c))):=by
 have hh:=k.len;have l1:=az1 h c (by omega);rw [aZ3] at l1;have hf:=akt (aqtw h [c]);have en:aqez (P.map frD)=(List.range P.length).map fun (i:Nat)=>D.tup [.int (i:Int),frD (pAt P i)]:=by
  rw [aqbj];apply ext_getElem
  ·simp
  ·intro i h1 h2
   simp at h1;simp [pAt,h1]
 have hwb:=aqhk k hl hs ht hc;have hc2:aji (aqt4 [(geN 0),(geN 1)]) qT (oE (fIf (qV (f2 dIn (aqt7 0) (aqt7 2))) (aqt8 (gd (fC (.int 0)) (gd (fC (.int 1)) aqty))) (aA 2 aKt (gd (aqt7 1) (gd (f2 dIx (aqt7 3) (fC (.int 1))) aqty))))) (aqez (P.map frD)) [none,none,some (plD (aqtw h [c])),some (aqsu (c,azj h P c))]=some ((List.range P.length).map fun i=>O.sh (frD (if aqsz (aqtw h [c]) i=true then 0 else pAt P i + azj h P c))):=by
  rw [en]
  have:=al (inj:=fun i:Nat=>D.tup [.int (i:Int),frD (pAt P i)]) (g:=aqt4 [(geN 0),(geN 1)]) (c:=qT) (e:=(oE (fIf (qV (f2 dIn (aqt7 0) (aqt7 2))) (aqt8 (gd (fC (.int 0)) (gd (fC (.int 1)) aqty))) (aA 2 aKt (gd (aqt7 1) (gd (f2 dIx (aqt7 3) (fC (.int 1))) aqty)))))) (fun ρ=>∃ d d',ρ=[d,d',some (plD (aqtw h [c])),some (aqsu (c,azj h P c))]) (fun _=>true) (fun i=>O.sh (frD (if aqsz (aqtw h [c]) i=true then 0 else pAt P i + azj h P c))) (List.range P.length) [none,none,some (plD (aqtw h [c])),some (aqsu (c,azj h P c))] ⟨_,_,rfl⟩ (by
   rintro i hi ρ ⟨d,d',rfl⟩;have hi':=List.mem_range.mp hi;have hpb:=(hs.bd (by omega) (aR hi')).mono (show 1800 <= 2000 by decide) (show 1700 <= 2000 by decide);have pl:=aqoj hpb hwb;refine ⟨[some (.int (i:Int)),some (frD (pAt P i)),some (plD (aqtw h [c])),some (aqsu (c,azj h P c))],rfl,⟨_,_,rfl⟩,rfl,fun _=>?_⟩;cases hi2:aqsz (aqtw h [c]) i with
   | true =>
    simp [plD,aqgy,hi2,aqu4];rfl
   | false=>simp [plD,aqgy,hi2,off1,pl])
  rwa [List.filter_eq_self.mpr (by simp)] at this
 have hd:oDs ((List.range P.length).map fun i=>O.sh (frD (if aqsz (aqtw h [c]) i=true then 0 else pAt P i + azj h P c)))=some ((au h P (c,azj h P c)).map frD):=by
  have:=aqt (f:=fun i:Nat=>O.sh (frD (if aqsz (aqtw h [c]) i=true then 0 else pAt P i + azj h P c))) (g:=fun i=>frD (if aqsz (aqtw h [c]) i=true then 0 else pAt P i + azj h P c)) (fun p=>by simp) (List.range P.length)
  rw [this,au,map_map]; rfl
 have hll:P.length <= 100000:=by omega
 generalize azj h P c=x at *;simp [aqu,aqsk,aqsi,ini,aze,off0,l1,hf,aqu4,aqe7,mkD,hll,hc2,hd];rfl
def aqsl (r:Int × Rat × List Rat):D:=.tup [.int r.1,frD r.2.1,aZ r.2.2]
def azb (l:List (Int × Rat × List Rat)):D:=.lst (l.map aqsl)
theorem aqhy (o:Option (Int × Rat)):aqth (aqss o) .non=some (.bl o.isSome):=by cases o <;> rfl
theorem aqe5 (h:List aqu2) (kh:okH h) (k:okW h) (P:List Rat) (hl:P.length=h.length) {t:Nat} (hs:azu t P) (ht:t <= 19) (ch:List Int) (seats:Int):aQw [bt h,aZ P,ag ch,.int seats]=some (aqb1 (ajv h P ch seats))/\avq [aqb1 (ajv h P ch seats)]=some (aqss (aY (ajv h P ch seats))) :=
 ⟨aqio h kh k P hl hs ht ch seats,aqee _ fun o ho=>by
  obtain ⟨w1,_,w2,_⟩:=aQ9 ho;rw [w2];exact aqhk k hl hs ht w1⟩
theorem aK1 (h:List aqu2) (kh:okH h) (k:okW h) (c2:Option O) (seats:Int) (h6:seats <= 6):∀ (n:Nat) (P:List Rat) (ch:List Int) (rows:List (Int × Rat × List Rat)) (t:Nat),P.length=h.length->azu t P->t + n <= 19->seats <= (ch.length:Int) + n->ch.length <= 100->rows.length + n <= 100 ->
  ∃ ρ',awo (qV (f2 aqth (aqt7 6) (fC .non))) aV5 [some (.sh (bt h)),some (.sh (aZ P)),c2,some (.sh (.int seats)),some (ow (ch.map .int)),some (ow (rows.map aqsl)),some (.sh (aqss (aY (ajv h P ch seats))))]=some (.nx ρ')/\∃ a1 a4 a6,ρ'=[some (.sh (bt h)),a1,c2,some (.sh (.int seats)),a4,some (ow ((rows++aj2 h seats n P ch).map aqsl)),a6]
 | 0,P,ch,rows,t,hl,hs,ht,hn,hch,hr=>by
  have e0:ajv h P ch seats=[]:=by unfold ajv; rw [if_pos (by omega)]
  rw [e0];refine ⟨_,axx (by simp [aY,aqss]; rfl),some (.sh (aZ P)),some (ow (ch.map .int)),some (.sh (aqss (aY []))),?_⟩;simp only [aj2,append_nil]
 | n + 1,P,ch,rows,t,hl,hs,ht,hn,hch,hr=>by
  cases ho:aY (ajv h P ch seats) with
  | none =>
   refine ⟨_,axx (by simp [aqss]; rfl),some (.sh (aZ P)),some (ow (ch.map .int)),some (.sh (aqss none)),?_⟩;simp only [aj2,ho,append_nil]
  | some o =>
   obtain ⟨w1,w2,w3,w4⟩:=aQ9 (aj0 ho);have eo:o=(o.1,azj h P o.1):=by rw [<- w3]
   have bh:=aqhe h k P hl hs (by omega) o.1 w1;rw [<- eo] at bh;have hs':=aqa7 k hs hl w1;rw [<- eo] at hs';have hl':(au h P o).length=h.length:=by rw [aXt]; exact hl
   have w5:(ch.length:Int) < 6:=by omega
   obtain ⟨f1,f2'⟩:=aqe5 h kh k (au h P o) hl' hs' (by omega) (ch++[o.1]) seats;obtain ⟨ρ',e1,e2⟩:=aK1 h kh k c2 seats h6 n (au h P o) (ch++[o.1]) (rows++[(o.1,o.2,au h P o)]) (t + 1) hl' hs' (by omega) (by simp; omega) (by simp; omega) (by simp; omega);refine ⟨ρ',aQr (ρ2:=[some (.sh (bt h)),some (.sh (aZ (au h P o))),c2,some (.sh (.int seats)),some (ow ((ch++[o.1]).map .int)),some (ow ((rows++[(o.1,o.2,au h P o)]).map aqsl)),some (.sh (aqss (aY (ajv h (au h P o) (ch++[o.1]) seats))))]) ?_ ?_ e1,?_⟩
   ·have:=aqhy (some o)
    simp [this]
   ·have g1:aqt5 (.sh (aqsl (o.1,o.2,au h P o))) (ow (rows.map aqsl))=some (ow (rows.map aqsl++[aqsl (o.1,o.2,au h P o)])):=aqbg (by simp [aqu4]; omega)
    have g2:aqt5 (.sh (.int o.1)) (ow (ch.map .int))=some (ow (ch.map .int++[.int o.1])):=aqbg (by simp [aqu4]; omega);have er:D.tup [.int o.1,frD o.2,aZ (au h P o)]=aqsl (o.1,o.2,au h P o):=rfl;have ir:imm (aqsl (o.1,o.2,au h P o))=false:=by simp [aqsl]
    have ec:D.lst ((ch++[o.1]).map .int)=ag (ch++[o.1]):=rfl;have ec':D.lst (ch.map D.int++[D.int o.1])=ag (ch++[o.1]):=by simp [ag]
    have io:=aqbd (aY (ajv h (au h P o) (ch++[o.1]) seats));have oe:aqss (some o)=aqsu o:=rfl;generalize au h P o=Q at *;generalize ajv h Q (ch++[o.1]) seats=ws at *;simp [aV5,oe,bh,off0,off1,aqu4,er,ir,g1,g2,ec',f1,f2',io]
   ·obtain ⟨a1,a4,a6,e3⟩:=e2
    refine ⟨a1,a4,a6,?_⟩;rw [e3];simp only [aj2,ho,List.append_assoc,List.singleton_append]
theorem aqep (h:List aqu2) (kh:okH h) (k:okW h) (P:List Rat) (hl:P.length=h.length) {t:Nat} (hs:azu t P) (ht:t <= 12) (mem:List Int) (hm:mem.length <= 6) (seats:Int) (h6:seats <= 6):aXd [bt h,aZ P,ag mem,.int seats]=some (azb (aj2 h seats 6 P mem)):=by
 obtain ⟨f1,f2'⟩:=aqe5 h kh k P hl hs (by omega) mem seats;obtain ⟨ρ',e1,a1,a4,a6,e2⟩:=aK1 h kh k (some (.sh (ag mem))) seats h6 6 P mem [] t hl hs (by omega) (by omega) (by omega) (by simp);have ec:D.lst (mem.map .int)=ag mem:=rfl;have io:=aqbd (aY (ajv h P mem seats));have er:∀ l:List (Int × Rat × List Rat),D.lst (l.map aqsl)=azb l:=fun _=>rfl;have ir:∀ l:List (Int × Rat × List Rat),imm (azb l)=false:=fun _=>by simp [azb]
 simp only [map_nil,nil_append] at e1 e2;generalize ajv h P mem seats=ws at *;simp [aXd,aqsk,aqsi,ini,aqfn,aqu4,ec,f1,f2',io,e1,e2,er]
theorem aqgz (h:List aqu2) (kh:okH h) (k:okW h) (seats:Int) (h6:seats <= 6):aXc [bt h,.int seats]=some (azb (aj2 h seats 6 (List.replicate h.length 0) [])):=by
 have hh:=k.len;have hs:azu 0 (List.replicate h.length (0:Rat)):=⟨1,by decide,by decide,fun q hq=>by
  have:=List.eq_of_mem_replicate hq
  subst this;exact ⟨avf 1 0,Rat.le_refl,by simp⟩⟩
 have g:=aqep h kh k (List.replicate h.length 0) (by simp) hs (by decide) [] (by simp) seats h6;have hc:aji (geN 0) qT (oE (aqt8 (gd (fC (.int 0)) (gd (fC (.int 1)) aqty)))) (h.map axy) [none]=some (h.map fun _=>O.sh (frD 0)):=by
  have:=al (inj:=axy) (g:=geN 0) (c:=qT) (e:=oE (aqt8 (gd (fC (.int 0)) (gd (fC (.int 1)) aqty)))) (fun ρ=>∃ d,ρ=[d]) (fun _=>true) (fun _=>O.sh (frD 0)) h [none] ⟨_,rfl⟩ (by
   rintro p _ ρ ⟨d,rfl⟩;exact ⟨_,rfl,⟨_,rfl⟩,rfl,fun _=>by simp [aqu4]; rfl⟩)
  rwa [List.filter_eq_self.mpr (by simp)] at this
 have hd:oDs (h.map fun _=>O.sh (frD 0))=some ((List.replicate h.length (0:Rat)).map frD):=by
  have:=aqt (f:=fun _:aqu2=>O.sh (frD 0)) (g:=fun _=>frD 0) (fun p=>by simp) h
  rw [this]; simp [List.map_const']
 have hll:h.length <= 100000:=by omega
 have e1:D.lst ((List.replicate h.length (0:Rat)).map frD)=aZ (List.replicate h.length 0):=rfl;have e2:D.lst []=ag []:=rfl;rw [e2.symm] at g;generalize List.replicate h.length (0:Rat)=Z at *;simp [aXc,aqsk,aqsi,ini,aqad,aqa,mkD,hll,aqu4,hc,hd,e1,g]
def lkB (h:List aqu2) (i:Nat) (c:Int):Bool:=atB (fun p:aqu2=>aj7 p.2 [c]) h[i]?
theorem aQ2 (h:List aqu2) (c:Int):aqtw h [c]=(List.range h.length).filter fun i=>lkB h i c:=rfl
theorem aqen {h:List aqu2} {c:Int} {i:Nat} (hi:i < h.length):aqsz (aqtw h [c]) i=lkB h i c:=by
 rw [Bool.eq_iff_iff,akx,aQ2,List.mem_filter];simp [hi]
def aJ1 (P:List Rat) (G:List (Int × Rat × List Rat)):Nat->List Rat
 | 0=>P
 | s + 1=>(G[s]?.map fun r=>r.2.2).getD []
theorem aXg {l:List (Int × Rat)} {o:Int × Rat} (h:aY l=some o):∀ q∈l,o.2 <= q.2:=by
 have key:∀ (l:List (Int × Rat)) (f:Option (Int × Rat)) (o:Int × Rat),l.foldl aqj f=some o->(∀ q∈l,o.2 <= q.2)/\∀ a,f=some a->o.2 <= a.2:=by
  intro l
  induction l with
  | nil=>intro f o h; exact ⟨by simp,fun a e=>by rw [List.foldl_nil] at h; rw [h] at e; cases e; exact Rat.le_refl⟩
  | cons b l ih =>
   intro f o h;obtain ⟨h1,h2⟩:=ih _ _ h;cases f with
   | none =>
    have:=h2 b rfl
    exact ⟨fun q hq=>by
     rcases List.mem_cons.mp hq with rfl | hq
     ·exact this
     ·exact h1 q hq,fun a e=>by cases e⟩
   | some a =>
    simp only [aqj] at h2;split at h2
    ·rename_i hlt
     have:=h2 b rfl
     exact ⟨fun q hq=>by
      rcases List.mem_cons.mp hq with rfl | hq
      ·exact this
      ·exact h1 q hq,fun a' e=>by cases e; grind⟩
    ·rename_i hlt
     have:=h2 a rfl
     exact ⟨fun q hq=>by
      rcases List.mem_cons.mp hq with rfl | hq
      ·grind
      ·exact h1 q hq,fun a' e=>by cases e; exact this⟩
 exact (key l none o h).1
theorem aZv {l:List (Int × Rat)} (h:aY l=none):l=[]:=by
 cases l with
 | nil=>rfl
 | cons a l =>
  exfalso;have key:∀ (l:List (Int × Rat)) (b:Int × Rat),l.foldl aqj (some b) ≠ none:=by
   intro l
   induction l with
   | nil=>intro b; simp
   | cons c l ih =>
    intro b;rw [List.foldl_cons];simp only [aqj];split
    ·exact ih c
    ·exact ih b
  exact key l a h
theorem aqd0 {h:List aqu2} (k:okW h) {P:List Rat} {c:Int} (hc:c∈ak h) (hS:aqsf h P c <= (aqs9 h:Rat)):aqsf h P c + (wG h (aqtw h [c]):Rat) * azj h P c=(aqs9 h:Rat):=by
 have h1:(1:Rat) <= (wG h (aqtw h [c]):Rat):=by exact_mod_cast aWf k (av8 hc) (av h [c])
 unfold azj;split
 ·grind
 ·generalize hx:((aqs9 h:Rat) - aqsf h P c) / (wG h (aqtw h [c]):Rat)=x
  have e:x * (wG h (aqtw h [c]):Rat)=(aqs9 h:Rat) - aqsf h P c:=by rw [<- hx,Rat.div_mul_cancel (by grind)]
  grind
theorem aWi (h:List aqu2) (P:List Rat) (c:Int) (x:Rat):az (aqtw h [c]) (fun i=>(wAt h i:Rat) * (pAt P i + x))=aqsf h P c + (wG h (aqtw h [c]):Rat) * x:=by
 rw [aqc0,<- aqy];unfold aqsf;rw [<- av2];exact aD fun i _=>by grind
theorem aqbu {h:List aqu2} {P:List Rat} {o:Int × Rat} {i:Nat} (hi:i < P.length):pAt (au h P o) i=if aqsz (aqtw h [o.1]) i=true then 0 else pAt P i + o.2:=by
 unfold pAt au;rw [aqv (by simpa using hi)];simp [pAt]
theorem aqc4 {h:List aqu2} (k:okW h) {P:List Rat} (hl:P.length=h.length) {c d:Int} {x:Rat} (hP:∀ q∈P,(0:Rat) <= q) (hx:0 <= x):aqsf h (au h P (c,x)) d <= aqsf h P d + (wG h (aqtw h [d]):Rat) * x:=by
 rw [<- aWi];refine awr fun i hi=>?_;have hlt:i < P.length:=by have:=av h [d] i hi; omega
 have hw:(0:Rat) <= (wAt h i:Rat):=by exact_mod_cast k.at0 i
 rw [aqbu hlt];have hp:=hP _ (aR hlt);refine Rat.mul_le_mul_of_nonneg_left ?_ hw;split <;> grind
theorem aQ1 {h:List aqu2} {P:List Rat} {o:Int × Rat} (hP:∀ q∈P,(0:Rat) <= q) (hx:0 <= o.2):∀ q∈au h P o,(0:Rat) <= q:=by
 intro q hq;obtain ⟨i,hi,rfl⟩:=List.mem_map.mp hq
 have:=hP _ (aR (List.mem_range.mp hi))
 split
 ·exact Rat.le_refl
 ·grind
theorem awh {h:List aqu2} (k:okW h) (seats:Int):∀ (n:Nat) (P:List Rat) (ch:List Int),P.length=h.length->(∀ q∈P,(0:Rat) <= q)->(∀ c∈ak h,c ∉ ch->aqsf h P c <= (aqs9 h:Rat)) ->
  ∀ (t:Nat) (c:Int) (x:Rat) (Q:List Rat),(aj2 h seats n P ch)[t]?=some (c,x,Q) ->
   (∀ q∈aJ1 P (aj2 h seats n P ch) t,(0:Rat) <= q)/\(aJ1 P (aj2 h seats n P ch) t).length=h.length/\Q=au h (aJ1 P (aj2 h seats n P ch) t) (c,x)/\0 <= x/\c∈ak h/\c ∉ ch/\c ∉ ((aj2 h seats n P ch).take t).map (·.1) /\
   aqsf h (aJ1 P (aj2 h seats n P ch) t) c + (wG h (aqtw h [c]):Rat) * x=(aqs9 h:Rat) /\
   ∀ d∈ak h,d ∉ ch->d ∉ ((aj2 h seats n P ch).take t).map (·.1)->aqsf h (aJ1 P (aj2 h seats n P ch) t) d + (wG h (aqtw h [d]):Rat) * x <= (aqs9 h:Rat)
 | 0,P,ch,hl,hP,hinv,t,c,x,Q,he=>by simp [aj2] at he
 | n + 1,P,ch,hl,hP,hinv,t,c,x,Q,he=>by
  cases ho:aY (ajv h P ch seats) with
  | none=>simp only [aj2,ho] at he; simp at he
  | some o =>
   obtain ⟨w1,w2,w3,w4⟩:=aQ9 (aj0 ho);have hle:=aXg ho;have hx0:0 <= o.2:=by rw [w3]; exact akm k P o.1
   have hall:∀ d∈ak h,d ∉ ch->aqsf h P d + (wG h (aqtw h [d]):Rat) * o.2 <= (aqs9 h:Rat):=by
    intro d hd hdc;have hin:(d,azj h P d)∈ajv h P ch seats:=by
     unfold ajv;rw [if_neg (by omega)];refine List.mem_map.mpr ⟨d,List.mem_filter.mpr ⟨hd,?_⟩,rfl⟩;simp only [Bool.not_eq_true',has];simpa using hdc
    have h1:=hle _ hin;have h2:=aqd0 k hd (hinv d hd hdc);have h3:(0:Rat) <= (wG h (aqtw h [d]):Rat):=by exact_mod_cast (aKb k _).1
    have h4:(wG h (aqtw h [d]):Rat) * o.2 <= (wG h (aqtw h [d]):Rat) * azj h P d:=Rat.mul_le_mul_of_nonneg_left h1 h3;grind
   have heq:aqsf h P o.1 + (wG h (aqtw h [o.1]):Rat) * o.2=(aqs9 h:Rat):=by rw [w3]; exact aqd0 k w1 (hinv _ w1 w2)
   have eG:aj2 h seats (n + 1) P ch=(o.1,o.2,au h P o) :: aj2 h seats n (au h P o) (ch++[o.1]):=by simp only [aj2,ho]
   rw [eG] at he ⊢;cases t with
   | zero =>
    simp only [List.getElem?_cons_zero,Option.some.injEq,Prod.mk.injEq] at he;obtain ⟨rfl,rfl,rfl⟩:=he;exact ⟨hP,hl,rfl,hx0,w1,w2,by simp,heq,fun d hd hdc _=>hall d hd hdc⟩
   | succ t =>
    rw [List.getElem?_cons_succ] at he;have hinv':∀ c∈ak h,c ∉ ch++[o.1]->aqsf h (au h P o) c <= (aqs9 h:Rat):=by
     intro d hd hdc;have hdc':d ∉ ch:=fun m=>hdc (by simp [m]);exact Rat.le_trans (aqc4 k hl (c:=o.1) (x:=o.2) hP hx0) (hall d hd hdc')
    have ih:=awh k seats n (au h P o) (ch++[o.1]) (by rw [aXt]; exact hl) (aQ1 hP hx0) hinv' t c x Q he;have ep:aJ1 P ((o.1,o.2,au h P o) :: aj2 h seats n (au h P o) (ch++[o.1])) (t + 1)=aJ1 (au h P o) (aj2 h seats n (au h P o) (ch++[o.1])) t:=by
     cases t with
     | zero=>simp [aJ1]
     | succ t=>simp [aJ1]
    rw [ep];obtain ⟨i1,i2,i3,i4,i5,i6,i7,i8,i9⟩:=ih;have i6':c ∉ ch/\c ≠ o.1:=by simpa using i6
    refine ⟨i1,i2,i3,i4,i5,i6'.1,?_,i8,fun d hd hdc hdt=>i9 d hd ?_ ?_⟩
    ·simp only [List.take_succ_cons,map_cons,mem_cons,not_or]
     exact ⟨i6'.2,i7⟩
    ·simp only [List.take_succ_cons,map_cons,mem_cons,not_or] at hdt
     simp [hdc,hdt.1]
    ·simp only [List.take_succ_cons,map_cons,mem_cons,not_or] at hdt
     exact hdt.2
theorem aXj {h:List aqu2} (seats:Int):∀ (n:Nat) (P:List Rat) (ch:List Int),seats <= (ch.length:Int) + n->(seats <= (ch.length:Int) + (aj2 h seats n P ch).length) \/ ∀ c∈ak h,c∈ch \/ c∈(aj2 h seats n P ch).map (·.1)
 | 0,P,ch,hn=>.inl (by simp [aj2]; omega)
 | n + 1,P,ch,hn=>by
  cases ho:aY (ajv h P ch seats) with
  | none =>
   have e:=aZv ho;unfold ajv at e;split at e
   ·exact .inl (by omega)
   ·refine .inr fun c hc=>.inl ?_
    have:=List.filter_eq_nil_iff.mp (List.map_eq_nil_iff.mp e) c hc
    simpa [has] using this
  | some o =>
   have eG:aj2 h seats (n + 1) P ch=(o.1,o.2,au h P o) :: aj2 h seats n (au h P o) (ch++[o.1]):=by simp only [aj2,ho]
   rw [eG];rcases aXj seats n (au h P o) (ch++[o.1]) (by simp; omega) with ih | ih
   ·refine .inl ?_
    have e1:((ch++[o.1]).length:Int)=(ch.length:Int) + 1:=by simp
    rw [e1] at ih;rw [length_cons,Int.natCast_add];generalize ((aj2 h seats n (au h P o) (ch++[o.1])).length:Int)=z at *;show seats <= (ch.length:Int) + (z + 1);omega
   ·refine .inr fun c hc=>?_
    rcases ih c hc with m | m
    ·rcases List.mem_append.mp m with m | m
     ·exact .inl m
     ·simp at m; exact .inr (by simp [m])
    ·exact .inr (by rw [map_cons]; exact mem_cons_of_mem _ m)
theorem aY0 {h:List aqu2} (seats:Int):∀ (n:Nat) (P:List Rat) (ch:List Int),aj2 h seats n P ch=[] \/ ((ch.length:Int) + (aj2 h seats n P ch).length <= seats)
 | 0,P,ch=>.inl rfl
 | n + 1,P,ch=>by
  cases ho:aY (ajv h P ch seats) with
  | none=>exact .inl (by simp only [aj2,ho])
  | some o =>
   obtain ⟨w1,w2,w3,w4⟩:=aQ9 (aj0 ho);have eG:aj2 h seats (n + 1) P ch=(o.1,o.2,au h P o) :: aj2 h seats n (au h P o) (ch++[o.1]):=by simp only [aj2,ho]
   rw [eG];refine .inr ?_;rcases aY0 seats n (au h P o) (ch++[o.1]) with ih | ih
   ·rw [ih]; simp; omega
   ·simp only [length_append,length_cons,List.length_nil] at ih ⊢; omega
theorem aZw {h:List aqu2} (k:okW h) (seats:Int) (n:Nat) {P:List Rat} {ch:List Int} (hl:P.length=h.length) (hP:∀ q∈P,(0:Rat) <= q) (hinv:∀ c∈ak h,c ∉ ch->aqsf h P c <= (aqs9 h:Rat)):((aj2 h seats n P ch).map (·.1)).Nodup:=by
 rw [List.nodup_iff_pairwise_ne,List.pairwise_iff_getElem];intro i j hi hj hij e;simp at hi hj;have hr:=awh k seats n P ch hl hP hinv j _ _ _ (getElem?_eq_getElem hj);refine hr.2.2.2.2.2.2.1 ?_;simp only [getElem_map] at e;show (aj2 h seats n P ch)[j].1∈_;rw [<- e];refine List.mem_map.mpr ⟨(aj2 h seats n P ch)[i],?_,rfl⟩;exact List.mem_iff_getElem.mpr ⟨i,by simp; omega,by simp⟩
def optQ:Option Rat->D
 | none=>.non
 | some q=>frD q
def aqso (h:List aqu2) (P:List Rat) (c:Int):List Rat:=(aqtw h [c]).map (pAt P)
def plI (h:List aqu2) (c:Int):List Int:=(aqtw h [c]).map fun (i:Nat)=>(i:Int)
def aqtp (h:List aqu2) (P:List Rat) (c:Int):Nat:=cb (aqso h P c)
def psR (h:List aqu2) (P:List Rat) (c:Int):List (Int × Int):=aJp (((aqso h P c).map (aqsc (aqtp h P c))).zip (plI h c))
def wOf (h:List aqu2) (q:Int × Int):Int × Int:=(q.1,wAt h q.2.toNat)
def aqm5 (h:List aqu2) (P:List Rat) (c N:Int):Option (Int × Int):=aqga ((psR h P c).map (wOf h)) (N * (aqtp h P c:Nat)) (wG h (aqtw h [c]))
def akj (h:List aqu2) (P:List Rat) (c N:Int):Option Rat:=(aqm5 h P c N).map fun r=>mkRat r.1 (r.2.toNat * aqtp h P c)
theorem aqau (h:List aqu2) (k:okW h) (x1 x2 x3 x4 x6:Option O) (b:Nat) (hb0:0 < b) (hb:b < 2 ^ 1700) (R0:Int) (hR:R0 < 2 ^ 3700):∀ (ps:List (Int × Int)) (rest W:Int) (x9 x10:Option O),
  (∀ q∈ps,0 <= q.1/\Sz 3600 q.1/\∃ i:Nat,i < h.length/\q.2=(i:Int))->W=aqse (ps.map (wOf h))->W <= 2 ^ 76->0 < rest->rest <= R0 ->
  match aqga (ps.map (wOf h)) rest W with
  | none=>∃ ρ',aqt6 (gTp [(gN 9),(gN 10)]) ak0 (ps.map aqgd) [some (.sh (bt h)),x1,x2,x3,x4,some (.sh (.int (b:Int))),x6,some (.sh (.int rest)),some (.sh (.int W)),x9,x10]=some (.nx ρ')
  | some r=>∃ ρ',aqt6 (gTp [(gN 9),(gN 10)]) ak0 (ps.map aqgd) [some (.sh (bt h)),x1,x2,x3,x4,some (.sh (.int (b:Int))),x6,some (.sh (.int rest)),some (.sh (.int W)),x9,x10]=some (.rt (.sh (frD (mkRat r.1 (r.2.toNat * b)))) ρ')
 | [],rest,W,x9,x10,_,_,_,_,_=>⟨_,rfl⟩
 | q :: ps,rest,W,x9,x10,hq,hW,hW76,hp,hrest=>by
  obtain ⟨q0,qs,i,hi,qi⟩:=hq q (by simp);have hl:∀ q∈ps,0 <= q.1/\Sz 3600 q.1/\∃ i:Nat,i < h.length/\q.2=(i:Int):=fun q hm=>hq q (by simp [hm]);have wq:wOf h q=(q.1,wAt h i):=by simp [wOf,qi]
  have w1:=k.at1 hi;have w2:=k.atlt i;have hn:0 <= aqse (ps.map (wOf h)):=av0 fun r hr=>by
   obtain ⟨p,hp,rfl⟩:=List.mem_map.mp hr;obtain ⟨_,_,j,hj,pj⟩:=hl p hp
   have:=k.at1 hj
   simp only [wOf,pj,Int.toNat_natCast]; exact this
  have hW':W - wAt h i=aqse (ps.map (wOf h)):=by
   rw [hW]; simp only [map_cons,aqse,sum_cons,wq]; omega
  have zW:Sz 80 W:=by show W.natAbs < 2 ^ 80; omega
  have zb:Sz 1700 (b:Int):=by show (b:Int).natAbs < 2 ^ 1700; rw [Int.natAbs_natCast]; exact hb
  have zw:Sz 80 (wAt h i):=by show (wAt h i).natAbs < 2 ^ 80; omega
  have m1:=aq9 (zW.big (by decide)) (qs.big (by decide));have m2:=aq9 (zW.big (by decide)) (zb.big (by decide));have m3:=aq9 (zw.big (by decide)) (qs.big (by decide));have hx:dIx (bt h) (.int q.2)=some (axy h[i]):=by rw [qi]; exact aK0 hi
  have hp0:dIx (axy h[i]) (.int 0)=some (.int (wAt h i)):=by rw [aqh7]; unfold wAt; rw [aqv hi]
  have hg:∀ y9 y10:Option O,gTp [(gN 9),(gN 10)] (aqgd q) [some (.sh (bt h)),x1,x2,x3,x4,some (.sh (.int (b:Int))),x6,some (.sh (.int rest)),some (.sh (.int W)),y9,y10]=some [some (.sh (bt h)),x1,x2,x3,x4,some (.sh (.int (b:Int))),x6,some (.sh (.int rest)),some (.sh (.int W)),some (.sh (.int q.1)),some (.sh (.int q.2))]:=fun _ _=>rfl;rw [map_cons,map_cons];unfold aqga;rw [wq];dsimp only
  by_cases hr:rest <= W * q.1
  ·rw [if_pos hr]
   have Wp:0 < W:=by omega
   obtain ⟨V,hV⟩:∃ V:Nat,W=(V:Int):=⟨W.toNat,by omega⟩;have hs:=aZ7 rest (W * b) (Int.mul_pos Wp (by omega)) (show _ < 2 ^ 8000 from lt_of_lt_of_le (show rest.natAbs < 2 ^ 3700 by omega) (pow_le_pow_right (by decide) (by decide))) ((zW.mul zb).mono (by decide));have ec:W * (b:Int)=((W.toNat * b:Nat):Int):=by rw [hV]; simp
   rw [ec,nf_mk (mul_ne_zero (by omega) (by omega)),<- ec] at hs;have hb1:∃ ρ',ak0 [some (.sh (bt h)),x1,x2,x3,x4,some (.sh (.int (b:Int))),x6,some (.sh (.int rest)),some (.sh (.int W)),some (.sh (.int q.1)),some (.sh (.int q.2))]=some (.rt (.sh (frD (mkRat rest (W.toNat * b)))) ρ'):=by
    generalize frD (mkRat rest (W.toNat * b))=R at hs;generalize W * q.1=Z at *;generalize W * (b:Int)=Y at *;simp [ak0,m1,m2,hr,hs]
   obtain ⟨ρ',e⟩:=hb1;exact ⟨ρ',aqes (hg x9 x10) e⟩
  ·rw [if_neg hr]
   have hlt:=aW0 (w:=wAt h i) hr;have hge:0 <= (W - wAt h i) * q.1:=Int.mul_nonneg (by omega) q0;have hwt:0 <= wAt h i * q.1:=Int.mul_nonneg (by omega) q0;have hb1:ak0 [some (.sh (bt h)),x1,x2,x3,x4,some (.sh (.int (b:Int))),x6,some (.sh (.int rest)),some (.sh (.int W)),some (.sh (.int q.1)),some (.sh (.int q.2))]=some (.nx [some (.sh (bt h)),x1,x2,x3,x4,some (.sh (.int (b:Int))),x6,some (.sh (.int (rest - wAt h i * q.1))),some (.sh (.int (W - wAt h i))),some (.sh (.int q.1)),some (.sh (.int q.2))]):=by
    generalize W * q.1=Z at *;generalize wAt h i * q.1=Y at *;simp [ak0,m1,m3,hr,hx,hp0]
   have ih:=aqau h k x1 x2 x3 x4 x6 b hb0 hb R0 hR ps (rest - wAt h i * q.1) (W - wAt h i) (some (.sh (.int q.1))) (some (.sh (.int q.2))) hl hW' (by omega) (by omega) (by omega);rw [aK2 (hg x9 x10) (.inl hb1)];exact ih
theorem aW2 {h:List aqu2} {P:List Rat} (hl:P.length=h.length) {c:Int} {q:Rat} (hq:q∈aqso h P c):q∈P:=by
 obtain ⟨i,hi,rfl⟩:=List.mem_map.mp hq;exact aR (by have:=av h [c] i hi; omega)
theorem aZi {b:Nat} {q:Rat} (h:0 <= q):0 <= aqsc b q:=by
 unfold aqsc;have h1:0 <= q.num:=Rat.num_nonneg.mpr h;exact Int.mul_nonneg h1 (Int.natCast_nonneg _)
theorem aqb4 (h:List aqu2) (c:Int):(plI h c).Nodup:=by
 unfold plI;have hn:(aqtw h [c]).Nodup:=List.Nodup.sublist filter_sublist List.nodup_range;exact List.pairwise_map.mpr (hn.imp fun {a b} hab e=>hab (by omega))
theorem aZ4:∀ {xs ys:List Int},ys.Nodup->(xs.zip ys).Nodup
 | [],_,_=>by simp
 | _ :: _,[],_=>by simp
 | x :: xs,y :: ys,h=>by
  rw [nodup_cons] at h;rw [List.zip_cons_cons,nodup_cons];refine ⟨fun m=>h.1 (of_mem_zip m).2,aZ4 h.2⟩
theorem aqm7 {h:List aqu2} {P:List Rat} {c:Int} {q:Int × Int} (hq:q∈psR h P c):∃ i∈aqtw h [c],q=(aqsc (aqtp h P c) (pAt P i),(i:Int)):=by
 have hm:=(azn _).mem_iff.mp hq;have e:((aqso h P c).map (aqsc (aqtp h P c))).zip (plI h c)=(aqtw h [c]).map fun i=>(aqsc (aqtp h P c) (pAt P i),((i:Nat):Int)):=by
  unfold aqso plI;rw [map_map,List.zip_map',];rfl
 rw [e] at hm;obtain ⟨i,hi,rfl⟩:=List.mem_map.mp hm;exact ⟨i,hi,rfl⟩
theorem aqli (h:List aqu2) (P:List Rat) (c:Int):((aqso h P c).map (aqsc (aqtp h P c))).zip (plI h c)=(aqtw h [c]).map fun i=>(aqsc (aqtp h P c) (pAt P i),((i:Nat):Int)):=by
 unfold aqso plI;rw [map_map,List.zip_map'];rfl
theorem aqj8 (h:List aqu2) (P:List Rat) (c:Int):(psR h P c).Perm ((aqtw h [c]).map fun i=>(aqsc (aqtp h P c) (pAt P i),((i:Nat):Int))):=by
 have:=azn (((aqso h P c).map (aqsc (aqtp h P c))).zip (plI h c))
 rw [aqli] at this;unfold psR;rw [aqli];exact this
theorem aKz (h:List aqu2) (P:List Rat) (c:Int):((psR h P c).map (wOf h)).Perm ((aqtw h [c]).map fun i=>(aqsc (aqtp h P c) (pAt P i),wAt h i)):=by
 have:=(aqj8 h P c).map (wOf h)
 rw [map_map] at this;have e:((wOf h) ∘ fun (i:Nat)=>(aqsc (aqtp h P c) (pAt P i),((i:Nat):Int)))=fun (i:Nat)=>(aqsc (aqtp h P c) (pAt P i),wAt h i):=by
  funext i; simp [wOf,Function.comp]
 rw [e] at this;exact this
theorem aqba {l m:List Int} (h:l.Perm m):l.sum=m.sum:=by
 induction h with
 | nil=>rfl
 | cons x _ ih=>simp [ih]
 | swap x y l=>simp; omega
 | trans _ _ a b=>exact a.trans b
theorem aqd4 (h:List aqu2) (P:List Rat) (c:Int):aqse ((psR h P c).map (wOf h))=wG h (aqtw h [c]):=by
 have:=(aKz h P c).map (fun q=>q.2)
 have e:=aqba this;unfold aqse;rw [e,map_map];rfl
theorem aqm4 (h:List aqu2) (k:okW h) (P:List Rat) (hl:P.length=h.length) {t:Nat} (hs:azu t P) (ht:t <= 18) (c:Int) (hc:c∈ak h) (N:Int) (hN:0 < N/\N <= 2 ^ 76):aYq [bt h,aZ P,.int c,.int N]=some (optQ (akj h P c N)):=by
 have hh:h.length <= 100:=le_trans k.len (by decide);have lk:=az1 h c hh;have hsub:azu t (aqso h P c):=hs.sub fun q hq=>aW2 hl hq;have hcb:=aqbr (aqso h P c) hsub (by omega);have hcbl:cb (aqso h P c) < 2 ^ 1700:=hsub.cb (by omega);have hcb0:=aqa3 (aqso h P c);have hlen:(aqtw h [c]).length <= 16:=le_trans (ajg h [c]) k.len;have htp:=aqaj (aqso h P c) hsub (by omega) (cb (aqso h P c)) hcbl (by simp [aqso]; omega);have hwt:=akl h (aqtw h [c]) (av h [c]) (by omega);have hW:=(aqla k hlen).2;have hne:=av8 hc;have hcomp:aji (geN 0) qT (oE (f2 dIx (aqt7 1) (aqt7 0))) ((aqtw h [c]).map fun (i:Nat)=>D.int (i:Int)) [none,some (aZ P)]=some ((aqso h P c).map fun q=>O.sh (frD q)):=by
  have:=al (inj:=fun (i:Nat)=>D.int (i:Int)) (g:=geN 0) (c:=qT) (e:=oE (f2 dIx (aqt7 1) (aqt7 0))) (fun ρ=>∃ d,ρ=[d,some (aZ P)]) (fun _=>true) (fun i=>O.sh (frD (pAt P i))) (aqtw h [c]) [none,some (aZ P)] ⟨_,rfl⟩ (by
   rintro i hi ρ ⟨d,rfl⟩;have hil:i < P.length:=by have:=av h [c] i hi; omega
   have hx:dIx (aZ P) (.int (i:Int))=some (frD (pAt P i)):=by
    have:=dIx_l (ds:=P.map frD) (i:=i) (by simpa using hil)
    rw [aZ,this]; simp [pAt,hil]
   exact ⟨_,rfl,⟨_,rfl⟩,rfl,fun _=>by simp [hx]⟩)
  rw [List.filter_eq_self.mpr (by simp)] at this;rw [this]; unfold aqso; rw [map_map]; rfl
 have hds:oDs ((aqso h P c).map fun q=>O.sh (frD q))=some ((aqso h P c).map frD):=aqt (fun p=>by simp) _;have hfold:D.lst ((aqso h P c).map frD)=aZ (aqso h P c):=rfl;have hl1:(aqtw h [c]).length <= 100000:=by omega
 have zN:Sz 80 N:=by show N.natAbs < 2 ^ 80; omega
 have zb:Sz 1700 ((cb (aqso h P c):Nat):Int):=by show ((cb (aqso h P c):Nat):Int).natAbs < 2 ^ 1700; rw [Int.natAbs_natCast]; exact hcbl
 have mN:=aq9 (zN.big (by decide)) (zb.big (by decide));have hsz:aVr [ag ((aqso h P c).map (aqsc (cb (aqso h P c)))),plD (aqtw h [c])]=some ((psR h P c).map aqgd):=by
  have e1:plD (aqtw h [c])=ag (plI h c):=rfl;have h1:((aqso h P c).map (aqsc (cb (aqso h P c)))).length=(plI h c).length:=by simp [aqso,plI]
  have h2:1 <= ((aqso h P c).map (aqsc (cb (aqso h P c)))).length:=by
   have:0 < (aqtw h [c]).length:=List.length_pos_iff.mpr hne
   simp [aqso]; omega
  have h3:((aqso h P c).map (aqsc (cb (aqso h P c)))).length < 64:=by simp [aqso]; omega
  have h4:(((aqso h P c).map (aqsc (cb (aqso h P c)))).zip (plI h c)).Nodup:=aZ4 (aqb4 h c);rw [e1];show ((aqcu (((aqso h P c).map (aqsc (cb (aqso h P c)))).map D.int)).bind fun ns=>(aqcu ((plI h c).map D.int)).bind fun ms=>if ns.length=ms.length/\1 <= ns.length/\ns.length < 64/\(ns.zip ms).Nodup then some ((aJp (ns.zip ms)).map aqgd) else none)=_;rw [aJi,aJi];simp only [Option.bind_some];rw [if_pos ⟨h1,h2,h3,h4⟩];rfl
 have hmem:∀ q∈psR h P c,0 <= q.1/\Sz 3600 q.1/\∃ i:Nat,i < h.length/\q.2=(i:Int):=fun q hq=>by
  obtain ⟨i,hi,rfl⟩:=aqm7 hq;have hi':=av h [c] i hi;have hp:pAt P i∈P:=aR (by omega);obtain ⟨D,d1,d2,d3⟩:=id hs;exact ⟨aZi (d3 _ hp).2.1,hs.top (by omega) hp hcbl,i,hi',rfl⟩
 have hR0:N * ((cb (aqso h P c):Nat):Int) < 2 ^ 3700:=by
  have z:Sz 1780 (N * ((cb (aqso h P c):Nat):Int)):=(zN.mul zb);have z':(N * ((cb (aqso h P c):Nat):Int)).natAbs < 2 ^ 3700:=z.mono (by decide);have h2:N * ((cb (aqso h P c):Nat):Int) <= ((N * ((cb (aqso h P c):Nat):Int)).natAbs:Int):=Int.le_natAbs;have h3:(((N * ((cb (aqso h P c):Nat):Int)).natAbs:Nat):Int) < ((2 ^ 3700:Nat):Int):=by exact_mod_cast z'
  have h4:((2 ^ 3700:Nat):Int)=2 ^ 3700:=by norm_cast
  omega
 have loop:=aqau h k (some (.sh (aZ P))) (some (.sh (.int c))) (some (.sh (.int N))) (some (.sh (plD (aqtw h [c])))) (some (.sh (ag ((aqso h P c).map (aqsc (cb (aqso h P c))))))) (cb (aqso h P c)) hcb0 hcbl (N * ((cb (aqso h P c):Nat):Int)) hR0 (psR h P c) (N * ((cb (aqso h P c):Nat):Int)) (wG h (aqtw h [c])) none none hmem (aqd4 h P c).symm hW (Int.mul_pos hN.1 (by omega)) (Int.le_refl _);have hagr:(agr h [c]).map D.int=(aqtw h [c]).map fun (i:Nat)=>D.int (i:Int):=aZ3 h [c];rw [hagr] at lk;have z1:oD (ow ((aqtw h [c]).map fun (i:Nat)=>D.int (i:Int)))=some (plD (aqtw h [c])):=by rw [oD_ow,akt]
 have z2:fzc (some (ow ((aqtw h [c]).map fun (i:Nat)=>D.int (i:Int))))=some (.sh (plD (aqtw h [c]))):=by rw [aqp8,akt]
 have im1:aqsy ((aqtw h [c]).map fun (i:Nat)=>D.int (i:Int))=true:=aYy.mpr fun x hx=>by obtain ⟨i,_,rfl⟩:=List.mem_map.mp hx; simp
 have z3:akv (plD (aqtw h [c]))=some ((aqtw h [c]).map fun (i:Nat)=>D.int (i:Int)):=aqja _;have zi:oD (ow ((psR h P c).map aqgd))=some (.lst ((psR h P c).map aqgd)):=oD_ow;unfold akj aqm5 aqtp;cases hq:aqga ((psR h P c).map (wOf h)) (N * ((cb (aqso h P c):Nat):Int)) (wG h (aqtw h [c])) with
 | none =>
  rw [hq] at loop;obtain ⟨ρ',e⟩:=loop;simp [aYq,aqsk,aqsi,ini,aqhg,lk,z1,z2,z3,im1,aqa,mkD,hl1,aqu4,hcomp,hds,hfold,hcb,htp,mN,hwt,hsz,aqtu,e,optQ,-map_map]
 | some r =>
  rw [hq] at loop;obtain ⟨ρ',e⟩:=loop;simp [aYq,aqsk,aqsi,ini,aqhg,lk,z1,z2,z3,im1,aqa,mkD,hl1,aqu4,hcomp,hds,hfold,hcb,htp,mN,hwt,hsz,aqtu,e,optQ,-map_map]
theorem aqg4 {l m:List Rat} (h:l.Perm m):l.sum=m.sum:=by
 induction h with
 | nil=>rfl
 | cons x _ ih=>simp [ih]
 | swap x y l=>simp only [sum_cons]; grind
 | trans _ _ a b=>exact a.trans b
theorem aWx {α:Type} (f:α->Rat) (b:Rat):∀ l:List α,(l.map fun a=>f a * b).sum=(l.map f).sum * b
 | []=>by simp
 | a :: l=>by rw [map_cons,map_cons,sum_cons,sum_cons,aWx f b l]; grind
section
variable {h:List aqu2} (k:okW h) {P:List Rat} (hl:P.length=h.length) {t:Nat} (hs:azu t P) (ht:t <= 18) {c:Int} (hc:c∈ak h) {N:Int} (hN:0 < N)
include k hl hs ht hc hN
theorem lR_ok:(∀ q∈(psR h P c).map (wOf h),0 <= q.1/\1 <= q.2)/\((psR h P c).map (wOf h)).Pairwise (fun a b=>a.1 <= b.1):=by
 constructor
 ·intro q hq
  have:=(aKz h P c).mem_iff.mp hq
  obtain ⟨i,hi,rfl⟩:=List.mem_map.mp this;have hi':=av h [c] i hi;obtain ⟨D,d1,d2,d3⟩:=id hs;exact ⟨aZi (d3 _ (aR (by omega))).2.1,k.at1 hi'⟩
 ·have:=aw9 _ (aZ4 (xs:=(aqso h P c).map (aqsc (aqtp h P c))) (aqb4 h c))
  rw [List.pairwise_map];refine List.Pairwise.imp (fun {a b} hab=>?_) this;rw [aVp] at hab;show a.1 <= b.1;omega
theorem aqit {i:Nat} (hi:i∈aqtw h [c]):((aqsc (aqtp h P c) (pAt P i):Int):Rat)=pAt P i * (aqtp h P c:Rat) :=
 aqd2 (aqhb (List.mem_map.mpr ⟨i,hi,rfl⟩))
theorem aqif:(0:Rat) < (aqtp h P c:Rat):=by exact_mod_cast aqa3 (aqso h P c)
theorem aVg (e:akj h P c N=none):az (aqtw h [c]) (fun i=>(wAt h i:Rat) * pAt P i) < (N:Rat):=by
 have e':aqm5 h P c N=none:=by
  unfold akj at e;cases hq:aqm5 h P c N with
  | none=>rfl
  | some r=>rw [hq] at e; cases e
 have b0:=aqif k hl hs ht hc hN;have hb:0 < N * ((aqtp h P c:Nat):Int):=Int.mul_pos hN (by exact_mod_cast aqa3 (aqso h P c));have h1:=aKm _ _ _ (lR_ok k hl hs ht hc hN).1 (aqd4 h P c).symm hb e';have h2:((sumT ((psR h P c).map (wOf h)):Int):Rat)=az (aqtw h [c]) (fun i=>(wAt h i:Rat) * pAt P i) * (aqtp h P c:Rat):=by
  unfold sumT;rw [aqba ((aKz h P c).map fun q=>q.2 * q.1),map_map,aqbc,map_map];unfold az;rw [<- aWx];congr 1;apply map_congr_left;intro i hi
  have:=aqit k hl hs ht hc hN hi
  simp only [Function.comp];push_cast;rw [this]; grind
 have h3:((sumT ((psR h P c).map (wOf h)):Int):Rat) < ((N * ((aqtp h P c:Nat):Int):Int):Rat):=by exact_mod_cast h1
 rw [h2] at h3;have h4:((N * ((aqtp h P c:Nat):Int):Int):Rat)=(N:Rat) * (aqtp h P c:Rat):=by push_cast; rfl
 rw [h4] at h3;exact Rat.lt_of_mul_lt_mul_right h3 (Rat.le_of_lt b0)
theorem av6 {r:Rat} (e:akj h P c N=some r):pays (aqtw h [c]) (fun i=>(wAt h i:Rat)) (pAt P) r=(N:Rat)/\(∃ i∈aqtw h [c],r <= pAt P i)/\0 < r/\∃ V:Nat,0 < V/\V <= 2 ^ 76/\aqu3 (V * aqtp h P c) r:=by
 unfold akj at e;cases hq:aqm5 h P c N with
 | none=>rw [hq] at e; cases e
 | some z =>
  obtain ⟨ρ,V⟩:=z;rw [hq] at e;have e:mkRat ρ (V.toNat * aqtp h P c)=r:=Option.some.inj e;have b0:=aqif k hl hs ht hc hN;have bn:0 < aqtp h P c:=aqa3 (aqso h P c);have hb:0 < N * ((aqtp h P c:Nat):Int):=Int.mul_pos hN (by exact_mod_cast bn);obtain ⟨ok1,ok2⟩:=lR_ok k hl hs ht hc hN;obtain ⟨r1,r2,r3,r4,r5,r6⟩:=aKl _ _ _ 0 ρ V ok1 ok2 (fun q hm=>(ok1 q hm).1) (aqd4 h P c).symm hb (by rw [Int.mul_zero]; omega) hq;have hW:=(aqla k (g:=aqtw h [c]) (le_trans (ajg h [c]) k.len)).2;obtain ⟨W,hVW⟩:∃ W:Nat,V=(W:Int):=⟨V.toNat,by omega⟩;subst hVW;rw [Int.toNat_natCast] at e;have wp:(0:Rat) < (W:Rat):=by exact_mod_cast (by omega:0 < W)
  have er:r * ((W * aqtp h P c:Nat):Rat)=(ρ:Rat):=by
   rw [<- e,Rat.mkRat_eq_div]
   have:((W * aqtp h P c:Nat):Rat) ≠ 0:=by
    have:(0:Rat) < ((W * aqtp h P c:Nat):Rat):=by exact_mod_cast mul_pos (by omega) bn
    grind
   exact Rat.div_mul_cancel this
  have ex:(r * (aqtp h P c:Rat)) * ((W:Int):Rat)=(ρ:Rat):=by
   rw [<- er]; push_cast; grind
  obtain ⟨c1,q,c2,c3⟩:=r6 _ ex;refine ⟨?_,?_,?_,W,by omega,?_,ρ,er⟩
  ·have h2:capS ((psR h P c).map (wOf h)) (r * (aqtp h P c:Rat))=pays (aqtw h [c]) (fun i=>(wAt h i:Rat)) (pAt P) r * (aqtp h P c:Rat):=by
    unfold capS;rw [aqg4 ((aKz h P c).map fun q=>(q.2:Rat) * min (q.1:Rat) (r * (aqtp h P c:Rat))),map_map];unfold pays az;rw [<- aWx];congr 1;apply map_congr_left;intro i hi
    have:=aqit k hl hs ht hc hN hi
    simp only [Function.comp];rw [this];have hm:min (pAt P i * (aqtp h P c:Rat)) (r * (aqtp h P c:Rat))=min (pAt P i) r * (aqtp h P c:Rat):=by
     by_cases hle:pAt P i <= r
     ·have:=Rat.mul_le_mul_of_nonneg_right hle (Rat.le_of_lt b0)
      grind
     ·have hle':r <= pAt P i:=by grind
      have:=Rat.mul_le_mul_of_nonneg_right hle' (Rat.le_of_lt b0)
      grind
    rw [hm]; grind
   rw [h2] at c1;have h4:((N * ((aqtp h P c:Nat):Int):Int):Rat)=(N:Rat) * (aqtp h P c:Rat):=by push_cast; rfl
   rw [h4] at c1;have hne:(aqtp h P c:Rat) ≠ 0:=by grind
   have:=congrArg (fun z=>z / (aqtp h P c:Rat)) c1
   rw [Rat.mul_div_cancel hne,Rat.mul_div_cancel hne] at this;exact this
  ·have:=(aKz h P c).mem_iff.mp c2
   obtain ⟨i,hi,rfl⟩:=List.mem_map.mp this;refine ⟨i,hi,?_⟩;have ht':=aqit k hl hs ht hc hN hi;simp only at c3;rw [ht'] at c3;exact Rat.le_of_mul_le_mul_right c3 b0
  ·have:(0:Rat) < r * ((W * aqtp h P c:Nat):Rat):=by rw [er]; exact_mod_cast r1
   have hp:(0:Rat) < ((W * aqtp h P c:Nat):Rat):=by exact_mod_cast mul_pos (by omega) bn
   by_cases h:0 < r
   ·exact h
   ·exfalso
    have:=Rat.mul_le_mul_of_nonneg_right (Rat.not_lt.mp h) (Rat.le_of_lt hp)
    grind
  ·have:((W:Nat):Int) <= 2 ^ 76:=by omega
   exact_mod_cast this
end
def ajo (h:List aqu2) (P:List Rat) (c:Int) (r:Rat):List Rat:=(List.range P.length).map fun i=>if lkB h i c=true then pAt P i - min (pAt P i) r else pAt P i
theorem aqeq (f:Nat->Rat) {n i:Nat} (hi:i < n):((List.range n).map f).getD i 0=f i:=by simp [hi]
theorem fm_eq (f:Int->Option Rat) (g:Int->D) (hg:∀ c r,f c=some r->g c=aqsu (c,r)):∀ l:List Int,((l.filter fun c=>(f c).isSome).map fun c=>O.sh (g c))=(l.filterMap fun c=>(f c).map fun r=>(c,r)).map fun o=>O.sh (aqsu o)
 | []=>rfl
 | c :: l=>by
  cases hq:f c with
  | none =>
   rw [List.filter_cons_of_neg (by simp [hq]),List.filterMap_cons_none (by simp [hq])];exact fm_eq f g hg l
  | some r =>
   rw [List.filter_cons_of_pos (by simp [hq]),List.filterMap_cons_some (b:=(c,r)) (by simp [hq]),map_cons,map_cons,fm_eq f g hg l,hg c r hq]
theorem aVk (h:List aqu2) (P:List Rat) (c:Int) (r:Rat):(ajo h P c r).length=P.length:=by simp [ajo]
theorem aZq {h:List aqu2} {P:List Rat} {c:Int} {r:Rat} {i:Nat} (hi:i < P.length):pAt (ajo h P c r) i=if lkB h i c=true then pAt P i - min (pAt P i) r else pAt P i:=by
 exact aqeq (fun i=>if lkB h i c=true then pAt P i - min (pAt P i) r else pAt P i) hi
theorem aqfg {p r:Rat} (hp:Bd 2000 2000 p) (hr:Bd 2000 2000 r):aqq [frD p,frD r]=some (frD (p - min p r)):=by
 have bl:=aqih hp hr;have mi:=aqi2 hp hr
 by_cases h:p < r
 ·have e:p - min p r=0:=by grind
  rw [e];rw [decide_eq_true h] at bl;have z:frD 0=.tup [.int 0,.int 1]:=rfl;simp [aqq,aqsk,aqsi,ini,axg,bl,aqu4,z]
 ·have e:p - min p r=p - r:=by grind
  rw [e];rw [decide_eq_false h] at bl;simp [aqq,aqsk,aqsi,ini,axg,bl,mi]
theorem aqiw (P:List Rat) (i:Nat) (q:Rat) (hi:i < P.length):gSetI (i:Int) (.sh (frD q)) (ow (P.map frD))=some (ow ((P.set i q).map frD)):=by
 have:ixP (P.map frD).length (i:Int)=some i:=by
  unfold ixP;rw [if_pos (by omega)]
  simp; omega
 simp [gSetI,ow] at this ⊢;simp [this,List.map_set]
def pd (P:List Rat) (r:Rat) (g:List Nat):List Rat:=(List.range P.length).map fun i=>if aqsz g i=true then pAt P i - min (pAt P i) r else pAt P i
theorem aqmb (P:List Rat) (r:Rat) (g:List Nat) (i:Nat) (hi:i < P.length):pd P r (g++[i])=(pd P r g).set i (pAt P i - min (pAt P i) r):=by
 unfold pd;apply ext_getElem
 ·simp
 ·intro j h1 h2
  simp at h1;simp only [getElem_map,List.getElem_range,List.getElem_set]
  by_cases e:i=j
  ·subst e
   have:aqsz (g++[i]) i=true:=akx.mpr (by simp)
   simp [this]
  ·have:aqsz (g++[i]) j=aqsz g j:=by
    rw [Bool.eq_iff_iff,akx,akx];simp [Ne.symm e]
   simp [e,this]
theorem aqme (h:List aqu2) (k:okW h) (P:List Rat) (hl:P.length=h.length) {t:Nat} (hs:azu t P) (ht:t <= 18) (c:Int) (r:Rat) (hr:Bd 2000 2000 r):aqeb [bt h,aZ P,.int c,frD r]=some (aZ (ajo h P c r)):=by
 have hh:h.length <= 100:=le_trans k.len (by decide);have lk:=az1 h c hh;rw [aZ3] at lk;have z0:pd P r []=P:=by
  unfold pd;apply ext_getElem
  ·simp
  ·intro i h1 h2; simp [aqsz,pAt,h2]
 obtain ⟨ρ',e,x5,rfl⟩:=aju (inj:=fun (i:Nat)=>D.int (i:Int)) (g:=gN 5) (b:=aqa9) (fun pre ρ=>∃ x5:Option O,ρ=[some (.sh (bt h)),some (.sh (aZ P)),some (.sh (.int c)),some (.sh (frD r)),some (ow ((pd P r pre).map frD)),x5]) (aqtw h [c])
  [some (.sh (bt h)),some (.sh (aZ P)),some (.sh (.int c)),some (.sh (frD r)),some (ow (P.map frD)),none] ⟨none,by rw [z0]⟩ (by
   rintro pre i post ρ e ⟨x5,rfl⟩;have hi:i < P.length:=by rw [hl]; exact av h [c] i (by rw [e]; simp)
   have hb:=(hs.bd (by omega) (aR hi)).mono (show 1800 <= 2000 by decide) (show 1700 <= 2000 by decide);have h1:=aqfg hb hr;have hx:dIx (aZ P) (.int (i:Int))=some (frD (pAt P i)):=by
    have:=dIx_l (ds:=P.map frD) (i:=i) (by simpa using hi)
    rw [aZ,this]; simp [pAt,hi]
   have hset:=aqiw (pd P r pre) i (pAt P i - min (pAt P i) r) (by simp [pd]; exact hi);rw [aqmb P r pre i hi];generalize pAt P i - min (pAt P i) r=q at *;simp [aqu6,aqa9,bPut,hx,h1,aqsr,atO,hset])
 have ef:pd P r (aqtw h [c])=ajo h P c r:=by
  unfold pd ajo;apply map_congr_left;intro i hi;have hi':i < h.length:=by rw [<- hl]; exact List.mem_range.mp hi
  rw [aqen hi']
 rw [ef] at e;have z3:akv (D.lst ((aqtw h [c]).map fun (i:Nat)=>D.int (i:Int)))=some ((aqtw h [c]).map fun (i:Nat)=>D.int (i:Int)):=rfl;have zl:aZd [aZ P]=some (P.map frD):=rfl;have fi:∀ Q:List Rat,D.lst (Q.map frD)=aZ Q:=fun _=>rfl;have im:∀ Q:List Rat,aqsy (Q.map frD)=true:=fun Q=>aYy.mpr fun x hx=>by obtain ⟨i,_,rfl⟩:=List.mem_map.mp hx; simp
 simp [aqeb,aqsk,aqsi,ini,aql6,zl,im,lk,aqtu,e,fi]
def aQ (h:List aqu2) (P:List Rat) (ch:List Int):List (Int × Rat):=((ak h).filter fun c=>!has ch c).filterMap fun c=>(akj h P c (aqs9 h)).map fun r=>(c,r)
theorem avk {h:List aqu2} {P:List Rat} {ch:List Int} {o:Int × Rat} (ho:o∈aQ h P ch):o.1∈ak h/\o.1 ∉ ch/\akj h P o.1 (aqs9 h)=some o.2:=by
 obtain ⟨c,hc,e⟩:=List.mem_filterMap.mp ho;obtain ⟨h1,h2⟩:=List.mem_filter.mp hc;cases hr:akj h P c (aqs9 h) with
 | none=>rw [hr] at e; cases e
 | some r =>
  rw [hr] at e;have e:(c,r)=o:=Option.some.inj e;subst e;refine ⟨h1,fun hm=>?_,hr⟩;rw [aj1.mpr hm] at h2;simp at h2
theorem aJg {h:List aqu2} {P:List Rat} {ch:List Int} {c:Int} {r:Rat} (h1:c∈ak h) (h2:c ∉ ch) (h3:akj h P c (aqs9 h)=some r):(c,r)∈aQ h P ch:=by
 refine List.mem_filterMap.mpr ⟨c,List.mem_filter.mpr ⟨h1,?_⟩,by rw [h3]; rfl⟩;cases hh:has ch c with
 | true=>exact absurd (aj1.mp hh) h2
 | false=>rfl
def awd (h:List aqu2) (P:List Rat) (c:Int):D:=.tup [.int c,optQ (akj h P c (aqs9 h))]
theorem aj3 {h:List aqu2} (k:okW h) (hne:h ≠ []):0 < aqs9 h:=by
 rw [aKc]
 have:=aWf k (g:=List.range h.length) (by simp; exact hne) (fun i hi=>List.mem_range.mp hi)
 omega
theorem aXf {h:List aqu2} {c:Int} (hc:c∈ak h):h ≠ []:=by
 rintro rfl
 have:=(List.mem_filter.mp hc).2
 simp at this
theorem aqgo (h:List aqu2) (kh:okH h) (k:okW h) (P:List Rat) (hl:P.length=h.length) {t:Nat} (hs:azu t P) (ht:t <= 18) (rows:List (Int × Rat × List Rat)) (hr:rows.length <= 1000):avo [bt h,aZ P,azb rows]=some (aqb1 (aQ h P (rows.map (·.1)))):=by
 have hh:h.length <= 100:=le_trans k.len (by decide);have lk:=aZu h kh hh;have hz:oD (ow ((ak h).map D.int))=some (ag (ak h)):=by simp [ag]
 have hw:=axl h hh;have hc1:aji (geN 0) qT (oE (f2 dIx (aqt7 0) (fC (.int 0)))) (rows.map aqsl) [none]=some ((rows.map (·.1)).map fun c=>O.sh (.int c)):=by
  have:=al (inj:=aqsl) (g:=geN 0) (c:=qT) (e:=oE (f2 dIx (aqt7 0) (fC (.int 0)))) (fun ρ=>∃ d,ρ=[d]) (fun _=>true) (fun r=>O.sh (.int r.1)) rows [none] ⟨_,rfl⟩ (by
   rintro r _ ρ ⟨d,rfl⟩;have x0:dIx (aqsl r) (.int 0)=some (.int r.1):=aqcn;exact ⟨_,rfl,⟨_,rfl⟩,rfl,fun _=>by simp [x0]⟩)
  rw [List.filter_eq_self.mpr (by simp)] at this;rw [this,map_map]; rfl
 have ho1:O.lst ((rows.map (·.1)).map fun c=>O.sh (.int c))=ow ((rows.map (·.1)).map .int):=by rw [ow,map_map,map_map,map_map]; rfl
 generalize hch:rows.map (·.1)=ch at *;have hc2:aji (geN 0) (qV (f2 aQ8 (aqt7 0) (aqt7 4))) (oE (aqt8 (gd (aqt7 0) (gd (aA 4 aYq (gd (aqt7 1) (gd (aqt7 2) (gd (aqt7 0) (gd (aqt7 3) aqty))))) aqty)))) ((ak h).map D.int) [none,some (bt h),some (aZ P),some (.int (aqs9 h)),some (ag ch)]=some (((ak h).filter fun c=>!has ch c).map fun c=>O.sh (awd h P c)) :=
  al (inj:=D.int) (fun ρ=>∃ d,ρ=[d,some (bt h),some (aZ P),some (.int (aqs9 h)),some (ag ch)]) (fun c=>!has ch c) (fun c=>O.sh (awd h P c)) (ak h) _ ⟨_,rfl⟩ (by
   rintro c hc ρ ⟨d,rfl⟩;have w:=aqm4 h k P hl hs ht c hc (aqs9 h) ⟨aj3 k (aXf hc),(aZh k).2⟩;exact ⟨_,rfl,⟨_,rfl⟩,by simp,fun _=>by simp [w,aqu4,awd]⟩)
 have hd2:oDs (((ak h).filter fun c=>!has ch c).map fun c=>O.sh (awd h P c))=some (((ak h).filter fun c=>!has ch c).map (awd h P)):=aqt (fun p=>by simp) _;have hll:(ak h).length <= 6:=aP h;have hfl:((ak h).filter fun c=>!has ch c).length <= 6:=le_trans (length_filter_le _ _) hll;have hoff:∀ l:List Int,aji (geN 0) (qV (f2 aqth (f2 dIx (aqt7 0) (fC (.int 1))) (fC .non))) (oE (aqt7 0)) (l.map (awd h P)) [none]=some (((l.filterMap fun c=>(akj h P c (aqs9 h)).map fun r=>(c,r))).map fun o=>O.sh (aqsu o)):=by
  intro l
  have:=al (inj:=awd h P) (g:=geN 0) (c:=qV (f2 aqth (f2 dIx (aqt7 0) (fC (.int 1))) (fC .non))) (e:=oE (aqt7 0)) (fun ρ=>∃ d,ρ=[d]) (fun c=>(akj h P c (aqs9 h)).isSome) (fun c=>O.sh (awd h P c)) l [none] ⟨_,rfl⟩ (by
   rintro c _ ρ ⟨d,rfl⟩;have x1:dIx (awd h P c) (.int 1)=some (optQ (akj h P c (aqs9 h))):=aqku;refine ⟨_,rfl,⟨_,rfl⟩,?_,fun _=>by simp⟩;cases hq:akj h P c (aqs9 h) with
   | none =>
    rw [hq] at x1;have i0:aqth (optQ none) .non=some (.bl false):=rfl;simp [x1,i0]
   | some r =>
    rw [hq] at x1;have i0:aqth (optQ (some r)) .non=some (.bl true):=rfl;simp [x1,i0])
  rw [this];congr 1;exact fm_eq (fun c=>akj h P c (aqs9 h)) (awd h P) (fun c r hq=>by unfold awd; rw [hq]; rfl) l
 have hd3:∀ l:List (Int × Rat),oDs (l.map fun o=>O.sh (aqsu o))=some (l.map aqsu):=fun l=>aqt (fun p=>by simp) l;have hr':rows.length <= 100000:=by omega
 have hfl':((ak h).filter fun c=>!has ch c).length <= 100000:=by omega
 have hll':(ak h).length <= 100000:=by omega
 have zr:akv (azb rows)=some (rows.map aqsl):=rfl;have zi:∀ l:List Int,D.lst (l.map .int)=ag l:=fun _=>rfl;have q1:∀ l:List Int,oD (ow (l.map D.int))=some (ag l):=fun l=>aVu l;have rim:∀ c,imm (awd h P c)=true:=fun c=>by
  unfold awd;cases akj h P c (aqs9 h) <;> simp [optQ]
 have im2:aqst (((ak h).filter fun c=>!has ch c).map fun c=>O.sh (awd h P c))=true:=aJ8 (fun c=>by simp [rim]) _;have hof:aQ h P ch=((ak h).filter fun c=>!has ch c).filterMap fun c=>(akj h P c (aqs9 h)).map fun r=>(c,r):=rfl;have hcf:=hoff ((ak h).filter fun c=>!has ch c);rw [<- hof] at hcf;have hd4:=hd3 (aQ h P ch);generalize ((ak h).filter fun c=>!has ch c)=fl at *;generalize aQ h P ch=ofs at *;simp [avo,aqsk,aqsi,ini,aqab,aqa,mkD,zr,hr',aqu4,hc1,ho1,hw,lk,hz,hll',hc2,im2,hd2,hfl',hcf,hd4,q1,aqb1,-map_map]
section
variable {h:List aqu2} (k:okW h) {P:List Rat} (hl:P.length=h.length) {t:Nat} (hs:azu t P) (ht:t <= 18) {c:Int} (hc:c∈ak h) {N:Int} (hN:0 < N) {r:Rat} (e:akj h P c N=some r)
include k hl hs ht hc hN e
theorem aqat:∃ D:Nat,0 < D/\D < 2 ^ (80 * (t + 1) + 1)/\aqu3 D r/\(∀ q∈P,aqu3 D q/\0 <= q/\q <= ((t * 2 ^ 80:Nat):Rat))/\0 < r/\r <= ((t * 2 ^ 80:Nat):Rat):=by
 obtain ⟨_,⟨i,hi,hri⟩,hr0,V,v0,v1,vo⟩:=av6 k hl hs ht hc hN e;obtain ⟨D,d1,d2,d3⟩:=id hs;have hbD:aqtp h P c ∣ D:=aqa4 fun q hq=>(d3 q (aW2 hl hq)).1.den;refine ⟨V * D,mul_pos v0 d1,?_,vo.dvd (Nat.mul_dvd_mul_left V hbD),fun q hq=>⟨(d3 q hq).1.dvd ⟨V,mul_comm _ _⟩,(d3 q hq).2⟩,hr0,?_⟩
 ·have:V * D < 2 ^ 77 * 2 ^ (80 * t + 1):=Nat.mul_lt_mul'' (lt_of_le_of_lt v1 (by decide)) d2
  rw [<- pow_add] at this;exact lt_of_lt_of_le this (pow_le_pow_right (by decide) (by omega))
 ·have hm:pAt P i∈P:=aR (by have:=av h [c] i hi; omega)
  exact Rat.le_trans hri (d3 _ hm).2.2
theorem aqdt:Bd 2000 2000 r:=by
 obtain ⟨D,d1,d2,d3,_,r0,r1⟩:=aqat k hl hs ht hc hN e;have hle:((t * 2 ^ 80:Nat):Rat) <= (((t + 1) * 2 ^ 80:Nat):Rat):=by exact_mod_cast mul_le_mul_right _ (le_succ t)
 have hz:azu (t + 1) [r]:=⟨D,d1,d2,fun q hq=>by
  rw [List.mem_singleton.mp hq];exact ⟨d3,Rat.le_of_lt r0,Rat.le_trans r1 hle⟩⟩
 exact (hz.bd (by omega) (by simp)).mono (by decide) (by decide)
theorem aJ3:azu (t + 1) (ajo h P c r):=by
 obtain ⟨D,d1,d2,d3,d4,r0,r1⟩:=aqat k hl hs ht hc hN e;have hle:((t * 2 ^ 80:Nat):Rat) <= (((t + 1) * 2 ^ 80:Nat):Rat):=by exact_mod_cast mul_le_mul_right _ (le_succ t)
 refine ⟨D,d1,d2,fun q hq=>?_⟩;obtain ⟨i,hi,rfl⟩:=List.mem_map.mp hq;have hi':=List.mem_range.mp hi;obtain ⟨o1,o2,o3⟩:=d4 _ (aR hi');split
 ·refine ⟨o1.sub (o1.mn d3),?_,?_⟩ <;> grind
 ·exact ⟨o1,o2,Rat.le_trans o3 hle⟩
end
def aj (h:List aqu2):Nat->List Rat->List Int->List (Int × Rat × List Rat)
 | 0,_,_=>[]
 | n + 1,P,ch=>match aY (aQ h P ch) with
  | none=>[]
  | some o=>(o.1,o.2,ajo h P o.1 o.2) :: aj h n (ajo h P o.1 o.2) (ch++[o.1])
theorem aqb2 (h:List aqu2) (kh:okH h) (k:okW h) (P:List Rat) (hl:P.length=h.length) {t:Nat} (hs:azu t P) (ht:t <= 18) (rows:List (Int × Rat × List Rat)) (hr:rows.length <= 1000):avo [bt h,aZ P,azb rows]=some (aqb1 (aQ h P (rows.map (·.1))))/\avq [aqb1 (aQ h P (rows.map (·.1)))]=some (aqss (aY (aQ h P (rows.map (·.1))))) :=
 ⟨aqgo h kh k P hl hs ht rows hr,aqee _ fun o ho=>by
  obtain ⟨w1,_,w2⟩:=avk ho;exact aqdt k hl hs ht w1 (aj3 k (aXf w1)) w2⟩
def aKy (h:List aqu2) (ch:List Int):List Int:=(ak h).filter fun c=>!has ch c
theorem aqed {h:List aqu2} {ch:List Int} {c:Int} (h1:c∈ak h) (h2:c ∉ ch):(aKy h (ch++[c])).length < (aKy h ch).length:=by
 have hs:(aKy h (ch++[c]))=(aKy h ch).filter fun d=>!(d == c):=by
  unfold aKy;rw [List.filter_filter];apply List.filter_congr;intro d _;rw [Bool.eq_iff_iff];simp [has];grind
 rw [hs];have hm:c∈aKy h ch:=List.mem_filter.mpr ⟨h1,by
  cases hh:has ch c with
  | true=>exact absurd (aj1.mp hh) h2
  | false=>rfl⟩
 exact List.length_filter_lt_length_iff_exists.mpr ⟨c,hm,by simp⟩
theorem aZs {h:List aqu2} {P:List Rat} {ch:List Int} (hz:(aKy h ch).length=0):aQ h P ch=[]:=by
 have:aKy h ch=[]:=List.length_eq_zero_iff.mp hz
 unfold aQ;unfold aKy at this;rw [this]; rfl
theorem aZl (h:List aqu2) (kh:okH h) (k:okW h) (seats:Option O):∀ (n:Nat) (P:List Rat) (rows:List (Int × Rat × List Rat)) (t:Nat),P.length=h.length->azu t P->t + n <= 18->(aKy h (rows.map (·.1))).length <= n->rows.length + n <= 100 ->
  ∃ ρ',awo (qV (f2 aqth (aqt7 4) (fC .non))) aXu [some (.sh (bt h)),seats,some (.sh (aZ P)),some (ow (rows.map aqsl)),some (.sh (aqss (aY (aQ h P (rows.map (·.1))))))]=some (.nx ρ')/\∃ a2 a4,ρ'=[some (.sh (bt h)),seats,a2,some (ow ((rows++aj h n P (rows.map (·.1))).map aqsl)),a4]
 | 0,P,rows,t,hl,hs,ht,hn,hr=>by
  rw [aZs (by omega)];refine ⟨_,axx (by simp [aY,aqss]; rfl),some (.sh (aZ P)),some (.sh (aqss (aY []))),?_⟩;simp only [aj,append_nil]
 | n + 1,P,rows,t,hl,hs,ht,hn,hr=>by
  cases ho:aY (aQ h P (rows.map (·.1))) with
  | none =>
   refine ⟨_,axx (by simp [aqss]; rfl),some (.sh (aZ P)),some (.sh (aqss none)),?_⟩;simp only [aj,ho,append_nil]
  | some o =>
   obtain ⟨w1,w2,w3⟩:=avk (aj0 ho);have hN:=aj3 k (aXf w1);have hb:=aqdt k hl hs (by omega) w1 hN w3;have pa:=aqme h k P hl hs (by omega) o.1 o.2 hb;have hs':=aJ3 k hl hs (by omega) w1 hN w3;have hl':(ajo h P o.1 o.2).length=h.length:=by rw [aVk]; exact hl
   have hm:(rows++[(o.1,o.2,ajo h P o.1 o.2)]).map (·.1)=rows.map (·.1)++[o.1]:=by simp
   have lt:=aqed w1 w2;obtain ⟨f1,f2'⟩:=aqb2 h kh k (ajo h P o.1 o.2) hl' hs' (by omega) (rows++[(o.1,o.2,ajo h P o.1 o.2)]) (by simp; omega);obtain ⟨ρ',e1,e2⟩:=aZl h kh k seats n (ajo h P o.1 o.2) (rows++[(o.1,o.2,ajo h P o.1 o.2)]) (t + 1) hl' hs' (by omega) (by rw [hm]; omega) (by simp; omega);rw [hm] at f1 f2' e1 e2;refine ⟨ρ',aQr (ρ2:=[some (.sh (bt h)),seats,some (.sh (aZ (ajo h P o.1 o.2))),some (ow ((rows++[(o.1,o.2,ajo h P o.1 o.2)]).map aqsl)),some (.sh (aqss (aY (aQ h (ajo h P o.1 o.2) (rows.map (·.1)++[o.1])))))]) ?_ ?_ e1,?_⟩
   ·have:=aqhy (some o)
    simp [this]
   ·have g1:aqt5 (.sh (aqsl (o.1,o.2,ajo h P o.1 o.2))) (ow (rows.map aqsl))=some (ow (rows.map aqsl++[aqsl (o.1,o.2,ajo h P o.1 o.2)])):=aqbg (by simp [aqu4]; omega)
    have er:D.tup [.int o.1,frD o.2,aZ (ajo h P o.1 o.2)]=aqsl (o.1,o.2,ajo h P o.1 o.2):=rfl;have ir:imm (aqsl (o.1,o.2,ajo h P o.1 o.2))=false:=by simp [aqsl]
    have io:=aqbd (aY (aQ h (ajo h P o.1 o.2) (rows.map (·.1)++[o.1])));have oe:aqss (some o)=aqsu o:=rfl;have ef:D.lst (rows.map aqsl++[aqsl (o.1,o.2,ajo h P o.1 o.2)])=azb (rows++[(o.1,o.2,ajo h P o.1 o.2)]):=by simp [azb]
    generalize ajo h P o.1 o.2=Q at *;generalize aQ h Q (rows.map (·.1)++[o.1])=ws at *;simp [aXu,oe,pa,off0,off1,aqu4,er,ir,g1,ef,f1,f2',io]
   ·obtain ⟨a2,a4,e3⟩:=e2
    refine ⟨a2,a4,?_⟩;rw [e3];simp only [aj,ho,List.append_assoc,List.singleton_append]
def ai (h:List aqu2) (seats:Int):List Rat:=List.replicate h.length (seats:Rat)
theorem ajs (h:List aqu2) {seats:Int} (h0:0 <= seats) (h6:seats <= 6):azu 1 (ai h seats):=⟨1,by decide,by decide,fun q hq=>by
 rw [List.eq_of_mem_replicate hq];refine ⟨avf 1 seats,by exact_mod_cast h0,?_⟩;have h1:(seats:Rat) <= ((6:Nat):Rat):=by exact_mod_cast h6
 have h2:((6:Nat):Rat) <= ((1 * 2 ^ 80:Nat):Rat):=by
  obtain ⟨x,hx⟩:∃ x:Nat,1 * 2 ^ 80=x:=⟨_,rfl⟩
  have:6 <= x:=by rw [<- hx]; decide
  rw [hx]
  exact_mod_cast this
 exact Rat.le_trans h1 h2⟩
theorem aqar (h:List aqu2) (kh:okH h) (k:okW h) (seats:Int) (h0:0 <= seats) (h6:seats <= 6):avm [bt h,.int seats]=some (azb (aj h 6 (ai h seats) [])):=by
 have hs:=ajs h h0 h6;have hl:(ai h seats).length=h.length:=by simp [ai]
 have hll:=aP h;have hlc:(aKy h []).length <= 6:=le_trans (length_filter_le _ _) hll;obtain ⟨f1,f2'⟩:=aqb2 h kh k (ai h seats) hl hs (by omega) [] (by simp);obtain ⟨ρ',e1,a2,a4,rfl⟩:=aZl h kh k (some (.sh (.int seats))) 6 (ai h seats) [] 1 hl hs (by omega) (by simpa using hlc) (by simp);have hfp:aB [bt h,.int seats]=some (aZ (ai h seats)):=by
  have fr:frD (seats:Rat)=.tup [.int seats,.int 1]:=by simp [frD]
  have hc:aji (geN 0) qT (oE (aqt8 (gd (aqt7 1) (gd (fC (.int 1)) aqty)))) (h.map axy) [none,some (.int seats)]=some (h.map fun _=>O.sh (frD (seats:Rat))):=by
   have:=al (inj:=axy) (g:=geN 0) (c:=qT) (e:=oE (aqt8 (gd (aqt7 1) (gd (fC (.int 1)) aqty)))) (fun ρ=>∃ d,ρ=[d,some (.int seats)]) (fun _=>true) (fun _=>O.sh (frD (seats:Rat))) h [none,some (.int seats)] ⟨_,rfl⟩ (by
    rintro p _ ρ ⟨d,rfl⟩;exact ⟨_,rfl,⟨_,rfl⟩,rfl,fun _=>by simp [aqu4,fr]⟩)
   rwa [List.filter_eq_self.mpr (by simp)] at this
  have hd:oDs (h.map fun _=>O.sh (frD (seats:Rat)))=some ((ai h seats).map frD):=by
   rw [aqt (g:=fun _=>frD (seats:Rat)) (fun _=>by simp) h];simp [ai,List.map_const']
  have hh':h.length <= 100000:=by have:=k.len; omega
  simp [aB,aqsk,aqsi,ini,axh,aqa,mkD,hh',aqu4,hc,hd];rfl
 have io:=aqbd (aY (aQ h (ai h seats) []));have er:∀ l:List (Int × Rat × List Rat),D.lst (l.map aqsl)=azb l:=fun _=>rfl;simp only [map_nil,nil_append] at e1 f1 f2';generalize aj h 6 (ai h seats) []=R at *;generalize aQ h (ai h seats) []=ws at *;have f1':avo [bt h,aZ (ai h seats),.lst []]=some (aqb1 ws):=f1;simp [avm,aqsk,aqsi,ini,aqa8,aqu4,hfp,f1',f2',io,e1];exact er R
abbrev aqu1:=Int × Rat × List Rat
def aqsp:List Rat->List aqu1->Nat->List Rat
 | P,_,0=>P
 | _,row :: R,t + 1=>aqsp row.2.2 R t
 | _,[],_ + 1=>[]
theorem az0 (P:List Rat) (R:List aqu1):aqsp P R 0=P:=by cases R <;> rfl
theorem aJd:∀ (P:List Rat) (R:List aqu1) (t:Nat) (row:aqu1),R[t]?=some row->aqsp P R (t + 1)=row.2.2
 | _,[],_,_,e=>by simp at e
 | P,r :: R,0,row,e=>by
  have e:r=row:=by simpa using e
  subst e;show aqsp r.2.2 R 0=r.2.2;cases R <;> rfl
 | P,r :: R,t + 1,row,e=>aJd r.2.2 R t row (by simpa using e)
structure RowOk (h:List aqu2) (ch:List Int) (P:List Rat) (row:aqu1):Prop where
 liked:row.1∈ak h
 new:row.1 ∉ ch
 rate:akj h P row.1 (aqs9 h)=some row.2.1
 least:∀ d r',d∈ak h->d ∉ ch->akj h P d (aqs9 h)=some r'->row.2.1 <= r'
 paid:row.2.2=ajo h P row.1 row.2.1
 first:∀ d r',d∈ak h->d ∉ ch->d < row.1->akj h P d (aqs9 h)=some r'->row.2.1 < r'
structure PurOk (h:List aqu2) (t:Nat) (P:List Rat):Prop where
 len:P.length=h.length
 size:azu t P
theorem PurOk.nonneg {h:List aqu2} {t:Nat} {P:List Rat} (k:PurOk h t P) (i:Nat):0 <= pAt P i:=by
 by_cases hi:i < P.length
 ·obtain ⟨D,d1,d2,d3⟩:=k.size
  exact (d3 _ (aR hi)).2.1
 ·have:pAt P i=0:=by unfold pAt; simp [List.getElem?_eq_none (by omega:P.length <= i)]
  rw [this]; exact Rat.le_refl
theorem aXl:∀ (l:List (Int × Rat)) (a o:Int × Rat),(∀ q∈l,a.1 < q.1)->l.Pairwise (fun a b=>a.1 < b.1)->l.foldl aqj (some a)=some o->(a=o \/ a.1 < o.1/\o.2 < a.2)/\∀ q∈l,q.1 < o.1->o.2 < q.2
 | [],a,o,_,_,e=>by
  have e:a=o:=by simpa using e
  exact ⟨.inl e,by simp⟩
 | b :: l,a,o,h1,h2,e=>by
  rw [List.foldl_cons] at e;rw [pairwise_cons] at h2;simp only [aqj] at e;have hab:=h1 b (by simp)
  by_cases hlt:b.2 < a.2
  ·rw [if_pos hlt] at e
   obtain ⟨i1,i2⟩:=aXl l b o h2.1 h2.2 e;refine ⟨.inr ?_,fun q hq hqo=>?_⟩
   ·rcases i1 with z | ⟨z1,z2⟩
    ·rw [<- z]; exact ⟨hab,hlt⟩
    ·exact ⟨by omega,by grind⟩
   ·rcases List.mem_cons.mp hq with z | hq
    ·subst z
     rcases i1 with y | ⟨y1,y2⟩
     ·rw [y] at hqo; omega
     ·exact y2
    ·exact i2 q hq hqo
  ·rw [if_neg hlt] at e
   obtain ⟨i1,i2⟩:=aXl l a o (fun q hq=>h1 q (by simp [hq])) h2.2 e;refine ⟨i1,fun q hq hqo=>?_⟩;rcases List.mem_cons.mp hq with z | hq
   ·subst z
    rcases i1 with y | ⟨y1,y2⟩
    ·rw [<- y] at hqo; omega
    ·grind
   ·exact i2 q hq hqo
theorem aYt {l:List (Int × Rat)} {o:Int × Rat} (hs:l.Pairwise (fun a b=>a.1 < b.1)) (e:aY l=some o):∀ q∈l,q.1 < o.1->o.2 < q.2:=by
 cases l with
 | nil=>intro q hq; simp at hq
 | cons a l =>
  rw [pairwise_cons] at hs;obtain ⟨i1,i2⟩:=aXl l a o hs.1 hs.2 e;intro q hq hqo;rcases List.mem_cons.mp hq with z | hq
  ·subst z
   rcases i1 with y | ⟨y1,y2⟩
   ·rw [y] at hqo; omega
   ·exact y2
  ·exact i2 q hq hqo
theorem aqcf (h:List aqu2) (P:List Rat) (ch:List Int):(aQ h P ch).Pairwise (fun a b=>a.1 < b.1):=by
 unfold aQ;have hr:((ak h).filter fun c=>!has ch c).Pairwise (· < ·):=List.Pairwise.sublist (List.filter_sublist.trans (awf h)) av3;refine List.Pairwise.filterMap _ (fun a b hab x hx y hy=>?_) hr;cases ha:akj h P a (aqs9 h) with
 | none=>rw [ha] at hx; cases hx
 | some r=>cases hb:akj h P b (aqs9 h) with
  | none=>rw [hb] at hy; cases hy
  | some r' =>
   rw [ha] at hx; rw [hb] at hy;have hx:(a,r)=x:=by simpa using hx
   have hy:(b,r')=y:=by simpa using hy
   subst hx hy;exact hab
theorem aqhn {h:List aqu2} (k:okW h) {t:Nat} {P:List Rat} (pk:PurOk h t P) (ht:t <= 18) {ch:List Int} {o:Int × Rat} (ho:aY (aQ h P ch)=some o):RowOk h ch P (o.1,o.2,ajo h P o.1 o.2)/\PurOk h (t + 1) (ajo h P o.1 o.2):=by
 obtain ⟨w1,w2,w3⟩:=avk (aj0 ho);have hN:=aj3 k (aXf w1);refine ⟨⟨w1,w2,w3,fun d r' h1 h2 h3=>aXg ho (d,r') (aJg h1 h2 h3),rfl,fun d r' h1 h2 h4 h3=>aYt (aqcf h P ch) ho (d,r') (aJg h1 h2 h3) h4⟩,⟨by rw [aVk]; exact pk.len,aJ3 k pk.len pk.size ht w1 hN w3⟩⟩
theorem azl {h:List aqu2} (k:okW h):∀ (n:Nat) (P:List Rat) (ch:List Int) (t0:Nat),PurOk h t0 P->t0 + n <= 18->(aKy h ch).length <= n ->
  (∀ t row,(aj h n P ch)[t]?=some row->PurOk h (t0 + t) (aqsp P (aj h n P ch) t)/\RowOk h (ch++((aj h n P ch).take t).map (·.1)) (aqsp P (aj h n P ch) t) row) /\
  PurOk h (t0 + (aj h n P ch).length) (aqsp P (aj h n P ch) (aj h n P ch).length)/\(∀ d∈ak h,d ∉ ch++(aj h n P ch).map (·.1)->akj h (aqsp P (aj h n P ch) (aj h n P ch).length) d (aqs9 h)=none)
 | 0,P,ch,t0,pk,ht,hn=>by
  refine ⟨fun t row e=>by simp [aj] at e,pk,fun d h1 h2=>?_⟩
  have:=aZs (P:=P) (show (aKy h ch).length=0 by omega)
  cases hq:akj h P d (aqs9 h) with
  | none=>exact hq
  | some r =>
   have:=aJg h1 (by simpa [aj] using h2) hq
   rw [‹aQ h P ch=[]›] at this; cases this
 | n + 1,P,ch,t0,pk,ht,hn=>by
  cases ho:aY (aQ h P ch) with
  | none =>
   have e:aj h (n + 1) P ch=[]:=by simp only [aj,ho]
   rw [e];refine ⟨fun t row e=>by simp at e,pk,fun d h1 h2=>?_⟩;cases hq:akj h P d (aqs9 h) with
   | none=>exact hq
   | some r =>
    have:=aJg h1 (by simpa using h2) hq
    rw [aZv ho] at this; cases this
  | some o =>
   have e:aj h (n + 1) P ch=(o.1,o.2,ajo h P o.1 o.2) :: aj h n (ajo h P o.1 o.2) (ch++[o.1]):=by simp only [aj,ho]
   rw [e];obtain ⟨s1,s2⟩:=aqhn k pk (by omega) ho;have lt:=aqed s1.liked s1.new;obtain ⟨i1,i2,i3⟩:=azl k n (ajo h P o.1 o.2) (ch++[o.1]) (t0 + 1) s2 (by omega) (by simp only at lt; omega);refine ⟨fun t row et=>?_,?_,fun d h1 h2=>?_⟩
   ·cases t with
    | zero =>
     have er:(o.1,o.2,ajo h P o.1 o.2)=row:=by simpa using et
     subst er;exact ⟨by rw [az0]; exact pk,by rw [az0]; simpa using s1⟩
    | succ t =>
     obtain ⟨j1,j2⟩:=i1 t row (by simpa using et);refine ⟨?_,?_⟩
     ·have:t0 + (t + 1)=t0 + 1 + t:=by omega
      rw [this]; exact j1
     ·have ee:ch++(((o.1,o.2,ajo h P o.1 o.2) :: aj h n (ajo h P o.1 o.2) (ch++[o.1])).take (t + 1)).map (·.1)=(ch++[o.1])++((aj h n (ajo h P o.1 o.2) (ch++[o.1])).take t).map (·.1):=by simp
      rw [ee]; exact j2
   ·have:t0 + ((o.1,o.2,ajo h P o.1 o.2) :: aj h n (ajo h P o.1 o.2) (ch++[o.1])).length=t0 + 1 + (aj h n (ajo h P o.1 o.2) (ch++[o.1])).length:=by simp; omega
    rw [this];exact i2
   ·exact i3 d h1 (by simpa using h2)
theorem ajm {h:List aqu2}:∀ (n:Nat) (P:List Rat) (ch:List Int),((aj h n P ch).map (·.1)).Nodup/\∀ c∈(aj h n P ch).map (·.1),c ∉ ch/\c∈ak h
 | 0,P,ch=>by simp [aj]
 | n + 1,P,ch=>by
  cases ho:aY (aQ h P ch) with
  | none=>simp [aj,ho]
  | some o =>
   have e:aj h (n + 1) P ch=(o.1,o.2,ajo h P o.1 o.2) :: aj h n (ajo h P o.1 o.2) (ch++[o.1]):=by simp only [aj,ho]
   rw [e];obtain ⟨w1,w2,_⟩:=avk (aj0 ho);obtain ⟨i1,i2⟩:=ajm n (ajo h P o.1 o.2) (ch++[o.1]);refine ⟨List.nodup_cons.mpr ⟨fun hm=>(i2 _ hm).1 (by simp),i1⟩,fun c hc=>?_⟩;rcases List.mem_cons.mp hc with e | hc
   ·subst e; exact ⟨w2,w1⟩
   ·exact ⟨fun hm=>(i2 c hc).1 (by simp [hm]),(i2 c hc).2⟩
theorem aqd6 (p:Nat->Bool) (f:Nat->Rat):∀ l:List Nat,az l (fun i=>if p i=true then f i else 0)=az (l.filter p) f
 | []=>rfl
 | i :: l=>by
  rw [aq,aqd6 p f l];cases hp:p i with
  | true=>rw [List.filter_cons_of_pos (by simp [hp]),aq]; simp
  | false=>rw [List.filter_cons_of_neg (by simp [hp])]; simp; grind
def totP (h:List aqu2) (P:List Rat):Rat:=az (List.range h.length) fun i=>(wAt h i:Rat) * pAt P i
theorem aqfw {h:List aqu2} {P:List Rat} (hl:P.length=h.length) (c:Int) (r:Rat):totP h P=totP h (ajo h P c r) + pays (aqtw h [c]) (fun i=>(wAt h i:Rat)) (pAt P) r:=by
 unfold totP pays;rw [aQ2,<- aqd6,<- av2];apply aD;intro i hi;have hi':i < P.length:=by rw [hl]; exact List.mem_range.mp hi
 rw [aZq hi'];split <;> grind
theorem aqaq {h:List aqu2} (k:okW h):∀ (n:Nat) (P:List Rat) (ch:List Int) (t0:Nat),PurOk h t0 P->t0 + n <= 18->((aj h n P ch).length:Rat) * (aqs9 h:Rat) <= totP h P
 | 0,P,ch,t0,pk,ht=>by
  have:(0:Rat) <= totP h P:=ajj fun i hi=>by
   have h1:(0:Rat) <= (wAt h i:Rat):=by exact_mod_cast k.at0 i
   exact Rat.mul_nonneg h1 (pk.nonneg i)
  simp only [aj,List.length_nil];have e:(((0:Nat):Rat))=0:=rfl;rw [e]; grind
 | n + 1,P,ch,t0,pk,ht=>by
  cases ho:aY (aQ h P ch) with
  | none =>
   have:(0:Rat) <= totP h P:=ajj fun i hi=>by
    have h1:(0:Rat) <= (wAt h i:Rat):=by exact_mod_cast k.at0 i
    exact Rat.mul_nonneg h1 (pk.nonneg i)
   have e0:aj h (n + 1) P ch=[]:=by simp only [aj,ho]
   rw [e0];have e:((([]:List aqu1).length:Nat):Rat)=0:=rfl;rw [e]; grind
  | some o =>
   have e:aj h (n + 1) P ch=(o.1,o.2,ajo h P o.1 o.2) :: aj h n (ajo h P o.1 o.2) (ch++[o.1]):=by simp only [aj,ho]
   rw [e];obtain ⟨s1,s2⟩:=aqhn k pk (by omega) ho;have ih:=aqaq k n (ajo h P o.1 o.2) (ch++[o.1]) (t0 + 1) s2 (by omega);have hN:=aj3 k (aXf s1.liked);have hp:=(av6 k pk.len pk.size (by omega) s1.liked hN s1.rate).1;rw [aqfw pk.len o.1 o.2];simp only at hp;rw [hp];have el:((((o.1,o.2,ajo h P o.1 o.2) :: aj h n (ajo h P o.1 o.2) (ch++[o.1])).length:Nat):Rat)=((aj h n (ajo h P o.1 o.2) (ch++[o.1])).length:Rat) + 1:=by simp
   rw [el];grind
theorem le_lt {a b c:Rat} (h:a <= b) (h':b < c):a < c:=by grind
theorem lt_le {a b c:Rat} (h:a < b) (h':b <= c):a < c:=by grind
theorem aVo {h:List aqu2} (kh:okH h) {d:Int} (hd:d ∉ ak h):aqtw h [d]=[]:=by
 apply List.eq_nil_iff_forall_not_mem.mpr;intro i hi;have hi':=av h [d] i hi;have hl:=awp hi d (by simp);rw [aqv hi'] at hl;have hm:=getElem_mem hi';apply hd;refine List.mem_filter.mpr ⟨kh.mem hm (aj1.mp hl),List.any_eq_true.mpr ⟨_,hm,hl⟩⟩
theorem aqfe {h:List aqu2} (kh:okH h) (k:okW h) (hne:h ≠ []) {t:Nat} {P:List Rat} (pk:PurOk h t P) (ht:t <= 18) {d:Int} {x:Rat} (hx:d∈ak h->∀ r',akj h P d (aqs9 h)=some r'->x < r') :
  az (aqtw h [d]) (fun i=>(wAt h i:Rat) * min (pAt P i) x) < (aqs9 h:Rat):=by
 have hN:=aj3 k hne;have hNr:(0:Rat) < (aqs9 h:Rat):=by exact_mod_cast hN
 have hw:∀ i,(0:Rat) <= (wAt h i:Rat):=fun i=>by exact_mod_cast k.at0 i
 by_cases hd:d∈ak h
 ·cases hq:akj h P d (aqs9 h) with
  | none =>
   have h1:=aVg k pk.len pk.size ht hd hN hq;exact le_lt (aqjb (l:=aqtw h [d]) (p:=pAt P) hw x) h1
  | some r' =>
   obtain ⟨p1,⟨i,hi,p2⟩,_⟩:=av6 k pk.len pk.size ht hd hN hq;have hwi:(0:Rat) < (wAt h i:Rat):=by
    have:=k.at1 (av h [d] i hi)
    exact_mod_cast (by omega:0 < wAt h i)
   exact aqds hw p1 hi hwi p2 x (hx hd r' hq)
 ·rw [aVo kh hd,ajt]; exact hNr
theorem aqf0 {h:List aqu2} (kh:okH h) (k:okW h) (hne:h ≠ []) {t:Nat} {P:List Rat} (pk:PurOk h t P) (ht:t <= 18) {d:Int} (hx:d∈ak h->akj h P d (aqs9 h)=none) :
  az (aqtw h [d]) (fun i=>(wAt h i:Rat) * pAt P i) < (aqs9 h:Rat):=by
 have hN:=aj3 k hne
 by_cases hd:d∈ak h
 ·exact aVg k pk.len pk.size ht hd hN (hx hd)
 ·rw [aVo kh hd,ajt]; exact_mod_cast hN
theorem aqc8 {h:List aqu2} (kh:okH h) (k:okW h) (hne:h ≠ []) (seats:Int) (hse:1 <= seats/\seats <= 6) (R:List aqu1) (hR:aj h 6 (ai h seats) []=R) (s:List Int) (hs:s.Sublist six) (hs0:s ≠ []) (g:List Nat) (hg:g.Sublist (List.range h.length)) (hga:∀ i∈g,∀ c∈s,lkB h i c=true) (hfew:∀ i∈g,((R.map (·.1)).filter fun c=>lkB h i c).length < s.length):aYu h seats (s.length:Int) g=false:=by
 have hN:=aj3 k hne;have hNr:(0:Rat) < (aqs9 h:Rat):=by exact_mod_cast hN
 have hw:∀ i,(0:Rat) <= (wAt h i:Rat):=fun i=>by exact_mod_cast k.at0 i
 have pk0:PurOk h 1 (ai h seats):=⟨by simp [ai],ajs h (by omega) hse.2⟩;have hlc:(aKy h []).length <= 6:=le_trans (length_filter_le _ _) (aP h);obtain ⟨r1,r2,r3⟩:=azl k 6 (ai h seats) [] 1 pk0 (by omega) hlc;have hn:=(ajm (h:=h) 6 (ai h seats) []).1;rw [hR] at r1 r2 r3 hn;have hlen:R.length <= 6:=by
  have hsub:∀ c∈R.map (·.1),c∈ak h:=fun c hc=>by
   have:=(ajm (h:=h) 6 (ai h seats) []).2 c (by rw [hR]; exact hc)
   exact this.2
  have:=aqn hn hsub
  have h6:=aP h;simp at this; omega
 have row:∀ t c r,(R.map fun q=>(q.1,q.2.1))[t]?=some (c,r)->∃ Q,R[t]?=some (c,r,Q):=fun t c r e=>by
  rw [getElem?_map] at e;cases hq:R[t]? with
  | none=>rw [hq] at e; cases e
  | some q =>
   rw [hq] at e;have e:=Option.some.inj e;obtain ⟨q1,q2,q3⟩:=q;cases e;exact ⟨q3,hq⟩
 have tlt:∀ t q,R[t]?=some q->t < R.length:=fun t q e=>(List.getElem?_eq_some_iff.mp e).1;have hnot:∀ d,(∀ q∈R.map (fun q=>(q.1,q.2.1)),q.1 ≠ d)->d ∉ R.map (·.1):=fun d hd hm=>by
  obtain ⟨q,hq,e⟩:=List.mem_map.mp hm;exact hd (q.1,q.2.1) (List.mem_map.mpr ⟨q,hq,rfl⟩) e
 have main:=aQ4 (n:=h.length) (w:=fun i=>(wAt h i:Rat)) (lk:=lkB h) (k:=(seats:Rat)) (N:=(aqs9 h:Rat)) hw (by exact_mod_cast (by omega:0 <= seats)) hNr
  (R.map fun q=>(q.1,q.2.1)) (fun t i=>pAt (aqsp (ai h seats) R t) i)
  (fun i hi=>by
   show pAt (aqsp (ai h seats) R 0) i=_;rw [az0];unfold ai pAt;simp [hi])
  (fun t c r e i hi=>by
   obtain ⟨Q,eq⟩:=row t c r e;obtain ⟨j1,j2⟩:=r1 t _ eq;show pAt (aqsp (ai h seats) R (t + 1)) i=_;rw [aJd _ _ _ _ eq,j2.paid,aZq (by rw [j1.len]; exact hi)])
  (fun t c r e d hd x hx=>by
   obtain ⟨Q,eq⟩:=row t c r e;obtain ⟨j1,j2⟩:=r1 t _ eq;have hdn:=hnot d hd;have ht:=tlt t _ eq
   have:=aqfe kh k hne j1 (by omega) (d:=d) (x:=x) fun hdl r' hr'=>lt_le hx (j2.least d r' hdl (by
    rw [nil_append];intro hm;exact hdn (((take_sublist t R).map _).subset hm)) hr')
   rw [aQ2] at this;exact this)
  (fun d hd=>by
   have hdn:=hnot d hd
   have:=aqf0 kh k hne r2 (by omega) (d:=d) fun hdl=>r3 d hdl (by simpa using hdn)
   rw [aQ2] at this;rw [length_map];exact this)
  (fun t i hi=>by
   show 0 <= pAt (aqsp (ai h seats) R t) i;rcases Nat.lt_or_ge t R.length with ht | ht
   ·exact (r1 t R[t] (by simp [ht])).1.nonneg i
   ·rcases Nat.eq_or_lt_of_le ht with e | ht
    ·rw [<- e]; exact r2.nonneg i
    ·have z:aqsp (ai h seats) R t=[]:=by
      clear r1 r2 r3 hn hlen row tlt hnot hfew hR;generalize ai h seats=P
      induction R generalizing P t with
      | nil=>cases t with
       | zero=>simp at ht
       | succ t=>rfl
      | cons q R ih=>cases t with
       | zero=>simp at ht
       | succ t=>exact ih t (by simp at ht; omega) (by simp at ht; omega) q.2.2
     rw [z];unfold pAt; simp)
  s (azm (List.Pairwise.sublist hs av3)) (List.length_pos_iff.mpr hs0) g hg hga (fun i hi=>by
   have:=hfew i hi
   rw [List.filter_map,length_map] at this ⊢;exact this)
 unfold aYu;have hb:¬ ((s.length:Int) * aqs9 h <= seats * wG h g):=fun hle=>by
  have h1:((s.length:Int):Rat) * (aqs9 h:Rat) <= (seats:Rat) * (wG h g:Rat):=by exact_mod_cast hle
  rw [aqc0] at h1;have e:((s.length:Int):Rat)=(s.length:Rat):=rfl;rw [e] at h1;exact absurd main (Rat.not_lt.mpr h1)
 simp only [decide_eq_false hb,Bool.and_false]
theorem aJz {h:List aqu2} (k:okW h) (hne:h ≠ []) (seats:Int) (hse:1 <= seats/\seats <= 6):((aj h 6 (ai h seats) []).length:Int) <= seats:=by
 have pk0:PurOk h 1 (ai h seats):=⟨by simp [ai],ajs h (by omega) hse.2⟩;have h1:=aqaq k 6 (ai h seats) [] 1 pk0 (by omega);have hN:=aj3 k hne;have hNr:(0:Rat) < (aqs9 h:Rat):=by exact_mod_cast hN
 have e:totP h (ai h seats)=(seats:Rat) * (aqs9 h:Rat):=by
  unfold totP;rw [aKc,aqc0]
  have:az (List.range h.length) (fun i=>(wAt h i:Rat) * pAt (ai h seats) i)=az (List.range h.length) (fun i=>(wAt h i:Rat) * (seats:Rat)):=by
   apply aD;intro i hi;have hi':=List.mem_range.mp hi
   have:pAt (ai h seats) i=(seats:Rat):=by unfold ai pAt; simp [hi']
   rw [this]
  rw [this,aqy];grind
 rw [e] at h1;have h2:=Rat.le_of_mul_le_mul_right h1 hNr
 exact_mod_cast h2
theorem aqie (R:List (Int × Rat × List Rat)) (hl:R.length <= 1000):aqd [azb R]=some (ag (R.map (·.1))):=by
 have hc:aji (geN 0) qT (oE (f2 dIx (aqt7 0) (fC (.int 0)))) (R.map aqsl) [none]=some (R.map fun r=>O.sh (.int r.1)):=by
  have:=al (inj:=aqsl) (g:=geN 0) (c:=qT) (e:=oE (f2 dIx (aqt7 0) (fC (.int 0)))) (fun ρ=>∃ d,ρ=[d]) (fun _=>true) (fun r=>O.sh (.int r.1)) R [none] ⟨_,rfl⟩ (by
   rintro r _ ρ ⟨d,rfl⟩
   have:dIx (aqsl r) (.int 0)=some (.int r.1):=aqcn
   exact ⟨_,rfl,⟨_,rfl⟩,rfl,fun _=>by simp [this]⟩)
  rwa [List.filter_eq_self.mpr (by simp)] at this
 have hd:oDs (R.map fun r=>O.sh (.int r.1))=some ((R.map (·.1)).map .int):=by
  have:=aqt (f:=fun r:Int × Rat × List Rat=>O.sh (.int r.1)) (g:=fun r=>D.int r.1) (fun p=>by simp) R
  rw [this,map_map]; rfl
 have lg:akv (azb R)=some (R.map aqsl):=rfl;have hl':R.length <= 100000:=by omega
 simp [aqd,aqsk,aqsi,ini,azh,aqa,mkD,lg,hl',aqu4,hc,hd,aJh,-map_map]
theorem aqg5 (R:List aqu1):shp 20 (azb R)=true:=by
 unfold azb;rw [aqho];refine aWj.mpr fun d hd=>?_;obtain ⟨r,_,rfl⟩:=List.mem_map.mp hd
 have:aqsg 17 (r.2.2.map frD)=true:=aWj.mpr fun d hd=>by
  obtain ⟨q,_,rfl⟩:=List.mem_map.mp hd;simp [frD]
 simp [aqsl,frD,aZ,this]
theorem aqg6 (R:List aqu1):dEq (azb R) (.lst [])=some (.bl (decide (R=[]))):=by
 have e:eqD (azb R) (.lst [])=decide (R=[]):=by cases R <;> simp [azb,eqD,aqtb]
 simp [dEq,aqg5,e]
theorem aqk3 (P:List Rat) (R:List aqu1) (hR:R ≠ []):dIx (azb R) (.int (-1))=some (aqsl (R.getLast hR))/\aqsp P R R.length=(R.getLast hR).2.2:=by
 have hl:0 < R.length:=List.length_pos_iff.mpr hR;have hg:R[R.length - 1]?=some (R.getLast hR):=by rw [List.getLast_eq_getElem,getElem?_eq_getElem]
 refine ⟨?_,?_⟩
 ·have hi:ixP R.length (-1)=some (R.length - 1):=by
   unfold ixP;rw [if_neg (by omega),if_pos (by omega)];congr 1; omega
  simp only [dIx,azb,atP,length_map,hi,Option.bind_some,getElem?_map,hg,Option.map_some]
 ·have:=aJd P R (R.length - 1) _ hg
  rwa [show R.length - 1 + 1=R.length by omega] at this
theorem aqeu (h:List aqu2) (hh:h.length <= 100) (seats:Int):aB [bt h,.int seats]=some (aZ (ai h seats)):=by
 have fr:frD (seats:Rat)=.tup [.int seats,.int 1]:=by simp [frD]
 have hc:aji (geN 0) qT (oE (aqt8 (gd (aqt7 1) (gd (fC (.int 1)) aqty)))) (h.map axy) [none,some (.int seats)]=some (h.map fun _=>O.sh (frD (seats:Rat))):=by
  have:=al (inj:=axy) (g:=geN 0) (c:=qT) (e:=oE (aqt8 (gd (aqt7 1) (gd (fC (.int 1)) aqty)))) (fun ρ=>∃ d,ρ=[d,some (.int seats)]) (fun _=>true) (fun _=>O.sh (frD (seats:Rat))) h [none,some (.int seats)] ⟨_,rfl⟩ (by
   rintro p _ ρ ⟨d,rfl⟩;exact ⟨_,rfl,⟨_,rfl⟩,rfl,fun _=>by simp [aqu4,fr]⟩)
  rwa [List.filter_eq_self.mpr (by simp)] at this
 have hd:oDs (h.map fun _=>O.sh (frD (seats:Rat)))=some ((ai h seats).map frD):=by
  rw [aqt (g:=fun _=>frD (seats:Rat)) (fun _=>by simp) h];simp [ai,List.map_const']
 have hh':h.length <= 100000:=by omega
 simp [aB,aqsk,aqsi,ini,axh,aqa,mkD,hh',aqu4,hc,hd];rfl
theorem aqmt (h:List aqu2) (hh:h.length <= 100) (seats:Int) (R:List aqu1):aq1 [bt h,.int seats,azb R]=some (aZ (aqsp (ai h seats) R R.length)):=by
 have en:=aqg6 R;have f:=aqeu h hh seats
 by_cases hR:R=[]
 ·rw [decide_eq_true hR] at en
  have ep:aqsp (ai h seats) R R.length=ai h seats:=by rw [hR]; exact az0 _ _
  rw [ep];simp [aq1,aqsk,aqsi,ini,ax6,en,f,aqu4]
 ·rw [decide_eq_false hR] at en
  obtain ⟨l1,l2⟩:=aqk3 (ai h seats) R hR;have x2:dIx (aqsl (R.getLast hR)) (.int 2)=some (aZ (R.getLast hR).2.2):=rfl;rw [l2];generalize R.getLast hR=last at *;simp [aq1,aqsk,aqsi,ini,ax6,en,l1,x2,aqu4]
@[irreducible] def cn (h:List aqu2) (seats:Int):List aqu1:=aj h 6 (ai h seats) []
@[irreducible] def axj (h:List aqu2) (seats:Int):List aqu1:=aj2 h seats 6 (aqsp (ai h seats) (cn h seats) (cn h seats).length) (awa ((cn h seats).map (·.1)))
@[irreducible] def aqs (h:List aqu2) (seats:Int):List Int:=awa ((cn h seats).map (·.1)++(axj h seats).map (·.1))
theorem ajc (h:List aqu2) (seats:Int):cn h seats=aj h 6 (ai h seats) []:=by unfold cn; rfl
theorem aJl (h:List aqu2) (seats:Int):axj h seats=aj2 h seats 6 (aqsp (ai h seats) (cn h seats) (cn h seats).length) (awa ((cn h seats).map (·.1))):=by unfold axj; rfl
theorem awk (h:List aqu2) (seats:Int):aqs h seats=awa ((cn h seats).map (·.1)++(axj h seats).map (·.1)):=by unfold aqs; rfl
theorem aZ6 {l:List Int} (hl:l.length < 64):aqi7 [ag l]=some ((awa l).map .int):=by
 simp only [aqi7,ag,aJi,Option.bind_some,hl,if_true]
theorem ak9 (l:List Int):(awa l).length=l.length:=(aqm l).length_eq
theorem aYz {h:List aqu2} {seats:Int}:∀ (n:Nat) (P:List Rat) (ch:List Int),(aj2 h seats n P ch).length <= n
 | 0,P,ch=>by simp [aj2]
 | n + 1,P,ch=>by
  cases ho:aY (ajv h P ch seats) with
  | none=>simp only [aj2,ho]; simp
  | some o =>
   have:=aYz (h:=h) (seats:=seats) n (au h P o) (ch++[o.1])
   simp only [aj2,ho,length_cons];omega
theorem awc {h:List aqu2}:∀ (n:Nat) (P:List Rat) (ch:List Int),(aj h n P ch).length <= n
 | 0,P,ch=>by simp [aj]
 | n + 1,P,ch=>by
  cases ho:aY (aQ h P ch) with
  | none=>simp only [aj,ho]; simp
  | some o =>
   have:=awc (h:=h) n (ajo h P o.1 o.2) (ch++[o.1])
   simp only [aj,ho,length_cons];omega
theorem aXr {h:List aqu2} (k:okW h) (seats:Int) (hse:0 <= seats/\seats <= 6):PurOk h (1 + (cn h seats).length) (aqsp (ai h seats) (cn h seats) (cn h seats).length)/\(∀ d∈ak h,d ∉ (cn h seats).map (·.1)->akj h (aqsp (ai h seats) (cn h seats) (cn h seats).length) d (aqs9 h)=none):=by
 have pk0:PurOk h 1 (ai h seats):=⟨by simp [ai],ajs h hse.1 hse.2⟩;have hlc:(aKy h []).length <= 6:=le_trans (length_filter_le _ _) (aP h);obtain ⟨r1,r2,r3⟩:=azl k 6 (ai h seats) [] 1 pk0 (by omega) hlc;rw [<- ajc] at r2 r3;exact ⟨r2,fun d h1 h2=>r3 d h1 (by rw [nil_append]; exact h2)⟩
theorem aqfc (h:List aqu2) (kh:okH h) (k:okW h) (seats:Int) (hse:0 <= seats/\seats <= 6):aKu [bt h,.int seats]=some (.tup [ag (aqs h seats),azb (cn h seats),azb (axj h seats)]):=by
 have ro:avm [bt h,.int seats]=some (azb (cn h seats)):=by rw [ajc]; exact aqar h kh k seats hse.1 hse.2
 have l1:(cn h seats).length <= 6:=by rw [ajc]; exact awc 6 _ _
 have l2:(axj h seats).length <= 6:=by rw [aJl]; exact aYz 6 _ _
 have c1:=aqie (cn h seats) (by omega);have c2:=aqie (axj h seats) (by omega);have hh:=k.len;have la:=aqmt h (by omega) seats (cn h seats);obtain ⟨e1,_⟩:=aXr k seats hse;have h12:1 + (cn h seats).length <= 12:=by omega
 have hs6:(awa ((cn h seats).map (·.1))).length <= 6:=by rw [ak9,length_map]; exact l1
 have gr:=aqep h kh k (aqsp (ai h seats) (cn h seats) (cn h seats).length) e1.len e1.size h12 (awa ((cn h seats).map (·.1))) hs6 seats hse.2;rw [<- aJl] at gr;have s1:=aZ6 (l:=(cn h seats).map (·.1)) (by simp; omega);have s2:=aZ6 (l:=(cn h seats).map (·.1)++(axj h seats).map (·.1)) (by simp; omega);have eB:awa ((cn h seats).map (·.1)++(axj h seats).map (·.1))=aqs h seats:=(awk h seats).symm;rw [eB] at s2;have hcat:aqtj (ag ((cn h seats).map (·.1))) (ag ((axj h seats).map (·.1)))=some (((cn h seats).map (·.1)++(axj h seats).map (·.1)).map .int):=by
  have:((cn h seats).map (·.1)).length + ((axj h seats).map (·.1)).length <= 100000:=by simp; omega
  simp only [aqtj,ag,length_map,aqu4] at this ⊢;rw [if_pos this,map_append]
 generalize aqsp (ai h seats) (cn h seats) (cn h seats).length=P at *;generalize cn h seats=B at *;generalize axj h seats=A at *;generalize aqs h seats=M at *;have z1:∀ l:List Int,oD (ow (l.map .int))=some (ag l):=fun l=>aVu l;generalize hCB:B.map (·.1)++A.map (·.1)=CB at *;generalize B.map (·.1)=CA at *;generalize A.map (·.1)=CC at *;generalize awa CA=SA at *;have im1:imm (ag CA)=false:=by simp [ag]
 have im2:imm (azb B)=false:=by simp [azb]
 have im3:imm (azb A)=false:=by simp [azb]
 simp [aKu,aqsk,aqsi,ini,aqfo,ro,c1,c2,la,gr,s1,s2,hcat,z1,im1,im2,im3,aqu4]
section
variable {h:List aqu2} (kh:okH h) (k:okW h) (hne:h ≠ []) (seats:Int) (hse:1 <= seats/\seats <= 6)
include kh k hne hse
theorem aqhi:(∀ q∈aqsp (ai h seats) (cn h seats) (cn h seats).length,(0:Rat) <= q)/\∀ c∈ak h,c ∉ awa ((cn h seats).map (·.1))->aqsf h (aqsp (ai h seats) (cn h seats) (cn h seats).length) c <= (aqs9 h:Rat):=by
 obtain ⟨e1,e2⟩:=aXr k seats ⟨by omega,hse.2⟩;have l1:(cn h seats).length <= 6:=by rw [ajc]; exact awc 6 _ _
 refine ⟨fun q hq=>?_,fun c hc hn=>?_⟩
 ·obtain ⟨D,d1,d2,d3⟩:=e1.size
  exact (d3 q hq).2.1
 ·have hn':c ∉ (cn h seats).map (·.1):=fun m=>hn ((aqm _).mem_iff.mpr m)
  have:=aqf0 kh k hne e1 (by omega) (d:=c) fun _=>e2 c hc hn'
  have e:aqsf h (aqsp (ai h seats) (cn h seats) (cn h seats).length) c=az (aqtw h [c]) (fun i=>(wAt h i:Rat) * pAt (aqsp (ai h seats) (cn h seats) (cn h seats).length) i):=rfl;rw [e];exact Rat.le_of_lt this
theorem aqcs:((axj h seats).map (·.1)).Nodup/\∀ c∈(axj h seats).map (·.1),c∈ak h/\c ∉ (cn h seats).map (·.1):=by
 obtain ⟨i1,i2⟩:=aqhi kh k hne seats hse;obtain ⟨e1,_⟩:=aXr k seats ⟨by omega,hse.2⟩;have hn:=aZw k seats 6 e1.len i1 i2;have hr:=awh k seats 6 _ _ e1.len i1 i2;rw [<- aJl] at hn hr;refine ⟨hn,fun c hc=>?_⟩;obtain ⟨row,hm,rfl⟩:=List.mem_map.mp hc;obtain ⟨t,ht,et⟩:=getElem_of_mem hm;have hg:(axj h seats)[t]?=some (row.1,row.2.1,row.2.2):=by rw [getElem?_eq_getElem ht,et]
 obtain ⟨_,_,_,_,q1,q2,_⟩:=hr t _ _ _ hg;exact ⟨q1,fun m=>q2 ((aqm _).mem_iff.mpr m)⟩
theorem aZ1:(aqs h seats).Pairwise (· < ·)/\(∀ c∈aqs h seats,c∈ak h)/\(∀ c∈(cn h seats).map (·.1),c∈aqs h seats)/\((aqs h seats).length:Int)=(if ((ak h).length:Int) < seats then ((ak h).length:Int) else seats):=by
 obtain ⟨a1,a2⟩:=aqcs kh k hne seats hse;have b0:=ajm (h:=h) 6 (ai h seats) [];have hcount:=aJz k hne seats hse;rw [<- ajc] at b0 hcount;obtain ⟨b1,b2⟩:=b0;have hgf:=aXj (h:=h) seats 6 (aqsp (ai h seats) (cn h seats) (cn h seats).length) (awa ((cn h seats).map (·.1))) (by omega);have hgl:=aY0 (h:=h) seats 6 (aqsp (ai h seats) (cn h seats) (cn h seats).length) (awa ((cn h seats).map (·.1)));rw [<- aJl,ak9,length_map] at hgf hgl;have hnd:((cn h seats).map (·.1)++(axj h seats).map (·.1)).Nodup:=List.nodup_append.mpr ⟨b1,a1,fun x hx y hy e=>(a2 y hy).2 (e ▸ hx)⟩;have hmem:∀ c,c∈aqs h seats ↔ c∈(cn h seats).map (·.1) \/ c∈(axj h seats).map (·.1):=fun c=>by
  rw [awk,(aqm _).mem_iff,List.mem_append]
 have hlk:∀ c∈aqs h seats,c∈ak h:=fun c hc=>by
  rcases (hmem c).mp hc with m | m
  ·exact (b2 c m).2
  ·exact (a2 c m).1
 have hn':(aqs h seats).Nodup:=by rw [awk]; exact (aqm _).nodup_iff.mpr hnd
 have hr:(aqs h seats).Pairwise (· < ·):=by
  have hs:(aqs h seats).Pairwise (· <= ·):=by rw [awk]; exact aQa _
  exact (hs.and hn').imp fun {a b} ⟨h1,h2⟩=>by omega
 have hlen:(aqs h seats).length=(cn h seats).length + (axj h seats).length:=by rw [awk,ak9]; simp
 have hLn:(ak h).Nodup:=azm (List.Pairwise.sublist (awf h) av3);have u1:(aqs h seats).length <= (ak h).length:=aK hn' hlk;have u2:((cn h seats).length:Int) + (axj h seats).length <= seats:=by
  rcases hgl with e | e
  ·rw [e]; simpa using hcount
  ·exact e
 refine ⟨hr,hlk,fun c hc=>(hmem c).mpr (.inl hc),?_⟩;rcases hgf with e | e
 ·split <;> omega
 ·have u3:(ak h).length <= (aqs h seats).length:=aK hLn fun c hc=>(hmem c).mpr (by
   rcases e c hc with m | m
   ·exact .inl ((aqm _).mem_iff.mp m)
   ·exact .inr m)
  split <;> omega
end
abbrev Ent:=Int × List Rat
def aqtc (e:Ent):D:=.tup [.int e.1,aZ e.2]
def aqsq (pp:List Ent):D:=.lst (pp.map aqtc)
@[simp] theorem aqb6 (pp:List Ent):akv (aqsq pp)=some (pp.map aqtc):=rfl
structure PaperOk (h:List aqu2) (t:Nat) (pp:List Ent):Prop where
 cand:∀ e∈pp,0 <= e.1/\e.1 <= 5
 nodup:(pp.map (·.1)).Nodup
 len:∀ e∈pp,e.2.length=h.length
 sized:azu t (pp.flatMap (·.2))
 small:pp.length <= 6
theorem aXh (i:Int):ajz [.int i]=some (.bl true):=by simp [ajz,aqsk,aqsi,ini,aXw]
theorem aqej (c:Int) (h:0 <= c/\c <= 5):aq7 [.int c]=some (.bl true):=by
 simp [aq7,aqsk,aqsi,ini,az9,aXh,h.1,h.2]
theorem aYx (q:Rat) (h:0 <= q):ajq [frD q]=some (.bl true):=by
 have x0:dIx (frD q) (.int 0)=some (.int q.num):=rfl;have x1:dIx (frD q) (.int 1)=some (.int q.den):=rfl;have i1:aqsx "tuple" (frD q)=some (.bl true):=rfl;have d1:aqtg [frD q]=some (.int 2):=rfl;have h0:0 <= q.num:=Rat.num_nonneg.mpr h;have h1:(1:Int) <= (q.den:Int):=by have:=q.den_pos; omega
 have g:=aqkg q.num q.den;have e:Int.gcd q.num (q.den:Int)=1:=q.reduced;rw [e] at g;simp [ajq,aqsk,aqsi,ini,aQn,i1,d1,x0,x1,aXh,h0,h1,g]
theorem aqei (P:List Rat) (hp:∀ q∈P,(0:Rat) <= q) (hl:P.length <= 1000):aq6 [aZ P,.int (P.length:Int)]=some (.bl true):=by
 have hc:aji (geN 0) qT (oE (aA 1 ajq (gd (aqt7 0) aqty))) (P.map frD) [none]=some (P.map fun _=>O.sh (.bl true)):=by
  have:=al (inj:=frD) (g:=geN 0) (c:=qT) (e:=oE (aA 1 ajq (gd (aqt7 0) aqty))) (fun ρ=>∃ d,ρ=[d]) (fun _=>true) (fun _=>O.sh (.bl true)) P [none] ⟨_,rfl⟩ (by
   rintro q hq ρ ⟨d,rfl⟩
   have:=aYx q (hp q hq)
   exact ⟨_,rfl,⟨_,rfl⟩,rfl,fun _=>by simp [this]⟩)
  rwa [List.filter_eq_self.mpr (by simp)] at this
 have hd:oDs (P.map fun _=>O.sh (.bl true))=some (P.map fun _=>D.bl true):=aqt (fun c=>by simp) P;have hb:aqcr (P.map fun _=>D.bl true)=some (P.map fun _=>true):=axf (fun _:Rat=>true) P;have i1:aqsx "list" (aZ P)=some (.bl true):=rfl;have d1:aqtg [aZ P]=some (.int P.length):=by simp [aZ]
 have hl':P.length <= 100000:=by omega
 simp [aq6,aqsk,aqsi,ini,az8,i1,d1,aqa,mkD,hl',aqu4,hc,hd,aqtk,hb]
theorem aqcl (h:List aqu2) (hh:h.length <= 100) (e:Ent) (h1:0 <= e.1/\e.1 <= 5) (h2:e.2.length=h.length) (h3:∀ q∈e.2,(0:Rat) <= q):avs [aqtc e,.int (h.length:Int)]=some (.bl true):=by
 have x0:dIx (aqtc e) (.int 0)=some (.int e.1):=rfl;have x1:dIx (aqtc e) (.int 1)=some (aZ e.2):=rfl;have i1:aqsx "tuple" (aqtc e)=some (.bl true):=rfl;have d1:aqtg [aqtc e]=some (.int 2):=rfl;have c:=aqej e.1 h1;have l:=aqei e.2 h3 (by omega);rw [h2] at l;simp [avs,aqsk,aqsi,ini,aXy,i1,d1,x0,x1,c,l]
theorem aJb {t:Nat} {P:List Rat} (h:azu t P):∀ q∈P,(0:Rat) <= q:=by
 obtain ⟨D,_,_,h3⟩:=h;exact fun q hq=>(h3 q hq).2.1
theorem av9 {h:List aqu2} {t:Nat} {pp:List Ent} (k:PaperOk h t pp) {e:Ent} (he:e∈pp):azu t e.2:=k.sized.sub fun q hq=>List.mem_flatMap.mpr ⟨e,he,hq⟩
theorem aqck (h:List aqu2) (hh:h.length <= 100) {t:Nat} (pp:List Ent) (k:PaperOk h t pp):avr [aqsq pp,.int (h.length:Int)]=some (.bl true):=by
 have i1:aqsx "list" (aqsq pp)=some (.bl true):=rfl;obtain ⟨ρ',e1,c,e2⟩:=aju (inj:=aqtc) (g:=gN 3) (b:=ak3) (fun pre ρ=>∃ c,ρ=[some (.sh (aqsq pp)),some (.sh (.int (h.length:Int))),some (ow ((pre.map (·.1)).map .int)),c]) pp [some (.sh (aqsq pp)),some (.sh (.int (h.length:Int))),some (ow []),none] ⟨_,rfl⟩ (by
  rintro pre e post ρ hpp ⟨c,rfl⟩;have he:e∈pp:=by rw [hpp]; simp
  have en:=aqcl h hh e (k.cand e he) (k.len e he) (aJb (av9 k he));have x0:dIx (aqtc e) (.int 0)=some (.int e.1):=rfl;have hno:has (pre.map (·.1)) e.1=false:=by
   have hn:=k.nodup;rw [hpp,map_append,map_cons,List.nodup_append] at hn;cases hq:has (pre.map (·.1)) e.1 with
   | false=>rfl
   | true=>exact absurd rfl (hn.2.2 e.1 (aj1.mp hq) e.1 (by simp))
  have hpl:pre.length <= 6:=by have:=congrArg List.length hpp; have:=k.small; simp at *; omega
  have ga:aqt5 (.sh (.int e.1)) (ow ((pre.map (·.1)).map .int))=some (ow ((pre.map (·.1)).map .int++[.int e.1])):=aqbg (by simp [aqu4]; omega);have em:((pre++[e]).map (·.1)).map D.int=(pre.map (·.1)).map .int++[.int e.1]:=by simp
  rw [em];generalize pre.map (·.1)=M at *;have fo:D.lst (M.map .int)=ag M:=rfl;simp [aqu6,ak3,en,x0,fo,hno,ga])
 simp [avr,aqsk,aqsi,ini,aXx,i1,aqu4,aqtu,e1,e2]
structure PaysR (h:List aqu2) (seats:Int) (pp:List Ent):Prop where
 zero:∀ e∈pp,∀ i,i < h.length->lkB h i e.1=false->pAt e.2 i=0
 price:∀ e∈pp,aqsf h e.2 e.1=(aqs9 h:Rat)
 left:∀ i,i < h.length->0 <= (seats:Rat) - (pp.map fun e=>pAt e.2 i).sum
 less:∀ c∈ak h,c ∉ pp.map (·.1)->az (aqtw h [c]) (fun i=>(wAt h i:Rat) * ((seats:Rat) - (pp.map fun e=>pAt e.2 i).sum)) < (aqs9 h:Rat)
theorem aqfx (b:Nat):aqsc b 0=0:=by simp [aqsc]
theorem aYw (h:List aqu2) (k:okW h) (c:Int) (P:List Rat) {t:Nat} (hs:azu t P) (ht:t <= 20) (hl:P.length=h.length) (hz:∀ i,i < h.length->lkB h i c=false->pAt P i=0) (hp:aqsf h P c=(aqs9 h:Rat)):ajp [bt h,.int c,aZ P]=some (.bl true):=by
 have hh:=k.len;have l1:=az1 h c (by omega);rw [aZ3] at l1;have hlen:=ajg h [c];have b1:=aqbr P hs ht;have hb:=hs.cb ht;have t1:=aqaj P hs ht (cb P) hb (by omega);have hTz:∀ x∈P.map (aqsc (cb P)),Sz 3600 x:=fun x hx=>by
  obtain ⟨q,hq,rfl⟩:=List.mem_map.mp hx;exact hs.top ht hq hb
 have w1:=aJn h k (P.map (aqsc (cb P))) hTz (aqtw h [c]) (av h [c]) (fun i hi=>by simp; have:=av h [c] i hi; omega) (by omega);have w2:=axl h (by omega);have hN:=aZh k;have zN:Sz 77 (aqs9 h):=by show _ < _; omega
 have zb:Sz 1700 ((cb P:Nat):Int):=by show _ < _; rw [Int.natAbs_natCast]; exact hb
 have m1:=aq9 (zN.big (by decide)) (zb.big (by decide));have hr:aqsm 0 h.length=(List.range h.length).map fun (i:Nat)=>D.int (0 + (i:Int)):=rfl;have hcs:aji (geN 0) (qV (f2 aQ8 (aqt7 0) (aqt7 1))) (oE (aqt7 0)) (aqsm 0 h.length) [none,some (plD (aqtw h [c]))]=some (((List.range h.length).filter fun i=>!aqsz (aqtw h [c]) i).map fun (i:Nat)=>O.sh (.int (i:Int))):=by
  rw [hr];exact al (inj:=fun (i:Nat)=>D.int (0 + (i:Int))) (fun ρ=>∃ d,ρ=[d,some (plD (aqtw h [c]))]) (fun i=>!aqsz (aqtw h [c]) i) (fun (i:Nat)=>O.sh (.int (i:Int))) (List.range h.length) _ ⟨_,rfl⟩ (by
   rintro i hi ρ ⟨d,rfl⟩;exact ⟨_,rfl,⟨_,rfl⟩,by simp [plD,aqgy],fun _=>by simp⟩)
 obtain ⟨st,hst⟩:∃ st,(List.range h.length).filter (fun i=>!aqsz (aqtw h [c]) i)=st:=⟨_,rfl⟩;rw [hst] at hcs;have hstm:∀ i∈st,i < h.length/\pAt P i=0:=fun i hi=>by
  rw [<- hst] at hi;obtain ⟨a,b⟩:=List.mem_filter.mp hi;have hi':=List.mem_range.mp a;refine ⟨hi',hz i hi' ?_⟩;rw [aqen hi'] at b;simpa using b
 have hstl:st.length <= 100000:=by
  have:st.length <= h.length:=by rw [<- hst]; exact le_trans (length_filter_le _ _) (by simp)
  omega
 have lst1:akv (plD st)=some (st.map fun (i:Nat)=>D.int (i:Int)):=by simp [plD]
 have hca:aji (geN 0) qT (oE (f2 dEq (f2 dIx (aqt7 1) (aqt7 0)) (fC (.int 0)))) (st.map fun (i:Nat)=>D.int (i:Int)) [none,some (ag (P.map (aqsc (cb P))))]=some (st.map fun _=>O.sh (.bl true)):=by
  have:=al (inj:=fun (i:Nat)=>D.int (i:Int)) (g:=geN 0) (c:=qT) (e:=oE (f2 dEq (f2 dIx (aqt7 1) (aqt7 0)) (fC (.int 0)))) (fun ρ=>∃ d,ρ=[d,some (ag (P.map (aqsc (cb P))))]) (fun _=>true) (fun _=>O.sh (.bl true)) st [none,some (ag (P.map (aqsc (cb P))))] ⟨_,rfl⟩ (by
   rintro i hi ρ ⟨d,rfl⟩;obtain ⟨a,b⟩:=hstm i hi;have hx:=aqb8 (l:=P.map (aqsc (cb P))) (i:=i) (by simp; omega);have hv:(P.map (aqsc (cb P)))[i]'(by simp; omega)=0:=by
    rw [getElem_map]
    have:P[i]'(by omega)=0:=by rw [<- b,pAt,aqv (by omega)]
    rw [this,aqfx]
   rw [hv] at hx;refine ⟨_,rfl,⟨_,rfl⟩,rfl,fun _=>?_⟩;clear hv;generalize P.map (aqsc (cb P))=T at *;simp [hx])
  rwa [List.filter_eq_self.mpr (by simp)] at this
 have hd:oDs (st.map fun (i:Nat)=>O.sh (.int (i:Int)))=some (st.map fun (i:Nat)=>D.int (i:Int)):=aqt (fun p=>by simp) st;have ho:aqst (st.map fun (i:Nat)=>O.sh (.int (i:Int)))=true:=aJ8 (fun _=>by simp) st;have hd2:oDs (st.map fun _=>O.sh (.bl true))=some (st.map fun _=>D.bl true):=aqt (fun c=>by simp) st;have hb2:aqcr (st.map fun _=>D.bl true)=some (st.map fun _=>true):=axf (fun _:Nat=>true) st;have heq:aqs8 h (P.map (aqsc (cb P))) (aqtw h [c])=aqs9 h * (cb P:Nat):=by
  have e:=aqai h P (cb P) (fun q hq=>aqhb hq) (aqtw h [c]) (fun i hi=>by have:=av h [c] i hi; omega);have e3:az (aqtw h [c]) (fun i=>(wAt h i:Rat) * pAt P i)=(aqs9 h:Rat):=hp;rw [e3] at e;have e2:((aqs9 h * ((cb P:Nat):Int):Int):Rat)=(aqs9 h:Rat) * ((cb P:Nat):Rat):=by simp [axa]
  rw [<- e2] at e
  exact_mod_cast e
 have pf:=akt (aqtw h [c]);have pf2:=akt st;have hn:(h.length:Int) <= 100000:=by omega
 have iT:imm (ag (P.map (aqsc (cb P))))=false:=by simp
 generalize P.map (aqsc (cb P))=T at *;simp [ajp,aqsk,aqsi,ini,aQm,l1,b1,t1,aqe6,aqu4,hn,mkD,pf,hcs,ho,hd,pf2,aqa,lst1,hstl,hca,hd2,aqtk,hb2,w1,w2,m1,heq]
def aqtv (pp:List Ent):List Rat:=pp.flatMap (·.2)
theorem aqk8 (P:List Rat):aqsy (P.map frD)=true:=aYy.mpr fun d m=>by obtain ⟨q,_,rfl⟩:=List.mem_map.mp m; simp
theorem aqfq {h:List aqu2} {t:Nat}:∀ {pp:List Ent},(∀ e∈pp,e.2.length=h.length)->(aqtv pp).length=pp.length * h.length
 | [],_=>by simp [aqtv]
 | e :: pp,k=>by
  have h1:=k e (by simp);have h2:=aqfq (t:=t) (pp:=pp) fun x m=>k x (by simp [m]);simp only [aqtv,List.flatMap_cons,length_append,length_cons] at h2 ⊢;rw [h1,h2,Nat.add_mul,Nat.one_mul,Nat.add_comm]
theorem aqhc (h:List aqu2) (hh:h.length <= 100) {t:Nat} (ht:t <= 20) (pp:List Ent) (k:PaperOk h t pp):aqb [aqsq pp]=some (.int (cb (aqtv pp):Nat)):=by
 obtain ⟨ρ',e1,c,c',e2⟩:=aju (inj:=aqtc) (g:=gTp [(gN 2),(gN 3)]) (b:=aje) (fun pre ρ=>∃ c c',ρ=[some (.sh (aqsq pp)),some (ow ((aqtv pre).map frD)),c,c']) pp [some (.sh (aqsq pp)),some (ow []),none,none] ⟨_,_,rfl⟩ (by
  rintro pre e post ρ hpp ⟨c,c',rfl⟩;have he:e∈pp:=by rw [hpp]; simp
  have hl:=k.len e he;have hpl:pre.length <= 6:=by have:=congrArg List.length hpp; have:=k.small; simp at *; omega
  have ha:(aqtv pre).length=pre.length * h.length:=aqfq (t:=t) fun x m=>k.len x (by rw [hpp]; simp [m]);have hb:(aqtv pre).length <= 600:=by
   rw [ha];exact le_trans (Nat.mul_le_mul hpl hh) (by decide)
  have hg:gTp [(gN 2),(gN 3)] (aqtc e) [some (.sh (aqsq pp)),some (ow ((aqtv pre).map frD)),c,c']=some [some (.sh (aqsq pp)),some (ow ((aqtv pre).map frD)),some (.sh (.int e.1)),some (.sh (aZ e.2))]:=rfl;have em:aqtv (pre++[e])=aqtv pre++e.2:=by simp [aqtv]
  rw [em];have hll:(aqtv pre).length + e.2.length <= aqu4:=by simp only [aqu4]; omega
  have im:=aqk8 e.2;generalize aqtv pre=M at *;simp only [aqu6,hg];simp [aje,bExt,aqsr,aZ,im,atO,gExt,ow,hll,-map_append]
  simp)
 have b1:=aqbr (aqtv pp) k.sized ht;have fo:D.lst ((aqtv pp).map frD)=aZ (aqtv pp):=rfl;generalize aqtv pp=M at *;simp [aqb,aqsk,aqsi,ini,aj9,aqu4,aqtu,e1,e2,fo,b1]
def aqsb (b:Nat) (pp:List Ent) (i:Nat):Int:=(pp.map fun e=>aqsc b (pAt e.2 i)).sum
def azc (n:Nat) (seats:Int) (b:Nat) (pp:List Ent):List Int:=(List.range n).map fun i=>seats * (b:Int) - aqsb b pp i
theorem aWh (h:List aqu2) (hh:h.length <= 100) {t:Nat} (ht:t <= 20) (pp:List Ent) (k:PaperOk h t pp) (seats:Int) (hse:seats.natAbs < 2 ^ 63) (b:Nat) (hb:b < 2 ^ 1700):azo [bt h,.int seats,aqsq pp,.int (b:Int)]=some (ag (azc h.length seats b pp)):=by
 have mm:aqte (.int seats) (.int (b:Int))=some (.int (seats * (b:Int))):=aqf4 hse;have hc0:aji (geN 0) qT (oE (f2 aqte (aqt7 1) (aqt7 2))) (h.map axy) [none,some (.int seats),some (.int (b:Int))]=some (h.map fun _=>O.sh (.int (seats * (b:Int)))):=by
  have:=al (inj:=axy) (g:=geN 0) (c:=qT) (e:=oE (f2 aqte (aqt7 1) (aqt7 2))) (fun ρ=>∃ d,ρ=[d,some (.int seats),some (.int (b:Int))]) (fun _=>true) (fun _=>O.sh (.int (seats * (b:Int)))) h [none,some (.int seats),some (.int (b:Int))] ⟨_,rfl⟩ (by
   rintro p _ ρ ⟨d,rfl⟩;exact ⟨_,rfl,⟨_,rfl⟩,rfl,fun _=>by simp [mm]⟩)
  rwa [List.filter_eq_self.mpr (by simp)] at this
 have e0:(h.map fun _=>O.sh (.int (seats * (b:Int))))=(azc h.length seats b []).map fun n=>O.sh (.int n):=by
  apply ext_getElem
  ·simp [azc]
  ·intro i h1 h2; simp [azc,aqsb]
 rw [e0] at hc0;have hl':h.length <= 100000:=by omega
 have hd:∀ T:List Int,oDs (T.map fun n=>O.sh (.int n))=some (T.map .int):=fun T=>aqt (fun p=>by simp) T;have ho:∀ T:List Int,aqst (T.map fun n=>O.sh (.int n))=true:=fun T=>aJ8 (fun p=>by simp) T;have fo:∀ T:List Int,D.lst (T.map .int)=ag T:=fun _=>rfl;obtain ⟨ρ',e1,c5,c6,e2⟩:=aju (inj:=aqtc) (g:=gTp [(gN 5),(gN 6)]) (b:=avy) (fun pre ρ=>∃ c c',ρ=[some (.sh (bt h)),some (.sh (.int seats)),some (.sh (aqsq pp)),some (.sh (.int (b:Int))),some (.lst ((azc h.length seats b pre).map fun n=>O.sh (.int n))),c,c']) pp [some (.sh (bt h)),some (.sh (.int seats)),some (.sh (aqsq pp)),some (.sh (.int (b:Int))),some (.lst ((azc h.length seats b []).map fun n=>O.sh (.int n))),none,none] ⟨_,_,rfl⟩ (by
  rintro pre e post ρ hpp ⟨c,c',rfl⟩;have he:e∈pp:=by rw [hpp]; simp
  have hl:=k.len e he;have t1:=aqaj e.2 (av9 k he) ht b hb (by omega);have hg:gTp [(gN 5),(gN 6)] (aqtc e) [some (.sh (bt h)),some (.sh (.int seats)),some (.sh (aqsq pp)),some (.sh (.int (b:Int))),some (.lst ((azc h.length seats b pre).map fun n=>O.sh (.int n))),c,c']=some [some (.sh (bt h)),some (.sh (.int seats)),some (.sh (aqsq pp)),some (.sh (.int (b:Int))),some (.lst ((azc h.length seats b pre).map fun n=>O.sh (.int n))),some (.sh (.int e.1)),some (.sh (aZ e.2))]:=rfl;have zp:aqs7 ((azc h.length seats b pre).map D.int) ((e.2.map (aqsc b)).map D.int)=(List.range h.length).map fun i=>D.tup [.int (seats * (b:Int) - aqsb b pre i),.int (aqsc b (pAt e.2 i))]:=by
   unfold aqs7;apply ext_getElem
   ·simp [azc,hl]
   ·intro i h1 h2
    simp [hl] at h2;simp [azc,pAt,show i < e.2.length by omega]
  have hcz:aji (aqt4 [(geN 0),(geN 1)]) qT (oE (f2 dSub (aqt7 0) (aqt7 1))) (aqs7 ((azc h.length seats b pre).map D.int) ((e.2.map (aqsc b)).map D.int)) [none,none]=some ((azc h.length seats b (pre++[e])).map fun n=>O.sh (.int n)):=by
   rw [zp]
   have:=al (inj:=fun i:Nat=>D.tup [.int (seats * (b:Int) - aqsb b pre i),.int (aqsc b (pAt e.2 i))]) (g:=aqt4 [(geN 0),(geN 1)]) (c:=qT) (e:=oE (f2 dSub (aqt7 0) (aqt7 1))) (fun ρ=>∃ d d',ρ=[d,d']) (fun _=>true) (fun i=>O.sh (.int (seats * (b:Int) - aqsb b (pre++[e]) i))) (List.range h.length) [none,none] ⟨_,_,rfl⟩ (by
    rintro i hi ρ ⟨d,d',rfl⟩;refine ⟨[some (.int (seats * (b:Int) - aqsb b pre i)),some (.int (aqsc b (pAt e.2 i)))],rfl,⟨_,_,rfl⟩,rfl,fun _=>?_⟩
    have:aqsb b (pre++[e]) i=aqsb b pre i + aqsc b (pAt e.2 i):=by simp [aqsb]
    rw [this]
    simp
    omega)
   rw [List.filter_eq_self.mpr (by simp)] at this;rw [this,azc,map_map];rfl
  have hlen:(azc h.length seats b pre).length <= 100000:=by simp [azc]; omega
  have hlen2:(e.2.map (aqsc b)).length <= 100000:=by simp; omega
  generalize azc h.length seats b (pre++[e])=T2 at *;generalize azc h.length seats b pre=T1 at *;generalize e.2.map (aqsc b)=T3 at *;simp only [aqu6,hg];simp [avy,hd,ho,fo,t1,aqcg,mkD,aqu4,hlen,hlen2,hcz])
 generalize azc h.length seats b []=T0 at *;generalize azc h.length seats b pp=T1 at *;simp [azo,aqsk,aqsi,ini,aQl,aqa,mkD,hl',aqu4,hc0,ho,aqtu,e1,e2,hd,fo]
theorem aqgf (h:List aqu2) (kh:okH h) (hh:h.length <= 100) (pp:List Ent) (hp:pp.length <= 1000):aXb [bt h,aqsq pp]=some (ag ((ak h).filter fun c=>!has (pp.map (·.1)) c)):=by
 have hc:aji (geN 0) qT (oE (f2 dIx (aqt7 0) (fC (.int 0)))) (pp.map aqtc) [none]=some ((pp.map (·.1)).map fun n=>O.sh (.int n)):=by
  have:=al (inj:=aqtc) (g:=geN 0) (c:=qT) (e:=oE (f2 dIx (aqt7 0) (fC (.int 0)))) (fun ρ=>∃ d,ρ=[d]) (fun _=>true) (fun e=>O.sh (.int e.1)) pp [none] ⟨_,rfl⟩ (by
   rintro e _ ρ ⟨d,rfl⟩
   have:dIx (aqtc e) (.int 0)=some (.int e.1):=rfl
   exact ⟨_,rfl,⟨_,rfl⟩,rfl,fun _=>by simp [this]⟩)
  rw [List.filter_eq_self.mpr (by simp)] at this;rw [this,map_map];rfl
 have hd:∀ T:List Int,oDs (T.map fun n=>O.sh (.int n))=some (T.map .int):=fun T=>aqt (fun p=>by simp) T;have ho:∀ T:List Int,aqst (T.map fun n=>O.sh (.int n))=true:=fun T=>aJ8 (fun p=>by simp) T;have fo:∀ T:List Int,D.lst (T.map .int)=ag T:=fun _=>rfl;have lk:=aZu h kh hh;have hc2:aji (geN 0) (qV (f2 aQ8 (aqt7 0) (aqt7 1))) (oE (aqt7 0)) ((ak h).map D.int) [none,some (ag (pp.map (·.1)))]=some (((ak h).filter fun c=>!has (pp.map (·.1)) c).map fun n=>O.sh (.int n)) :=
  al (inj:=D.int) (fun ρ=>∃ d,ρ=[d,some (ag (pp.map (·.1)))]) (fun c=>!has (pp.map (·.1)) c) (fun n=>O.sh (.int n)) (ak h) _ ⟨_,rfl⟩ (by
   rintro c _ ρ ⟨d,rfl⟩;exact ⟨_,rfl,⟨_,rfl⟩,by simp,fun _=>by simp⟩)
 have h1:pp.length <= 100000:=by omega
 have h2:(ak h).length <= 100000:=by have:=aP h; omega
 generalize pp.map (·.1)=M at *;simp [aXb,aqsk,aqsi,ini,aqaa,aqa,mkD,h1,aqu4,hc,hd,ho,fo,lk,h2,hc2]
theorem aqis {b:Nat} {pp:List Ent} (hb:∀ e∈pp,∀ q∈e.2,q.den ∣ b) {i:Nat} (hi:∀ e∈pp,i < e.2.length):(aqsb b pp i:Rat)=(pp.map fun e=>pAt e.2 i).sum * (b:Rat):=by
 induction pp with
 | nil=>simp [aqsb]
 | cons e pp ih =>
  have h1:=ih (fun x m=>hb x (by simp [m])) (fun x m=>hi x (by simp [m]));have e1:aqsb b (e :: pp) i=aqsc b (pAt e.2 i) + aqsb b pp i:=by simp [aqsb]
  have e2:=aqd2 (hb e (by simp) _ (aR (hi e (by simp))));rw [e1];have e3:((aqsc b (pAt e.2 i) + aqsb b pp i:Int):Rat)=(aqsc b (pAt e.2 i):Rat) + (aqsb b pp i:Rat):=by simp
  rw [e3,e2,h1,map_cons,sum_cons];grind
structure PaysL (h:List aqu2) (seats:Int) (pp:List Ent):Prop where
 zero:∀ e∈pp,∀ i,i < h.length->lkB h i e.1=false->pAt e.2 i=0
 price:∀ e∈pp,aqsf h e.2 e.1=(aqs9 h:Rat)
 left:∀ i,i < h.length->0 <= (seats:Rat) - (pp.map fun e=>pAt e.2 i).sum
def lessP (h:List aqu2) (seats:Int) (pp:List Ent):Prop:=∀ c∈ak h,c ∉ pp.map (·.1)->az (aqtw h [c]) (fun i=>(wAt h i:Rat) * ((seats:Rat) - (pp.map fun e=>pAt e.2 i).sum)) < (aqs9 h:Rat)
theorem aqgv (h:List aqu2) (kh:okH h) (k:okW h) {t:Nat} (ht:t <= 20) (pp:List Ent) (ok:PaperOk h t pp) (seats:Int) (hse:1 <= seats/\seats <= 6) (py:PaysL h seats pp):∃ b:Bool,aO [bt h,.int seats,aqsq pp]=some (.bl b)/\(b=true ↔ lessP h seats pp):=by
 have hh:=k.len;have hs1:seats.natAbs < 2 ^ 63:=lt_of_le_of_lt (show _ <= 6 by omega) (by decide);have b1:=aqhc h (by omega) ht pp ok;have hb:cb (aqtv pp) < 2 ^ 1700:=ok.sized.cb ht;have hbp:=aqa3 (aqtv pp);have hdv:∀ e∈pp,∀ q∈e.2,q.den ∣ cb (aqtv pp):=fun e he q hq=>aqhb (List.mem_flatMap.mpr ⟨e,he,hq⟩);have tl:=aWh h (by omega) ht pp ok seats hs1 (cb (aqtv pp)) hb;have ot:=aqgf h kh (by omega) pp (by have:=ok.small; omega);have w2:=axl h (by omega);have hN:=aZh k;have zN:Sz 77 (aqs9 h):=by show _ < _; omega
 have zb:Sz 1700 ((cb (aqtv pp):Nat):Int):=by show _ < _; rw [Int.natAbs_natCast]; exact hb
 have m1:=aq9 (zN.big (by decide)) (zb.big (by decide));generalize hB:cb (aqtv pp)=B at *;have hBr:(0:Rat) < (B:Rat):=by exact_mod_cast hbp
 have tr:∀ i,i < h.length->((seats * (B:Int) - aqsb B pp i:Int):Rat)=((seats:Rat) - (pp.map fun e=>pAt e.2 i).sum) * (B:Rat):=fun i hi=>by
  have e1:=aqis hdv (i:=i) fun e he=>by rw [ok.len e he]; exact hi
  have e2:((seats * (B:Int) - aqsb B pp i:Int):Rat)=(seats:Rat) * (B:Rat) - (aqsb B pp i:Rat):=by simp [axa]
  rw [e2,e1];grind
 have nn:∀ i,i < h.length->0 <= seats * (B:Int) - aqsb B pp i:=fun i hi=>by
  have h1:=Rat.mul_nonneg (py.left i hi) (Rat.le_of_lt hBr);rw [<- tr i hi] at h1
  exact_mod_cast h1
 have tn:∀ i,i < h.length->0 <= aqsb B pp i:=fun i hi=>by
  have:∀ l:List Ent,(∀ e∈l,e∈pp)->0 <= aqsb B l i:=by
   intro l
   induction l with
   | nil=>intro _; simp [aqsb]
   | cons e l ih =>
    intro hl;have h1:=ih fun x m=>hl x (by simp [m]);have he:=hl e (by simp);have hq:=aJb (av9 ok he) _ (aR (P:=e.2) (i:=i) (by rw [ok.len e he]; exact hi));have h0:0 <= aqsc B (pAt e.2 i):=Int.mul_nonneg (Rat.num_nonneg.mpr hq) (Int.natCast_nonneg _);have e1:aqsb B (e :: l) i=aqsc B (pAt e.2 i) + aqsb B l i:=by simp [aqsb]
    omega
  exact this pp fun _ m=>m
 have hTl:(azc h.length seats B pp).length=h.length:=by simp [azc]
 have hTm:∀ x∈azc h.length seats B pp,0 <= x/\Sz 3600 x:=fun x hx=>by
  obtain ⟨i,hi,rfl⟩:=List.mem_map.mp hx;have hi':=List.mem_range.mp hi;refine ⟨nn i hi',?_⟩;have zs:Sz 1703 (seats * (B:Int)):=by
   have:Sz 3 seats:=by show _ < _; omega
   exact (this.mul zb).mono (by decide)
  exact (zs.le (by have:=nn i hi'; have:=tn i hi'; omega)).mono (by decide)
 have hTa:∀ i,i < h.length->tAt (azc h.length seats B pp) i=seats * (B:Int) - aqsb B pp i:=fun i hi=>by
  rw [tAt,aqv (by omega)];simp [azc]
 obtain ⟨O1,hO1⟩:∃ O1,(ak h).filter (fun c=>!has (pp.map (·.1)) c)=O1:=⟨_,rfl⟩;have hOm:∀ c∈O1,c∈ak h/\c ∉ pp.map (·.1):=fun c hc=>by
  rw [<- hO1] at hc;obtain ⟨hcl,hcn⟩:=List.mem_filter.mp hc;exact ⟨hcl,fun m=>by rw [aj1.mpr m] at hcn; simp at hcn⟩
 have hl2:O1.length <= 100000:=by rw [<- hO1]; exact le_trans (length_filter_le _ _) (by have:=aP h; omega)
 rw [hO1] at ot;have hc1:aji (geN 0) qT (oE (f2 dGe (aqt7 0) (fC (.int 0)))) ((azc h.length seats B pp).map D.int) [none]=some ((azc h.length seats B pp).map fun _=>O.sh (.bl true)):=by
  have:=al (inj:=D.int) (g:=geN 0) (c:=qT) (e:=oE (f2 dGe (aqt7 0) (fC (.int 0)))) (fun ρ=>∃ d,ρ=[d]) (fun _=>true) (fun _=>O.sh (.bl true)) (azc h.length seats B pp) [none] ⟨_,rfl⟩ (by
   rintro x hx ρ ⟨d,rfl⟩
   have:=(hTm x hx).1
   exact ⟨_,rfl,⟨_,rfl⟩,rfl,fun _=>by simp [this]⟩)
  rwa [List.filter_eq_self.mpr (by simp)] at this
 have tt:∀ {α:Type} (l:List α),oDs (l.map fun _=>O.sh (.bl true))=some (l.map fun _=>D.bl true):=fun l=>aqt (fun c=>by simp) l;have tb:∀ {α:Type} (l:List α),aqcr (l.map fun _=>D.bl true)=some (l.map fun _=>true):=fun l=>axf (fun _=>true) l;have hiff:∀ c∈O1,(aqs8 h (azc h.length seats B pp) (aqtw h [c]) < aqs9 h * (B:Int) ↔ az (aqtw h [c]) (fun i=>(wAt h i:Rat) * ((seats:Rat) - (pp.map fun e=>pAt e.2 i).sum)) < (aqs9 h:Rat)):=fun c hc=>by
  have e:(aqs8 h (azc h.length seats B pp) (aqtw h [c]):Rat)=az (aqtw h [c]) (fun i=>(wAt h i:Rat) * ((seats:Rat) - (pp.map fun e=>pAt e.2 i).sum)) * (B:Rat):=by
   unfold aqs8;rw [aqbc,map_map,<- aqy];unfold az;refine congrArg List.sum (map_congr_left fun i hi=>?_);have hi':=av h [c] i hi;simp only [Function.comp_def];rw [hTa i hi'];have e4:((wAt h i * (seats * (B:Int) - aqsb B pp i):Int):Rat)=(wAt h i:Rat) * ((seats * (B:Int) - aqsb B pp i:Int):Rat):=by simp
   rw [e4,tr i hi',Rat.mul_assoc]
  have e5:(aqs9 h:Rat) * (B:Rat)=((aqs9 h * (B:Int):Int):Rat):=by simp [axa]
  rw [<- Rat.intCast_lt_intCast,e,<- e5];refine ⟨fun z=>?_,fun z=>Rat.mul_lt_mul_of_pos_right z hBr⟩;false_or_by_contra;rename_i y
  have:=Rat.mul_le_mul_of_nonneg_right (Rat.not_lt.mp y) (Rat.le_of_lt hBr)
  grind
 have hc2:aji (geN 0) qT (oE (f2 dLt (aA 3 aq5 (gd (aqt7 2) (gd (aqt7 3) (gd (fL (aXa 2 aX (gd (aqt7 2) (gd (aqt7 0) aqty)))) aqty)))) (aqt7 1))) ((O1.map D.int)) [none,some (.int (aqs9 h * (B:Int))),some (bt h),some (ag (azc h.length seats B pp))]=some (O1.map fun c=>O.sh (.bl (decide (aqs8 h (azc h.length seats B pp) (aqtw h [c]) < aqs9 h * (B:Int))))):=by
  have:=al (inj:=D.int) (g:=geN 0) (c:=qT) (e:=(oE (f2 dLt (aA 3 aq5 (gd (aqt7 2) (gd (aqt7 3) (gd (fL (aXa 2 aX (gd (aqt7 2) (gd (aqt7 0) aqty)))) aqty)))) (aqt7 1)))) (fun ρ=>∃ d,ρ=[d,some (.int (aqs9 h * (B:Int))),some (bt h),some (ag (azc h.length seats B pp))]) (fun _=>true) (fun c=>O.sh (.bl (decide (aqs8 h (azc h.length seats B pp) (aqtw h [c]) < aqs9 h * (B:Int))))) O1 [none,some (.int (aqs9 h * (B:Int))),some (bt h),some (ag (azc h.length seats B pp))] ⟨_,rfl⟩ (by
   rintro c hc ρ ⟨d,rfl⟩;obtain ⟨hcl,hcn'⟩:=hOm c hc;have l1:=az1 h c (by omega);rw [aZ3] at l1;have pf:=akt (aqtw h [c]);have hlen:=ajg h [c];have w1:=aJn h k (azc h.length seats B pp) (fun x hx=>(hTm x hx).2) (aqtw h [c]) (av h [c]) (fun i hi=>by rw [hTl]; exact av h [c] i hi) (by omega);refine ⟨_,rfl,⟨_,rfl⟩,rfl,fun _=>?_⟩;generalize azc h.length seats B pp=T at *;simp [l1,pf,w1])
  rwa [List.filter_eq_self.mpr (by simp)] at this
 have hl1:(azc h.length seats B pp).length <= 100000:=by rw [hTl]; omega
 refine ⟨O1.all fun c=>decide (aqs8 h (azc h.length seats B pp) (aqtw h [c]) < aqs9 h * (B:Int)),?_,?_⟩
 ·have tb2:=axf (fun c=>decide (aqs8 h (azc h.length seats B pp) (aqtw h [c]) < aqs9 h * (B:Int))) O1
  have td2:oDs (O1.map fun c=>O.sh (.bl (decide (aqs8 h (azc h.length seats B pp) (aqtw h [c]) < aqs9 h * (B:Int)))))=some (O1.map fun c=>D.bl (decide (aqs8 h (azc h.length seats B pp) (aqtw h [c]) < aqs9 h * (B:Int)))):=aqt (fun c=>by simp) O1;have ea:∀ f:Int->Bool,((O1.map f).all id)=O1.all f:=fun f=>by rw [all_map]; rfl
  generalize azc h.length seats B pp=T at *;generalize (fun c=>decide (aqs8 h T (aqtw h [c]) < aqs9 h * (B:Int)))=ff at *;simp [aO,aqsk,aqsi,ini,ajd,b1,tl,w2,m1,aqa,mkD,hl1,aqu4,hc1,tt,aqtk,tb,ot,hl2,hc2,td2,tb2,-all_eq_true,-all_map]
  simp
 ·rw [all_eq_true]
  refine ⟨fun z c hc hn=>(hiff c ?_).mp (of_decide_eq_true (z c ?_)),fun z c hc=>decide_eq_true ((hiff c hc).mpr (z c (hOm c hc).1 (hOm c hc).2))⟩ <;>
  ·rw [<- hO1]
   refine List.mem_filter.mpr ⟨hc,?_⟩;cases hh:has (pp.map (·.1)) c with
   | true=>exact absurd (aj1.mp hh) hn
   | false=>rfl
theorem aqhu (h:List aqu2) (kh:okH h) (k:okW h) {t:Nat} (ht:t <= 20) (pp:List Ent) (ok:PaperOk h t pp) (seats:Int) (hse:1 <= seats/\seats <= 6) (py:PaysL h seats pp):∃ b:Bool,aqci [bt h,.int seats,aqsq pp]=some (.bl b)/\(b=true ↔ lessP h seats pp):=by
 have hh:=k.len;have p1:=aqck h (by omega) pp ok;obtain ⟨b,l1,l2⟩:=aqgv h kh k ht pp ok seats hse py;refine ⟨b,?_,l2⟩;have hc:aji (aqt4 [(geN 0),(geN 1)]) qT (oE (aA 3 ajp (gd (aqt7 2) (gd (aqt7 0) (gd (aqt7 1) aqty))))) (pp.map aqtc) [none,none,some (bt h)]=some (pp.map fun _=>O.sh (.bl true)):=by
  have:=al (inj:=aqtc) (g:=aqt4 [(geN 0),(geN 1)]) (c:=qT) (e:=oE (aA 3 ajp (gd (aqt7 2) (gd (aqt7 0) (gd (aqt7 1) aqty))))) (fun ρ=>∃ d d',ρ=[d,d',some (bt h)]) (fun _=>true) (fun _=>O.sh (.bl true)) pp [none,none,some (bt h)] ⟨_,_,rfl⟩ (by
   rintro e he ρ ⟨d,d',rfl⟩;have ib:=aYw h k e.1 e.2 (av9 ok he) ht (ok.len e he) (py.zero e he) (py.price e he);refine ⟨[some (.int e.1),some (aZ e.2),some (bt h)],rfl,⟨_,_,rfl⟩,rfl,fun _=>by simp [ib]⟩)
  rwa [List.filter_eq_self.mpr (by simp)] at this
 have tt:oDs (pp.map fun _=>O.sh (.bl true))=some (pp.map fun _=>D.bl true):=aqt (fun c=>by simp) pp;have tb:aqcr (pp.map fun _=>D.bl true)=some (pp.map fun _=>true):=axf (fun _=>true) pp;have hl:pp.length <= 100000:=by have:=ok.small; omega
 simp [aqci,aqsk,aqsi,ini,aql5,p1,aqa,mkD,hl,aqu4,hc,tt,aqtk,tb,l1]
def aqtd (P Q:List Rat):List Rat:=(List.range P.length).map fun i=>pAt P i - pAt Q i
def payO (r:Int × List Rat):O:=.tup [.sh (.int r.1),ow (r.2.map frD)]
def payD (r:Int × List Rat):D:=.tup [.int r.1,.lst (r.2.map frD)]
def aqj7 (P0:List Rat) (R:List aqu1) (t:Nat):Int × List Rat:=((R.getD t (0,0,[])).1,aqtd (aqsp P0 R t) (R.getD t (0,0,[])).2.2)
def aki (P0:List Rat) (R:List aqu1) (n:Nat):List (Int × List Rat):=(List.range n).map (aqj7 P0 R)
theorem aqdo (P0:List Rat) (R:List aqu1) (n:Nat):aki P0 R (n + 1)=aki P0 R n++[aqj7 P0 R n]:=by simp [aki,List.range_succ]
structure RF (h:List aqu2) (P0:List Rat) (R:List aqu1):Prop where
 p0:P0.length=h.length
 lenR:R.length <= 6
 len:∀ t row,R[t]?=some row->(aqsp P0 R t).length=h.length/\row.2.2.length=h.length
 bd:∀ t row,R[t]?=some row->(∀ q∈aqsp P0 R t,Bd 2000 2000 q)/\∀ q∈row.2.2,Bd 2000 2000 q
 dif:∀ t row,R[t]?=some row->∀ q∈aqtd (aqsp P0 R t) row.2.2,0 <= q/\Bd 2000 2000 q
theorem aqg9 {h:List aqu2} (kh:okH h) (k:okW h) (hne:h ≠ []) (seats:Int) (hse:1 <= seats/\seats <= 6):RF h (ai h seats) (aj h 6 (ai h seats) []):=by
 have hs:=ajs h (seats:=seats) (by omega) hse.2;have hl:(ai h seats).length=h.length:=by simp [ai]
 have hlc:(aKy h []).length <= 6:=le_trans (length_filter_le _ _) (aP h);obtain ⟨r1,r2,r3⟩:=azl k 6 (ai h seats) [] 1 ⟨hl,hs⟩ (by decide) hlc;have hc:=aJz k hne seats hse;have hN:=aj3 k hne;generalize aj h 6 (ai h seats) []=R at *;have hR:R.length <= 6:=by omega
 have ht:∀ t row,R[t]?=some row->1 + t <= 18:=fun t row e=>by
  have:=(List.getElem?_eq_some_iff.mp e).1; omega
 refine ⟨hl,hR,fun t row e=>?_,fun t row e=>?_,fun t row e q hq=>?_⟩
 ·obtain ⟨a,b⟩:=r1 t row e
  exact ⟨a.len,by rw [b.paid,aVk]; exact a.len⟩
 ·obtain ⟨a,b⟩:=r1 t row e
  have hz:=aJ3 k a.len a.size (ht t row e) b.liked hN b.rate;refine ⟨fun q hq=>(a.size.bd (by have:=ht t row e; omega) hq).mono (by decide) (by decide),fun q hq=>?_⟩;rw [b.paid] at hq;exact (hz.bd (by have:=ht t row e; omega) hq).mono (by decide) (by decide)
 ·obtain ⟨a,b⟩:=r1 t row e
  have rb:=aqdt k a.len a.size (ht t row e) b.liked hN b.rate;obtain ⟨_,_,r0,_⟩:=av6 k a.len a.size (ht t row e) b.liked hN b.rate;obtain ⟨i,hi,rfl⟩:=List.mem_map.mp hq;have hi:=List.mem_range.mp hi;have pn:=a.nonneg i;have pb:Bd 2000 2000 (pAt (aqsp (ai h seats) R t) i):=(a.size.bd (by have:=ht t row e; omega) (aR hi)).mono (by decide) (by decide);rw [b.paid,aZq hi];split
  ·have e1:pAt (aqsp (ai h seats) R t) i - (pAt (aqsp (ai h seats) R t) i - min (pAt (aqsp (ai h seats) R t) i) row.2.1)=min (pAt (aqsp (ai h seats) R t) i) row.2.1:=by grind
   rw [e1]
   by_cases hle:pAt (aqsp (ai h seats) R t) i <= row.2.1
   ·have e2:min (pAt (aqsp (ai h seats) R t) i) row.2.1=pAt (aqsp (ai h seats) R t) i:=by grind
    rw [e2]; exact ⟨pn,pb⟩
   ·have e2:min (pAt (aqsp (ai h seats) R t) i) row.2.1=row.2.1:=by grind
    rw [e2]; exact ⟨Rat.le_of_lt r0,rb⟩
  ·have e1:∀ x:Rat,x - x=0:=fun x=>by grind
   rw [e1];exact ⟨Rat.le_refl,by decide,by decide⟩
theorem aqil {P Q:List Rat} (hl:P.length=Q.length):aqs7 (P.map frD) (Q.map frD)=(List.range P.length).map fun i=>D.tup [frD (pAt P i),frD (pAt Q i)]:=by
 apply ext_getElem
 ·simp [aqs7,hl]
 ·intro i h1 h2
  have hi:i < P.length:=by simpa using h2
  have hi':i < Q.length:=by omega
  simp [aqs7,hi,hi',pAt]
theorem aqks {P Q:List Rat} (hl:P.length=Q.length) (hP:∀ q∈P,Bd 2000 2000 q) (hQ:∀ q∈Q,Bd 2000 2000 q) :
  aji (aqt4 [(geN 0),(geN 1)]) qT (oE (aA 2 avp (gd (aqt7 0) (gd (aqt7 1) aqty)))) (aqs7 (P.map frD) (Q.map frD)) [none,none]=some (((aqtd P Q).map frD).map O.sh):=by
 rw [aqil hl]
 have:=al (inj:=fun i=>D.tup [frD (pAt P i),frD (pAt Q i)]) (g:=aqt4 [(geN 0),(geN 1)]) (c:=qT) (e:=oE (aA 2 avp (gd (aqt7 0) (gd (aqt7 1) aqty)))) (fun ρ=>∃ a b,ρ=[a,b]) (fun _=>true) (fun i=>O.sh (frD (pAt P i - pAt Q i))) (List.range P.length) [none,none] ⟨_,_,rfl⟩ (by
  rintro i hi ρ ⟨a,b,rfl⟩;have hi:=List.mem_range.mp hi;have m:=aqi2 (hP _ (aR hi)) (hQ _ (aR (by omega:i < Q.length)));exact ⟨_,rfl,⟨_,_,rfl⟩,rfl,fun _=>by simp [m]⟩)
 rw [this,List.filter_eq_self.mpr (by simp)];simp [aqtd]
theorem aqok (r:Int × List Rat):oD (payO r)=some (payD r):=by simp [payO,payD]
theorem aqi9 (l:List Rat):aqsy (l.map frD)=true:=by
 induction l with
 | nil=>simp
 | cons q l ih=>simp [ih,frD]
theorem aqel (P:List Rat):imm (aZ P)=false:=by simp [aZ]
theorem R_at {α:Type} {R pre post:List α} {a:α} (e:R=pre++a :: post):R[pre.length]?=some a:=by rw [e]; simp
theorem aqbf {α:Type} {R:List α} {t:Nat} {a d:α} (e:R[t]?=some a):R.getD t d=a:=by simp [List.getD,e]
theorem aqjc (h:List aqu2) (kh:okH h) (k:okW h) (seats:Int) (hse:1 <= seats/\seats <= 6) (R:List aqu1) (hR:aj h 6 (ai h seats) []=R) (F:RF h (ai h seats) R) :
  avn [bt h,.int seats]=some (.lst ((aki (ai h seats) R R.length).map payO)):=by
 have hr:=aqar h kh k seats (by omega) hse.2;rw [hR] at hr;have hf:=aqeu h (by have:=k.len; omega) seats;have hlR:=F.lenR;obtain ⟨ρ',e1,x4,x5,x6,rfl⟩:=aju (inj:=aqsl) (g:=gTp [(gN 4),(gN 5),(gN 6)]) (b:=ak1) (fun pre ρ=>∃ x4 x5 x6:Option O,ρ=[some (.sh (bt h)),some (.sh (.int seats)),some (.sh (aZ (aqsp (ai h seats) R pre.length))),some (.lst ((aki (ai h seats) R pre.length).map payO)),x4,x5,x6]) R
  [some (.sh (bt h)),some (.sh (.int seats)),some (.sh (aZ (ai h seats))),some (.lst []),none,none,none] ⟨none,none,none,by simp [az0,aki]⟩ (by
   rintro pre a post ρ e ⟨x4,x5,x6,rfl⟩;have ha:=R_at e;have hpl:pre.length < 6:=by have:=(List.getElem?_eq_some_iff.mp ha).1; omega
   obtain ⟨l1,l2⟩:=F.len _ _ ha;obtain ⟨b1,b2⟩:=F.bd _ _ ha;have hc:=aqks (l1.trans l2.symm) b1 b2;have hs:=aJd (ai h seats) R _ _ ha;have hlen:(pre++[a]).length=pre.length + 1:=by simp
   have er:aqj7 (ai h seats) R pre.length=(a.1,aqtd (aqsp (ai h seats) R pre.length) a.2.2):=by unfold aqj7; rw [aqbf ha]
   rw [hlen,hs,aqdo,er];have hll:(aki (ai h seats) R pre.length).length < 100000:=by simp [aki]; omega
   have hh:=k.len;generalize aki (ai h seats) R pre.length=W at *;generalize aqsp (ai h seats) R pre.length=P at *;obtain ⟨c,r,Q⟩:=a;simp only at l2 hc b2 ⊢;have hP:P.length <= 100000:=by omega
   have hQ:Q.length <= 100000:=by omega
   have hg:gTp [(gN 4),(gN 5),(gN 6)] (aqsl (c,r,Q)) [some (.sh (bt h)),some (.sh (.int seats)),some (.sh (aZ P)),some (.lst (W.map payO)),x4,x5,x6]=some [some (.sh (bt h)),some (.sh (.int seats)),some (.sh (aZ P)),some (.lst (W.map payO)),some (.sh (.int c)),some (.sh (frD r)),some (.sh (aZ Q))]:=rfl;have ho:aqcg [none,none] (aqt7 2) (aqt7 6) (aqt4 [(geN 0),(geN 1)]) qT (oE (aA 2 avp (gd (aqt7 0) (gd (aqt7 1) aqty)))) [none,none,some (aZ P),none,some (.int c),none,some (aZ Q)]=some (ow ((aqtd P Q).map frD)):=by
    simp [aqcg,aZ,aqu4,hP,hQ,mkD,hc,ow,-map_map]
   have im:aqst [O.sh (.int c),ow ((aqtd P Q).map frD)]=true:=by simp [aqi9]
   simp only [aqu6,hg];simp [ak1,ho,im,aqi9,aqt5,aqu4,hll,payO,aqel])
 have hd:D.lst (R.map aqsl)=azb R:=rfl;simp [avn,aqsi,ini,aXv,hf,hr,azb,aqtu,aqu4,ow,e1,-map_map]
def Good (t D:Nat) (P:List Rat):Prop:=0 < D/\D < 2 ^ (80 * t + 1)/\∀ q∈P,aqu3 D q/\0 <= q/\q <= ((t * 2 ^ 80:Nat):Rat)
theorem aqh2 {h:List aqu2} (k:okW h) {P:List Rat} (hl:P.length=h.length) {t D:Nat} (hg:Good t D P) (ht:t <= 18) {c:Int} (hc:c∈ak h) {N:Int} (hN:0 < N) {r:Rat} (e:akj h P c N=some r) :
  ∃ V:Nat,0 < V/\Good (t + 1) (V * D) (ajo h P c r)/\aqu3 (V * D) r/\0 < r:=by
 have hs:azu t P:=⟨D,hg⟩;obtain ⟨_,⟨i,hi,hri⟩,hr0,V,v0,v1,vo⟩:=av6 k hl hs ht hc hN e;obtain ⟨d1,d2,d3⟩:=hg;have hbD:aqtp h P c ∣ D:=aqa4 fun q hq=>(d3 q (aW2 hl hq)).1.den;have ov:aqu3 (V * D) r:=vo.dvd (Nat.mul_dvd_mul_left V hbD);refine ⟨V,v0,⟨mul_pos v0 d1,?_,fun q hq=>?_⟩,ov,hr0⟩
 ·have:V * D < 2 ^ 77 * 2 ^ (80 * t + 1):=Nat.mul_lt_mul'' (lt_of_le_of_lt v1 (by decide)) d2
  rw [<- pow_add] at this;exact lt_of_lt_of_le this (pow_le_pow_right (by decide) (by omega))
 ·have hle:((t * 2 ^ 80:Nat):Rat) <= (((t + 1) * 2 ^ 80:Nat):Rat):=by exact_mod_cast mul_le_mul_right _ (le_succ t)
  obtain ⟨j,hj,rfl⟩:=List.mem_map.mp hq;have hj':=List.mem_range.mp hj;obtain ⟨o1,o2,o3⟩:=d3 _ (aR hj');have o1':aqu3 (V * D) (pAt P j):=o1.dvd ⟨V,mul_comm _ _⟩;split
  ·refine ⟨o1'.sub (o1'.mn ov),?_,?_⟩ <;> grind
  ·exact ⟨o1',o2,Rat.le_trans o3 hle⟩
theorem aKh (P:List Rat) (row:aqu1) (R:List aqu1) (n:Nat):aki P (row :: R) (n + 1)=(row.1,aqtd P row.2.2) :: aki row.2.2 R n:=by
 unfold aki;rw [List.range_succ_eq_map,map_cons,map_map];congr 1
theorem aqkt {P Q:List Rat} {i:Nat} (hi:i < P.length):pAt (aqtd P Q) i=pAt P i - pAt Q i:=by
 unfold aqtd;exact aqeq _ hi
theorem aZm {h:List aqu2} (k:okW h) (hN:0 < aqs9 h):∀ (n:Nat) (P:List Rat) (ch:List Int) (t D:Nat),P.length=h.length->Good t D P->t + n <= 18 ->
  ∃ D',D ∣ D'/\0 < D'/\D' < 2 ^ (80 * (t + n) + 1)/\∀ e∈aki P (aj h n P ch) (aj h n P ch).length,Good (t + n) D' e.2
 | 0,P,ch,t,D,hl,hg,ht=>⟨D,Nat.dvd_refl _,hg.1,hg.2.1,by simp [aj,aki]⟩
 | n + 1,P,ch,t,D,hl,hg,ht=>by
  cases ho:aY (aQ h P ch) with
  | none =>
   have e:aj h (n + 1) P ch=[]:=by simp only [aj,ho]
   rw [e];exact ⟨D,Nat.dvd_refl _,hg.1,lt_of_lt_of_le hg.2.1 (pow_le_pow_right (by decide) (by omega)),by simp [aki]⟩
  | some o =>
   have e:aj h (n + 1) P ch=(o.1,o.2,ajo h P o.1 o.2) :: aj h n (ajo h P o.1 o.2) (ch++[o.1]):=by simp only [aj,ho]
   obtain ⟨w1,w2,w3⟩:=avk (aj0 ho);obtain ⟨V,v0,g1,o1,r0⟩:=aqh2 k hl hg (by omega) w1 hN w3;obtain ⟨D',g2,g3,g4,g5⟩:=aZm k hN n (ajo h P o.1 o.2) (ch++[o.1]) (t + 1) (V * D) (by rw [aVk]; exact hl) g1 (by omega);have e2:t + 1 + n=t + (n + 1):=by omega
   rw [e2] at g4 g5;refine ⟨D',dvd_trans ⟨V,mul_comm _ _⟩ g2,g3,g4,fun en hen=>?_⟩;rw [e,length_cons,aKh] at hen;rcases List.mem_cons.mp hen with rfl | hen
   ·refine ⟨g3,g4,fun q hq=>?_⟩
    obtain ⟨j,hj,rfl⟩:=List.mem_map.mp hq;have hj':=List.mem_range.mp hj;obtain ⟨p1,p2,p3⟩:=hg.2.2 _ (aR hj');have p1':aqu3 D' (pAt P j):=p1.dvd (dvd_trans ⟨V,mul_comm _ _⟩ g2);have r1':aqu3 D' o.2:=o1.dvd g2;have hle:((t * 2 ^ 80:Nat):Rat) <= (((t + (n + 1)) * 2 ^ 80:Nat):Rat):=by exact_mod_cast mul_le_mul_right _ (Nat.le_add_right t (n + 1))
    rw [aZq hj'];split
    ·have e1:pAt P j - (pAt P j - min (pAt P j) o.2)=min (pAt P j) o.2:=by grind
     rw [e1];exact ⟨p1'.mn r1',by grind,by grind⟩
    ·have e1:∀ x:Rat,x - x=0:=fun x=>by grind
     rw [e1];exact ⟨avf D' 0,Rat.le_refl,by grind⟩
   ·exact g5 en hen
theorem aYs {i:Nat}:∀ (n:Nat) (R:List aqu1) (P:List Rat),n <= R.length->(∀ t row,R[t]?=some row->i < (aqsp P R t).length)->pAt P i - ((aki P R n).map fun e=>pAt e.2 i).sum=pAt (aqsp P R n) i
 | 0,R,P,_,_=>by rw [az0]; simp [aki]; grind
 | n + 1,[],_,h,_=>by simp at h
 | n + 1,row :: R,P,hn,hl=>by
  have h0:i < P.length:=by have:=hl 0 row rfl; rwa [az0] at this
  have ih:=aYs (i:=i) n R row.2.2 (by simpa using hn) fun t r e=>hl (t + 1) r (by simpa using e);rw [aKh,map_cons,sum_cons];show _=pAt (aqsp row.2.2 R n) i;rw [<- ih];simp only [aqkt h0];grind
theorem aD {l:List Nat} {f g:Nat->Rat} (h:∀ i∈l,f i=g i):az l f=az l g:=by
 unfold az;rw [map_congr_left h]
structure Paper (h:List aqu2) (seats:Int) (pp:List Ent) (E:List Rat):Prop where
 ok:PaperOk h 7 pp
 pays:PaysR h seats pp
 left:∀ i,i < h.length->(seats:Rat) - (pp.map fun e=>pAt e.2 i).sum=pAt E i
 lenE:E.length=h.length
 szE:azu 7 E
 part:∀ pre post:List Ent,pp=pre++post->∀ i,i < h.length->Bd 2000 2000 ((seats:Rat) - (pre.map fun e=>pAt e.2 i).sum)
theorem aqiv {s t:Nat} {P:List Rat} (h:azu s P) (hst:s <= t):azu t P:=by
 obtain ⟨D,d1,d2,d3⟩:=h;exact ⟨D,d1,lt_of_lt_of_le d2 (pow_le_pow_right (by decide) (by omega)),fun q hq=>⟨(d3 q hq).1,(d3 q hq).2.1,Rat.le_trans (d3 q hq).2.2 (by exact_mod_cast mul_le_mul_right _ hst)⟩⟩
theorem aqjz (h:List aqu2) {c:Int} (hc:c∈ak h):0 <= c/\c <= 5:=by
 have:=(awf h).subset hc
 simp [six] at this;omega
theorem aqet {h:List aqu2} {seats:Int} {i:Nat} (hi:i < h.length):pAt (ai h seats) i=(seats:Rat):=by
 simp [pAt,ai,hi]
theorem aWz {h:List aqu2} (kh:okH h) (k:okW h) (hne:h ≠ []) (seats:Int) (hse:1 <= seats/\seats <= 6) (R:List aqu1) (hR:aj h 6 (ai h seats) []=R) (F:RF h (ai h seats) R) :
  ∃ E,Paper h seats (aki (ai h seats) R R.length) E:=by
 have hN:=aj3 k hne;have hl:(ai h seats).length=h.length:=by simp [ai]
 obtain ⟨D0,dd0⟩:=ajs h (seats:=seats) (by omega) hse.2;obtain ⟨D,_,d1,d2,d3⟩:=aZm k hN 6 (ai h seats) [] 1 D0 hl dd0 (by decide);have hs:=ajs h (seats:=seats) (by omega) hse.2;have hlc:(aKy h []).length <= 6:=le_trans (length_filter_le _ _) (aP h);obtain ⟨r1,r2,r3⟩:=azl k 6 (ai h seats) [] 1 ⟨hl,hs⟩ (by decide) hlc;obtain ⟨nd,ndl⟩:=ajm (h:=h) 6 (ai h seats) [];rw [hR] at d3 r1 r2 r3 nd ndl;have hlR:=F.lenR;have hmap:(aki (ai h seats) R R.length).map (·.1)=R.map (·.1):=by
  apply ext_getElem
  ·simp [aki]
  ·intro t h1 h2
   have ht:t < R.length:=by simpa using h2
   simp [aki,aqj7,ht]
 have mem:∀ e∈aki (ai h seats) R R.length,∃ t row,R[t]?=some row/\e=(row.1,aqtd (aqsp (ai h seats) R t) row.2.2):=by
  intro e he;obtain ⟨t,ht,rfl⟩:=List.mem_map.mp he;have e':=getElem?_eq_getElem (List.mem_range.mp ht);exact ⟨t,_,e',by unfold aqj7; rw [aqbf e']⟩
 have lft:∀ i,i < h.length->(seats:Rat) - ((aki (ai h seats) R R.length).map fun e=>pAt e.2 i).sum=pAt (aqsp (ai h seats) R R.length) i:=fun i hi=>by
  rw [<- aqet (h:=h) (seats:=seats) hi];exact aYs R.length R (ai h seats) (le_refl _) fun t row e=>by rw [(F.len t row e).1]; exact hi
 refine ⟨aqsp (ai h seats) R R.length,⟨fun e he=>?_,by rw [hmap]; exact nd,fun e he=>?_,⟨D,d1,d2,fun q hq=>?_⟩,by simp [aki]; exact hlR⟩,⟨fun e he i hi hb=>?_,fun e he=>?_,fun i hi=>?_,fun c hc hn=>?_⟩,lft,r2.len,aqiv r2.size (by omega),fun pre post e i hi=>?_⟩
 ·obtain ⟨t,row,er,rfl⟩:=mem e he
  exact aqjz h (r1 t row er).2.liked
 ·obtain ⟨t,row,er,rfl⟩:=mem e he
  simp [aqtd,(F.len t row er).1]
 ·obtain ⟨e,he,hq⟩:=List.mem_flatMap.mp hq
  exact (d3 e he).2.2 q hq
 ·obtain ⟨t,row,er,rfl⟩:=mem e he
  obtain ⟨a,b⟩:=r1 t row er;have hi':i < (aqsp (ai h seats) R t).length:=by rw [a.len]; exact hi
  show pAt (aqtd _ _) i=0;rw [aqkt hi',b.paid,aZq hi'];have hb:lkB h i row.1=false:=hb;rw [hb,if_neg Bool.false_ne_true];grind
 ·obtain ⟨t,row,er,rfl⟩:=mem e he
  obtain ⟨a,b⟩:=r1 t row er;have ht:1 + t <= 18:=by have:=(List.getElem?_eq_some_iff.mp er).1; omega
  obtain ⟨rs,_⟩:=av6 k a.len a.size ht b.liked hN b.rate;rw [<- rs];unfold aqsf pays;refine aD fun i hi=>?_;have hi1:=av h [row.1] i hi;have hi':i < (aqsp (ai h seats) R t).length:=by rw [a.len]; exact hi1
  have hb:lkB h i row.1=true:=by
   rw [aQ2] at hi;exact (List.mem_filter.mp hi).2
  show (wAt h i:Rat) * pAt (aqtd _ _) i=_;rw [aqkt hi',b.paid,aZq hi',if_pos hb];grind
 ·rw [lft i hi]; exact r2.nonneg i
 ·rw [hmap] at hn
  have rn:=r3 c hc (by simpa using hn)
  have:=aVg k r2.len r2.size (by omega) hc hN rn
  rw [aD (g:=fun i=>(wAt h i:Rat) * pAt (aqsp (ai h seats) R R.length) i) fun i hi=>by rw [lft i (av h [c] i hi)]];exact this
 ·have hpl:pre.length <= R.length:=by have:=congrArg List.length e; simp [aki] at this; omega
  have ep:pre=aki (ai h seats) R pre.length:=by
   have:pre=(aki (ai h seats) R R.length).take pre.length:=by rw [e]; simp
   rw [this];simp only [aki,<- map_take,List.take_range,length_map,List.length_range]
  have hs2:=aYs (i:=i) pre.length R (ai h seats) hpl fun t row e=>by rw [(F.len t row e).1]; exact hi
  rw [<- ep,aqet hi] at hs2;rw [hs2];have pk:PurOk h (1 + pre.length) (aqsp (ai h seats) R pre.length):=by
   by_cases hz:pre.length < R.length
   ·exact (r1 _ _ (getElem?_eq_getElem hz)).1
   ·rw [show pre.length=R.length by omega]; exact r2
  exact (pk.size.bd (by omega) (aR (by rw [pk.len]; exact hi))).mono (by decide) (by decide)
theorem aqh1 {h:List aqu2} (kh:okH h) (k:okW h) (hne:h ≠ []) (seats:Int) (hse:1 <= seats/\seats <= 6) (G:List (Int × Rat × List Rat)) (hG:aj2 h seats 6 (List.replicate h.length 0) []=G) (mem:List Int) (hm:∀ c,c∈mem ↔ c∈G.map (·.1)) (s f:List Int) (hs:s.Sublist six) (hf:f∈aqki s mem):aYu h seats (s.length:Int) (aqt1 h mem s f)=false:=by
 generalize hP0:List.replicate h.length (0:Rat)=P0 at hG;have hl0:P0.length=h.length:=by rw [<- hP0]; simp
 have hz0:∀ q∈P0,q=(0:Rat):=fun q hq=>by rw [<- hP0] at hq; exact List.eq_of_mem_replicate hq
 have hP:∀ q∈P0,(0:Rat) <= q:=fun q hq=>by rw [hz0 q hq]; exact Rat.le_refl
 have hN0:0 <= aqs9 h:=(aZh k).1;have hsum0:∀ c,aqsf h P0 c=0:=by
  intro c;unfold aqsf
  have:∀ l:List Nat,(∀ i∈l,i < P0.length)->az l (fun i=>(wAt h i:Rat) * pAt P0 i)=0:=by
   intro l
   induction l with
   | nil=>intro _; rfl
   | cons i l ih =>
    intro hi;rw [aq,ih fun j m=>hi j (by simp [m]),hz0 _ (aR (hi i (by simp)))];grind
  exact this _ fun i hi=>by have:=av h [c] i hi; omega
 have hinv:∀ c∈ak h,c ∉ ([]:List Int)->aqsf h P0 c <= (aqs9 h:Rat):=fun c _ _=>by
  rw [hsum0]; exact_mod_cast hN0
 have hrows:=awh k seats 6 P0 [] hl0 hP hinv;have hnd:=aZw k seats 6 hl0 hP hinv (ch:=[]);have hfull:=aXj (h:=h) seats 6 P0 [] (by simp; omega);have hle:=aY0 (h:=h) seats 6 P0 [];rw [hG] at hrows hnd hfull hle;cases hb:aYu h seats (s.length:Int) (aqt1 h mem s f) with
 | false=>rfl
 | true =>
  exfalso;have hb':=hb;simp only [aYu,Bool.and_eq_true,Bool.not_eq_true',decide_eq_false_iff_not,decide_eq_true_eq] at hb';obtain ⟨hgne,hbig⟩:=hb';have h2:(f.length:Int)=aYo s mem:=by simpa using (List.mem_filter.mp hf).2
  have h3:aYo s mem <= (s.length:Int) - 1:=by unfold aYo; split <;> omega
  have hflt:f.length < s.length:=by omega
  have hsn:s.Nodup:=azm (List.Pairwise.sublist hs av3);generalize hgg:aqt1 h mem s f=g at *;have hgs:g.Sublist (List.range h.length):=by
   rw [<- hgg];exact List.filter_sublist.trans filter_sublist
  have hga:∀ i∈g,i∈aqtw h s:=fun i hi=>by rw [<- hgg] at hi; exact (List.mem_filter.mp hi).1
  have hgf:∀ i∈g,∀ c∈mlk h mem i,c∈f:=fun i hi c hc=>by
   rw [<- hgg] at hi;exact aj1.mp (List.all_eq_true.mp (List.mem_filter.mp hi).2 c hc)
  have lkA:∀ i c,i < h.length->lkB h i c=has (h.getD i (0,[])).2 c:=fun i c hi=>by
   unfold lkB;rw [getElem?_eq_getElem hi,aqv hi];simp [atB,aj7]
  have hlk:∀ i∈g,∀ c∈s,lkB h i c=true:=fun i hi c hc=>by
   rw [lkA i c (av h s i (hga i hi))];exact awp (hga i hi) c hc
  have hin:∀ i∈g,∀ c∈G.map (·.1),lkB h i c=true->c∈f:=fun i hi c hc hl=>by
   rw [lkA i c (av h s i (hga i hi))] at hl;exact hgf i hi c (aqb5.mpr ⟨(hm c).mpr hc,hl⟩)
  rcases hfull with hfull | hfull
  ·
   have hlen:(G.length:Int)=seats:=by
    rcases hle with e | e
    ·rw [e] at hfull; simp at hfull; omega
    ·simp at hfull e; omega
   have hNpos:0 < aqs9 h:=by
    rw [aKc]
    have:=aWf k (g:=List.range h.length) (by simpa using hne) (fun i hi=>List.mem_range.mp hi)
    omega
   have hNr:az (List.range h.length) (fun i=>(wAt h i:Rat))=(aqs9 h:Rat):=by rw [<- aqc0,<- aKc]
   have getG:∀ (t:Nat) (c:Int) (x:Rat),(G.map fun r=>(r.1,r.2.1))[t]?=some (c,x)->∃ Q,G[t]?=some (c,x,Q):=by
    intro t c x e;rw [getElem?_map] at e;cases hq:G[t]? with
    | none=>rw [hq] at e; cases e
    | some r =>
     rw [hq] at e;simp only [Option.map_some,Option.some.injEq,Prod.mk.injEq] at e;exact ⟨r.2.2,by rw [<- e.1,<- e.2]⟩
   have hfst:(G.map fun r=>(r.1,r.2.1)).map (·.1)=G.map (·.1):=by rw [map_map]; rfl
   have main:=aQd (n:=h.length) (w:=fun i=>(wAt h i:Rat)) (lk:=lkB h) (fun i=>by exact_mod_cast k.at0 i) (by rw [hNr]; exact_mod_cast hNpos)
    (G.map fun r=>(r.1,r.2.1)) (by rw [hfst]; exact hnd) (fun t i=>pAt (aJ1 P0 G t) i)
    (fun i hi=>hz0 _ (aR (by omega)))
    (fun t i ht hi=>by
     simp only [length_map] at ht;cases t with
     | zero=>exact hP _ (aR (by show i < P0.length; omega))
     | succ t =>
      have e:=getElem?_eq_getElem (l:=G) (i:=t) (by omega);obtain ⟨r1,r2,r3,r4,_⟩:=hrows t _ _ _ e;have e2:aJ1 P0 G (t + 1)=au h (aJ1 P0 G t) ((G[t]).1,(G[t]).2.1):=by
       simp only [aJ1,e,Option.map_some,getD_some];exact r3
      show 0 <= pAt (aJ1 P0 G (t + 1)) i;rw [e2];exact aQ1 r1 r4 _ (aR (by rw [aXt,r2]; exact hi)))
    (fun q hq=>by
     obtain ⟨r,hr,rfl⟩:=List.mem_map.mp hq;obtain ⟨t,ht,rfl⟩:=getElem_of_mem hr;exact (hrows t _ _ _ (getElem?_eq_getElem ht)).2.2.2.1)
    (fun t c x e i hi=>by
     obtain ⟨Q,eQ⟩:=getG t c x e;obtain ⟨r1,r2,r3,r4,_⟩:=hrows t c x Q eQ;have e2:aJ1 P0 G (t + 1)=au h (aJ1 P0 G t) (c,x):=by
      simp only [aJ1,eQ,Option.map_some,getD_some];exact r3
     show pAt (aJ1 P0 G (t + 1)) i=if lkB h i c=true then 0 else pAt (aJ1 P0 G t) i + x
     rw [e2,aqbu (by rw [r2]; exact hi),aqen hi])
    (fun t c x e=>by
     obtain ⟨Q,eQ⟩:=getG t c x e;obtain ⟨r1,r2,r3,r4,r5,r6,r7,r8,r9⟩:=hrows t c x Q eQ;rw [hNr];exact (aWi h (aJ1 P0 G t) c x).trans r8)
    (fun t c x e d hd=>by
     obtain ⟨Q,eQ⟩:=getG t c x e;obtain ⟨r1,r2,r3,r4,r5,r6,r7,r8,r9⟩:=hrows t c x Q eQ;rw [hNr];show az (aqtw h [d]) (fun i=>(wAt h i:Rat) * (pAt (aJ1 P0 G t) i + x)) <= _;rw [aWi h (aJ1 P0 G t) d x]
     by_cases hdl:d∈ak h
     ·refine r9 d hdl (by simp) fun hm=>?_
      obtain ⟨r,hr,e⟩:=List.mem_map.mp hm;exact hd (r.1,r.2.1) (List.mem_map.mpr ⟨r,List.mem_of_mem_take hr,rfl⟩) e
     ·have he:aqtw h [d]=[]:=by
       refine List.filter_eq_nil_iff.mpr fun i hi hb=>?_;have hl:=List.mem_range.mp hi;rw [getElem?_eq_getElem hl] at hb;have hb':has h[i].2 d=true:=by simpa [atB,aj7] using hb
       have hd6:d∈six:=kh.mem (getElem_mem hl) (aj1.mp hb');exact hdl (List.mem_filter.mpr ⟨hd6,List.any_eq_true.mpr ⟨h[i],getElem_mem hl,hb'⟩⟩)
      have h0:aqsf h (aJ1 P0 G t) d=0:=by unfold aqsf; rw [he]; rfl
      have h1:(wG h (aqtw h [d]):Rat)=0:=by rw [he]; rfl
      rw [h0,h1]
      have:(0:Rat) <= (aqs9 h:Rat):=by exact_mod_cast hN0
      grind)
    (by simp; omega)
    s hsn (by omega) f hflt g hgs hlk (fun i hi q hq hl=>by
     obtain ⟨r,hr,rfl⟩:=List.mem_map.mp hq;exact hin i hi r.1 (List.mem_map.mpr ⟨r,hr,rfl⟩) hl)
   rw [hNr,<- aqc0,length_map] at main;have e1:((G.length:Nat):Rat)=(seats:Rat):=by rw [<- axa,hlen]
   rw [e1] at main;have e2:((seats * wG h g:Int):Rat)=(seats:Rat) * (wG h g:Rat):=by simp
   have e3:(((s.length:Int) * aqs9 h:Int):Rat)=(s.length:Rat) * (aqs9 h:Rat):=by simp [axa]
   rw [<- e2,<- e3] at main
   have:=Rat.intCast_lt_intCast.mp main
   omega
  ·
   obtain ⟨i,hi⟩:=List.exists_mem_of_ne_nil _ hgne;have hil:=av h s i (hga i hi)
   have:s.length <= f.length:=aK hsn fun c hc=>by
    have hl:=hlk i hi c hc;have hl':=hl;rw [lkA i c hil,aqv hil] at hl';have hcl:c∈ak h:=List.mem_filter.mpr ⟨hs.subset hc,List.any_eq_true.mpr ⟨h[i],getElem_mem hil,hl'⟩⟩;rcases hfull c hcl with m | m
    ·simp at m
    ·exact hin i hi c m hl
   omega
theorem lkA {h:List aqu2} {i:Nat} (hi:i < h.length) (c:Int):lkB h i c=has (h.getD i (0,[])).2 c:=by
 unfold lkB;rw [getElem?_eq_getElem hi,aqv hi];simp [atB,aj7]
def aqlz (pp:List Ent):List (Int × (Nat->Rat)):=pp.map fun e=>(e.1,pAt e.2)
theorem aqap (pp:List Ent) (i:Nat):MB.tot (aqlz pp) i=(pp.map fun e=>pAt e.2 i).sum:=by
 unfold MB.tot aqlz;rw [map_map];rfl
theorem aZ0 {h:List aqu2} {seats:Int} {s:List Int} {g:List Nat} (hc:aja h seats s g=true):aYu h seats (s.length:Int) g=true:=by
 obtain ⟨q1,q2,q3,q4⟩:=akc.mp hc;simp only [aYu,Bool.and_eq_true,Bool.not_eq_true',decide_eq_false_iff_not,decide_eq_true_eq];exact ⟨q2,q4⟩
section
variable {h:List aqu2} (kh:okH h) (kw:okW h) (hne:h ≠ []) {seats:Int} (hse:1 <= seats/\seats <= 6)
include kh kw hne hse
theorem aqgc {t:Nat} {pp:List Ent} (ok:PaperOk h t pp) (py:PaysL h seats pp) (le:lessP h seats pp) {mem:List Int} (hm:∀ c,c∈mem ↔ c∈pp.map (·.1)):aWc h seats mem=none:=by
 cases hf:aWc h seats mem with
 | none=>rfl
 | some s =>
  exfalso;obtain ⟨f,_,f1,f2,_,f4⟩:=aVl hf;obtain ⟨q1,q2,q3,q4⟩:=akc.mp f2;have hsub:=aws f4;have h2:(f.length:Int)=aYo s mem:=by simpa using (List.mem_filter.mp f1).2
  have h3:aYo s mem <= (s.length:Int) - 1:=by unfold aYo; split <;> omega
  have hN:=aj3 kw hne;have rsum:∀ e∈pp,az (List.range h.length) (fun i=>(wAt h i:Rat) * pAt e.2 i)=(aqs9 h:Rat):=fun e he=>by
   rw [<- py.price e he];unfold aqsf;rw [aQ2]
   have:∀ l:List Nat,(∀ i∈l,i < h.length)->az l (fun i=>(wAt h i:Rat) * pAt e.2 i)=az (l.filter fun i=>lkB h i e.1) fun i=>(wAt h i:Rat) * pAt e.2 i:=by
    intro l
    induction l with
    | nil=>intro _; rfl
    | cons i l ih =>
     intro hl;rw [aq,ih fun j hj=>hl j (by simp [hj]),filter_cons];cases hb:lkB h i e.1 with
     | true=>rw [if_pos rfl,aq]
     | false =>
      rw [if_neg Bool.false_ne_true,py.zero e he i (hl i (by simp)) hb];grind
   exact this _ fun i hi=>List.mem_range.mp hi
  have main:=aQ6 (n:=h.length) (w:=fun i=>(wAt h i:Rat)) (lk:=lkB h) (k:=(seats:Rat)) (N:=(aqs9 h:Rat)) (fun i=>by exact_mod_cast kw.at0 i) (by exact_mod_cast hN) (aqlz pp)
   (by have : (aqlz pp).map (·.1) = pp.map (·.1) := by unfold aqlz; rw [map_map]; rfl
       rw [this]; exact ok.nodup)
   (fun q hq i hi=>by
    obtain ⟨e,he,rfl⟩:=List.mem_map.mp hq;exact aJb (av9 ok he) _ (aR (by rw [ok.len e he]; exact hi)))
   (fun q hq i hi hlk=>by
    obtain ⟨e,he,rfl⟩:=List.mem_map.mp hq;exact py.zero e he i hi hlk)
   (fun q hq=>by
    obtain ⟨e,he,rfl⟩:=List.mem_map.mp hq;exact rsum e he)
   (fun i hi=>by
    rw [aqap]
    have:=py.left i hi
    grind)
   (fun d hd=>by
    have hdn:d ∉ pp.map (·.1):=fun hm=>by
     obtain ⟨e,he,e2⟩:=List.mem_map.mp hm;exact hd (e.1,pAt e.2) (List.mem_map.mpr ⟨e,he,rfl⟩) e2
    by_cases hd6:d∈ak h
    ·have:=le d hd6 hdn
     rw [aQ2] at this;simp only [aqap];exact this
    ·have he:=aVo kh hd6
     rw [aQ2] at he;rw [he,ajt]
     exact_mod_cast hN)
   s (azm (List.Pairwise.sublist hsub av3)) (List.length_pos_iff.mpr q1) f (by omega) (aqt1 h mem s f) (List.filter_sublist.trans filter_sublist) (fun i hi c hc=>by
    have hi':=q3 i hi;rw [lkA (av h s i hi') c];exact awp hi' c hc) (fun i hi q hq hlk=>by
    obtain ⟨e,he,rfl⟩:=List.mem_map.mp hq;have hi':=q3 i hi;have hlk:lkB h i e.1=true:=hlk;rw [lkA (av h s i hi')] at hlk;exact aj1.mp (List.all_eq_true.mp (List.mem_filter.mp hi).2 e.1 (aqb5.mpr ⟨(hm e.1).mpr (List.mem_map.mpr ⟨e,he,rfl⟩),hlk⟩)))
  rw [<- aqc0] at main;have e2:((seats * wG h (aqt1 h mem s f):Int):Rat)=(seats:Rat) * (wG h (aqt1 h mem s f):Rat):=by simp
  have e3:(((s.length:Int) * aqs9 h:Int):Rat)=(s.length:Rat) * (aqs9 h:Rat):=by simp [axa]
  rw [<- e2,<- e3] at main
  have:=Rat.intCast_lt_intCast.mp main
  omega
theorem aqh0 {mem:List Int} (hm:∀ c,c∈mem ↔ c∈(aj2 h seats 6 (List.replicate h.length 0) []).map (·.1)):aWc h seats mem=none:=by
 cases hf:aWc h seats mem with
 | none=>rfl
 | some s =>
  exfalso;obtain ⟨f,_,f1,f2,_,f4⟩:=aVl hf
  have:=aqh1 kh kw hne seats hse _ rfl mem hm s f (aws f4) f1
  rw [aZ0 f2] at this;cases this
theorem aqfb:aqk2 h seats (aqs h seats)=none:=by
 refine List.find?_eq_none.mpr fun s hs hc=>?_;obtain ⟨q1,q2,q3,q4⟩:=akc.mp hc;have bf:=aZ1 kh kw hne seats hse;have nd:((cn h seats).map (·.1)).Nodup:=by rw [ajc]; exact (ajm 6 _ _).1
 have:=aqc8 kh kw hne seats hse (cn h seats) (by rw [ajc]) s (aws hs) q1 (aqt2 h (aqs h seats) s) (List.filter_sublist.trans filter_sublist) (fun i hi c hc=>by
  rw [lkA (av h s i (q3 i hi))];exact awp (q3 i hi) c hc) (fun i hi=>by
  have h1:((mlk h (aqs h seats) i).length:Int) < (s.length:Int):=by simpa using (List.mem_filter.mp hi).2
  have h2:(((cn h seats).map (·.1)).filter fun c=>lkB h i c).length <= (mlk h (aqs h seats) i).length:=aK (List.Nodup.sublist filter_sublist nd) fun c hc=>by
   obtain ⟨c1,c2⟩:=List.mem_filter.mp hc;rw [lkA (av h s i (q3 i hi))] at c2;exact aqb5.mpr ⟨bf.2.2.1 c c1,c2⟩
  omega)
 rw [aZ0 hc] at this;cases this
end
theorem aqlw (l:List Int):oDs (l.map fun n=>O.sh (.int n))=some (l.map .int):=aqt (fun p=>by simp) l
theorem aqlb (l:List Int):oD (.lst (l.map fun n=>O.sh (.int n)))=some (ag l):=by rw [aJ9,aqlw]; rfl
theorem pay_L (pp:List Ent):oD (.lst (pp.map payO))=some (aqsq pp):=by
 rw [aJ9,aqt (fun p=>aqok p) pp]; rfl
theorem aqbk (pp:List Ent):aji (geN 0) qT (oE (f2 dIx (aqt7 0) (fC (.int 0)))) (pp.map aqtc) [none]=some ((pp.map (·.1)).map fun n=>O.sh (.int n)):=by
 have:=al (inj:=aqtc) (g:=geN 0) (c:=qT) (e:=oE (f2 dIx (aqt7 0) (fC (.int 0)))) (fun ρ=>∃ d,ρ=[d]) (fun _=>true) (fun r=>O.sh (.int r.1)) pp [none] ⟨_,rfl⟩ (by
  rintro r _ ρ ⟨d,rfl⟩
  have:dIx (aqtc r) (.int 0)=some (.int r.1):=aqcn
  exact ⟨_,rfl,⟨_,rfl⟩,rfl,fun _=>by simp [this]⟩)
 rw [List.filter_eq_self.mpr (by simp)] at this;rw [this,map_map];rfl
theorem aK8 (R:List aqu1):aji (geN 0) qT (oE (f2 dIx (aqt7 0) (fC (.int 0)))) (R.map aqsl) [none]=some ((R.map (·.1)).map fun n=>O.sh (.int n)):=by
 have:=al (inj:=aqsl) (g:=geN 0) (c:=qT) (e:=oE (f2 dIx (aqt7 0) (fC (.int 0)))) (fun ρ=>∃ d,ρ=[d]) (fun _=>true) (fun r=>O.sh (.int r.1)) R [none] ⟨_,rfl⟩ (by
  rintro r _ ρ ⟨d,rfl⟩
  have:dIx (aqsl r) (.int 0)=some (.int r.1):=aqcn
  exact ⟨_,rfl,⟨_,rfl⟩,rfl,fun _=>by simp [this]⟩)
 rw [List.filter_eq_self.mpr (by simp)] at this;rw [this,map_map];rfl
theorem aqj6 {f:Ent->Rat} {l m:List Ent} (hs:l.Sublist m):(∀ e∈m,0 <= f e)->(l.map f).sum <= (m.map f).sum:=by
 induction hs with
 | slnil=>intro _; exact Rat.le_refl
 | cons a _ ih =>
  intro h;have h1:=ih fun e he=>h e (by simp [he]);have h2:=h a (by simp);rw [map_cons,sum_cons];grind
 | cons_cons a _ ih =>
  intro h;have h1:=ih fun e he=>h e (by simp [he]);rw [map_cons,sum_cons,map_cons,sum_cons];grind
theorem aqn3 (pp:List Ent) (j:Nat):(pp.take j++pp.drop (j + 1)).Sublist pp:=by
 have h1:(pp.drop (j + 1)).Sublist (pp.drop j):=by
  rw [show pp.drop (j + 1)=(pp.drop j).drop 1 by rw [List.drop_drop]];exact List.drop_sublist _ _
 have:=List.Sublist.append (List.Sublist.refl (pp.take j)) h1
 rwa [List.take_append_drop] at this
theorem aqn4 {h:List aqu2} {t:Nat} {pp qq:List Ent} (hs:qq.Sublist pp) (ok:PaperOk h t pp):PaperOk h t qq:=by
 refine ⟨fun e he=>ok.cand e (hs.subset he),List.Nodup.sublist (hs.map _) ok.nodup,fun e he=>ok.len e (hs.subset he),ok.sized.sub fun q hq=>?_,le_trans hs.length_le ok.small⟩;obtain ⟨e,he,hq⟩:=List.mem_flatMap.mp hq;exact List.mem_flatMap.mpr ⟨e,hs.subset he,hq⟩
theorem aqew {h:List aqu2} {t:Nat} {seats:Int} {pp qq:List Ent} (hs:qq.Sublist pp) (ok:PaperOk h t pp) (py:PaysL h seats pp):PaysL h seats qq:=by
 refine ⟨fun e he=>py.zero e (hs.subset he),fun e he=>py.price e (hs.subset he),fun i hi=>?_⟩;have h1:=py.left i hi;have h2:=aqj6 (f:=fun e=>pAt e.2 i) hs fun e he=>aJb (av9 ok he) _ (aR (by rw [ok.len e he]; exact hi));grind
section
variable {h:List aqu2} (kh:okH h) (kw:okW h) (hne:h ≠ []) {seats:Int} (hse:1 <= seats/\seats <= 6)
include kh kw hne hse
theorem aqcj:axr [bt h,.int seats,ag ((aj h 6 (ai h seats) []).map (·.1))]=some (.bl true):=by
 have hh:=kw.len;have hs1:seats.natAbs < 2 ^ 63:=lt_of_le_of_lt (show _ <= 6 by omega) (by decide);have F:=aqg9 kh kw hne seats hse;obtain ⟨E,pa⟩:=aWz kh kw hne seats hse _ rfl F;have pf:=aqjc h kh kw seats hse _ rfl F;have hmap:(aki (ai h seats) (aj h 6 (ai h seats) []) (aj h 6 (ai h seats) []).length).map (·.1)=(aj h 6 (ai h seats) []).map (·.1):=by
  apply ext_getElem
  ·simp [aki]
  ·intro t h1 h2
   have ht:t < (aj h 6 (ai h seats) []).length:=by simpa using h2
   simp [aki,aqj7,ht]
 generalize aki (ai h seats) (aj h 6 (ai h seats) []) (aj h 6 (ai h seats) []).length=pp at *;generalize (aj h 6 (ai h seats) []).map (·.1)=C at *;have pl:PaysL h seats pp:=⟨pa.pays.zero,pa.pays.price,pa.pays.left⟩;obtain ⟨b,pb,pi⟩:=aqhu h kh kw (by decide) pp pa.ok seats hse pl;have hb:b=true:=pi.mpr pa.pays.less;subst hb;have sm:=pa.ok.small;have oP:=pay_L pp;have lp:=aqb6 pp;have hl1:pp.length <= 100000:=by omega
 have hr:∀ m:Nat,aqsm 0 m=(List.range m).map fun (i:Nat)=>D.int (0 + (i:Int)):=fun _=>rfl;obtain ⟨ρ',e3,y3,y4,y5,y6,g3,rfl⟩:=aju (inj:=fun (i:Nat)=>D.int (0 + (i:Int))) (g:=gN 4) (b:=ajf) (fun pre ρ=>∃ y3 y4 y5 y6:Option O,y3.bind oD=some (aqsq pp)/\ρ=[some (.sh (bt h)),some (.sh (.int seats)),some (.sh (ag C)),y3,y4,y5,y6]) (List.range pp.length)
  [some (.sh (bt h)),some (.sh (.int seats)),some (.sh (ag C)),some (.lst (pp.map payO)),none,none,none] ⟨_,_,_,_,by simpa using oP,rfl⟩ (by
   rintro pre j post ρ e ⟨y3,y4,y5,y6,g3,rfl⟩;have ct:aqtm (pp.map aqtc) none (some (j:Int))=(pp.take j).map aqtc:=by rw [aqa0,map_take]
   have cf:aqtm (pp.map aqtc) (some ((j:Int) + 1)) none=(pp.drop (j + 1)).map aqtc:=by
    rw [show (j:Int) + 1=((j + 1:Nat):Int) by simp,aqkv,List.map_drop]
   have hsub:=aqn3 pp j;have cat:aqtj (.lst ((pp.take j).map aqtc)) (.lst ((pp.drop (j + 1)).map aqtc))=some ((pp.take j++pp.drop (j + 1)).map aqtc):=by
    have:(pp.take j++pp.drop (j + 1)).length <= pp.length:=hsub.length_le
    rw [length_append] at this;simp only [aqtj,length_map,aqu4];rw [if_pos (by omega),map_append]
   obtain ⟨b2,pb2,pi2⟩:=aqhu h kh kw (by decide) _ (aqn4 hsub pa.ok) seats hse (aqew hsub pa.ok pl);have over2:b2=true->aWc h seats (awa ((pp.take j++pp.drop (j + 1)).map (·.1)))=none:=fun z=>aqgc kh kw hne hse (aqn4 hsub pa.ok) (aqew hsub pa.ok pl) (pi2.mp z) fun c=>(aqm _).mem_iff;have ql:(pp.take j++pp.drop (j + 1)).length <= 6:=le_trans hsub.length_le sm;generalize hqq:pp.take j++pp.drop (j + 1)=qq at *;have ec:=aqbk qq;have ed:=aqlb (qq.map (·.1));have so:=aZ6 (l:=qq.map (·.1)) (by rw [length_map]; omega);have ov:=aqay h kh (by omega) seats hs1 (awa (qq.map (·.1))) (by rw [ak9,length_map]; exact ql);have isn:=aqk7 (h:=h) (seats:=seats) (mem:=awa (qq.map (·.1)));have lq:=aqb6 qq;have oq:oD (ow (qq.map aqtc))=some (aqsq qq):=by simp [aqsq]
   have fq:fzc (some (ow (qq.map aqtc)))=some (.sh (aqsq qq)):=by simp only [fzc,oq]
   have hl2:(qq.map aqtc).length <= 100000:=by rw [length_map]; omega
   have w1:∀ ds:List D,oD (ow ds)=some (.lst ds):=fun ds=>by simp
   have os:∀ l:List Int,oD (ow (l.map .int))=some (ag l):=fun l=>by simp [ag]
   have fz3:fzc y3=some (.sh (aqsq pp)):=by
    cases y3 with
    | none=>cases g3
    | some o =>
     have g3:oD o=some (aqsq pp):=g3;simp only [fzc,g3]
   generalize awa (qq.map (·.1))=SQ at *;generalize qq.map (·.1)=CQ at *;generalize (pp.take j).map aqtc=A1 at *;generalize (pp.drop (j + 1)).map aqtc=A2 at *;have im:aqsy (qq.map aqtc)=true \/ aqsy (qq.map aqtc)=false:=by cases aqsy (qq.map aqtc) <;> simp
   have eq1:D.lst (qq.map aqtc)=aqsq qq:=rfl;have eq2:D.lst (SQ.map D.int)=ag SQ:=rfl;generalize qq.map aqtc=QE at *;have hgoal:aqu6 (gN 4) ajf (D.int (0 + (j:Int))) [some (.sh (bt h)),some (.sh (.int seats)),some (.sh (ag C)),y3,y4,y5,y6] (fun ρ=>∃ y3 y4 y5 y6:Option O,y3.bind oD=some (aqsq pp)/\ρ=[some (.sh (bt h)),some (.sh (.int seats)),some (.sh (ag C)),y3,y4,y5,y6]):=by
    cases b2 with
    | false =>
     rcases im with im | im <;> simp [im,aqu6,ajf,oSl,ptE,ptN,g3,fz3,lp,ct,cf,cat,w1,aqa,mkD,lq,hl2,aqu4,ec,ed,so,fq,oq,eq1,eq2,pb2,-aJ9]
    | true =>
     have o2:=over2 rfl;rw [o2] at isn;rcases im with im | im <;> simp [im,aqu6,ajf,oSl,ptE,ptN,g3,fz3,lp,ct,cf,cat,w1,aqa,mkD,lq,hl2,aqu4,ec,ed,so,fq,oq,os,eq1,eq2,pb2,ov,isn,-aJ9]
   exact hgoal)
 rw [<- hr] at e3;have ec:=aqbk pp;rw [hmap] at ec;have ed:=aqlb C;have ne:dNe (ag C) (ag C)=some (.bl false):=by simp
 have isn:aqth (.bl true) (.bl true)=some (.bl false):=rfl;have dl:aqtg [aqsq pp]=some (.int (pp.length:Int)):=by simp [aqsq]
 have hz:(-1000000:Int) <= (pp.length:Int)/\(pp.length:Int) <= 1000000:=by omega
 generalize pp.map payO=PO at *;simp [axr,aqsk,aqsi,ini,ak5,pf,oP,pb,isn,aqa,mkD,lp,hl1,aqu4,ec,ed,ne,bForR,dl,hz.1,hz.2,e3,-aJ9]
end
theorem wat0 {h:List aqu2} (kw:okW h):∀ i,0 <= wAt h i:=fun i=>kw.at0 i
theorem aVq {h:List aqu2} (kw:okW h) {seats:Int} (h0:0 <= seats) {mem:List Int} (nd:mem.Nodup) (hf:aqk2 h seats mem=none):aWc h seats mem=none:=by
 cases ho:aWc h seats mem with
 | none=>rfl
 | some s=>exact absurd hf (aqge (wat0 kw) h0 nd ho)
theorem aqgt {h:List aqu2} (kw:okW h) {seats:Int} (h0:0 <= seats) {mem:List Int} (nd:mem.Nodup) (hf:aqk2 h seats mem=none):aqlu h seats mem=none:=by
 cases ho:aqlu h seats mem with
 | none=>rfl
 | some s=>exact absurd (aVq kw h0 nd hf) (aqfz (wat0 kw) h0 ho)
theorem aqcx {h:List aqu2} (kh:okH h) (kw:okW h) {seats:Int} (hse:1 <= seats/\seats <= 6) {mem:List Int} (nd:mem.Nodup) (hm:mem.length <= 6) (c:Int):aqr [bt h,.int seats,ag mem,.int c]=some (.bl true):=by
 have hh:=kw.len;have hs1:seats.natAbs < 2 ^ 63:=lt_of_le_of_lt (show _ <= 6 by omega) (by decide);have fc:aji (geN 0) (qV (f2 dNe (aqt7 0) (aqt7 1))) (oE (aqt7 0)) (mem.map D.int) [none,some (.int c)]=some ((mem.filter fun d=>decide (d ≠ c)).map fun d=>O.sh (.int d)) :=
  al (inj:=D.int) (g:=geN 0) (c:=qV (f2 dNe (aqt7 0) (aqt7 1))) (e:=oE (aqt7 0)) (fun ρ=>∃ d,ρ=[d,some (.int c)]) (fun d=>decide (d ≠ c)) (fun d=>O.sh (.int d)) mem [none,some (.int c)] ⟨_,rfl⟩ (by
   rintro d _ ρ ⟨d',rfl⟩;refine ⟨_,rfl,⟨_,rfl⟩,?_,fun _=>by simp⟩
   simp
   rw [Bool.eq_iff_iff]; simp)
 have nl:(mem.filter fun d=>decide (d ≠ c)).Nodup:=List.Nodup.sublist filter_sublist nd;have ll:(mem.filter fun d=>decide (d ≠ c)).length <= 6:=le_trans (length_filter_le _ _) hm;generalize mem.filter (fun d=>decide (d ≠ c))=L at *;have lo:=aqi4 h kh (by omega) seats hs1 L (by omega);have ov:=aqay h kh (by omega) seats hs1 L ll;have oL:=aqlb L;have iL:aqst (L.map fun n=>O.sh (.int n))=true:=aJ8 (fun _=>by simp) L;have fL':fzc (some (.lst (L.map fun n=>O.sh (.int n))))=some (.sh (ag L)):=by simp only [fzc,oL]
 have lL:∀ l:List Int,aZd [ag l]=some (l.map .int):=fun l=>by simp [aZd,ag]
 have w1:∀ l:List Int,oD (ow (l.map .int))=some (ag l):=fun l=>by simp [ag]
 have lm:akv (ag mem)=some (mem.map .int):=rfl;have hm1:mem.length <= 100000:=by omega
 cases hf:aqk2 h seats L with
 | none =>
  have o1:=aVq kw (by omega) nl hf;have ld:aqgu h seats L=.non:=by unfold aqgu; rw [hf]
  have isO:=aqmw (h:=h) (seats:=seats) (mem:=L);rw [o1] at isO;rw [ld] at lo;have i0:dIs .non .non=some (.bl true):=rfl;simp [aqr,aqsk,aqsi,ini,axi,aqa,mkD,lm,hm1,aqu4,fc,iL,oL,fL',lL,w1,lo,i0,ov,isO,-aJ9]
 | some s =>
  have ld:aqgu h seats L=.tup [ag s,plD (aqt2 h L s)]:=by unfold aqgu; rw [hf]
  rw [ld] at lo;have hc:aja h seats s (aqt2 h L s)=true:=find?_some (p:=fun s=>aja h seats s (aqt2 h L s)) hf;have hss:=aws (List.mem_of_find?_eq_some hf);have hsl:s.length <= 6:=hss.length_le;have gl:=aqeo h L s;have cl:=aXp h seats s (aqt2 h L s) (by omega) (by omega) (by omega) hs1;rw [hc] at cl;have few:∀ i∈aqt2 h L s,((h.getD i (0,[])).2.filter (has L)).length < s.length:=fun i hi=>by
   obtain ⟨g1,g2⟩:=List.mem_filter.mp hi;have hi':=av h s i g1;have h1:((mlk h L i).length:Int) < (s.length:Int):=by simpa using g2
   have hnd:(h.getD i (0,[])).2.Nodup:=by
    rw [aqv hi'];exact (kh _ (getElem_mem hi')).nodup (by decide)
   have h2:((h.getD i (0,[])).2.filter (has L)).length <= (mlk h L i).length:=aK (List.Nodup.sublist filter_sublist hnd) fun x hx=>by
    obtain ⟨x1,x2⟩:=List.mem_filter.mp hx;exact aqb5.mpr ⟨aj1.mp x2,aj1.mpr x1⟩
   omega
  have glt:∀ i∈aqt2 h L s,i < h.length:=fun i hi=>av h s i (List.mem_filter.mp hi).1;have lP:∀ g:List Nat,aZd [plD g]=some (g.map fun (i:Nat)=>D.int (i:Int)):=fun g=>by simp [aZd,plD,ag]
  have w2:∀ g:List Nat,oD (ow (g.map fun (i:Nat)=>D.int (i:Int)))=some (plD g):=fun g=>by simp [plD,ag]
  have i0:dIs (.tup [ag s,plD (aqt2 h L s)]) .non=some (.bl false):=rfl;have dls:aqtg [ag s]=some (.int (s.length:Int)):=by simp [ag]
  have im1:imm (.tup [ag s,plD (aqt2 h L s)])=false:=rfl;have pl:=aqja (aqt2 h L s);obtain ⟨ρ',e3,y8,rfl⟩:=aju (inj:=fun (i:Nat)=>D.int (i:Int)) (g:=gN 8) (b:=axw) (fun pre ρ=>∃ y8:Option O,ρ=[some (.sh (bt h)),some (.sh (.int seats)),some (.sh (ag mem)),some (.sh (.int c)),some (.sh (ag L)),some (.sh (.tup [ag s,plD (aqt2 h L s)])),some (.sh (ag s)),some (.sh (plD (aqt2 h L s))),y8]) (aqt2 h L s)
   [some (.sh (bt h)),some (.sh (.int seats)),some (.sh (ag mem)),some (.sh (.int c)),some (.sh (ag L)),some (.sh (.tup [ag s,plD (aqt2 h L s)])),some (.sh (ag s)),some (.sh (plD (aqt2 h L s))),none] ⟨_,rfl⟩ (by
    rintro pre i post ρ e ⟨y8,rfl⟩;have him:i∈aqt2 h L s:=by rw [e]; simp
    have hi:=glt i him;have ix:=aK0 hi;have x1:dIx (axy h[i]) (.int 1)=some (ag h[i].2):=rfl;have fw:=few i him;rw [aqv hi] at fw;have hl6:h[i].2.length <= 100000:=by
     have:=(kh _ (getElem_mem hi)).length_le
     have e6:six.length=6:=rfl;omega
    have oc:aji (geN 0) (qV (f2 dIn (aqt7 0) (aqt7 1))) (oE (aqt7 0)) (h[i].2.map D.int) [none,some (ag L)]=some ((h[i].2.filter (has L)).map fun c=>O.sh (.int c)):=by
     exact al (inj:=D.int) (g:=geN 0) (c:=qV (f2 dIn (aqt7 0) (aqt7 1))) (e:=oE (aqt7 0)) (fun ρ=>∃ d,ρ=[d,some (ag L)]) (fun c=>has L c) (fun c=>O.sh (.int c)) h[i].2 [none,some (ag L)] ⟨_,rfl⟩ (by
      rintro c _ ρ ⟨d,rfl⟩;exact ⟨_,rfl,⟨_,rfl⟩,by simp,fun _=>by simp⟩)
    have od:=aqlb (h[i].2.filter (has L));have lp:akv (ag h[i].2)=some (h[i].2.map .int):=rfl;generalize h[i].2.filter (has L)=on at *;generalize h[i]=p at *;have dlo:aqtg [ag on]=some (.int (on.length:Int)):=by simp [ag]
    have nge:¬ s.length <= on.length:=by omega
    simp [aqu6,axw,ix,x1,aqa,mkD,lp,hl6,aqu4,oc,od,dlo,dls,nge,-aJ9])
  generalize hG:aqt2 h L s=G at *;simp [aqr,aqsk,aqsi,ini,axi,aqa,mkD,lm,hm1,aqu4,fc,iL,oL,fL',lL,w1,lo,i0,im1,bUnp,gTp,gT,lP,w2,cl,aqtu,pl,e3,-aJ9]
section
variable {ns:List Int} {h:List aqu2} (kh:okH h) (kw:okW h) (hne:h ≠ []) {seats:Int} (hse:1 <= seats/\seats <= 6)
include kh kw hne hse
theorem aqi6 (x1:Option O) (h1:x1.bind oD=some (bt h)) (x6:Option O):∃ ρ,aqfl [some (.sh (ag ns)),x1,some (.sh (.int seats)),some (.sh (ag (aqs h seats))),some (.sh (azb (cn h seats))),some (.sh (azb (axj h seats))),x6,none,none]=some (.rt (.sh (.bl true)) ρ):=by
 have hh:=kw.len;have hs1:seats.natAbs < 2 ^ 63:=lt_of_le_of_lt (show _ <= 6 by omega) (by decide);have bf:=aZ1 kh kw hne seats hse;have nd:(aqs h seats).Nodup:=azm bf.1;have ml:(aqs h seats).length <= 6:=by
  have:=bf.2.2.2
  have:=aP h
  split at * <;> omega
 have lf:=aqfb kh kw hne hse;have of:=aVq kw (by omega) nd lf;have sf:=aqgt kw (by omega) nd lf;have lo:=aqi4 h kh (by omega) seats hs1 (aqs h seats) (by omega);have so:=aqlt h kh (by omega) seats hs1 (aqs h seats) (by omega);have ov:=aqay h kh (by omega) seats hs1 (aqs h seats) ml;have ld:aqgu h seats (aqs h seats)=.non:=by unfold aqgu; rw [lf]
 have sd:aqlv h seats (aqs h seats)=.non:=by unfold aqlv; rw [sf]
 have od:aqdz h seats (aqs h seats)=.non:=by unfold aqdz; rw [of]
 rw [ld] at lo;rw [sd] at so;rw [od] at ov;have lpa:=aqcj kh kw hne hse;have bl:(cn h seats).length <= 6:=by rw [ajc]; exact awc 6 _ _
 have eB:cn h seats=aj h 6 (ai h seats) []:=ajc h seats;rw [<- eB] at lpa;have gr:=aqgz h kh kw seats hse.2;have gl:(aj2 h seats 6 (List.replicate h.length 0) []).length <= 6:=aYz 6 _ _;have og:=aqh0 kh kw hne hse (mem:=awa ((aj2 h seats 6 (List.replicate h.length 0) []).map (·.1))) fun c=>(aqm _).mem_iff;have srt:=aZ6 (l:=(aj2 h seats 6 (List.replicate h.length 0) []).map (·.1)) (by rw [length_map]; omega);have ov2:=aqay h kh (by omega) seats hs1 (awa ((aj2 h seats 6 (List.replicate h.length 0) []).map (·.1))) (by rw [ak9,length_map]; exact gl);have od2:aqdz h seats (awa ((aj2 h seats 6 (List.replicate h.length 0) []).map (·.1)))=.non:=by unfold aqdz; rw [og]
 rw [od2] at ov2;have wo:=fun c=>aqcx kh kw hse nd ml c;generalize aj2 h seats 6 (List.replicate h.length 0) []=G at *;generalize aqs h seats=M at *;generalize cn h seats=B at *;generalize axj h seats=A at *;have fz1:fzc x1=some (.sh (bt h)):=by
  cases x1 with
  | none=>cases h1
  | some o =>
   have h1:oD o=some (bt h):=h1;simp only [fzc,h1]
 have lL:∀ l:List Int,aZd [ag l]=some (l.map .int):=fun l=>by simp [aZd,ag]
 have w1:∀ l:List Int,oD (ow (l.map .int))=some (ag l):=fun l=>by simp [ag]
 have i0:aqth .non .non=some (.bl false):=rfl;have lp:∀ x6:Option O,aqt6 (gN 6) aqbw [.non,.non] [some (.sh (ag ns)),some (.sh (bt h)),some (.sh (.int seats)),some (.sh (ag M)),some (.sh (azb B)),some (.sh (azb A)),x6,none,none]=some (.nx [some (.sh (ag ns)),some (.sh (bt h)),some (.sh (.int seats)),some (.sh (ag M)),some (.sh (azb B)),some (.sh (azb A)),some (.sh .non),none,none]):=fun x6=>by
  rw [aK2 rfl (.inl (by simp [aqbw,i0]; rfl)),aK2 rfl (.inl (by simp [aqbw,i0]; rfl)),aqkh]
 have cB:=aK8 B;have cG:=aK8 G;have lB:akv (azb B)=some (B.map aqsl):=rfl;have lG:akv (azb G)=some (G.map aqsl):=rfl;have e1:B.length <= 100000:=by omega
 have e2:G.length <= 100000:=by omega
 have oB:=aqlb (B.map (·.1));have oG:=aqlb (G.map (·.1));have iB:aqst ((B.map (·.1)).map fun n=>O.sh (.int n))=true:=aJ8 (fun _=>by simp) _;have cut3:aqtm (M.map D.int) none (some 3)=(M.take 3).map .int:=by rw [show (3:Int)=((3:Nat):Int) from rfl,aqa0,map_take]
 have lM:akv (ag M)=some (M.map .int):=rfl;obtain ⟨ρ',e3,y8,rfl⟩:=aju (inj:=D.int) (g:=gN 8) (b:=aqfm) (fun pre ρ=>∃ y8:Option O,ρ=[some (.sh (ag ns)),some (.sh (bt h)),some (.sh (.int seats)),some (.sh (ag M)),some (.sh (azb B)),some (.sh (azb A)),some (.sh .non),some (.lst ((B.map (·.1)).map fun n=>O.sh (.int n))),y8]) (M.take 3)
  [some (.sh (ag ns)),some (.sh (bt h)),some (.sh (.int seats)),some (.sh (ag M)),some (.sh (azb B)),some (.sh (azb A)),some (.sh .non),some (.lst ((B.map (·.1)).map fun n=>O.sh (.int n))),none] ⟨_,rfl⟩ (by
   rintro pre d post ρ e ⟨y8,rfl⟩;have w:=wo d;simp [aqu6,aqfm,w])
 generalize B.map (·.1)=CB at *;generalize awa (G.map (·.1))=SG at *;generalize G.map (·.1)=CG at *;generalize (M.take 3).map D.int=M3 at *;have w3:∀ ds:List D,oD (ow ds)=some (.lst ds):=fun ds=>by simp
 have eq3:∀ l:List Int,D.lst (l.map D.int)=ag l:=fun l=>rfl;apply Exists.intro;simp [aqfl,aqii,aqtu,h1,fz1,lL,w1,lo,so,aqu4,lp,aqa,mkD,lB,lG,e1,e2,cB,cG,iB,oB,oG,ov,i0,lpa,gr,srt,eq3,ov2,oSl,ptE,ptN,lM,cut3,e3,-aJ9];rfl
end
theorem law_true (ns:List Int) (hn:ns.length <= 63):aqi3 [.lst (ns.map .int)]=some (.bl true):=by
 rw [aJh];have k0:aU [ag ns,.int 0]=some (.int (cellOf ns 0)):=aqid ns 0 (by decide);have k1:aU [ag ns,.int 1]=some (.int (cellOf ns 1)):=aqid ns 1 (by decide);generalize cellOf ns 0=c0 at k0;generalize cellOf ns 1=c1 at k1;have u1:=aqll c1;have sl:aqtm (ns.map D.int) (some 2) (some 8)=((ns.take 8).drop 2).map .int:=by
  rw [show (2:Int)=((2:Nat):Int) from rfl,show (8:Int)=((8:Nat):Int) from rfl,aqkw,List.map_drop,map_take]
 have hcl:((ns.take 8).drop 2).length <= 6:=by simp; omega
 generalize (ns.take 8).drop 2=cells at sl hcl;have hp:=aqmx cells (aqc1 c1) (by omega);have hok:=aqkc cells (aqc1 c1);obtain ⟨up,ul⟩:=aqip c1;have hpo:=aqgx cells (aqc1 c1) up;have P72:P18 + 1 < 2 ^ 72:=by decide
 have hle:∀ p∈cells.map (aKn (aqc1 c1)),p.1 <= P18 + 1:=fun p m=>by
  obtain ⟨n,_,rfl⟩:=List.mem_map.mp m;show ak8 n (aqc1 c1) <= P18 + 1;unfold ak8;split
  ·have:=Int.fmod_lt_of_pos (n.fdiv 7) aqby
   omega
  ·have h5:=Int.fmod_lt_of_pos ((akk n).fdiv 192) (b:=6) (by decide)
   have h6:=Int.fmod_nonneg_of_pos ((akk n).fdiv 192) (b:=6) (by decide)
   have:aqc1 c1 * (1 + ((akk n).fdiv 192).fmod 6) <= P17 * 6:=Int.mul_le_mul ul (by omega) (by omega) (Int.le_of_lt aqft)
   exact Int.le_trans this (by decide)
 have hlen:(cells.map (aKn (aqc1 c1))).length <= 6:=by simp; omega
 generalize cells.map (aKn (aqc1 c1))=h at hp hlen hok hpo hle;have m6:aqtf (.int c0) (.int 6)=some (.int (c0.fmod 6)):=ax2 (by decide);have s0:=Int.fmod_nonneg_of_pos c0 (b:=6) (by decide);have s1:=Int.fmod_lt_of_pos c0 (b:=6) (by decide);generalize hseat:1 + c0.fmod 6=seats;have h6:1 <= seats/\seats <= 6:=by omega
 have eh:dEq (bt h) (.lst [])=some (.bl (decide (h=[]))):=aqh8 h []
 by_cases ch:h=[]
 ·rw [decide_eq_true ch] at eh
  have mP:aqtf (.int c1) (.int P18)=some (.int (c1.fmod P18)):=ax2 aqnu;have p0:=Int.fmod_nonneg_of_pos c1 aqby;have p1:=Int.fmod_lt_of_pos c1 aqby;have ef:D.lst [.tup [.int (1 + c1.fmod P18),.lst [.int 0,.int 1,.int 2]]]=bt [(1 + c1.fmod P18,[0,1,2])]:=rfl;have kh:okH [(1 + c1.fmod P18,[0,1,2])]:=fun p m=>by simp at m; rw [m]; show ([0,1,2]:List Int).Sublist six; decide
  have kw:okW [(1 + c1.fmod P18,[0,1,2])]:=⟨fun p m=>by simp at m; subst m; show 1 <= 1 + c1.fmod P18; omega,fun p m=>by simp at m; subst m; show 1 + c1.fmod P18 < 2 ^ 72; omega,by simp⟩;have hb:=aqfc _ kh kw seats ⟨by omega,h6.2⟩;have ho:oD (O.lst [O.tup [.sh (.int (1 + c1.fmod P18)),ow [.int 0,.int 1,.int 2]]])=some (bt [(1 + c1.fmod P18,[0,1,2])]):=by simp [ef]
  have hfz:fzc (some (O.lst [O.tup [.sh (.int (1 + c1.fmod P18)),ow [.int 0,.int 1,.int 2]]]))=some (.sh (bt [(1 + c1.fmod P18,[0,1,2])])):=by simp only [fzc,ho]
  obtain ⟨ρ',l4⟩:=aqi6 (ns:=ns) kh kw (by simp) h6 (some (.sh (bt [(1 + c1.fmod P18,[0,1,2])]))) rfl none;generalize hh:([(1 + c1.fmod P18,[0,1,2])]:List aqu2)=h1 at *;generalize aqs h1 seats=M at *;generalize cn h1 seats=B at *;generalize axj h1 seats=A at *;have im1:imm (ag M)=false:=by simp [ag]
  simp [aqi3,aqsk,aqsi,ini,b_law,k0,k1,oSl,ptE,sl,aJh,u1,hp,m6,hseat,aqu4,eh,pw18,mP,aqfs,ho,hfz,hb,bUnp,gTp,gT,l4,-aJ9]
 ·have kw:okW h:=⟨hpo,fun p m=>by have:=hle p m; omega,by omega⟩
  have hb:=aqfc _ hok kw seats ⟨by omega,h6.2⟩;obtain ⟨ρ',l4⟩:=aqi6 (ns:=ns) hok kw ch h6 (some (.sh (bt h))) rfl none;generalize aqs h seats=M at *;generalize cn h seats=B at *;generalize axj h seats=A at *;simp [aqi3,aqsk,aqsi,ini,b_law,k0,k1,oSl,ptE,sl,aJh,u1,hp,m6,hseat,aqu4,eh,ch,hb,bUnp,gTp,gT,l4,-aJ9]
end L_k80
namespace L_k80
open PySem PySem.Spec PyProof.Rows L2 DL
def top (i:Nat):Stmt:=PySem.Challenge.pw_pursebench_k80_whole_all_judges_agree.main.body.getD i (.Pass ⟨0,0,0,0⟩)
abbrev aks:Stmt:=top 63
abbrev aw5:Stmt:=top 64
abbrev aw6:Stmt:=top 66
abbrev aw4:Stmt:=top 65
abbrev aw7:Stmt:=top 62
abbrev azy:Stmt:=top 31
abbrev aqdn:Stmt:=top 17
abbrev aqdj:Stmt:=top 20
abbrev awy:Stmt:=top 1
abbrev akp:Stmt:=top 7
abbrev aWw:Stmt:=top 6
abbrev aWu:Stmt:=top 5
abbrev aVd:Stmt:=top 13
abbrev ax9:Stmt:=top 18
abbrev aw0:Stmt:=top 19
abbrev awz:Stmt:=top 2
abbrev aqdg:Stmt:=top 14
abbrev aqj1:Stmt:=top 28
abbrev aqdi:Stmt:=top 4
abbrev aWt:Stmt:=top 33
abbrev aqdh:Stmt:=top 16
abbrev azv:Stmt:=top 30
abbrev aqj4:Stmt:=top 29
abbrev aWr:Stmt:=top 32
abbrev aza:Stmt:=top 37
abbrev aVc:Stmt:=top 3
abbrev aqj0:Stmt:=top 22
abbrev aqdf:Stmt:=top 25
abbrev aqj2:Stmt:=top 15
abbrev ax7:Stmt:=top 26
abbrev aqdk:Stmt:=top 23
abbrev ave:Stmt:=top 36
abbrev aqdm:Stmt:=top 35
abbrev ax8:Stmt:=top 43
abbrev aqdl:Stmt:=top 39
abbrev aVe:Stmt:=top 45
abbrev aJv:Stmt:=top 42
abbrev aJt:Stmt:=top 40
abbrev axo:Stmt:=top 44
abbrev akq:Stmt:=top 46
abbrev avd:Stmt:=top 41
abbrev aJu:Stmt:=top 49
abbrev aJw:Stmt:=top 12
abbrev azx:Stmt:=top 58
abbrev aw3:Stmt:=top 60
abbrev azw:Stmt:=top 59
abbrev aJy:Stmt:=top 57
abbrev aJx:Stmt:=top 56
abbrev aw2:Stmt:=top 51
abbrev aj5:Stmt:=top 53
abbrev aw1:Stmt:=top 54
abbrev aWs:Stmt:=top 55
abbrev aq4:Stmt:=top 52
abbrev aqj3:Stmt:=top 50
abbrev akr:Stmt:=top 68
abbrev aWv:Stmt:=top 24
abbrev azz:Stmt:=top 67
abbrev aqj5:Stmt:=top 69
structure Txt (mg:Str->Option Value):Prop where
 z_abs:mg "abs"=none
 z_all:mg "all"=none
 z_bool:mg "bool"=none
 z_enumerate:mg "enumerate"=none
 z_int:mg "int"=none
 z_isinstance:mg "isinstance"=none
 z_len:mg "len"=none
 z_list:mg "list"=none
 z_min:mg "min"=none
 z_range:mg "range"=none
 z_set:mg "set"=none
 z_sorted:mg "sorted"=none
 z_sum:mg "sum"=none
 z_tuple:mg "tuple"=none
 z_zip:mg "zip"=none
 c_LAST_CANDIDATE:∃ t,mg "LAST_CANDIDATE"=some (.int 5 t)
section
variable {P:Program} {w:World} {K:Frag} {mg:Str->Option Value} {base:Heap}
theorem aKg:FnScope ["number"] ["number"] (defScope aks):=fsc
theorem aKr {f:Addr} {fd:FuncData} (F:Fun K "_law_marks" "_law_marks" aks f fd) (T:Txt mg) :FnOk P w K mg base CX0 1 f fd ["number"] (spD K 1 axs) :=
 FnOk.d (fnO F aKg (k:=0) (n:=1) (m:=1) (b:=ak6) rfl rfl fun cdv A outer s H E hr =>
  (af (ip (DO.m _ (ss (cl:=_) (N':=["candidate","number"]) (js:=[none,some 0]) (by o_reads) (by exact (pi_range1 rfl T.z_range (aa ah ae))) (fun _ _ _ q=>aqf6 q) (by exact fun _ _ _ _ _=>(am 0 (pgc 0))) (by exact fun _ _ _ _ _=>(aq8 (aV (akg hr.units) akf (aqh op_modN ax0 (aqh avi avg (ab 1 (pv 1)) (aqw (DO.de (azd (aqf3 (ns:=[1,2,4,8,16,32]) rfl))) (ab 0 (pv 0)) (fun _ _=>rfl))) ah) ah (nomark _)))) (by exact fun _ _ _ _ _=>(DE.o (ab 0 (pv 0)))))))))
theorem ajl:FnScope ["number","unit","cell","marks","weight"] ["number","unit"] (defScope aw5):=fsc
theorem aYj {f:Addr} {fd:FuncData} (F:Fun K "_law_pile" "_law_pile" aw5 f fd) (T:Txt mg) (G__law_marks:Fn P w K mg base 1 "_law_marks" ["number"] (spD K 1 axs)):FnOk P w K mg base CX0 2 f fd ["number","unit"] (spD K 2 aqe) :=
 FnOk.d (fnO F ajl (k:=1) (n:=2) (m:=5) (b:=axk) rfl rfl fun cdv A outer s H E hr =>
  (ac (br 2 (ps_set (i:=2) ajl.nd rfl (.inl rfl) (DE.m _ (aqh op_modN ax0 (aqh aM aL (ab 0 (pv 0)) ah) ah))))
   (ac (br 3 (ps_set (i:=3) ajl.nd rfl (.inl rfl) (DE.m _ (aG G__law_marks (hm hr) rfl (aa (ab 2 (pv 2)) ae)))))
   (ac (aka (aV (akg hr.units) akf (aqh op_modN ax0 (aqh avi avg (ab 2 (pv 2)) ah) ah) ah (nomark _)) (af (br 3 (ps_set (i:=3) ajl.nd rfl (.inl rfl) (DO.m _ (aqna (ab 3 (pv 3)) aVx (aQg ah)))))) aF)
   (ac (br 4 (ps_set (i:=4) ajl.nd rfl (.inl rfl) (DE.m _ (aqh aM aL (ab 1 (pv 1)) (aqh avj avh ah (aqh op_modN ax0 (aqh avi avg (ab 2 (pv 2)) ah) ah))))))
   (ac (aka (aV (akg hr.units) akf (aqh op_modN ax0 (aqh avi avg (ab 2 (pv 2)) ah) ah) ah (nomark _)) (af (br 4 (ps_set (i:=4) ajl.nd rfl (.inl rfl) (DE.m _ (aqh avj avh ah (aqh op_modN ax0 (aqh avi avg (ab 0 (pv 0)) ah) (aqh op_pow aqe0 ah ah))))))) aF)
   (af (ip (DE.m _ (aQh (aa (ab 4 (pv 4)) (aa (ab 3 (pv 3)) ae))))))))))))
theorem aWp:FnScope ["cells","unit"] ["cells","unit"] (defScope aw6):=fsc
theorem aYk {f:Addr} {fd:FuncData} (F:Fun K "_law_heap" "_law_heap" aw6 f fd) (T:Txt mg) (G__law_pile:Fn P w K mg base 2 "_law_pile" ["number","unit"] (spD K 2 aqe)):FnOk P w K mg base CX0 3 f fd ["cells","unit"] (spD K 2 azr) :=
 FnOk.d (fnO F aWp (k:=2) (n:=2) (m:=2) (b:=aQq) rfl rfl fun cdv A outer s H E hr =>
  (af (ip (DO.m _ (ss (cl:=_) (N':=["number","unit"]) (js:=[none,some 1]) (by o_reads) (by exact (pi_list (ab 0 (pv 0)))) (fun _ _ _ q=>ao q) (by exact fun _ _ _ _ _=>(am 0 (pgc 0))) (by exact fun _ _ _ _ _=>aC) (by exact fun _ _ _ _ _=>(DE.o (aG G__law_pile (hm hr) rfl (aa (ab 0 (pv 0)) (aa (ab 1 (pv 1)) ae))))))))))
theorem aWo:FnScope ["number"] ["number"] (defScope aw4):=fsc
theorem aYi {f:Addr} {fd:FuncData} (F:Fun K "_law_unit" "_law_unit" aw4 f fd) (T:Txt mg) :FnOk P w K mg base CX0 1 f fd ["number"] (spD K 1 azq) :=
 FnOk.d (fnO F aWo (k:=0) (n:=1) (m:=1) (b:=aQp) rfl rfl fun cdv A outer s H E hr =>
  (af (ip (DE.m _ (aqw (DO.de (azd (aa ah (aa (aqh avj avh ah (aqh op_modN ax0 (aqh avi avg (ab 0 (pv 0)) ah) ah)) (aa (aqh avj avh ah (aqh op_modN ax0 (aqh avi avg (ab 0 (pv 0)) ah) (aqh op_pow aqe0 ah ah))) ae))))) (aqh op_modN ax0 (ab 0 (pv 0)) ah) (fun _ _=>rfl))))))
theorem aWq:FnScope ["script","k"] ["script","k"] (defScope aw7):=fsc
theorem aYl {f:Addr} {fd:FuncData} (F:Fun K "_law_cell" "_law_cell" aw7 f fd) (T:Txt mg) :FnOk P w K mg base CX0 1 f fd ["script","k"] (spD K 2 aU) :=
 FnOk.d (fnO F aWq (k:=0) (n:=2) (m:=2) (b:=azt) rfl rfl fun cdv A outer s H E hr =>
  (ac (aka (aV op_lt aqe1 (ab 1 (pv 1)) (aw call_len_seq aH rfl T.z_len az5 (aa (ab 0 (pv 0)) ae)) (nomark _)) (af (ip (DE.m _ (aqw (ab 0 (pv 0)) (ab 1 (pv 1)) (fun _ _=>rfl))))) aF)
   (ac (aka (aV (akg hr.units) akf (ab 0 (pv 0)) (DO.de (azd ae)) (nomark _)) (af (ip (DE.m _ (aqh avj avh (aqh aM aL (aqh aM aL (ab 1 (pv 1)) (ab 1 (pv 1))) ah) (aqh aM aL ah (ab 1 (pv 1))))))) aF)
   (af (ip (DE.m _ (aqh op_modN ax0 (aqh aM aL (aqh avj avh (aqh avj avh (aqw (ab 0 (pv 0)) (aqh op_modN ax0 (ab 1 (pv 1)) (aw call_len_seq aH rfl T.z_len az5 (aa (ab 0 (pv 0)) ae))) (fun _ _=>rfl)) (aqh aM aL (aqh aM aL (ab 1 (pv 1)) (ab 1 (pv 1))) ah)) ah) ah) ah)))))))
theorem aX7:FnScope ["heap","seats"] ["heap","seats"] (defScope azy):=fsc
theorem aZb {f:Addr} {fd:FuncData} (F:Fun K "first_purses" "first_purses" azy f fd) (T:Txt mg) :FnOk P w K mg base CX0 1 f fd ["heap","seats"] (spD K 2 aB) :=
 FnOk.d (fnO F aX7 (k:=0) (n:=2) (m:=2) (b:=axh) rfl rfl fun cdv A outer s H E hr =>
  (af (ip (DO.m _ (ss (cl:=_) (N':=["pile","seats"]) (js:=[none,some 1]) (by o_reads) (by exact (pi_list (ab 0 (pv 0)))) (fun _ _ _ q=>ao q) (by exact fun _ _ _ _ _=>(am 0 (pgc 0))) (by exact fun _ _ _ _ _=>aC) (by exact fun _ _ _ _ _=>(DE.o (aQh (aa (ab 1 (pv 1)) (aa ah ae))))))))))
theorem aqiz:FnScope ["one","other"] ["one","other"] (defScope aqdn):=fsc
theorem aqjq {f:Addr} {fd:FuncData} (F:Fun K "below" "below" aqdn f fd) (T:Txt mg) :FnOk P w K mg base CX0 1 f fd ["one","other"] (spD K 2 aQx) :=
 FnOk.d (fnO F aqiz (k:=0) (n:=2) (m:=2) (b:=aqfp) rfl rfl fun cdv A outer s H E hr =>
  (af (ip (DE.m _ (avw op_lt aqe1 (aqh aM aL (aqw (ab 0 (pv 0)) ah (fun _ _=>rfl)) (aqw (ab 1 (pv 1)) ah (fun _ _=>rfl))) (aqh aM aL (aqw (ab 1 (pv 1)) ah (fun _ _=>rfl)) (aqw (ab 0 (pv 0)) ah (fun _ _=>rfl))) (nomark _))))))
theorem aZ9:FnScope ["offers","found","offer"] ["offers"] (defScope aqdj):=fsc
theorem aqjm {f:Addr} {fd:FuncData} (F:Fun K "least" "least" aqdj f fd) (T:Txt mg) (G_below:Fn P w K mg base 1 "below" ["one","other"] (spD K 2 aQx)):FnOk P w K mg base CX0 2 f fd ["offers"] (spD K 1 avq) :=
 FnOk.d (fnO F aZ9 (k:=1) (n:=1) (m:=3) (b:=aqfk) rfl rfl fun cdv A outer s H E hr =>
  (ac (br 1 (ps_set (i:=1) aZ9.nd rfl (.inl rfl) (DE.m _ akz)))
   (ac (avu PassesOwn.never rfl (ab 0 (pv 0)) (aN 2 (pg_name (i:=2) aZ9.nd rfl (.inl rfl))) (af (aka (DW.dt (aqko (aV aqjh aqjf (ab 1 (pv 1)) akz (nomark _)) (aY5 (azs (aG G_below (hm hr) rfl (aa (aqw (ab 2 (pv 2)) ah (fun _ _=>rfl)) (aa (aqw (ab 1 (pv 1)) ah (fun _ _=>rfl)) ae))))))) (af (br 1 (ps_set (i:=1) aZ9.nd rfl (.inl rfl) (DE.m _ (ab 2 (pv 2)))))) aF)))
   (af (ip (DE.m _ (ab 1 (pv 1))))))))
theorem aWk:FnScope ["heap"] ["heap"] (defScope awy):=fsc
theorem aYc {f:Addr} {fd:FuncData} (F:Fun K "weight_of" "weight_of" awy f fd) (T:Txt mg) :FnOk P w K mg base CX0 1 f fd ["heap"] (spD K 1 aI) :=
 FnOk.d (fnO F aWk (k:=0) (n:=1) (m:=1) (b:=aQi) rfl rfl fun cdv A outer s H E hr =>
  (af (ip (DE.m _ (aw (aV1 rfl) aV0 rfl T.z_sum aql2 (aa (DO.de (ss (cl:=_) (N':=["weight","marks"]) (js:=[none,none]) (by o_reads) (by exact (pi_list (ab 0 (pv 0)))) (fun _ _ _ q=>ao q) (by exact fun _ _ _ _ _=>(aXn rfl (aqk (am 0 (pgc 0)) (aqk (am 1 (pgc 1)) aky)))) (by exact fun _ _ _ _ _=>aC) (by exact fun _ _ _ _ _=>(DE.o (ab 0 (pv 0)))))) ae))))))
theorem aKe:FnScope ["pile","some"] ["pile","some"] (defScope akp):=fsc
theorem aKo {f:Addr} {fd:FuncData} (F:Fun K "likes_each" "likes_each" akp f fd) (T:Txt mg) :FnOk P w K mg base CX0 1 f fd ["pile","some"] (spD K 2 aq0) :=
 FnOk.d (fnO F aKe (k:=0) (n:=2) (m:=2) (b:=ak2) rfl rfl fun cdv A outer s H E hr =>
  (af (ip (DE.m _ (aw (ax4 rfl) ax3 rfl T.z_all aK9 (aa (DO.de (ss (cl:=_) (N':=["candidate","pile"]) (js:=[none,some 0]) (by o_reads) (by exact (pi_list (ab 1 (pv 1)))) (fun _ _ _ q=>ao q) (by exact fun _ _ _ _ _=>(am 0 (pgc 0))) (by exact fun _ _ _ _ _=>aC) (by exact fun _ _ _ _ _=>(DE.o (avw (aYb (aqem hr)) aW9 (ab 0 (pv 0)) (aqw (ab 1 (pv 1)) ah (fun _ _=>rfl)) (by rfl)))))) ae))))))
theorem aqg3:FnScope ["heap","some"] ["heap","some"] (defScope aWw):=fsc
theorem aqgn {f:Addr} {fd:FuncData} (F:Fun K "agreed" "agreed" aWw f fd) (T:Txt mg) (G_likes_each:Fn P w K mg base 1 "likes_each" ["pile","some"] (spD K 2 aq0)):FnOk P w K mg base CX0 2 f fd ["heap","some"] (spO K 2 aj6) :=
 fnO F aqg3 (k:=1) (n:=2) (m:=2) (b:=aqae) rfl rfl fun cdv A outer s H E hr =>
  (af (ip (DO.m _ (ss (cl:=_) (N':=["place","pile","some"]) (js:=[none,none,some 1]) (by o_reads) (by exact (aqht rfl T.z_enumerate (ab 0 (pv 0)))) (fun _ _ _ q=>aqbo q) (by exact fun _ _ _ _ _=>(aXn rfl (aqk (am 0 (pgc 0)) (aqk (am 1 (pgc 1)) aky)))) (by exact fun _ _ _ _ _=>(aq8 (azs (aG G_likes_each (hm hr) rfl (aa (ab 1 (pv 1)) (aa (ab 2 (pv 2)) ae)))))) (by exact fun _ _ _ _ _=>(DE.o (ab 0 (pv 0))))))))
theorem aqg1:FnScope ["heap","candidate"] ["heap","candidate"] (defScope aWu):=fsc
theorem aqgl {f:Addr} {fd:FuncData} (F:Fun K "likers" "likers" aWu f fd) (T:Txt mg) (G_agreed:Fn P w K mg base 2 "agreed" ["heap","some"] (spO K 2 aj6)):FnOk P w K mg base CX0 3 f fd ["heap","candidate"] (spO K 2 aX) :=
 fnO F aqg1 (k:=2) (n:=2) (m:=2) (b:=aqac) rfl rfl fun cdv A outer s H E hr =>
  (af (ip (DO.m _ (aKa G_agreed (hm hr) rfl (aa (ab 0 (pv 0)) (aa (DO.de (azd (aa (ab 1 (pv 1)) ae))) ae))))))
theorem azk:FnScope ["one","other","greater","rest","remainder"] ["one","other"] (defScope aVd):=fsc
theorem aqe3 {f:Addr} {fd:FuncData} (F:Fun K "divisor" "divisor" aVd f fd) (T:Txt mg) :FnOk P w K mg base CX0 1 f fd ["one","other"] (spD K 2 axc) :=
 FnOk.d (fnO F azk (k:=0) (n:=2) (m:=5) (b:=aV6) rfl rfl fun cdv A outer s H E hr =>
  (ac (br 2 (ps_set (i:=2) azk.nd rfl (.inl rfl) (DE.m _ (aw call_abs aqbt rfl T.z_abs aqnn (aa (ab 0 (pv 0)) ae)))))
   (ac (br 3 (ps_set (i:=3) azk.nd rfl (.inl rfl) (DE.m _ (aw call_abs aqbt rfl T.z_abs aqnn (aa (ab 1 (pv 1)) ae)))))
   (ac (aY6 PassesOwn.never (aV (aqgh hr.units) aqgg (ab 3 (pv 3)) ah (nomark _)) (ac (br 4 (ps_set (i:=4) azk.nd rfl (.inl rfl) (DE.m _ (aqh op_modN ax0 (ab 2 (pv 2)) (ab 3 (pv 3))))))
   (ac (br 2 (ps_set (i:=2) azk.nd rfl (.inl rfl) (DE.m _ (ab 3 (pv 3)))))
   (af (br 3 (ps_set (i:=3) azk.nd rfl (.inl rfl) (DE.m _ (ab 4 (pv 4)))))))))
   (af (ip (DE.m _ (ab 2 (pv 2)))))))))
theorem aql:FnScope ["fractions","bottom","top","own"] ["fractions"] (defScope ax9):=fsc
theorem aJ6 {f:Addr} {fd:FuncData} (F:Fun K "common_bottom" "common_bottom" ax9 f fd) (T:Txt mg) (G_divisor:Fn P w K mg base 1 "divisor" ["one","other"] (spD K 2 axc)):FnOk P w K mg base CX0 2 f fd ["fractions"] (spD K 1 ay) :=
 FnOk.d (fnO F aql (k:=1) (n:=1) (m:=4) (b:=azg) rfl rfl fun cdv A outer s H E hr =>
  (ac (br 1 (ps_set (i:=1) aql.nd rfl (.inl rfl) (DE.m _ ah)))
   (ac (avu PassesOwn.never rfl (ab 0 (pv 0)) (aK4 rfl (aqg (aN 2 (pg_name (i:=2) aql.nd rfl (.inl rfl))) (aqg (aN 3 (pg_name (i:=3) aql.nd rfl (.inl rfl))) aQ0))) (af (br 1 (ps_set (i:=1) aql.nd rfl (.inl rfl) (DE.m _ (aqh aM aL (ab 1 (pv 1)) (aqh avi avg (ab 3 (pv 3)) (aG G_divisor (hm hr) rfl (aa (ab 1 (pv 1)) (aa (ab 3 (pv 3)) ae))))))))))
   (af (ip (DE.m _ (ab 1 (pv 1))))))))
theorem aWm:FnScope ["bottom","fractions"] ["bottom","fractions"] (defScope aw0):=fsc
theorem aYe {f:Addr} {fd:FuncData} (F:Fun K "tops_over" "tops_over" aw0 f fd) (T:Txt mg) :FnOk P w K mg base CX0 1 f fd ["bottom","fractions"] (spD K 2 aS) :=
 FnOk.d (fnO F aWm (k:=0) (n:=2) (m:=2) (b:=aQk) rfl rfl fun cdv A outer s H E hr =>
  (af (ip (DO.m _ (ss (cl:=_) (N':=["top","own","bottom"]) (js:=[none,none,some 0]) (by o_reads) (by exact (pi_list (ab 1 (pv 1)))) (fun _ _ _ q=>ao q) (by exact fun _ _ _ _ _=>(aXn rfl (aqk (am 0 (pgc 0)) (aqk (am 1 (pgc 1)) aky)))) (by exact fun _ _ _ _ _=>aC) (by exact fun _ _ _ _ _=>(DE.o (aqh aM aL (ab 0 (pv 0)) (aqh avi avg (ab 2 (pv 2)) (ab 1 (pv 1)))))))))))
theorem aWl:FnScope ["heap","places"] ["heap","places"] (defScope awz):=fsc
theorem aYd {f:Addr} {fd:FuncData} (F:Fun K "weight_at" "weight_at" awz f fd) (T:Txt mg) :FnOk P w K mg base CX0 1 f fd ["heap","places"] (spD K 2 aqp) :=
 FnOk.d (fnO F aWl (k:=0) (n:=2) (m:=2) (b:=aQj) rfl rfl fun cdv A outer s H E hr =>
  (af (ip (DE.m _ (aw (aV1 rfl) aV0 rfl T.z_sum aql2 (aa (DO.de (ss (cl:=_) (N':=["place","heap"]) (js:=[none,some 0]) (by o_reads) (by exact (pi_list (ab 1 (pv 1)))) (fun _ _ _ q=>ao q) (by exact fun _ _ _ _ _=>(am 0 (pgc 0))) (by exact fun _ _ _ _ _=>aC) (by exact fun _ _ _ _ _=>(DE.o (aqw (aqw (ab 1 (pv 1)) (ab 0 (pv 0)) (fun _ _=>rfl)) ah (fun _ _=>rfl)))))) ae))))))
theorem aWn:FnScope ["top","bottom","common"] ["top","bottom"] (defScope aqdg):=fsc
theorem aqjj {f:Addr} {fd:FuncData} (F:Fun K "share" "share" aqdg f fd) (T:Txt mg) (G_divisor:Fn P w K mg base 1 "divisor" ["one","other"] (spD K 2 axc)):FnOk P w K mg base CX0 2 f fd ["top","bottom"] (spD K 2 avl) :=
 FnOk.d (fnO F aWn (k:=1) (n:=2) (m:=3) (b:=aqfh) rfl rfl fun cdv A outer s H E hr =>
  (ac (aka (aV (akg hr.units) akf (ab 1 (pv 1)) ah (nomark _)) (af aqkp) aF)
   (ac (br 2 (ps_set (i:=2) aWn.nd rfl (.inl rfl) (DE.m _ (aG G_divisor (hm hr) rfl (aa (ab 0 (pv 0)) (aa (ab 1 (pv 1)) ae))))))
   (ac (aka (aV op_lt aqe1 (ab 1 (pv 1)) ah (nomark _)) (af (br 2 (ps_set (i:=2) aWn.nd rfl (.inl rfl) (DE.m _ (de_un un_neg aqhl (ab 2 (pv 2))))))) aF)
   (af (ip (DE.m _ (aQh (aa (aqh avi avg (ab 0 (pv 0)) (ab 2 (pv 2))) (aa (aqh avi avg (ab 1 (pv 1)) (ab 2 (pv 2))) ae))))))))))
theorem akh:FnScope ["heap","purses","candidate","price","places","bottom","tops","rest","weight","top","place"] ["heap","purses","candidate","price"] (defScope aqj1):=fsc
theorem aqmh {f:Addr} {fd:FuncData} (F:Fun K "rate" "rate" aqj1 f fd) (T:Txt mg) (G_likers:Fn P w K mg base 3 "likers" ["heap","candidate"] (spO K 2 aX)) (G_common_bottom:Fn P w K mg base 2 "common_bottom" ["fractions"] (spD K 1 ay)) (G_tops_over:Fn P w K mg base 1 "tops_over" ["bottom","fractions"] (spD K 2 aS)) (G_weight_at:Fn P w K mg base 1 "weight_at" ["heap","places"] (spD K 2 aqp)) (G_share:Fn P w K mg base 2 "share" ["top","bottom"] (spD K 2 avl)):FnOk P w K mg base CX0 4 f fd ["heap","purses","candidate","price"] (spD K 4 aYq) :=
 FnOk.d (fnO F akh (k:=3) (n:=4) (m:=11) (b:=aqhg) rfl rfl fun cdv A outer s H E hr =>
  (ac (br 4 (ps_set (i:=4) akh.nd rfl (.inl rfl) (DO.m _ (aKa G_likers (hm hr) rfl (aa (ab 0 (pv 0)) (aa (ab 2 (pv 2)) ae))))))
   (ac (br 5 (ps_set (i:=5) akh.nd rfl (.inl rfl) (DE.m _ (aG G_common_bottom (hm hr) rfl (aa (DO.de (ss (cl:=_) (N':=["place","purses"]) (js:=[none,some 1]) (by o_reads) (by exact (pi_list (ab 4 (pv 4)))) (fun _ _ _ q=>ao q) (by exact fun _ _ _ _ _=>(am 0 (pgc 0))) (by exact fun _ _ _ _ _=>aC) (by exact fun _ _ _ _ _=>(DE.o (aqw (ab 1 (pv 1)) (ab 0 (pv 0)) (fun _ _=>rfl)))))) ae)))))
   (ac (br 6 (ps_set (i:=6) akh.nd rfl (.inl rfl) (DE.m _ (aG G_tops_over (hm hr) rfl (aa (ab 5 (pv 5)) (aa (DO.de (ss (cl:=_) (N':=["place","purses"]) (js:=[none,some 1]) (by o_reads) (by exact (pi_list (ab 4 (pv 4)))) (fun _ _ _ q=>ao q) (by exact fun _ _ _ _ _=>(am 0 (pgc 0))) (by exact fun _ _ _ _ _=>aC) (by exact fun _ _ _ _ _=>(DE.o (aqw (ab 1 (pv 1)) (ab 0 (pv 0)) (fun _ _=>rfl)))))) ae))))))
   (ac (br 7 (ps_set (i:=7) akh.nd rfl (.inl rfl) (DE.m _ (aqh aM aL (ab 3 (pv 3)) (ab 5 (pv 5))))))
   (ac (br 8 (ps_set (i:=8) akh.nd rfl (.inl rfl) (DE.m _ (aG G_weight_at (hm hr) rfl (aa (ab 0 (pv 0)) (aa (ab 4 (pv 4)) ae))))))
   (ac (avu PassesOwn.never rfl (DO.de (aY7 rfl rfl rfl T.z_sorted T.z_zip (aa (ab 6 (pv 6)) (aa (ab 4 (pv 4)) ae)))) (aK4 rfl (aqg (aN 9 (pg_name (i:=9) akh.nd rfl (.inl rfl))) (aqg (aN 10 (pg_name (i:=10) akh.nd rfl (.inl rfl))) aQ0))) (ac (aka (aV op_le aqje (ab 7 (pv 7)) (aqh aM aL (ab 8 (pv 8)) (ab 9 (pv 9))) (nomark _)) (af (ip (DE.m _ (aG G_share (hm hr) rfl (aa (ab 7 (pv 7)) (aa (aqh aM aL (ab 8 (pv 8)) (ab 5 (pv 5))) ae)))))) aF)
   (ac (br 7 (ps_set (i:=7) akh.nd rfl (.inl rfl) (DE.m _ (aqh op_sub aZr (ab 7 (pv 7)) (aqh aM aL (aqw (aqw (ab 0 (pv 0)) (ab 10 (pv 10)) (fun _ _=>rfl)) ah (fun _ _=>rfl)) (ab 9 (pv 9)))))))
   (af (br 8 (ps_set (i:=8) akh.nd rfl (.inl rfl) (DE.m _ (aqh op_sub aZr (ab 8 (pv 8)) (aqw (aqw (ab 0 (pv 0)) (ab 10 (pv 10)) (fun _ _=>rfl)) ah (fun _ _=>rfl))))))))))
   (af (ip (DE.m _ akz))))))))))
theorem aZ8:FnScope ["heap","found","weight","marks"] ["heap"] (defScope aqdi):=fsc
theorem aqjl {f:Addr} {fd:FuncData} (F:Fun K "liked" "liked" aqdi f fd) (T:Txt mg) :FnOk P w K mg base CX0 1 f fd ["heap"] (spO K 1 axb) :=
 fnO F aZ8 (k:=0) (n:=1) (m:=4) (b:=aqfj) rfl rfl fun cdv A outer s H E hr =>
  (ac (br 1 (ps_set (i:=1) aZ8.nd rfl (.inl rfl) (DO.m _ (azd ae))))
   (ac (avu PassesOwn.never rfl (ab 0 (pv 0)) (aK4 rfl (aqg (aN 2 (pg_name (i:=2) aZ8.nd rfl (.inl rfl))) (aqg (aN 3 (pg_name (i:=3) aZ8.nd rfl (.inl rfl))) aQ0))) (af (aqn9 (i:=1) (ps_expr (pe_bm PySem.F.plainAttrs_list PySem.F.slot_list_extend PySem.F.type_list_extend aKs (aQz (pv 1)) (pa_cons (ab 3 (pv 3)) pa_nil))))))
   (af (ip (DO.m _ (aY8 rfl rfl rfl T.z_sorted T.z_set (ab 1 (pv 1))))))))
theorem aJc:FnScope ["heap","purses","rows","chosen","price","rated"] ["heap","purses","rows"] (defScope aWt):=fsc
theorem aqgk {f:Addr} {fd:FuncData} (F:Fun K "offers" "offers" aWt f fd) (T:Txt mg) (G_weight_of:Fn P w K mg base 1 "weight_of" ["heap"] (spD K 1 aI)) (G_rate:Fn P w K mg base 4 "rate" ["heap","purses","candidate","price"] (spD K 4 aYq)) (G_liked:Fn P w K mg base 1 "liked" ["heap"] (spO K 1 axb)):FnOk P w K mg base CX0 5 f fd ["heap","purses","rows"] (spD K 3 avo) :=
 FnOk.d (fnO F aJc (k:=4) (n:=3) (m:=6) (b:=aqab) rfl rfl fun cdv A outer s H E hr =>
  (ac (br 3 (ps_set (i:=3) aJc.nd rfl (.inr rfl) (DO.m _ (ss (cl:=_) (N':=["row"]) (js:=[none]) (by o_reads) (by exact (pi_list (ab 2 (pv 2)))) (fun _ _ _ q=>ao q) (by exact fun _ _ _ _ _=>(am 0 (pgc 0))) (by exact fun _ _ _ _ _=>aC) (by exact fun _ _ _ _ _=>(DE.o (aqw (ab 0 (pv 0)) ah (fun _ _=>rfl))))))))
   (ac (br 4 (ps_set (i:=4) aJc.nd rfl (.inr rfl) (DE.m _ (aG G_weight_of (hm hr) rfl (aa (ab 0 (pv 0)) ae)))))
   (ac (avv (i:=5) (cl:=_) (N':=["candidate","heap","purses","price","chosen"]) (js:=[none,some 0,some 1,some 4,some 3]) (by o_reads) (by exact (pi_list (DO.de (aKa G_liked (hm hr) rfl (aa (ab 0 (pv 0)) ae))))) (fun _ _ _ q=>ao q) (by exact fun _ _ _ _ _=>(am 0 (pgc 0))) (by exact fun _ _ _ _ _=>(aq8 (aV (aJf (aqem hr)) aJe (ab 0 (pv 0)) (ab 4 (pv 4)) (by rfl)))) (by exact fun _ _ _ _ _=>(DE.o (aQh (aa (ab 0 (pv 0)) (aa (aG G_rate (hm hr) rfl (aa (ab 1 (pv 1)) (aa (ab 2 (pv 2)) (aa (ab 0 (pv 0)) (aa (ab 3 (pv 3)) ae))))) ae))))) aJc.nd rfl rfl rfl)
   (af (ip (DO.m _ (ss (cl:=_) (N':=["offer"]) (js:=[none]) (by o_reads) (by exact (pi_list (ab 5 (pv 5)))) (fun _ _ _ q=>ao q) (by exact fun _ _ _ _ _=>(am 0 (pgc 0))) (by exact fun _ _ _ _ _=>(aq8 (aV aQv aQu (aqw (ab 0 (pv 0)) ah (fun _ _=>rfl)) akz (nomark _)))) (by exact fun _ _ _ _ _=>(DE.o (ab 0 (pv 0))))))))))))
theorem aqiy:FnScope ["one","other"] ["one","other"] (defScope aqdh):=fsc
theorem aqjk {f:Addr} {fd:FuncData} (F:Fun K "minus" "minus" aqdh f fd) (T:Txt mg) (G_share:Fn P w K mg base 2 "share" ["top","bottom"] (spD K 2 avl)):FnOk P w K mg base CX0 3 f fd ["one","other"] (spD K 2 avp) :=
 FnOk.d (fnO F aqiy (k:=2) (n:=2) (m:=2) (b:=aqfi) rfl rfl fun cdv A outer s H E hr =>
  (af (ip (DE.m _ (aG G_share (hm hr) rfl (aa (aqh op_sub aZr (aqh aM aL (aqw (ab 0 (pv 0)) ah (fun _ _=>rfl)) (aqw (ab 1 (pv 1)) ah (fun _ _=>rfl))) (aqh aM aL (aqw (ab 1 (pv 1)) ah (fun _ _=>rfl)) (aqw (ab 0 (pv 0)) ah (fun _ _=>rfl)))) (aa (aqh aM aL (aqw (ab 0 (pv 0)) ah (fun _ _=>rfl)) (aqw (ab 1 (pv 1)) ah (fun _ _=>rfl))) ae)))))))
theorem aX3:FnScope ["purse","due"] ["purse","due"] (defScope azv):=fsc
theorem aX8 {f:Addr} {fd:FuncData} (F:Fun K "purse_behind" "purse_behind" azv f fd) (T:Txt mg) (G_below:Fn P w K mg base 1 "below" ["one","other"] (spD K 2 aQx)) (G_minus:Fn P w K mg base 3 "minus" ["one","other"] (spD K 2 avp)):FnOk P w K mg base CX0 4 f fd ["purse","due"] (spD K 2 aqq) :=
 FnOk.d (fnO F aX3 (k:=3) (n:=2) (m:=2) (b:=axg) rfl rfl fun cdv A outer s H E hr =>
  (ac (aka (azs (aG G_below (hm hr) rfl (aa (ab 0 (pv 0)) (aa (ab 1 (pv 1)) ae)))) (af (ip (DE.m _ (aQh (aa ah (aa ah ae)))))) aF)
   (af (ip (DE.m _ (aG G_minus (hm hr) rfl (aa (ab 0 (pv 0)) (aa (ab 1 (pv 1)) ae))))))))
theorem aqdd:FnScope ["heap","purses","candidate","due","behind","place"] ["heap","purses","candidate","due"] (defScope aqj4):=fsc
theorem aqmk {f:Addr} {fd:FuncData} (F:Fun K "paid" "paid" aqj4 f fd) (T:Txt mg) (G_purse_behind:Fn P w K mg base 4 "purse_behind" ["purse","due"] (spD K 2 aqq)) (G_likers:Fn P w K mg base 3 "likers" ["heap","candidate"] (spO K 2 aX)):FnOk P w K mg base CX0 5 f fd ["heap","purses","candidate","due"] (spD K 4 aqeb) :=
 FnOk.d (fnO F aqdd (k:=4) (n:=4) (m:=6) (b:=aql6) rfl rfl fun cdv A outer s H E hr =>
  (ac (br 4 (ps_set (i:=4) aqdd.nd rfl (.inl rfl) (DO.m _ (axe call_list_of ajb rfl T.z_list avx (aa (ab 1 (pv 1)) ae)))))
   (ac (avu PassesOwn.never rfl (DO.de (aKa G_likers (hm hr) rfl (aa (ab 0 (pv 0)) (aa (ab 2 (pv 2)) ae)))) (aN 5 (pg_name (i:=5) aqdd.nd rfl (.inl rfl))) (af (aqpd (i:=4) (ps_asg (DE.m _ (aG G_purse_behind (hm hr) rfl (aa (aqw (ab 1 (pv 1)) (ab 5 (pv 5)) (fun _ _=>rfl)) (aa (ab 3 (pv 3)) ae)))) (pg_sub (aQz (pv 4)) (ab 5 (pv 5)) set_list)))))
   (af (ip (DE.m _ (ab 4 (pv 4))))))))
theorem av4:FnScope ["heap","seats","purses","rows","offer"] ["heap","seats"] (defScope aWr):=fsc
theorem aqgi {f:Addr} {fd:FuncData} (F:Fun K "rounds" "rounds" aWr f fd) (T:Txt mg) (G_first_purses:Fn P w K mg base 1 "first_purses" ["heap","seats"] (spD K 2 aB)) (G_least:Fn P w K mg base 2 "least" ["offers"] (spD K 1 avq)) (G_offers:Fn P w K mg base 5 "offers" ["heap","purses","rows"] (spD K 3 avo)) (G_paid:Fn P w K mg base 5 "paid" ["heap","purses","candidate","due"] (spD K 4 aqeb)):FnOk P w K mg base CX0 6 f fd ["heap","seats"] (spD K 2 avm) :=
 FnOk.d (fnO F av4 (k:=5) (n:=2) (m:=5) (b:=aqa8) rfl rfl fun cdv A outer s H E hr =>
  (ac (br 2 (ps_set (i:=2) av4.nd rfl (.inl rfl) (DE.m _ (aG G_first_purses (hm hr) rfl (aa (ab 0 (pv 0)) (aa (ab 1 (pv 1)) ae))))))
   (ac (br 3 (ps_set (i:=3) av4.nd rfl (.inl rfl) (DO.m _ (azd ae))))
   (ac (br 4 (ps_set (i:=4) av4.nd rfl (.inl rfl) (DE.m _ (aG G_least (hm hr) rfl (aa (aG G_offers (hm hr) rfl (aa (ab 0 (pv 0)) (aa (ab 2 (pv 2)) (aa (ab 3 (pv 3)) ae)))) ae)))))
   (ac (aY6 PassesOwn.never (aV aQv aQu (ab 4 (pv 4)) akz (nomark _)) (ac (br 2 (ps_set (i:=2) av4.nd rfl (.inl rfl) (DE.m _ (aG G_paid (hm hr) rfl (aa (ab 0 (pv 0)) (aa (ab 2 (pv 2)) (aa (aqw (ab 4 (pv 4)) ah (fun _ _=>rfl)) (aa (aqw (ab 4 (pv 4)) ah (fun _ _=>rfl)) ae))))))))
   (ac (aqf1 (i:=3) (ps_expr (pe_bm PySem.F.plainAttrs_list PySem.F.slot_list_append PySem.F.type_list_append mt_append (aQz (pv 3)) (pa_cons (DE.m _ (aQh (aa (aqw (ab 4 (pv 4)) ah (fun _ _=>rfl)) (aa (aqw (ab 4 (pv 4)) ah (fun _ _=>rfl)) (aa (ab 2 (pv 2)) ae))))) pa_nil))))
   (af (br 4 (ps_set (i:=4) av4.nd rfl (.inl rfl) (DE.m _ (aG G_least (hm hr) rfl (aa (aG G_offers (hm hr) rfl (aa (ab 0 (pv 0)) (aa (ab 2 (pv 2)) (aa (ab 3 (pv 3)) ae)))) ae)))))))))
   (af (ip (DE.m _ (ab 3 (pv 3))))))))))
theorem aJs:FnScope ["rows"] ["rows"] (defScope aza):=fsc
theorem aJ7 {f:Addr} {fd:FuncData} (F:Fun K "candidates_of" "candidates_of" aza f fd) (T:Txt mg) :FnOk P w K mg base CX0 1 f fd ["rows"] (spD K 1 aqd) :=
 FnOk.d (fnO F aJs (k:=0) (n:=1) (m:=1) (b:=azh) rfl rfl fun cdv A outer s H E hr =>
  (af (ip (DO.m _ (ss (cl:=_) (N':=["row"]) (js:=[none]) (by o_reads) (by exact (pi_list (ab 0 (pv 0)))) (fun _ _ _ q=>ao q) (by exact fun _ _ _ _ _=>(am 0 (pgc 0))) (by exact fun _ _ _ _ _=>aC) (by exact fun _ _ _ _ _=>(DE.o (aqw (ab 0 (pv 0)) ah (fun _ _=>rfl)))))))))
theorem aqdc:FnScope ["heap","amounts","places"] ["heap","amounts","places"] (defScope aVc):=fsc
theorem aqe2 {f:Addr} {fd:FuncData} (F:Fun K "weighed" "weighed" aVc f fd) (T:Txt mg) :FnOk P w K mg base CX0 1 f fd ["heap","amounts","places"] (spD K 3 aq5) :=
 FnOk.d (fnO F aqdc (k:=0) (n:=3) (m:=3) (b:=aV3) rfl rfl fun cdv A outer s H E hr =>
  (af (ip (DE.m _ (aw (aV1 rfl) aV0 rfl T.z_sum aql2 (aa (DO.de (ss (cl:=_) (N':=["place","amounts","heap"]) (js:=[none,some 1,some 0]) (by o_reads) (by exact (pi_list (ab 2 (pv 2)))) (fun _ _ _ q=>ao q) (by exact fun _ _ _ _ _=>(am 0 (pgc 0))) (by exact fun _ _ _ _ _=>aC) (by exact fun _ _ _ _ _=>(DE.o (aqh aM aL (aqw (aqw (ab 2 (pv 2)) (ab 0 (pv 0)) (fun _ _=>rfl)) ah (fun _ _=>rfl)) (aqw (ab 1 (pv 1)) (ab 0 (pv 0)) (fun _ _=>rfl))))))) ae))))))
theorem aqan:FnScope ["heap","purses","candidate","places","bottom","missing"] ["heap","purses","candidate"] (defScope aqj0):=fsc
theorem aqmg {f:Addr} {fd:FuncData} (F:Fun K "wait" "wait" aqj0 f fd) (T:Txt mg) (G_likers:Fn P w K mg base 3 "likers" ["heap","candidate"] (spO K 2 aX)) (G_common_bottom:Fn P w K mg base 2 "common_bottom" ["fractions"] (spD K 1 ay)) (G_weight_of:Fn P w K mg base 1 "weight_of" ["heap"] (spD K 1 aI)) (G_weighed:Fn P w K mg base 1 "weighed" ["heap","amounts","places"] (spD K 3 aq5)) (G_tops_over:Fn P w K mg base 1 "tops_over" ["bottom","fractions"] (spD K 2 aS)) (G_share:Fn P w K mg base 2 "share" ["top","bottom"] (spD K 2 avl)) (G_weight_at:Fn P w K mg base 1 "weight_at" ["heap","places"] (spD K 2 aqp)):FnOk P w K mg base CX0 4 f fd ["heap","purses","candidate"] (spD K 3 aYp) :=
 FnOk.d (fnO F aqan (k:=3) (n:=3) (m:=6) (b:=aqhf) rfl rfl fun cdv A outer s H E hr =>
  (ac (br 3 (ps_set (i:=3) aqan.nd rfl (.inl rfl) (DO.m _ (aKa G_likers (hm hr) rfl (aa (ab 0 (pv 0)) (aa (ab 2 (pv 2)) ae))))))
   (ac (br 4 (ps_set (i:=4) aqan.nd rfl (.inl rfl) (DE.m _ (aG G_common_bottom (hm hr) rfl (aa (ab 1 (pv 1)) ae)))))
   (ac (br 5 (ps_set (i:=5) aqan.nd rfl (.inl rfl) (DE.m _ (aqh op_sub aZr (aqh aM aL (aG G_weight_of (hm hr) rfl (aa (ab 0 (pv 0)) ae)) (ab 4 (pv 4))) (aG G_weighed (hm hr) rfl (aa (ab 0 (pv 0)) (aa (aG G_tops_over (hm hr) rfl (aa (ab 4 (pv 4)) (aa (ab 1 (pv 1)) ae))) (aa (ab 3 (pv 3)) ae))))))))
   (ac (aka (aV op_le aqje (ab 5 (pv 5)) ah (nomark _)) (af (ip (DE.m _ (aQh (aa ah (aa ah ae)))))) aF)
   (af (ip (DE.m _ (aG G_share (hm hr) rfl (aa (ab 5 (pv 5)) (aa (aqh aM aL (aG G_weight_at (hm hr) rfl (aa (ab 0 (pv 0)) (aa (ab 3 (pv 3)) ae))) (ab 4 (pv 4))) ae)))))))))))
theorem aqix:FnScope ["heap","purses","chosen","seats"] ["heap","purses","chosen","seats"] (defScope aqdf):=fsc
theorem aqji {f:Addr} {fd:FuncData} (F:Fun K "waits" "waits" aqdf f fd) (T:Txt mg) (G_wait:Fn P w K mg base 4 "wait" ["heap","purses","candidate"] (spD K 3 aYp)) (G_liked:Fn P w K mg base 1 "liked" ["heap"] (spO K 1 axb)):FnOk P w K mg base CX0 5 f fd ["heap","purses","chosen","seats"] (spD K 4 aQw) :=
 FnOk.d (fnO F aqix (k:=4) (n:=4) (m:=4) (b:=aqbv) rfl rfl fun cdv A outer s H E hr =>
  (ac (aka (aV op_ge aYa (aw call_len_seq aH rfl T.z_len az5 (aa (ab 2 (pv 2)) ae)) (ab 3 (pv 3)) (nomark _)) (af (ip (DO.m _ (azd ae)))) aF)
   (af (ip (DO.m _ (ss (cl:=_) (N':=["candidate","heap","purses","chosen"]) (js:=[none,some 0,some 1,some 2]) (by o_reads) (by exact (pi_list (DO.de (aKa G_liked (hm hr) rfl (aa (ab 0 (pv 0)) ae))))) (fun _ _ _ q=>ao q) (by exact fun _ _ _ _ _=>(am 0 (pgc 0))) (by exact fun _ _ _ _ _=>(aq8 (aV (aJf (aqem hr)) aJe (ab 0 (pv 0)) (ab 3 (pv 3)) (by rfl)))) (by exact fun _ _ _ _ _=>(DE.o (aQh (aa (ab 0 (pv 0)) (aa (aG G_wait (hm hr) rfl (aa (ab 1 (pv 1)) (aa (ab 2 (pv 2)) (aa (ab 0 (pv 0)) ae)))) ae)))))))))))
theorem aqlx:FnScope ["one","other"] ["one","other"] (defScope aqj2):=fsc
theorem aqmi {f:Addr} {fd:FuncData} (F:Fun K "plus" "plus" aqj2 f fd) (T:Txt mg) (G_share:Fn P w K mg base 2 "share" ["top","bottom"] (spD K 2 avl)):FnOk P w K mg base CX0 3 f fd ["one","other"] (spD K 2 aKt) :=
 FnOk.d (fnO F aqlx (k:=2) (n:=2) (m:=2) (b:=aql4) rfl rfl fun cdv A outer s H E hr =>
  (af (ip (DE.m _ (aG G_share (hm hr) rfl (aa (aqh avj avh (aqh aM aL (aqw (ab 0 (pv 0)) ah (fun _ _=>rfl)) (aqw (ab 1 (pv 1)) ah (fun _ _=>rfl))) (aqh aM aL (aqw (ab 1 (pv 1)) ah (fun _ _=>rfl)) (aqw (ab 0 (pv 0)) ah (fun _ _=>rfl)))) (aa (aqh aM aL (aqw (ab 0 (pv 0)) ah (fun _ _=>rfl)) (aqw (ab 1 (pv 1)) ah (fun _ _=>rfl))) ae)))))))
theorem avc:FnScope ["heap","purses","offer","places"] ["heap","purses","offer"] (defScope ax7):=fsc
theorem aJ4 {f:Addr} {fd:FuncData} (F:Fun K "purses_behind" "purses_behind" ax7 f fd) (T:Txt mg) (G_likers:Fn P w K mg base 3 "likers" ["heap","candidate"] (spO K 2 aX)) (G_plus:Fn P w K mg base 3 "plus" ["one","other"] (spD K 2 aKt)):FnOk P w K mg base CX0 4 f fd ["heap","purses","offer"] (spD K 3 aqu) :=
 FnOk.d (fnO F avc (k:=3) (n:=3) (m:=4) (b:=aze) rfl rfl fun cdv A outer s H E hr =>
  (ac (br 3 (ps_set (i:=3) avc.nd rfl (.inr rfl) (DO.m _ (aKa G_likers (hm hr) rfl (aa (ab 0 (pv 0)) (aa (aqw (ab 2 (pv 2)) ah (fun _ _=>rfl)) ae))))))
   (af (ip (DO.m _ (ss (cl:=_) (N':=["place","purse","places","offer"]) (js:=[none,none,some 3,some 2]) (by o_reads) (by exact (aqht rfl T.z_enumerate (ab 1 (pv 1)))) (fun _ _ _ q=>aqbo q) (by exact fun _ _ _ _ _=>(aXn rfl (aqk (am 0 (pgc 0)) (aqk (am 1 (pgc 1)) aky)))) (by exact fun _ _ _ _ _=>aC) (by exact fun _ _ _ _ _=>(DE.o (de_if (aV (aYb (aqem hr)) aW9 (ab 0 (pv 0)) (ab 2 (pv 2)) (by rfl)) (aQh (aa ah (aa ah ae))) (aG G_plus (hm hr) rfl (aa (ab 1 (pv 1)) (aa (aqw (ab 3 (pv 3)) ah (fun _ _=>rfl)) ae))))))))))))
theorem awx:FnScope ["heap","purses","members","seats","chosen","rows","offer"] ["heap","purses","members","seats"] (defScope aqdk):=fsc
theorem aqjn {f:Addr} {fd:FuncData} (F:Fun K "grown" "grown" aqdk f fd) (T:Txt mg) (G_least:Fn P w K mg base 2 "least" ["offers"] (spD K 1 avq)) (G_waits:Fn P w K mg base 5 "waits" ["heap","purses","chosen","seats"] (spD K 4 aQw)) (G_purses_behind:Fn P w K mg base 4 "purses_behind" ["heap","purses","offer"] (spD K 3 aqu)):FnOk P w K mg base CX0 6 f fd ["heap","purses","members","seats"] (spD K 4 aXd) :=
 FnOk.d (fnO F awx (k:=5) (n:=4) (m:=7) (b:=aqfn) rfl rfl fun cdv A outer s H E hr =>
  (ac (br 4 (ps_set (i:=4) awx.nd rfl (.inl rfl) (DO.m _ (axe call_list_of ajb rfl T.z_list avx (aa (ab 2 (pv 2)) ae)))))
   (ac (br 5 (ps_set (i:=5) awx.nd rfl (.inl rfl) (DO.m _ (azd ae))))
   (ac (br 6 (ps_set (i:=6) awx.nd rfl (.inl rfl) (DE.m _ (aG G_least (hm hr) rfl (aa (aG G_waits (hm hr) rfl (aa (ab 0 (pv 0)) (aa (ab 1 (pv 1)) (aa (ab 4 (pv 4)) (aa (ab 3 (pv 3)) ae))))) ae)))))
   (ac (aY6 PassesOwn.never (aV aQv aQu (ab 6 (pv 6)) akz (nomark _)) (ac (br 1 (ps_set (i:=1) awx.nd rfl (.inl rfl) (DE.m _ (aG G_purses_behind (hm hr) rfl (aa (ab 0 (pv 0)) (aa (ab 1 (pv 1)) (aa (ab 6 (pv 6)) ae)))))))
   (ac (aqf1 (i:=5) (ps_expr (pe_bm PySem.F.plainAttrs_list PySem.F.slot_list_append PySem.F.type_list_append mt_append (aQz (pv 5)) (pa_cons (DE.m _ (aQh (aa (aqw (ab 6 (pv 6)) ah (fun _ _=>rfl)) (aa (aqw (ab 6 (pv 6)) ah (fun _ _=>rfl)) (aa (ab 1 (pv 1)) ae))))) pa_nil))))
   (ac (aqf1 (i:=4) (ps_expr (pe_bm PySem.F.plainAttrs_list PySem.F.slot_list_append PySem.F.type_list_append mt_append (aQz (pv 4)) (pa_cons (DE.m _ (aqw (ab 6 (pv 6)) ah (fun _ _=>rfl))) pa_nil))))
   (af (br 6 (ps_set (i:=6) awx.nd rfl (.inl rfl) (DE.m _ (aG G_least (hm hr) rfl (aa (aG G_waits (hm hr) rfl (aa (ab 0 (pv 0)) (aa (ab 1 (pv 1)) (aa (ab 4 (pv 4)) (aa (ab 3 (pv 3)) ae))))) ae))))))))))
   (af (ip (DE.m _ (ab 5 (pv 5))))))))))
theorem aVa:FnScope ["heap","seats","rows"] ["heap","seats","rows"] (defScope ave):=fsc
theorem aVn {f:Addr} {fd:FuncData} (F:Fun K "last_purses" "last_purses" ave f fd) (T:Txt mg) (G_first_purses:Fn P w K mg base 1 "first_purses" ["heap","seats"] (spD K 2 aB)):FnOk P w K mg base CX0 2 f fd ["heap","seats","rows"] (spD K 3 aq1) :=
 FnOk.d (fnO F aVa (k:=1) (n:=3) (m:=3) (b:=ax6) rfl rfl fun cdv A outer s H E hr =>
  (ac (aka (aV (akg hr.units) akf (ab 2 (pv 2)) (DO.de (azd ae)) (nomark _)) (af (ip (DE.m _ (aG G_first_purses (hm hr) rfl (aa (ab 0 (pv 0)) (aa (ab 1 (pv 1)) ae)))))) aF)
   (af (ip (DE.m _ (aqw (aqw (ab 2 (pv 2)) (de_un un_neg aqhl ah) (fun _ _=>rfl)) ah (fun _ _=>rfl)))))))
theorem aVb:FnScope ["heap","seats","bought","chosen","added"] ["heap","seats"] (defScope aqdm):=fsc
theorem aqjp {f:Addr} {fd:FuncData} (F:Fun K "bench" "bench" aqdm f fd) (T:Txt mg) (G_rounds:Fn P w K mg base 6 "rounds" ["heap","seats"] (spD K 2 avm)) (G_candidates_of:Fn P w K mg base 1 "candidates_of" ["rows"] (spD K 1 aqd)) (G_grown:Fn P w K mg base 6 "grown" ["heap","purses","members","seats"] (spD K 4 aXd)) (G_last_purses:Fn P w K mg base 2 "last_purses" ["heap","seats","rows"] (spD K 3 aq1)):FnOk P w K mg base CX0 7 f fd ["heap","seats"] (spD K 2 aKu) :=
 FnOk.d (fnO F aVb (k:=6) (n:=2) (m:=5) (b:=aqfo) rfl rfl fun cdv A outer s H E hr =>
  (ac (br 2 (ps_set (i:=2) aVb.nd rfl (.inl rfl) (DE.m _ (aG G_rounds (hm hr) rfl (aa (ab 0 (pv 0)) (aa (ab 1 (pv 1)) ae))))))
   (ac (br 3 (ps_set (i:=3) aVb.nd rfl (.inl rfl) (DE.m _ (aG G_candidates_of (hm hr) rfl (aa (ab 2 (pv 2)) ae)))))
   (ac (br 4 (ps_set (i:=4) aVb.nd rfl (.inl rfl) (DE.m _ (aG G_grown (hm hr) rfl (aa (ab 0 (pv 0)) (aa (aG G_last_purses (hm hr) rfl (aa (ab 0 (pv 0)) (aa (ab 1 (pv 1)) (aa (ab 2 (pv 2)) ae)))) (aa (DO.de (aVy az4 az3 rfl T.z_sorted akd (aa (ab 3 (pv 3)) ae))) (aa (ab 1 (pv 1)) ae))))))))
   (af (ip (DO.m _ (aqbl (axu (aVy az4 az3 rfl T.z_sorted akd (aa (DO.de (do_op aqb0 aqaz (ab 3 (pv 3)) (aG G_candidates_of (hm hr) rfl (aa (ab 4 (pv 4)) ae)))) ae)) (axu (DE.o (ab 2 (pv 2))) (axu (DE.o (ab 4 (pv 4))) aZy)))))))))))
theorem aJr:FnScope ["heap","place","members"] ["heap","place","members"] (defScope ax8):=fsc
theorem aJ5 {f:Addr} {fd:FuncData} (F:Fun K "members_liked" "members_liked" ax8 f fd) (T:Txt mg) :FnOk P w K mg base CX0 1 f fd ["heap","place","members"] (spD K 3 ax) :=
 FnOk.d (fnO F aJr (k:=0) (n:=3) (m:=3) (b:=azf) rfl rfl fun cdv A outer s H E hr =>
  (af (ip (DO.m _ (ss (cl:=_) (N':=["member","heap","place"]) (js:=[none,some 0,some 1]) (by o_reads) (by exact (pi_list (ab 2 (pv 2)))) (fun _ _ _ q=>ao q) (by exact fun _ _ _ _ _=>(am 0 (pgc 0))) (by exact fun _ _ _ _ _=>(aq8 (aV (aYb (aqem hr)) aW9 (ab 0 (pv 0)) (aqw (aqw (ab 1 (pv 1)) (ab 2 (pv 2)) (fun _ _=>rfl)) ah (fun _ _=>rfl)) (by rfl)))) (by exact fun _ _ _ _ _=>(DE.o (ab 0 (pv 0)))))))))
theorem aqde:FnScope ["heap","seats","some","group","agreeing"] ["heap","seats","some","group"] (defScope aqdl):=fsc
theorem aqjo {f:Addr} {fd:FuncData} (F:Fun K "claim" "claim" aqdl f fd) (T:Txt mg) (G_agreed:Fn P w K mg base 2 "agreed" ["heap","some"] (spO K 2 aj6)) (G_weight_at:Fn P w K mg base 1 "weight_at" ["heap","places"] (spD K 2 aqp)) (G_weight_of:Fn P w K mg base 1 "weight_of" ["heap"] (spD K 1 aI)):FnOk P w K mg base CX0 3 f fd ["heap","seats","some","group"] (spD K 4 axq) :=
 FnOk.d (fnO F aqde (k:=2) (n:=4) (m:=5) (b:=aZ2) rfl rfl fun cdv A outer s H E hr =>
  (ac (aka (DW.dt (aqko (aV (akg hr.units) akf (aw call_len_seq aH rfl T.z_len az5 (aa (ab 2 (pv 2)) ae)) ah (nomark _)) (aY5 (aV (akg hr.units) akf (aw call_len_seq aH rfl T.z_len az5 (aa (ab 3 (pv 3)) ae)) ah (nomark _))))) (af (ip (DE.m _ aZf))) aF)
   (ac (br 4 (ps_set (i:=4) aqde.nd rfl (.inr rfl) (DO.m _ (aKa G_agreed (hm hr) rfl (aa (ab 0 (pv 0)) (aa (ab 2 (pv 2)) ae))))))
   (ac (aka (aXm (azs (aw (ax4 rfl) ax3 rfl T.z_all aK9 (aa (DO.de (ss (cl:=_) (N':=["place","agreeing"]) (js:=[none,some 4]) (by o_reads) (by exact (pi_list (ab 3 (pv 3)))) (fun _ _ _ q=>ao q) (by exact fun _ _ _ _ _=>(am 0 (pgc 0))) (by exact fun _ _ _ _ _=>aC) (by exact fun _ _ _ _ _=>(DE.o (avw (aYb (aqem hr)) aW9 (ab 0 (pv 0)) (ab 1 (pv 1)) (by rfl)))))) ae)))) (af (ip (DE.m _ aZf))) aF)
   (af (ip (DE.m _ (avw op_ge aYa (aqh aM aL (ab 1 (pv 1)) (aG G_weight_at (hm hr) rfl (aa (ab 0 (pv 0)) (aa (ab 3 (pv 3)) ae)))) (aqh aM aL (aw call_len_seq aH rfl T.z_len az5 (aa (ab 2 (pv 2)) ae)) (aG G_weight_of (hm hr) rfl (aa (ab 0 (pv 0)) ae))) (nomark _)))))))))
theorem awb:FnScope ["candidates","found","candidate"] ["candidates"] (defScope aVe):=fsc
theorem aqe4 {f:Addr} {fd:FuncData} (F:Fun K "choices" "choices" aVe f fd) (T:Txt mg) :FnOk P w K mg base CX0 1 f fd ["candidates"] (spD K 1 axd) :=
 FnOk.d (fnO F awb (k:=0) (n:=1) (m:=3) (b:=aV7) rfl rfl fun cdv A outer s H E hr =>
  (ac (br 1 (ps_set (i:=1) awb.nd rfl (.inl rfl) (DO.m _ (aqib (axu (azd ae) aZy)))))
   (ac (avu PassesOwn.never rfl (ab 0 (pv 0)) (aN 2 (pg_name (i:=2) awb.nd rfl (.inr rfl))) (af (br 1 (ps_set (i:=1) awb.nd rfl (.inl rfl) (DO.m _ (do_op aqb0 aqaz (ab 1 (pv 1)) (DO.de (ss (cl:=_) (N':=["some","candidate"]) (js:=[none,some 2]) (by o_reads) (by exact (pi_list (ab 1 (pv 1)))) (fun _ _ _ q=>ao q) (by exact fun _ _ _ _ _=>(am 0 (pgc 0))) (by exact fun _ _ _ _ _=>aC) (by exact fun _ _ _ _ _=>(do_op aqb0 aqaz (ab 0 (pv 0)) (DO.de (azd (aa (ab 1 (pv 1)) ae)))))))))))))
   (af (ip (DE.m _ (ab 1 (pv 1))))))))
theorem awv:FnScope ["heap","seats","members","some","group"] ["heap","seats","members"] (defScope aJv):=fsc
theorem aqcb {f:Addr} {fd:FuncData} (F:Fun K "left_out" "left_out" aJv f fd) (T:Txt mg) (G_members_liked:Fn P w K mg base 1 "members_liked" ["heap","place","members"] (spD K 3 ax)) (G_agreed:Fn P w K mg base 2 "agreed" ["heap","some"] (spO K 2 aj6)) (G_claim:Fn P w K mg base 3 "claim" ["heap","seats","some","group"] (spD K 4 axq)) (G_choices:Fn P w K mg base 1 "choices" ["candidates"] (spD K 1 axd)) (G_liked:Fn P w K mg base 1 "liked" ["heap"] (spO K 1 axb)):FnOk P w K mg base CX0 4 f fd ["heap","seats","members"] (spD K 3 ajy) :=
 FnOk.d (fnO F awv (k:=3) (n:=3) (m:=5) (b:=awm) rfl rfl fun cdv A outer s H E hr =>
  (ac (avu PassesOwn.never rfl (aG G_choices (hm hr) rfl (aa (DO.de (aKa G_liked (hm hr) rfl (aa (ab 0 (pv 0)) ae))) ae)) (aN 3 (pg_name (i:=3) awv.nd rfl (.inr rfl))) (ac (avv (i:=4) (cl:=_) (N':=["place","some","heap","members"]) (js:=[none,some 3,some 0,some 2]) (by o_reads) (by exact (pi_list (DO.de (aKa G_agreed (hm hr) rfl (aa (ab 0 (pv 0)) (aa (ab 3 (pv 3)) ae)))))) (fun _ _ _ q=>ao q) (by exact fun _ _ _ _ _=>(am 0 (pgc 0))) (by exact fun _ _ _ _ _=>(aq8 (aV op_lt aqe1 (aw call_len_seq aH rfl T.z_len az5 (aa (aG G_members_liked (hm hr) rfl (aa (ab 2 (pv 2)) (aa (ab 0 (pv 0)) (aa (ab 3 (pv 3)) ae)))) ae)) (aw call_len_seq aH rfl T.z_len az5 (aa (ab 1 (pv 1)) ae)) (nomark _)))) (by exact fun _ _ _ _ _=>(DE.o (ab 0 (pv 0)))) awv.nd rfl rfl rfl)
   (af (aka (azs (aG G_claim (hm hr) rfl (aa (ab 0 (pv 0)) (aa (ab 1 (pv 1)) (aa (ab 3 (pv 3)) (aa (ab 4 (pv 4)) ae)))))) (af (ip (DE.m _ (aQh (aa (ab 3 (pv 3)) (aa (ab 4 (pv 4)) ae)))))) aF))))
   (af (ip (DE.m _ akz)))))
theorem awu:FnScope ["heap","seats","members","candidate","group"] ["heap","seats","members"] (defScope aJt):=fsc
theorem aqc9 {f:Addr} {fd:FuncData} (F:Fun K "shut_out" "shut_out" aJt f fd) (T:Txt mg) (G_members_liked:Fn P w K mg base 1 "members_liked" ["heap","place","members"] (spD K 3 ax)) (G_likers:Fn P w K mg base 3 "likers" ["heap","candidate"] (spO K 2 aX)) (G_claim:Fn P w K mg base 3 "claim" ["heap","seats","some","group"] (spD K 4 axq)) (G_liked:Fn P w K mg base 1 "liked" ["heap"] (spO K 1 axb)):FnOk P w K mg base CX0 4 f fd ["heap","seats","members"] (spD K 3 azp) :=
 FnOk.d (fnO F awu (k:=3) (n:=3) (m:=5) (b:=awl) rfl rfl fun cdv A outer s H E hr =>
  (ac (avu PassesOwn.never rfl (DO.de (aKa G_liked (hm hr) rfl (aa (ab 0 (pv 0)) ae))) (aN 3 (pg_name (i:=3) awu.nd rfl (.inl rfl))) (ac (avv (i:=4) (cl:=_) (N':=["place","heap","members"]) (js:=[none,some 0,some 2]) (by o_reads) (by exact (pi_list (DO.de (aKa G_likers (hm hr) rfl (aa (ab 0 (pv 0)) (aa (ab 3 (pv 3)) ae)))))) (fun _ _ _ q=>ao q) (by exact fun _ _ _ _ _=>(am 0 (pgc 0))) (by exact fun _ _ _ _ _=>(aq8 (aV (akg hr.units) akf (aG G_members_liked (hm hr) rfl (aa (ab 1 (pv 1)) (aa (ab 0 (pv 0)) (aa (ab 2 (pv 2)) ae)))) (DO.de (azd ae)) (nomark _)))) (by exact fun _ _ _ _ _=>(DE.o (ab 0 (pv 0)))) awu.nd rfl rfl rfl)
   (af (aka (azs (aG G_claim (hm hr) rfl (aa (ab 0 (pv 0)) (aa (ab 1 (pv 1)) (aa (DO.de (azd (aa (ab 3 (pv 3)) ae))) (aa (ab 4 (pv 4)) ae)))))) (af (ip (DO.m _ (aqbl (axu (azd (aa (ab 3 (pv 3)) ae)) (axu (DE.o (ab 4 (pv 4))) aZy)))))) aF))))
   (af (ip (DE.m _ akz)))))
theorem aQ3:FnScope ["heap","place","members","few"] ["heap","place","members","few"] (defScope axo):=fsc
theorem aQ5 {f:Addr} {fd:FuncData} (F:Fun K "likes_no_other" "likes_no_other" axo f fd) (T:Txt mg) (G_members_liked:Fn P w K mg base 1 "members_liked" ["heap","place","members"] (spD K 3 ax)):FnOk P w K mg base CX0 2 f fd ["heap","place","members","few"] (spD K 4 aT) :=
 FnOk.d (fnO F aQ3 (k:=1) (n:=4) (m:=4) (b:=axv) rfl rfl fun cdv A outer s H E hr =>
  (af (ip (DE.m _ (aw (ax4 rfl) ax3 rfl T.z_all aK9 (aa (DO.de (ss (cl:=_) (N':=["member","few"]) (js:=[none,some 3]) (by o_reads) (by exact (pi_list (aG G_members_liked (hm hr) rfl (aa (ab 0 (pv 0)) (aa (ab 1 (pv 1)) (aa (ab 2 (pv 2)) ae)))))) (fun _ _ _ q=>ao q) (by exact fun _ _ _ _ _=>(am 0 (pgc 0))) (by exact fun _ _ _ _ _=>aC) (by exact fun _ _ _ _ _=>(DE.o (avw (aYb (aqem hr)) aW9 (ab 0 (pv 0)) (ab 1 (pv 1)) (by rfl)))))) ae))))))
theorem aKf:FnScope ["candidates","many"] ["candidates","many"] (defScope akq):=fsc
theorem aKp {f:Addr} {fd:FuncData} (F:Fun K "choices_of" "choices_of" akq f fd) (T:Txt mg) (G_choices:Fn P w K mg base 1 "choices" ["candidates"] (spD K 1 axd)):FnOk P w K mg base CX0 2 f fd ["candidates","many"] (spD K 2 ajr) :=
 FnOk.d (fnO F aKf (k:=1) (n:=2) (m:=2) (b:=ak4) rfl rfl fun cdv A outer s H E hr =>
  (af (ip (DO.m _ (ss (cl:=_) (N':=["some","many"]) (js:=[none,some 1]) (by o_reads) (by exact (pi_list (aG G_choices (hm hr) rfl (aa (ab 0 (pv 0)) ae)))) (fun _ _ _ q=>ao q) (by exact fun _ _ _ _ _=>(am 0 (pgc 0))) (by exact fun _ _ _ _ _=>(aq8 (aV (akg hr.units) akf (aw call_len_seq aH rfl T.z_len az5 (aa (ab 0 (pv 0)) ae)) (ab 1 (pv 1)) (nomark _)))) (by exact fun _ _ _ _ _=>(DE.o (ab 0 (pv 0)))))))))
theorem aq3:FnScope ["heap","seats","members","some","agreeing","few","group"] ["heap","seats","members"] (defScope avd):=fsc
theorem aVm {f:Addr} {fd:FuncData} (F:Fun K "passed_over" "passed_over" avd f fd) (T:Txt mg) (G_agreed:Fn P w K mg base 2 "agreed" ["heap","some"] (spO K 2 aj6)) (G_claim:Fn P w K mg base 3 "claim" ["heap","seats","some","group"] (spD K 4 axq)) (G_likes_no_other:Fn P w K mg base 2 "likes_no_other" ["heap","place","members","few"] (spD K 4 aT)) (G_choices_of:Fn P w K mg base 2 "choices_of" ["candidates","many"] (spD K 2 ajr)) (G_choices:Fn P w K mg base 1 "choices" ["candidates"] (spD K 1 axd)) (G_liked:Fn P w K mg base 1 "liked" ["heap"] (spO K 1 axb)):FnOk P w K mg base CX0 4 f fd ["heap","seats","members"] (spD K 3 aE) :=
 FnOk.d (fnO F aq3 (k:=3) (n:=3) (m:=7) (b:=ax5) rfl rfl fun cdv A outer s H E hr =>
  (ac (avu PassesOwn.never rfl (aG G_choices (hm hr) rfl (aa (DO.de (aKa G_liked (hm hr) rfl (aa (ab 0 (pv 0)) ae))) ae)) (aN 3 (pg_name (i:=3) aq3.nd rfl (.inl rfl))) (ac (br 4 (ps_set (i:=4) aq3.nd rfl (.inl rfl) (DO.m _ (aKa G_agreed (hm hr) rfl (aa (ab 0 (pv 0)) (aa (ab 3 (pv 3)) ae))))))
   (af (aka (azs (aG G_claim (hm hr) rfl (aa (ab 0 (pv 0)) (aa (ab 1 (pv 1)) (aa (ab 3 (pv 3)) (aa (ab 4 (pv 4)) ae)))))) (af (avu PassesOwn.never rfl (aG G_choices_of (hm hr) rfl (aa (ab 2 (pv 2)) (aa (aw (call_min2 rfl) aqf8 rfl T.z_min aqpl (aa (aqh op_sub aZr (aw call_len_seq aH rfl T.z_len az5 (aa (ab 3 (pv 3)) ae)) ah) (aa (aw call_len_seq aH rfl T.z_len az5 (aa (ab 2 (pv 2)) ae)) ae))) ae))) (aN 5 (pg_name (i:=5) aq3.nd rfl (.inr rfl))) (ac (avv (i:=6) (cl:=_) (N':=["place","heap","members","few"]) (js:=[none,some 0,some 2,some 5]) (by o_reads) (by exact (pi_list (ab 4 (pv 4)))) (fun _ _ _ q=>ao q) (by exact fun _ _ _ _ _=>(am 0 (pgc 0))) (by exact fun _ _ _ _ _=>(aq8 (azs (aG G_likes_no_other (hm hr) rfl (aa (ab 1 (pv 1)) (aa (ab 0 (pv 0)) (aa (ab 2 (pv 2)) (aa (ab 3 (pv 3)) ae)))))))) (by exact fun _ _ _ _ _=>(DE.o (ab 0 (pv 0)))) aq3.nd rfl rfl rfl)
   (af (aka (azs (aG G_claim (hm hr) rfl (aa (ab 0 (pv 0)) (aa (ab 1 (pv 1)) (aa (ab 3 (pv 3)) (aa (ab 6 (pv 6)) ae)))))) (af (ip (DE.m _ (aQh (aa (ab 3 (pv 3)) (aa (ab 6 (pv 6)) ae)))))) aF))))) aF))))
   (af (ip (DE.m _ akz)))))
theorem ajk:FnScope ["heap","seats","purses","paper","candidate","due","behind"] ["heap","seats"] (defScope aJu):=fsc
theorem aqca {f:Addr} {fd:FuncData} (F:Fun K "paper_of" "paper_of" aJu f fd) (T:Txt mg) (G_first_purses:Fn P w K mg base 1 "first_purses" ["heap","seats"] (spD K 2 aB)) (G_minus:Fn P w K mg base 3 "minus" ["one","other"] (spD K 2 avp)) (G_rounds:Fn P w K mg base 6 "rounds" ["heap","seats"] (spD K 2 avm)):FnOk P w K mg base CX0 7 f fd ["heap","seats"] (spO K 2 avn) :=
 fnO F ajk (k:=6) (n:=2) (m:=7) (b:=aXv) rfl rfl fun cdv A outer s H E hr =>
  (ac (br 2 (ps_set (i:=2) ajk.nd rfl (.inl rfl) (DE.m _ (aG G_first_purses (hm hr) rfl (aa (ab 0 (pv 0)) (aa (ab 1 (pv 1)) ae))))))
   (ac (br 3 (ps_set (i:=3) ajk.nd rfl (.inl rfl) (DO.m _ (azd ae))))
   (ac (avu PassesOwn.never rfl (aG G_rounds (hm hr) rfl (aa (ab 0 (pv 0)) (aa (ab 1 (pv 1)) ae))) (aK4 rfl (aqg (aN 4 (pg_name (i:=4) ajk.nd rfl (.inl rfl))) (aqg (aN 5 (pg_name (i:=5) ajk.nd rfl (.inl rfl))) (aqg (aN 6 (pg_name (i:=6) ajk.nd rfl (.inl rfl))) aQ0)))) (ac (aqf1 (i:=3) (ps_expr (pe_bm PySem.F.plainAttrs_list PySem.F.slot_list_append PySem.F.type_list_append mt_append (aQz (pv 3)) (pa_cons (DO.m _ (aqbl (axu (DE.o (ab 4 (pv 4))) (axu (ss (cl:=_) (N':=["before","after"]) (js:=[none,none]) (by o_reads) (by exact (aqhs rfl T.z_zip (aa (ab 2 (pv 2)) (aa (ab 6 (pv 6)) ae)))) (fun _ _ _ q=>aqf5 q) (by exact fun _ _ _ _ _=>(aXn rfl (aqk (am 0 (pgc 0)) (aqk (am 1 (pgc 1)) aky)))) (by exact fun _ _ _ _ _=>aC) (by exact fun _ _ _ _ _=>(DE.o (aG G_minus (hm hr) rfl (aa (ab 0 (pv 0)) (aa (ab 1 (pv 1)) ae)))))) aZy)))) pa_nil))))
   (af (br 2 (ps_set (i:=2) ajk.nd rfl (.inl rfl) (DE.m _ (ab 6 (pv 6))))))))
   (af (ip (aqnc (pv 3)))))))
theorem aqc6:FnScope ["thing"] ["thing"] (defScope aJw):=fsc
theorem aqcc {f:Addr} {fd:FuncData} (F:Fun K "is_whole" "is_whole" aJw f fd) (T:Txt mg) :FnOk P w K mg base CX0 1 f fd ["thing"] (spD K 1 ajz) :=
 FnOk.d (fnO F aqc6 (k:=0) (n:=1) (m:=1) (b:=aXw) rfl rfl fun cdv A outer s H E hr =>
  (af (ip (DE.m _ (aQ7 (aqcm aqmv rfl T.z_isinstance rfl T.z_int aqpm (ab 0 (pv 0))) (aY9 (aqpe (aqcm aqk4 rfl T.z_isinstance rfl T.z_bool aqnm (ab 0 (pv 0))))))))))
theorem aX6:FnScope ["thing"] ["thing"] (defScope azx):=fsc
theorem aZa {f:Addr} {fd:FuncData} (F:Fun K "is_candidate" "is_candidate" azx f fd) (T:Txt mg) (G_is_whole:Fn P w K mg base 1 "is_whole" ["thing"] (spD K 1 ajz)):FnOk P w K mg base CX0 2 f fd ["thing"] (spD K 1 aq7) :=
 FnOk.d (fnO F aX6 (k:=1) (n:=1) (m:=1) (b:=az9) rfl rfl fun cdv A outer s H E hr =>
  (af (ip (DE.m _ (aQ7 (aG G_is_whole (hm hr) rfl (aa (ab 0 (pv 0)) ae)) (aQ7 (avw op_ge aYa (ab 0 (pv 0)) ah (nomark _)) (aY9 (avw op_le aqje (ab 0 (pv 0)) (aqnd rfl T.c_LAST_CANDIDATE) (nomark _)))))))))
theorem ako:FnScope ["thing","top","bottom"] ["thing"] (defScope aw3):=fsc
theorem aYh {f:Addr} {fd:FuncData} (F:Fun K "is_amount" "is_amount" aw3 f fd) (T:Txt mg) (G_is_whole:Fn P w K mg base 1 "is_whole" ["thing"] (spD K 1 ajz)) (G_divisor:Fn P w K mg base 1 "divisor" ["one","other"] (spD K 2 axc)):FnOk P w K mg base CX0 2 f fd ["thing"] (spD K 1 ajq) :=
 FnOk.d (fnO F ako (k:=1) (n:=1) (m:=3) (b:=aQn) rfl rfl fun cdv A outer s H E hr =>
  (ac (aka (DW.dt (aqko (aXm (azs (aqcm aqb7 rfl T.z_isinstance rfl T.z_tuple aqf9 (ab 0 (pv 0))))) (aY5 (aV (aqgh hr.units) aqgg (aw call_len_seq aH rfl T.z_len az5 (aa (ab 0 (pv 0)) ae)) ah (nomark _))))) (af (ip (DE.m _ aZf))) aF)
   (ac (br 1 (ps_set (i:=1) ako.nd rfl (.inl rfl) (DE.m _ (aqw (ab 0 (pv 0)) ah (fun _ _=>rfl)))))
   (ac (br 2 (ps_set (i:=2) ako.nd rfl (.inl rfl) (DE.m _ (aqw (ab 0 (pv 0)) ah (fun _ _=>rfl)))))
   (ac (aka (DW.dt (aqko (aXm (azs (aG G_is_whole (hm hr) rfl (aa (ab 1 (pv 1)) ae)))) (aY5 (aXm (azs (aG G_is_whole (hm hr) rfl (aa (ab 2 (pv 2)) ae))))))) (af (ip (DE.m _ aZf))) aF)
   (af (ip (DE.m _ (aQ7 (avw op_ge aYa (ab 1 (pv 1)) ah (nomark _)) (aQ7 (avw op_ge aYa (ab 2 (pv 2)) ah (nomark _)) (aY9 (avw (akg hr.units) akf (aG G_divisor (hm hr) rfl (aa (ab 1 (pv 1)) (aa (ab 2 (pv 2)) ae))) ah (nomark _)))))))))))))
theorem aX5:FnScope ["thing","many"] ["thing","many"] (defScope azw):=fsc
theorem aX9 {f:Addr} {fd:FuncData} (F:Fun K "is_paid_list" "is_paid_list" azw f fd) (T:Txt mg) (G_is_amount:Fn P w K mg base 2 "is_amount" ["thing"] (spD K 1 ajq)):FnOk P w K mg base CX0 3 f fd ["thing","many"] (spD K 2 aq6) :=
 FnOk.d (fnO F aX5 (k:=2) (n:=2) (m:=2) (b:=az8) rfl rfl fun cdv A outer s H E hr =>
  (af (ip (DE.m _ (aQ7 (aqcm aqef rfl T.z_isinstance rfl T.z_list avx (ab 0 (pv 0))) (aQ7 (avw (akg hr.units) akf (aw call_len_seq aH rfl T.z_len az5 (aa (ab 0 (pv 0)) ae)) (ab 1 (pv 1)) (nomark _)) (aY9 (aw (ax4 rfl) ax3 rfl T.z_all aK9 (aa (DO.de (ss (cl:=_) (N':=["part"]) (js:=[none]) (by o_reads) (by exact (pi_list (ab 0 (pv 0)))) (fun _ _ _ q=>ao q) (by exact fun _ _ _ _ _=>(am 0 (pgc 0))) (by exact fun _ _ _ _ _=>aC) (by exact fun _ _ _ _ _=>(DE.o (aG G_is_amount (hm hr) rfl (aa (ab 0 (pv 0)) ae)))))) ae)))))))))
theorem aqc7:FnScope ["thing","many"] ["thing","many"] (defScope aJy):=fsc
theorem aqce {f:Addr} {fd:FuncData} (F:Fun K "is_entry" "is_entry" aJy f fd) (T:Txt mg) (G_is_candidate:Fn P w K mg base 2 "is_candidate" ["thing"] (spD K 1 aq7)) (G_is_paid_list:Fn P w K mg base 3 "is_paid_list" ["thing","many"] (spD K 2 aq6)):FnOk P w K mg base CX0 4 f fd ["thing","many"] (spD K 2 avs) :=
 FnOk.d (fnO F aqc7 (k:=3) (n:=2) (m:=2) (b:=aXy) rfl rfl fun cdv A outer s H E hr =>
  (af (ip (DE.m _ (aQ7 (aqcm aqb7 rfl T.z_isinstance rfl T.z_tuple aqf9 (ab 0 (pv 0))) (aQ7 (avw (akg hr.units) akf (aw call_len_seq aH rfl T.z_len az5 (aa (ab 0 (pv 0)) ae)) ah (nomark _)) (aQ7 (aG G_is_candidate (hm hr) rfl (aa (aqw (ab 0 (pv 0)) ah (fun _ _=>rfl)) ae)) (aY9 (aG G_is_paid_list (hm hr) rfl (aa (aqw (ab 0 (pv 0)) ah (fun _ _=>rfl)) (aa (ab 1 (pv 1)) ae)))))))))))
theorem aww:FnScope ["thing","many","seen","entry"] ["thing","many"] (defScope aJx):=fsc
theorem aqcd {f:Addr} {fd:FuncData} (F:Fun K "is_paper" "is_paper" aJx f fd) (T:Txt mg) (G_is_entry:Fn P w K mg base 4 "is_entry" ["thing","many"] (spD K 2 avs)):FnOk P w K mg base CX0 5 f fd ["thing","many"] (spD K 2 avr) :=
 FnOk.d (fnO F aww (k:=4) (n:=2) (m:=4) (b:=aXx) rfl rfl fun cdv A outer s H E hr =>
  (ac (aka (aXm (azs (aqcm aqef rfl T.z_isinstance rfl T.z_list avx (ab 0 (pv 0))))) (af (ip (DE.m _ aZf))) aF)
   (ac (br 2 (ps_set (i:=2) aww.nd rfl (.inl rfl) (DO.m _ (azd ae))))
   (ac (avu PassesOwn.never rfl (ab 0 (pv 0)) (aN 3 (pg_name (i:=3) aww.nd rfl (.inl rfl))) (ac (aka (DW.dt (aqko (aXm (azs (aG G_is_entry (hm hr) rfl (aa (ab 3 (pv 3)) (aa (ab 1 (pv 1)) ae))))) (aY5 (aV (aYb (aqem hr)) aW9 (aqw (ab 3 (pv 3)) ah (fun _ _=>rfl)) (ab 2 (pv 2)) (by rfl))))) (af (ip (DE.m _ aZf))) aF)
   (af (aqf1 (i:=2) (ps_expr (pe_bm PySem.F.plainAttrs_list PySem.F.slot_list_append PySem.F.type_list_append mt_append (aQz (pv 2)) (pa_cons (DE.m _ (aqw (ab 3 (pv 3)) ah (fun _ _=>rfl))) pa_nil)))))))
   (af (ip (DE.m _ aZf)))))))
theorem axn:FnScope ["heap","candidate","amounts","places","bottom","tops","strangers"] ["heap","candidate","amounts"] (defScope aw2):=fsc
theorem aYg {f:Addr} {fd:FuncData} (F:Fun K "is_bought" "is_bought" aw2 f fd) (T:Txt mg) (G_likers:Fn P w K mg base 3 "likers" ["heap","candidate"] (spO K 2 aX)) (G_common_bottom:Fn P w K mg base 2 "common_bottom" ["fractions"] (spD K 1 ay)) (G_tops_over:Fn P w K mg base 1 "tops_over" ["bottom","fractions"] (spD K 2 aS)) (G_weighed:Fn P w K mg base 1 "weighed" ["heap","amounts","places"] (spD K 3 aq5)) (G_weight_of:Fn P w K mg base 1 "weight_of" ["heap"] (spD K 1 aI)):FnOk P w K mg base CX0 4 f fd ["heap","candidate","amounts"] (spD K 3 ajp) :=
 FnOk.d (fnO F axn (k:=3) (n:=3) (m:=7) (b:=aQm) rfl rfl fun cdv A outer s H E hr =>
  (ac (br 3 (ps_set (i:=3) axn.nd rfl (.inr rfl) (DO.m _ (aKa G_likers (hm hr) rfl (aa (ab 0 (pv 0)) (aa (ab 1 (pv 1)) ae))))))
   (ac (br 4 (ps_set (i:=4) axn.nd rfl (.inl rfl) (DE.m _ (aG G_common_bottom (hm hr) rfl (aa (ab 2 (pv 2)) ae)))))
   (ac (br 5 (ps_set (i:=5) axn.nd rfl (.inr rfl) (DE.m _ (aG G_tops_over (hm hr) rfl (aa (ab 4 (pv 4)) (aa (ab 2 (pv 2)) ae))))))
   (ac (avv (i:=6) (cl:=_) (N':=["place","places"]) (js:=[none,some 3]) (by o_reads) (by exact (pi_range1 rfl T.z_range (aa (aw call_len_seq aH rfl T.z_len az5 (aa (ab 0 (pv 0)) ae)) ae))) (fun _ _ _ q=>aqf6 q) (by exact fun _ _ _ _ _=>(am 0 (pgc 0))) (by exact fun _ _ _ _ _=>(aq8 (aV (aJf (aqem hr)) aJe (ab 0 (pv 0)) (ab 1 (pv 1)) (by rfl)))) (by exact fun _ _ _ _ _=>(DE.o (ab 0 (pv 0)))) axn.nd rfl rfl rfl)
   (af (ip (DE.m _ (aQ7 (aw (ax4 rfl) ax3 rfl T.z_all aK9 (aa (DO.de (ss (cl:=_) (N':=["place","tops"]) (js:=[none,some 5]) (by o_reads) (by exact (pi_list (ab 6 (pv 6)))) (fun _ _ _ q=>ao q) (by exact fun _ _ _ _ _=>(am 0 (pgc 0))) (by exact fun _ _ _ _ _=>aC) (by exact fun _ _ _ _ _=>(DE.o (avw (akg hr.units) akf (aqw (ab 1 (pv 1)) (ab 0 (pv 0)) (fun _ _=>rfl)) ah (nomark _)))))) ae)) (aY9 (avw (akg hr.units) akf (aG G_weighed (hm hr) rfl (aa (ab 0 (pv 0)) (aa (ab 5 (pv 5)) (aa (ab 3 (pv 3)) ae)))) (aqh aM aL (aG G_weight_of (hm hr) rfl (aa (ab 0 (pv 0)) ae)) (ab 4 (pv 4))) (nomark _))))))))))))
theorem aqo:FnScope ["paper","fractions","candidate","amounts"] ["paper"] (defScope aj5):=fsc
theorem aQb {f:Addr} {fd:FuncData} (F:Fun K "bottom_of_paper" "bottom_of_paper" aj5 f fd) (T:Txt mg) (G_common_bottom:Fn P w K mg base 2 "common_bottom" ["fractions"] (spD K 1 ay)):FnOk P w K mg base CX0 3 f fd ["paper"] (spD K 1 aqb) :=
 FnOk.d (fnO F aqo (k:=2) (n:=1) (m:=4) (b:=aj9) rfl rfl fun cdv A outer s H E hr =>
  (ac (br 1 (ps_set (i:=1) aqo.nd rfl (.inl rfl) (DO.m _ (azd ae))))
   (ac (avu PassesOwn.never rfl (ab 0 (pv 0)) (aK4 rfl (aqg (aN 2 (pg_name (i:=2) aqo.nd rfl (.inl rfl))) (aqg (aN 3 (pg_name (i:=3) aqo.nd rfl (.inl rfl))) aQ0))) (af (aqn9 (i:=1) (ps_expr (pe_bm PySem.F.plainAttrs_list PySem.F.slot_list_extend PySem.F.type_list_extend aKs (aQz (pv 1)) (pa_cons (ab 3 (pv 3)) pa_nil))))))
   (af (ip (DE.m _ (aG G_common_bottom (hm hr) rfl (aa (ab 1 (pv 1)) ae))))))))
theorem axm:FnScope ["heap","seats","paper","bottom","left","candidate","amounts"] ["heap","seats","paper","bottom"] (defScope aw1):=fsc
theorem aYf {f:Addr} {fd:FuncData} (F:Fun K "tops_left" "tops_left" aw1 f fd) (T:Txt mg) (G_tops_over:Fn P w K mg base 1 "tops_over" ["bottom","fractions"] (spD K 2 aS)):FnOk P w K mg base CX0 2 f fd ["heap","seats","paper","bottom"] (spD K 4 azo) :=
 FnOk.d (fnO F axm (k:=1) (n:=4) (m:=7) (b:=aQl) rfl rfl fun cdv A outer s H E hr =>
  (ac (avv (i:=4) (cl:=_) (N':=["pile","seats","bottom"]) (js:=[none,some 1,some 3]) (by o_reads) (by exact (pi_list (ab 0 (pv 0)))) (fun _ _ _ q=>ao q) (by exact fun _ _ _ _ _=>(am 0 (pgc 0))) (by exact fun _ _ _ _ _=>aC) (by exact fun _ _ _ _ _=>(DE.o (aqh aM aL (ab 1 (pv 1)) (ab 2 (pv 2))))) axm.nd rfl rfl rfl)
   (ac (avu PassesOwn.never rfl (ab 2 (pv 2)) (aK4 rfl (aqg (aN 5 (pg_name (i:=5) axm.nd rfl (.inl rfl))) (aqg (aN 6 (pg_name (i:=6) axm.nd rfl (.inl rfl))) aQ0))) (af (avv (i:=4) (cl:=_) (N':=["one","other"]) (js:=[none,none]) (by o_reads) (by exact (aqhs rfl T.z_zip (aa (ab 4 (pv 4)) (aa (aG G_tops_over (hm hr) rfl (aa (ab 3 (pv 3)) (aa (ab 6 (pv 6)) ae))) ae)))) (fun _ _ _ q=>aqf5 q) (by exact fun _ _ _ _ _=>(aXn rfl (aqk (am 0 (pgc 0)) (aqk (am 1 (pgc 1)) aky)))) (by exact fun _ _ _ _ _=>aC) (by exact fun _ _ _ _ _=>(DE.o (aqh op_sub aZr (ab 0 (pv 0)) (ab 1 (pv 1))))) axm.nd rfl rfl rfl)))
   (af (ip (DE.m _ (ab 4 (pv 4))))))))
theorem aqao:FnScope ["heap","paper","chosen"] ["heap","paper"] (defScope aWs):=fsc
theorem aqgj {f:Addr} {fd:FuncData} (F:Fun K "others" "others" aWs f fd) (T:Txt mg) (G_liked:Fn P w K mg base 1 "liked" ["heap"] (spO K 1 axb)):FnOk P w K mg base CX0 2 f fd ["heap","paper"] (spD K 2 aXb) :=
 FnOk.d (fnO F aqao (k:=1) (n:=2) (m:=3) (b:=aqaa) rfl rfl fun cdv A outer s H E hr =>
  (ac (br 2 (ps_set (i:=2) aqao.nd rfl (.inr rfl) (DO.m _ (ss (cl:=_) (N':=["entry"]) (js:=[none]) (by o_reads) (by exact (pi_list (ab 1 (pv 1)))) (fun _ _ _ q=>ao q) (by exact fun _ _ _ _ _=>(am 0 (pgc 0))) (by exact fun _ _ _ _ _=>aC) (by exact fun _ _ _ _ _=>(DE.o (aqw (ab 0 (pv 0)) ah (fun _ _=>rfl))))))))
   (af (ip (DO.m _ (ss (cl:=_) (N':=["candidate","chosen"]) (js:=[none,some 2]) (by o_reads) (by exact (pi_list (DO.de (aKa G_liked (hm hr) rfl (aa (ab 0 (pv 0)) ae))))) (fun _ _ _ q=>ao q) (by exact fun _ _ _ _ _=>(am 0 (pgc 0))) (by exact fun _ _ _ _ _=>(aq8 (aV (aJf (aqem hr)) aJe (ab 0 (pv 0)) (ab 1 (pv 1)) (by rfl)))) (by exact fun _ _ _ _ _=>(DE.o (ab 0 (pv 0))))))))))
theorem aW:FnScope ["heap","seats","paper","bottom","left","price"] ["heap","seats","paper"] (defScope aq4):=fsc
theorem aku {f:Addr} {fd:FuncData} (F:Fun K "leaves_too_little" "leaves_too_little" aq4 f fd) (T:Txt mg) (G_bottom_of_paper:Fn P w K mg base 3 "bottom_of_paper" ["paper"] (spD K 1 aqb)) (G_tops_left:Fn P w K mg base 2 "tops_left" ["heap","seats","paper","bottom"] (spD K 4 azo)) (G_weight_of:Fn P w K mg base 1 "weight_of" ["heap"] (spD K 1 aI)) (G_weighed:Fn P w K mg base 1 "weighed" ["heap","amounts","places"] (spD K 3 aq5)) (G_likers:Fn P w K mg base 3 "likers" ["heap","candidate"] (spO K 2 aX)) (G_others:Fn P w K mg base 2 "others" ["heap","paper"] (spD K 2 aXb)):FnOk P w K mg base CX0 4 f fd ["heap","seats","paper"] (spD K 3 aO) :=
 FnOk.d (fnO F aW (k:=3) (n:=3) (m:=6) (b:=ajd) rfl rfl fun cdv A outer s H E hr =>
  (ac (br 3 (ps_set (i:=3) aW.nd rfl (.inl rfl) (DE.m _ (aG G_bottom_of_paper (hm hr) rfl (aa (ab 2 (pv 2)) ae)))))
   (ac (br 4 (ps_set (i:=4) aW.nd rfl (.inr rfl) (DE.m _ (aG G_tops_left (hm hr) rfl (aa (ab 0 (pv 0)) (aa (ab 1 (pv 1)) (aa (ab 2 (pv 2)) (aa (ab 3 (pv 3)) ae))))))))
   (ac (br 5 (ps_set (i:=5) aW.nd rfl (.inr rfl) (DE.m _ (aqh aM aL (aG G_weight_of (hm hr) rfl (aa (ab 0 (pv 0)) ae)) (ab 3 (pv 3))))))
   (af (ip (DE.m _ (aQ7 (aw (ax4 rfl) ax3 rfl T.z_all aK9 (aa (DO.de (ss (cl:=_) (N':=["top"]) (js:=[none]) (by o_reads) (by exact (pi_list (ab 4 (pv 4)))) (fun _ _ _ q=>ao q) (by exact fun _ _ _ _ _=>(am 0 (pgc 0))) (by exact fun _ _ _ _ _=>aC) (by exact fun _ _ _ _ _=>(DE.o (avw op_ge aYa (ab 0 (pv 0)) ah (nomark _)))))) ae)) (aY9 (aw (ax4 rfl) ax3 rfl T.z_all aK9 (aa (DO.de (ss (cl:=_) (N':=["other","price","heap","left"]) (js:=[none,some 5,some 0,some 4]) (by o_reads) (by exact (pi_list (aG G_others (hm hr) rfl (aa (ab 0 (pv 0)) (aa (ab 2 (pv 2)) ae))))) (fun _ _ _ q=>ao q) (by exact fun _ _ _ _ _=>(am 0 (pgc 0))) (by exact fun _ _ _ _ _=>aC) (by exact fun _ _ _ _ _=>(DE.o (avw op_lt aqe1 (aG G_weighed (hm hr) rfl (aa (ab 2 (pv 2)) (aa (ab 3 (pv 3)) (aa (DO.de (aKa G_likers (hm hr) rfl (aa (ab 2 (pv 2)) (aa (ab 0 (pv 0)) ae)))) ae)))) (ab 1 (pv 1)) (nomark _)))))) ae)))))))))))
theorem aqly:FnScope ["heap","seats","paper"] ["heap","seats","paper"] (defScope aqj3):=fsc
theorem aqmj {f:Addr} {fd:FuncData} (F:Fun K "pays" "pays" aqj3 f fd) (T:Txt mg) (G_is_paper:Fn P w K mg base 5 "is_paper" ["thing","many"] (spD K 2 avr)) (G_is_bought:Fn P w K mg base 4 "is_bought" ["heap","candidate","amounts"] (spD K 3 ajp)) (G_leaves_too_little:Fn P w K mg base 4 "leaves_too_little" ["heap","seats","paper"] (spD K 3 aO)):FnOk P w K mg base CX0 6 f fd ["heap","seats","paper"] (spD K 3 aqci) :=
 FnOk.d (fnO F aqly (k:=5) (n:=3) (m:=3) (b:=aql5) rfl rfl fun cdv A outer s H E hr =>
  (ac (aka (aXm (azs (aG G_is_paper (hm hr) rfl (aa (ab 2 (pv 2)) (aa (aw call_len_seq aH rfl T.z_len az5 (aa (ab 0 (pv 0)) ae)) ae))))) (af (ip (DE.m _ aZf))) aF)
   (ac (aka (aXm (azs (aw (ax4 rfl) ax3 rfl T.z_all aK9 (aa (DO.de (ss (cl:=_) (N':=["candidate","amounts","heap"]) (js:=[none,none,some 0]) (by o_reads) (by exact (pi_list (ab 2 (pv 2)))) (fun _ _ _ q=>ao q) (by exact fun _ _ _ _ _=>(aXn rfl (aqk (am 0 (pgc 0)) (aqk (am 1 (pgc 1)) aky)))) (by exact fun _ _ _ _ _=>aC) (by exact fun _ _ _ _ _=>(DE.o (aG G_is_bought (hm hr) rfl (aa (ab 2 (pv 2)) (aa (ab 0 (pv 0)) (aa (ab 1 (pv 1)) ae)))))))) ae)))) (af (ip (DE.m _ aZf))) aF)
   (af (ip (DE.m _ (aG G_leaves_too_little (hm hr) rfl (aa (ab 0 (pv 0)) (aa (ab 1 (pv 1)) (aa (ab 2 (pv 2)) ae))))))))))
theorem ajw:FnScope ["heap","seats","chosen","paper","k","fewer","left"] ["heap","seats","chosen"] (defScope akr):=fsc
theorem aKq {f:Addr} {fd:FuncData} (F:Fun K "_law_paper" "_law_paper" akr f fd) (T:Txt mg) (G_paper_of:Fn P w K mg base 7 "paper_of" ["heap","seats"] (spO K 2 avn)) (G_pays:Fn P w K mg base 6 "pays" ["heap","seats","paper"] (spD K 3 aqci)) (G_passed_over:Fn P w K mg base 4 "passed_over" ["heap","seats","members"] (spD K 3 aE)):FnOk P w K mg base CX0 8 f fd ["heap","seats","chosen"] (spD K 3 axr) :=
 FnOk.d (fnO F ajw (k:=7) (n:=3) (m:=7) (b:=ak5) rfl rfl fun cdv A outer s H E hr =>
  (ac (br 3 (ps_set (i:=3) ajw.nd rfl (.inl rfl) (DO.m _ (aKa G_paper_of (hm hr) rfl (aa (ab 0 (pv 0)) (aa (ab 1 (pv 1)) ae))))))
   (ac (aka (DW.dt (aqko (aV aQv aQu (aG G_pays (hm hr) rfl (aa (ab 0 (pv 0)) (aa (ab 1 (pv 1)) (aa (ab 3 (pv 3)) ae)))) aZf (nomark _)) (aY5 (aV (aqgh hr.units) aqgg (DO.de (ss (cl:=_) (N':=["row"]) (js:=[none]) (by o_reads) (by exact (pi_list (ab 3 (pv 3)))) (fun _ _ _ q=>ao q) (by exact fun _ _ _ _ _=>(am 0 (pgc 0))) (by exact fun _ _ _ _ _=>aC) (by exact fun _ _ _ _ _=>(DE.o (aqw (ab 0 (pv 0)) ah (fun _ _=>rfl)))))) (ab 2 (pv 2)) (nomark _))))) (af (ip (DE.m _ aZf))) aF)
   (ac (aqkq PassesOwn.never rfl rfl T.z_range (aa (aw call_len_seq aH rfl T.z_len az5 (aa (ab 3 (pv 3)) ae)) ae) (aN 4 (pg_name (i:=4) ajw.nd rfl (.inl rfl))) (ac (br 5 (ps_set (i:=5) ajw.nd rfl (.inl rfl) (DO.m _ (do_op aqb0 aqaz (DO.de (aqna (ab 3 (pv 3)) aVx (aQg (ab 4 (pv 4))))) (DO.de (aqna (ab 3 (pv 3)) (aQg (aqh avj avh (ab 4 (pv 4)) ah)) aVx))))))
   (ac (br 6 (ps_set (i:=6) ajw.nd rfl (.inl rfl) (DO.m _ (aVy az4 az3 rfl T.z_sorted akd (aa (DO.de (ss (cl:=_) (N':=["row"]) (js:=[none]) (by o_reads) (by exact (pi_list (ab 5 (pv 5)))) (fun _ _ _ q=>ao q) (by exact fun _ _ _ _ _=>(am 0 (pgc 0))) (by exact fun _ _ _ _ _=>aC) (by exact fun _ _ _ _ _=>(DE.o (aqw (ab 0 (pv 0)) ah (fun _ _=>rfl)))))) ae)))))
   (af (aka (DW.dt (aqpc (azs (aG G_pays (hm hr) rfl (aa (ab 0 (pv 0)) (aa (ab 1 (pv 1)) (aa (ab 5 (pv 5)) ae))))) (aqn7 (aV aQv aQu (aG G_passed_over (hm hr) rfl (aa (ab 0 (pv 0)) (aa (ab 1 (pv 1)) (aa (ab 6 (pv 6)) ae)))) akz (nomark _))))) (af (ip (DE.m _ aZf))) aF)))))
   (af (ip (DE.m _ aZf)))))))
theorem aqg2:FnScope ["heap","seats"] ["heap","seats"] (defScope aWv):=fsc
theorem aqgm {f:Addr} {fd:FuncData} (F:Fun K "growth" "growth" aWv f fd) (T:Txt mg) (G_grown:Fn P w K mg base 6 "grown" ["heap","purses","members","seats"] (spD K 4 aXd)):FnOk P w K mg base CX0 7 f fd ["heap","seats"] (spD K 2 aXc) :=
 FnOk.d (fnO F aqg2 (k:=6) (n:=2) (m:=2) (b:=aqad) rfl rfl fun cdv A outer s H E hr =>
  (af (ip (DE.m _ (aG G_grown (hm hr) rfl (aa (ab 0 (pv 0)) (aa (DO.de (ss (cl:=_) (N':=["pile"]) (js:=[none]) (by o_reads) (by exact (pi_list (ab 0 (pv 0)))) (fun _ _ _ q=>ao q) (by exact fun _ _ _ _ _=>(am 0 (pgc 0))) (by exact fun _ _ _ _ _=>aC) (by exact fun _ _ _ _ _=>(DE.o (aQh (aa ah (aa ah ae))))))) (aa (DO.de (azd ae)) (aa (ab 1 (pv 1)) ae)))))))))
theorem aqc:FnScope ["heap","seats","members","candidate","left","found","some","group","place"] ["heap","seats","members","candidate"] (defScope azz):=fsc
theorem aZc {f:Addr} {fd:FuncData} (F:Fun K "_law_without" "_law_without" azz f fd) (T:Txt mg) (G_left_out:Fn P w K mg base 4 "left_out" ["heap","seats","members"] (spD K 3 ajy)) (G_passed_over:Fn P w K mg base 4 "passed_over" ["heap","seats","members"] (spD K 3 aE)) (G_claim:Fn P w K mg base 3 "claim" ["heap","seats","some","group"] (spD K 4 axq)):FnOk P w K mg base CX0 5 f fd ["heap","seats","members","candidate"] (spD K 4 aqr) :=
 FnOk.d (fnO F aqc (k:=4) (n:=4) (m:=9) (b:=axi) rfl rfl fun cdv A outer s H E hr =>
  (ac (br 4 (ps_set (i:=4) aqc.nd rfl (.inr rfl) (DO.m _ (ss (cl:=_) (N':=["other","candidate"]) (js:=[none,some 3]) (by o_reads) (by exact (pi_list (ab 2 (pv 2)))) (fun _ _ _ q=>ao q) (by exact fun _ _ _ _ _=>(am 0 (pgc 0))) (by exact fun _ _ _ _ _=>(aq8 (aV (aqgh hr.units) aqgg (ab 0 (pv 0)) (ab 1 (pv 1)) (nomark _)))) (by exact fun _ _ _ _ _=>(DE.o (ab 0 (pv 0))))))))
   (ac (br 5 (ps_set (i:=5) aqc.nd rfl (.inl rfl) (DE.m _ (aG G_left_out (hm hr) rfl (aa (ab 0 (pv 0)) (aa (ab 1 (pv 1)) (aa (DO.de (axe call_list_of ajb rfl T.z_list avx (aa (ab 4 (pv 4)) ae))) ae)))))))
   (ac (aka (aV aqjh aqjf (ab 5 (pv 5)) akz (nomark _)) (af (ip (DE.m _ (avw aqjh aqjf (aG G_passed_over (hm hr) rfl (aa (ab 0 (pv 0)) (aa (ab 1 (pv 1)) (aa (DO.de (axe call_list_of ajb rfl T.z_list avx (aa (ab 4 (pv 4)) ae))) ae)))) akz (nomark _))))) aF)
   (ac (aqn8 (ps_asg (ab 5 (pv 5)) (aK4 rfl (aqg (aN 6 (pg_name (i:=6) aqc.nd rfl (.inl rfl))) (aqg (aN 7 (pg_name (i:=7) aqc.nd rfl (.inl rfl))) aQ0)))))
   (ac (aka (aXm (azs (aG G_claim (hm hr) rfl (aa (ab 0 (pv 0)) (aa (ab 1 (pv 1)) (aa (DO.de (axe call_list_of ajb rfl T.z_list avx (aa (ab 6 (pv 6)) ae))) (aa (DO.de (axe call_list_of ajb rfl T.z_list avx (aa (ab 7 (pv 7)) ae))) ae))))))) (af (ip (DE.m _ aZf))) aF)
   (ac (avu PassesOwn.never rfl (ab 7 (pv 7)) (aN 8 (pg_name (i:=8) aqc.nd rfl (.inl rfl))) (af (aka (aV op_ge aYa (aw call_len_seq aH rfl T.z_len az5 (aa (DO.de (ss (cl:=_) (N':=["other","left"]) (js:=[none,some 4]) (by o_reads) (by exact (pi_list (aqw (aqw (ab 0 (pv 0)) (ab 8 (pv 8)) (fun _ _=>rfl)) ah (fun _ _=>rfl)))) (fun _ _ _ q=>ao q) (by exact fun _ _ _ _ _=>(am 0 (pgc 0))) (by exact fun _ _ _ _ _=>(aq8 (aV (aYb (aqem hr)) aW9 (ab 0 (pv 0)) (ab 1 (pv 1)) (by rfl)))) (by exact fun _ _ _ _ _=>(DE.o (ab 0 (pv 0)))))) ae)) (aw call_len_seq aH rfl T.z_len az5 (aa (ab 6 (pv 6)) ae)) (nomark _)) (af (ip (DE.m _ aZf))) aF)))
   (af (ip (DE.m _ aZf))))))))))
theorem aX4:FnScope ["script","heap","seats","members","rows","more","found","chosen","candidate"] ["script"] (defScope aqj5):=fsc
theorem aqon {f:Addr} {fd:FuncData} (F:Fun K "law" "law" aqj5 f fd) (T:Txt mg) (G__law_heap:Fn P w K mg base 3 "_law_heap" ["cells","unit"] (spD K 2 azr)) (G__law_unit:Fn P w K mg base 1 "_law_unit" ["number"] (spD K 1 azq)) (G__law_cell:Fn P w K mg base 1 "_law_cell" ["script","k"] (spD K 2 aU)) (G_bench:Fn P w K mg base 7 "bench" ["heap","seats"] (spD K 2 aKu)) (G_left_out:Fn P w K mg base 4 "left_out" ["heap","seats","members"] (spD K 3 ajy)) (G_shut_out:Fn P w K mg base 4 "shut_out" ["heap","seats","members"] (spD K 3 azp)) (G_passed_over:Fn P w K mg base 4 "passed_over" ["heap","seats","members"] (spD K 3 aE)) (G__law_paper:Fn P w K mg base 8 "_law_paper" ["heap","seats","chosen"] (spD K 3 axr)) (G_growth:Fn P w K mg base 7 "growth" ["heap","seats"] (spD K 2 aXc)) (G__law_without:Fn P w K mg base 5 "_law_without" ["heap","seats","members","candidate"] (spD K 4 aqr)):FnOk P w K mg base CX0 9 f fd ["script"] (spD K 1 aqi3) :=
 FnOk.d (fnO F aX4 (k:=8) (n:=1) (m:=9) (b:=b_law) rfl rfl fun cdv A outer s H E hr =>
  (ac (br 1 (ps_set (i:=1) aX4.nd rfl (.inl rfl) (DE.m _ (aG G__law_heap (hm hr) rfl (aa (DO.de (aqna (ab 0 (pv 0)) (aQg ah) (aQg ah))) (aa (aG G__law_unit (hm hr) rfl (aa (aG G__law_cell (hm hr) rfl (aa (ab 0 (pv 0)) (aa ah ae))) ae)) ae))))))
   (ac (aka (aV (akg hr.units) akf (ab 1 (pv 1)) (DO.de (azd ae)) (nomark _)) (af (br 1 (ps_set (i:=1) aX4.nd rfl (.inl rfl) (DO.m _ (aqib (axu (aqbl (axu (DE.o (aqh avj avh ah (aqh op_modN ax0 (aG G__law_cell (hm hr) rfl (aa (ab 0 (pv 0)) (aa ah ae))) (aqh op_pow aqe0 ah ah)))) (axu (azd (aqf3 (ns:=[0,1,2]) rfl)) aZy))) aZy)))))) aF)
   (ac (br 2 (ps_set (i:=2) aX4.nd rfl (.inl rfl) (DE.m _ (aqh avj avh ah (aqh op_modN ax0 (aG G__law_cell (hm hr) rfl (aa (ab 0 (pv 0)) (aa ah ae))) ah)))))
   (ac (aqn8 (ps_asg (aG G_bench (hm hr) rfl (aa (ab 1 (pv 1)) (aa (ab 2 (pv 2)) ae))) (aK4 rfl (aqg (aN 3 (pg_name (i:=3) aX4.nd rfl (.inl rfl))) (aqg (aN 4 (pg_name (i:=4) aX4.nd rfl (.inl rfl))) (aqg (aN 5 (pg_name (i:=5) aX4.nd rfl (.inl rfl))) aQ0))))))
   (ac (avu PassesOwn.never rfl (DO.de (azd (aa (aG G_left_out (hm hr) rfl (aa (ab 1 (pv 1)) (aa (ab 2 (pv 2)) (aa (DO.de (axe call_list_of ajb rfl T.z_list avx (aa (ab 3 (pv 3)) ae))) ae)))) (aa (aG G_shut_out (hm hr) rfl (aa (ab 1 (pv 1)) (aa (ab 2 (pv 2)) (aa (DO.de (axe call_list_of ajb rfl T.z_list avx (aa (ab 3 (pv 3)) ae))) ae)))) ae)))) (aN 6 (pg_name (i:=6) aX4.nd rfl (.inl rfl))) (af (aka (aV aQv aQu (ab 6 (pv 6)) akz (nomark _)) (af (ip (DE.m _ aZf))) aF)))
   (ac (avv (i:=7) (cl:=_) (N':=["row"]) (js:=[none]) (by o_reads) (by exact (pi_list (ab 4 (pv 4)))) (fun _ _ _ q=>ao q) (by exact fun _ _ _ _ _=>(am 0 (pgc 0))) (by exact fun _ _ _ _ _=>aC) (by exact fun _ _ _ _ _=>(DE.o (aqw (ab 0 (pv 0)) ah (fun _ _=>rfl)))) aX4.nd rfl rfl rfl)
   (ac (aka (DW.dt (aqko (aV aQv aQu (aG G_passed_over (hm hr) rfl (aa (ab 1 (pv 1)) (aa (ab 2 (pv 2)) (aa (DO.de (axe call_list_of ajb rfl T.z_list avx (aa (ab 3 (pv 3)) ae))) ae)))) akz (nomark _)) (aY5 (aXm (azs (aG G__law_paper (hm hr) rfl (aa (ab 1 (pv 1)) (aa (ab 2 (pv 2)) (aa (ab 7 (pv 7)) ae))))))))) (af (ip (DE.m _ aZf))) aF)
   (ac (aka (aV aQv aQu (aG G_passed_over (hm hr) rfl (aa (ab 1 (pv 1)) (aa (ab 2 (pv 2)) (aa (DO.de (aVy az4 az3 rfl T.z_sorted akd (aa (DO.de (ss (cl:=_) (N':=["row"]) (js:=[none]) (by o_reads) (by exact (pi_list (aG G_growth (hm hr) rfl (aa (ab 1 (pv 1)) (aa (ab 2 (pv 2)) ae))))) (fun _ _ _ q=>ao q) (by exact fun _ _ _ _ _=>(am 0 (pgc 0))) (by exact fun _ _ _ _ _=>aC) (by exact fun _ _ _ _ _=>(DE.o (aqw (ab 0 (pv 0)) ah (fun _ _=>rfl)))))) ae))) ae)))) akz (nomark _)) (af (ip (DE.m _ aZf))) aF)
   (ac (avu PassesOwn.never rfl (DO.de (aqna (ab 3 (pv 3)) aVx (aQg ah))) (aN 8 (pg_name (i:=8) aX4.nd rfl (.inl rfl))) (af (aka (aXm (azs (aG G__law_without (hm hr) rfl (aa (ab 1 (pv 1)) (aa (ab 2 (pv 2)) (aa (ab 3 (pv 3)) (aa (ab 8 (pv 8)) ae))))))) (af (ip (DE.m _ aZf))) aF)))
   (af (ip (DE.m _ aZf)))))))))))))
end
def Dn (K:Frag) (x:Str) (st:Stmt):Prop:=∃ (f:Addr) (od an:Option Addr) (sl:Array (Option Value)) (oc kV dc pm cd ct:Value),nsIn K mainGlobals x=some (some (.ref f))/\K.lookup f=some ⟨oc,od,.func (fnOf x x (defArgs st) (defBody st) (defScope st) .none kV dc pm an cd ct),sl⟩/\codeIn K cd x=true/\keepIn K (.ref f)=true
theorem dm {K:Frag} {x:Str} {st:Stmt} {f:Addr} {od an:Option Addr} {sl:Array (Option Value)} {oc kV dc pm cd ct:Value} (a:nsIn K mainGlobals x=some (some (.ref f))) (l:K.lookup f=some ⟨oc,od,.func (fnOf x x (defArgs st) (defBody st) (defScope st) .none kV dc pm an cd ct),sl⟩) (c:codeIn K cd x=true) (k:keepIn K (.ref f)=true):Dn K x st:=⟨f,od,an,sl,oc,kV,dc,pm,cd,ct,a,l,c,k⟩
theorem dn {P:Program} {w:World} {K:Frag} {mg:Str->Option Value} {base h:Heap} (X:K.In h) (G:h.Ns mainGlobals mg) {x:Str} {st:Stmt} {k:Nat} {ps:List Str} {sp:Sp} (d:Dn K x st) (ok:∀ {f:Addr} {fd:FuncData},Fun K x x st f fd->FnOk P w K mg base CX0 k f fd ps sp) (b:∀ (kV doc pm:Value) (an:Option Addr) (cdv ct:Value) (us:List Value),us.length=ps.length->bindArgs (fnOf x x (defArgs st) (defBody st) (defScope st) .none kV doc pm an cdv ct) ⟨us,[]⟩=pure (ps.zip us)):Fn P w K mg base k x ps sp:=by
 obtain ⟨f,od,an,sl,oc,kV,dc,pm,cd,ct,a,l,c,kk⟩:=d;have F:=fun_mk (st:=st) l c kk;exact ⟨_,_,ok F,mg_of X G a,kk,F.binds (ps:=ps) b⟩
theorem dn1 {P:Program} {w:World} {K:Frag} {mg:Str->Option Value} {base h:Heap} (X:K.In h) (G:h.Ns mainGlobals mg) {x p0:Str} {st:Stmt} {k:Nat} {sp:Sp} (d:Dn K x st) (ok:∀ {f:Addr} {fd:FuncData},Fun K x x st f fd->FnOk P w K mg base CX0 k f fd [p0] sp) (b:∀ (kV doc pm:Value) (an:Option Addr) (cdv ct:Value) a0,bindArgs (fnOf x x (defArgs st) (defBody st) (defScope st) .none kV doc pm an cdv ct) ⟨[a0],[]⟩=pure ([p0].zip [a0])):Fn P w K mg base k x [p0] sp :=
 dn X G d ok fun _ _ _ _ _ _ us hl=>by
  obtain ⟨a0,rfl⟩:=List.length_eq_one_iff.mp hl;exact b _ _ _ _ _ _ a0
theorem dn2 {P:Program} {w:World} {K:Frag} {mg:Str->Option Value} {base h:Heap} (X:K.In h) (G:h.Ns mainGlobals mg) {x p0 p1:Str} {st:Stmt} {k:Nat} {sp:Sp} (d:Dn K x st) (ok:∀ {f:Addr} {fd:FuncData},Fun K x x st f fd->FnOk P w K mg base CX0 k f fd [p0,p1] sp) (b:∀ (kV doc pm:Value) (an:Option Addr) (cdv ct:Value) a0 a1,bindArgs (fnOf x x (defArgs st) (defBody st) (defScope st) .none kV doc pm an cdv ct) ⟨[a0,a1],[]⟩=pure ([p0,p1].zip [a0,a1])):Fn P w K mg base k x [p0,p1] sp :=
 dn X G d ok fun _ _ _ _ _ _ us hl=>by
  cases us with
  | nil=>cases hl
  | cons a0 us =>
   obtain ⟨a1,rfl⟩:=List.length_eq_one_iff.mp (Nat.succ.inj hl);exact b _ _ _ _ _ _ a0 a1
theorem dn3 {P:Program} {w:World} {K:Frag} {mg:Str->Option Value} {base h:Heap} (X:K.In h) (G:h.Ns mainGlobals mg) {x p0 p1 p2:Str} {st:Stmt} {k:Nat} {sp:Sp} (d:Dn K x st) (ok:∀ {f:Addr} {fd:FuncData},Fun K x x st f fd->FnOk P w K mg base CX0 k f fd [p0,p1,p2] sp) (b:∀ (kV doc pm:Value) (an:Option Addr) (cdv ct:Value) a0 a1 a2,bindArgs (fnOf x x (defArgs st) (defBody st) (defScope st) .none kV doc pm an cdv ct) ⟨[a0,a1,a2],[]⟩=pure ([p0,p1,p2].zip [a0,a1,a2])):Fn P w K mg base k x [p0,p1,p2] sp :=
 dn X G d ok fun _ _ _ _ _ _ us hl=>by
  cases us with
  | nil=>cases hl
  | cons a0 us =>
   cases us with
   | nil=>cases hl
   | cons a1 us =>
    obtain ⟨a2,rfl⟩:=List.length_eq_one_iff.mp (Nat.succ.inj (Nat.succ.inj hl));exact b _ _ _ _ _ _ a0 a1 a2
theorem dn4 {P:Program} {w:World} {K:Frag} {mg:Str->Option Value} {base h:Heap} (X:K.In h) (G:h.Ns mainGlobals mg) {x p0 p1 p2 p3:Str} {st:Stmt} {k:Nat} {sp:Sp} (d:Dn K x st) (ok:∀ {f:Addr} {fd:FuncData},Fun K x x st f fd->FnOk P w K mg base CX0 k f fd [p0,p1,p2,p3] sp) (b:∀ (kV doc pm:Value) (an:Option Addr) (cdv ct:Value) a0 a1 a2 a3,bindArgs (fnOf x x (defArgs st) (defBody st) (defScope st) .none kV doc pm an cdv ct) ⟨[a0,a1,a2,a3],[]⟩=pure ([p0,p1,p2,p3].zip [a0,a1,a2,a3])):Fn P w K mg base k x [p0,p1,p2,p3] sp :=
 dn X G d ok fun _ _ _ _ _ _ us hl=>by
  cases us with
  | nil=>cases hl
  | cons a0 us =>
   cases us with
   | nil=>cases hl
   | cons a1 us =>
    cases us with
    | nil=>cases hl
    | cons a2 us =>
     obtain ⟨a3,rfl⟩:=List.length_eq_one_iff.mp (Nat.succ.inj (Nat.succ.inj (Nat.succ.inj hl)));exact b _ _ _ _ _ _ a0 a1 a2 a3
theorem all_mk {l:PySem.W.OpenLaw} {w:World} {K:Frag} {h:Heap} {mg:Str->Option Value} {fa:Addr} (X:K.In h) (G:h.Ns mainGlobals mg) (hfa:mg "law"=some (.ref fa)) (d0:Dn K "_law_marks" aks) (d1:Dn K "_law_pile" aw5) (d2:Dn K "_law_heap" aw6) (d3:Dn K "_law_unit" aw4) (d4:Dn K "_law_cell" aw7) (d5:Dn K "first_purses" azy) (d6:Dn K "below" aqdn) (d7:Dn K "least" aqdj) (d8:Dn K "weight_of" awy) (d9:Dn K "likes_each" akp) (d10:Dn K "agreed" aWw) (d11:Dn K "likers" aWu) (d12:Dn K "divisor" aVd) (d13:Dn K "common_bottom" ax9) (d14:Dn K "tops_over" aw0) (d15:Dn K "weight_at" awz) (d16:Dn K "share" aqdg) (d17:Dn K "rate" aqj1) (d18:Dn K "liked" aqdi) (d19:Dn K "offers" aWt) (d20:Dn K "minus" aqdh) (d21:Dn K "purse_behind" azv) (d22:Dn K "paid" aqj4) (d23:Dn K "rounds" aWr) (d24:Dn K "candidates_of" aza) (d25:Dn K "weighed" aVc) (d26:Dn K "wait" aqj0) (d27:Dn K "waits" aqdf) (d28:Dn K "plus" aqj2) (d29:Dn K "purses_behind" ax7) (d30:Dn K "grown" aqdk) (d31:Dn K "last_purses" ave) (d32:Dn K "bench" aqdm) (d33:Dn K "members_liked" ax8) (d34:Dn K "claim" aqdl) (d35:Dn K "choices" aVe) (d36:Dn K "left_out" aJv) (d37:Dn K "shut_out" aJt) (d38:Dn K "likes_no_other" axo) (d39:Dn K "choices_of" akq) (d40:Dn K "passed_over" avd) (d41:Dn K "paper_of" aJu) (d42:Dn K "is_whole" aJw) (d43:Dn K "is_candidate" azx) (d44:Dn K "is_amount" aw3) (d45:Dn K "is_paid_list" azw) (d46:Dn K "is_entry" aJy) (d47:Dn K "is_paper" aJx) (d48:Dn K "is_bought" aw2) (d49:Dn K "bottom_of_paper" aj5) (d50:Dn K "tops_left" aw1) (d51:Dn K "others" aWs) (d52:Dn K "leaves_too_little" aq4) (d53:Dn K "pays" aqj3) (d54:Dn K "_law_paper" akr) (d55:Dn K "growth" aWv) (d56:Dn K "_law_without" azz) (d57:Dn K "law" aqj5) (z0:nsIn K mainGlobals "abs"=some none) (z1:nsIn K mainGlobals "all"=some none) (z2:nsIn K mainGlobals "bool"=some none) (z3:nsIn K mainGlobals "enumerate"=some none) (z4:nsIn K mainGlobals "int"=some none) (z5:nsIn K mainGlobals "isinstance"=some none) (z6:nsIn K mainGlobals "len"=some none) (z7:nsIn K mainGlobals "list"=some none) (z8:nsIn K mainGlobals "min"=some none) (z9:nsIn K mainGlobals "range"=some none) (z10:nsIn K mainGlobals "set"=some none) (z11:nsIn K mainGlobals "sorted"=some none) (z12:nsIn K mainGlobals "sum"=some none) (z13:nsIn K mainGlobals "tuple"=some none) (z14:nsIn K mainGlobals "zip"=some none) {tk0:Tok} (y0:nsIn K mainGlobals "LAST_CANDIDATE"=some (some (.int 5 tk0))) :
  ∃ fd:FuncData,(∀ (s:Shared) (v:Value),BindsTo s fd ⟨[v],[]⟩ [("script",v)])/\∀ base:Heap,K.In base->base.Ns mainGlobals mg->FnOk l.prog w K mg base CX0 9 fa fd ["script"] (spD K 1 aqi3):=by
 obtain ⟨f,od,an,sl,oc,kV,dc,pm,cd,ct,a,l1,c,kk⟩:=d57;have e:=hfa.symm.trans (mg_of X G a);cases e;have T:Txt mg:=⟨mg_none_of X G z0,mg_none_of X G z1,mg_none_of X G z2,mg_none_of X G z3,mg_none_of X G z4,mg_none_of X G z5,mg_none_of X G z6,mg_none_of X G z7,mg_none_of X G z8,mg_none_of X G z9,mg_none_of X G z10,mg_none_of X G z11,mg_none_of X G z12,mg_none_of X G z13,mg_none_of X G z14,⟨_,mg_of X G y0⟩⟩;have F:=fun_mk (st:=aqj5) l1 c kk;refine ⟨fnOf "law" "law" (defArgs aqj5) (defBody aqj5) (defScope aqj5) .none kV dc pm an cd ct,fun s v=>.of_eq rfl,fun base _ _=>?_⟩;have D1:=@dn1 l.prog w K mg base h X G;have D2:=@dn2 l.prog w K mg base h X G;have D3:=@dn3 l.prog w K mg base h X G;have D4:=@dn4 l.prog w K mg base h X G;have G__law_marks:=D1 d0 (fun F=>aKr F T) fun _ _ _ _ _ _ _ =>rfl;have G__law_pile:=D2 d1 (fun F=>aYj F T G__law_marks) fun _ _ _ _ _ _ _ _ =>rfl;have G__law_heap:=D2 d2 (fun F=>aYk F T G__law_pile) fun _ _ _ _ _ _ _ _ =>rfl;have G__law_unit:=D1 d3 (fun F=>aYi F T) fun _ _ _ _ _ _ _ =>rfl;have G__law_cell:=D2 d4 (fun F=>aYl F T) fun _ _ _ _ _ _ _ _ =>rfl;have G_first_purses:=D2 d5 (fun F=>aZb F T) fun _ _ _ _ _ _ _ _ =>rfl;have G_below:=D2 d6 (fun F=>aqjq F T) fun _ _ _ _ _ _ _ _ =>rfl;have G_least:=D1 d7 (fun F=>aqjm F T G_below) fun _ _ _ _ _ _ _ =>rfl;have G_weight_of:=D1 d8 (fun F=>aYc F T) fun _ _ _ _ _ _ _ =>rfl;have G_likes_each:=D2 d9 (fun F=>aKo F T) fun _ _ _ _ _ _ _ _ =>rfl;have G_agreed:=D2 d10 (fun F=>aqgn F T G_likes_each) fun _ _ _ _ _ _ _ _ =>rfl;have G_likers:=D2 d11 (fun F=>aqgl F T G_agreed) fun _ _ _ _ _ _ _ _ =>rfl;have G_divisor:=D2 d12 (fun F=>aqe3 F T) fun _ _ _ _ _ _ _ _ =>rfl;have G_common_bottom:=D1 d13 (fun F=>aJ6 F T G_divisor) fun _ _ _ _ _ _ _ =>rfl;have G_tops_over:=D2 d14 (fun F=>aYe F T) fun _ _ _ _ _ _ _ _ =>rfl;have G_weight_at:=D2 d15 (fun F=>aYd F T) fun _ _ _ _ _ _ _ _ =>rfl;have G_share:=D2 d16 (fun F=>aqjj F T G_divisor) fun _ _ _ _ _ _ _ _ =>rfl;have G_rate:=D4 d17 (fun F=>aqmh F T G_likers G_common_bottom G_tops_over G_weight_at G_share) fun _ _ _ _ _ _ _ _ _ _ =>rfl;have G_liked:=D1 d18 (fun F=>aqjl F T) fun _ _ _ _ _ _ _ =>rfl;have G_offers:=D3 d19 (fun F=>aqgk F T G_weight_of G_rate G_liked) fun _ _ _ _ _ _ _ _ _ =>rfl;have G_minus:=D2 d20 (fun F=>aqjk F T G_share) fun _ _ _ _ _ _ _ _ =>rfl;have G_purse_behind:=D2 d21 (fun F=>aX8 F T G_below G_minus) fun _ _ _ _ _ _ _ _ =>rfl;have G_paid:=D4 d22 (fun F=>aqmk F T G_purse_behind G_likers) fun _ _ _ _ _ _ _ _ _ _ =>rfl;have G_rounds:=D2 d23 (fun F=>aqgi F T G_first_purses G_least G_offers G_paid) fun _ _ _ _ _ _ _ _ =>rfl;have G_candidates_of:=D1 d24 (fun F=>aJ7 F T) fun _ _ _ _ _ _ _ =>rfl;have G_weighed:=D3 d25 (fun F=>aqe2 F T) fun _ _ _ _ _ _ _ _ _ =>rfl;have G_wait:=D3 d26 (fun F=>aqmg F T G_likers G_common_bottom G_weight_of G_weighed G_tops_over G_share G_weight_at) fun _ _ _ _ _ _ _ _ _ =>rfl;have G_waits:=D4 d27 (fun F=>aqji F T G_wait G_liked) fun _ _ _ _ _ _ _ _ _ _ =>rfl;have G_plus:=D2 d28 (fun F=>aqmi F T G_share) fun _ _ _ _ _ _ _ _ =>rfl;have G_purses_behind:=D3 d29 (fun F=>aJ4 F T G_likers G_plus) fun _ _ _ _ _ _ _ _ _ =>rfl;have G_grown:=D4 d30 (fun F=>aqjn F T G_least G_waits G_purses_behind) fun _ _ _ _ _ _ _ _ _ _ =>rfl;have G_last_purses:=D3 d31 (fun F=>aVn F T G_first_purses) fun _ _ _ _ _ _ _ _ _ =>rfl;have G_bench:=D2 d32 (fun F=>aqjp F T G_rounds G_candidates_of G_grown G_last_purses) fun _ _ _ _ _ _ _ _ =>rfl;have G_members_liked:=D3 d33 (fun F=>aJ5 F T) fun _ _ _ _ _ _ _ _ _ =>rfl;have G_claim:=D4 d34 (fun F=>aqjo F T G_agreed G_weight_at G_weight_of) fun _ _ _ _ _ _ _ _ _ _ =>rfl;have G_choices:=D1 d35 (fun F=>aqe4 F T) fun _ _ _ _ _ _ _ =>rfl;have G_left_out:=D3 d36 (fun F=>aqcb F T G_members_liked G_agreed G_claim G_choices G_liked) fun _ _ _ _ _ _ _ _ _ =>rfl;have G_shut_out:=D3 d37 (fun F=>aqc9 F T G_members_liked G_likers G_claim G_liked) fun _ _ _ _ _ _ _ _ _ =>rfl;have G_likes_no_other:=D4 d38 (fun F=>aQ5 F T G_members_liked) fun _ _ _ _ _ _ _ _ _ _ =>rfl;have G_choices_of:=D2 d39 (fun F=>aKp F T G_choices) fun _ _ _ _ _ _ _ _ =>rfl;have G_passed_over:=D3 d40 (fun F=>aVm F T G_agreed G_claim G_likes_no_other G_choices_of G_choices G_liked) fun _ _ _ _ _ _ _ _ _ =>rfl;have G_paper_of:=D2 d41 (fun F=>aqca F T G_first_purses G_minus G_rounds) fun _ _ _ _ _ _ _ _ =>rfl;have G_is_whole:=D1 d42 (fun F=>aqcc F T) fun _ _ _ _ _ _ _ =>rfl;have G_is_candidate:=D1 d43 (fun F=>aZa F T G_is_whole) fun _ _ _ _ _ _ _ =>rfl;have G_is_amount:=D1 d44 (fun F=>aYh F T G_is_whole G_divisor) fun _ _ _ _ _ _ _ =>rfl;have G_is_paid_list:=D2 d45 (fun F=>aX9 F T G_is_amount) fun _ _ _ _ _ _ _ _ =>rfl;have G_is_entry:=D2 d46 (fun F=>aqce F T G_is_candidate G_is_paid_list) fun _ _ _ _ _ _ _ _ =>rfl;have G_is_paper:=D2 d47 (fun F=>aqcd F T G_is_entry) fun _ _ _ _ _ _ _ _ =>rfl;have G_is_bought:=D3 d48 (fun F=>aYg F T G_likers G_common_bottom G_tops_over G_weighed G_weight_of) fun _ _ _ _ _ _ _ _ _ =>rfl;have G_bottom_of_paper:=D1 d49 (fun F=>aQb F T G_common_bottom) fun _ _ _ _ _ _ _ =>rfl;have G_tops_left:=D4 d50 (fun F=>aYf F T G_tops_over) fun _ _ _ _ _ _ _ _ _ _ =>rfl;have G_others:=D2 d51 (fun F=>aqgj F T G_liked) fun _ _ _ _ _ _ _ _ =>rfl;have G_leaves_too_little:=D3 d52 (fun F=>aku F T G_bottom_of_paper G_tops_left G_weight_of G_weighed G_likers G_others) fun _ _ _ _ _ _ _ _ _ =>rfl;have G_pays:=D3 d53 (fun F=>aqmj F T G_is_paper G_is_bought G_leaves_too_little) fun _ _ _ _ _ _ _ _ _ =>rfl;have G__law_paper:=D3 d54 (fun F=>aKq F T G_paper_of G_pays G_passed_over) fun _ _ _ _ _ _ _ _ _ =>rfl;have G_growth:=D2 d55 (fun F=>aqgm F T G_grown) fun _ _ _ _ _ _ _ _ =>rfl;have G__law_without:=D4 d56 (fun F=>aZc F T G_left_out G_passed_over G_claim) fun _ _ _ _ _ _ _ _ _ _ =>rfl;exact aqon F T G__law_heap G__law_unit G__law_cell G_bench G_left_out G_shut_out G_passed_over G__law_paper G_growth G__law_without
theorem walk {l:PySem.W.OpenLaw} {qq:Program} {loose:List Str} {XP:(Str->Option Value)->Heap->Prop} {YP:World->Heap->Prop} {d:DefRec} {K:Params->Frag} (hlaw:∀ ns:List Int,ns.length <= 63->aqi3 [.lst (ns.map .int)]=some (.bl true)) (hn:l.most=some 63) (hdf:d.params.defaults=[])
  (hY:∀ (w:World) (h:Heap),YP w h->(K w.params).In h)
  (F:∀ (w:World) (mg:Str->Option Value) (fa:Addr) (h:Heap),(K w.params).In h->h.Ns mainGlobals mg->mg d.name=some (.ref fa) ->
   ∃ fd:FuncData,(∀ (s:Shared) (u:Value),BindsTo s fd ⟨[u],[]⟩ [("script",u)])/\∀ base:Heap,(K w.params).In base->base.Ns mainGlobals mg->FnOk l.prog w (K w.params) mg base CX0 9 fa fd ["script"] (spD (K w.params) 1 aqi3)) :
  PySem.W.WalkO qq loose XP YP l.row.toRowW d [] (fun f vs=>PySem.call f vs) :=
 DL.aqhj (n:=63) (k:=9) (x:="script") (CX:=fun _=>CX0) (sp:=fun w=>spD (K w.params) 1 aqi3) hn (by decide) hdf ⟨rfl,by decide,by decide⟩ hY F (fun _ _ a ns hl hS=>aqox (hlaw ns hl) hS) fun _ _ _ _ _ z=>z
end L_k80
namespace PySem.W.Fast
theorem tw14420212091737804331:True:=⟨⟩
theorem tw10004595880344396658:True:=⟨⟩
theorem tw17161840061281144861:True:=⟨⟩
theorem tw12468783648855053495:True:=⟨⟩
theorem tw4292622882065121002:True:=⟨⟩
theorem tw14522879640857009781:True:=⟨⟩
theorem tw16263072693377752311:True:=⟨⟩
theorem tw1112223178858305779:True:=⟨⟩
theorem tw4254610542579642558:True:=⟨⟩
theorem tw1850047384016395916:True:=⟨⟩
theorem tw7625679989858705998:True:=⟨⟩
theorem tw14022690748942506689:True:=⟨⟩
theorem tw13173119899953989067:True:=⟨⟩
theorem tw12236918234121543758:True:=⟨⟩
theorem tw5139565144632787007:True:=⟨⟩
theorem tw4666415798049521044:True:=⟨⟩
theorem tw16842578072756028004:True:=⟨⟩
theorem tw16620554621374521947:True:=⟨⟩
theorem tw4138553159548727831:True:=⟨⟩
theorem tw15112555076072970527:True:=⟨⟩
theorem tw10685267523125524689:True:=⟨⟩
theorem tw4694535498737425919:True:=⟨⟩
theorem tw9643938551704768131:True:=⟨⟩
theorem tw16053388853616703431:True:=⟨⟩
theorem tw11138392814546441026:True:=⟨⟩
theorem tw7928005985780927151:True:=⟨⟩
theorem tw4969974908318893345:True:=⟨⟩
theorem tw3071961441453812470:True:=⟨⟩
theorem tw2371351047572236679:True:=⟨⟩
theorem tw6563139130917391631:True:=⟨⟩
theorem tw16622442462896567589:True:=⟨⟩
theorem tw2947072048236264518:True:=⟨⟩
theorem tw15228351133916090878:True:=⟨⟩
theorem tw2402963583368773302:True:=⟨⟩
theorem tw1461174530149439833:True:=⟨⟩
theorem tw10036390028602614125:True:=⟨⟩
theorem tw11733113548294442037:True:=⟨⟩
theorem tw14671442155180179984:True:=⟨⟩
theorem tw11624624549758098898:True:=⟨⟩
theorem tw10374914104599639895:True:=⟨⟩
theorem tw5825529557764223826:True:=⟨⟩
theorem tw15101801338763593558:True:=⟨⟩
theorem tw5012357766580463321:True:=⟨⟩
theorem tw9907343417883556014:True:=⟨⟩
theorem tw13301457981555590555:True:=⟨⟩
end PySem.W.Fast
open PySem PySem.W PyProof.Rows
set_option maxRecDepth 100000 in
set_option maxHeartbeats 0 in
theorem PySem.Challenge.cw_pursebench_k80_whole_all_judges_agree_holds : PySem.Challenge.rw_pursebench_k80_whole_all_judges_agree.Holds := by
 w_on; o_law; k_head; (case hw=>w_witness2)
 k_fill
 refine L_k80.walk (l:=PySem.Challenge.rw_pursebench_k80_whole_all_judges_agree) L_k80.law_true rfl rfl (fun w h Y=>PySem.W.kIn_of Y) ?F
 case F =>
  intro w mg fa h KX G hmg
  refine' L_k80.all_mk KX G hmg ?_ ?_ ?_ ?_ ?_ ?_ ?_ ?_ ?_ ?_ ?_ ?_ ?_ ?_ ?_ ?_ ?_ ?_ ?_ ?_ ?_ ?_ ?_ ?_ ?_ ?_ ?_ ?_ ?_ ?_ ?_ ?_ ?_ ?_ ?_ ?_ ?_ ?_ ?_ ?_ ?_ ?_ ?_ ?_ ?_ ?_ ?_ ?_ ?_ ?_ ?_ ?_ ?_ ?_ ?_ ?_ ?_ ?_ ?_ ?_ ?_ ?_ ?_ ?_ ?_ ?_ ?_ ?_ ?_ ?_ ?_ ?_ ?_ ?_
  all_goals first | (refine' L_k80.dm ?a ?l ?c ?k; (case a=>k_is); (case l=>k_is); (case c=>k_is); (case k=>k_is)) | k_is | skip
