import PyProof.Rows.All
import Wide.All
import OpenK.AllK
import Wide.FinOn
import PyProof.EqAt
import PyProof.EqKinds
import PyProof.TupleCall
import KE.KDictSum
import KE.KRevIter
import PySem.Challenge.RW_pursebench_k80_whole_all_judges_agree
set_option Elab.async false
set_option linter.all false
local macro_rules | `(tactic| o_shape)=>`(tactic| first | exact Or.inl rfl | exact Or.inr rfl)
local macro_rules | `(tactic| o_reads)=>`(tactic| exact ⟨rfl,rfl,by repeat' (first | exact True.intro | rfl | o_shape | refine ⟨?_,?_⟩),by decide,rfl,by decide⟩)
set_option bootstrap.genMatcherCode false
set_option genSizeOf false
set_option genSizeOfSpec false
open List (all_eq_true all_map any_eq_true append_nil drop_of_length_le ext_getElem filterMap_cons filter_cons filter_sublist find?_some forIn_cons getElem?_eq_getElem getElem?_map getElem?_set_ne getElem?_set_self getElem_map getElem_mem getElem_of_mem length_append length_cons length_filter_le length_map map_append map_congr_left map_cons map_map map_nil map_take mem_append_right mem_cons mem_cons_of_mem mem_cons_self mem_of_getElem? nil_append nodup_cons not_mem_nil of_mem_zip pairwise_cons size_toArray sum_cons take_of_length_le take_sublist)
open Option (getD_none getD_some)
open Nat (dvd_trans le_of_lt le_refl le_succ le_trans lt_irrefl lt_of_le_of_lt lt_of_lt_of_le lt_succ_of_lt lt_succ_self lt_trans min_eq_left min_eq_right mod_lt mul_comm mul_le_mul_right mul_ne_zero mul_pos ne_of_gt ne_of_lt pow_add pow_le_pow_right zero_le)
open Array (getElem?_toList length_toList)
open PySem.W (Frag codeIn fnOf keepIn mg_none_of mg_of nsIn)
set_option maxRecDepth 100000
namespace L2
open PySem PySem.Spec PyProof.Rows
abbrev Key:=Sum Int Str
def keyIs:Key->Value->Bool
 | .inl k,v=>Value.isInt k v
 | .inr x,v=>Value.isStrOf x v
def keyH (w:World):Key->Int
 | .inl k=>hashInt k
 | .inr x=>hashStr w x
theorem keyIs_shape:∀ {k:Key} {v:Value},keyIs k v=true->(∃ i t,k=Sum.inl i/\v=Value.int i t) \/ (∃ x t,k=Sum.inr x/\v=Value.str x t)
 | .inl i,v,h=>by
  obtain ⟨t,e⟩:=Value.isInt_shape (k:=i) (v:=v) h;exact .inl ⟨i,t,rfl,e⟩
 | .inr x,v,h=>by
  obtain ⟨t,e⟩:=Value.isStrOf_shape (x:=x) (v:=v) h;exact .inr ⟨x,t,rfl,e⟩
theorem key_ll (a b:Int):decide ((Sum.inl a:Key)=Sum.inl b)=(a == b):=by
 by_cases e:a=b
 ·subst e; simp
 ·have h:¬ (Sum.inl a:Key)=Sum.inl b:=fun q=>e (Sum.inl.inj q)
  rw [decide_eq_false h];exact (beq_eq_false_iff_ne.mpr e).symm
theorem key_rr (a b:Str):decide ((Sum.inr a:Key)=Sum.inr b)=decide (a=b):=by
 by_cases e:a=b
 ·subst e; simp
 ·have h:¬ (Sum.inr a:Key)=Sum.inr b:=fun q=>e (Sum.inr.inj q)
  rw [decide_eq_false h,decide_eq_false e]
theorem key_lr (a:Int) (b:Str):decide ((Sum.inl a:Key)=Sum.inr b)=false:=decide_eq_false (fun q=>nomatch q)
theorem key_rl (a:Str) (b:Int):decide ((Sum.inr a:Key)=Sum.inl b)=false:=decide_eq_false (fun q=>nomatch q)
def mixKind (prog:Program) (w:World):PySem.KeyKind prog w Key where
 is:=keyIs
 hash:=keyH w
 inj:=fun v a b ha hb=>by
  rcases keyIs_shape ha with ⟨i,t,rfl,rfl⟩ | ⟨x,t,rfl,rfl⟩
  ·rcases keyIs_shape hb with ⟨j,u,rfl,e⟩ | ⟨y,u,rfl,e⟩
   ·injection e with e1 _; rw [e1]
   ·exact nomatch e
  ·rcases keyIs_shape hb with ⟨j,u,rfl,e⟩ | ⟨y,u,rfl,e⟩
   ·exact nomatch e
   ·injection e with e1 _; rw [e1]
 byValue:=fun k v h=>by
  rcases keyIs_shape h with ⟨i,t,rfl,rfl⟩ | ⟨x,t,rfl,rfl⟩ <;> rfl
 pyHash:=fun hv h=>by
  rcases keyIs_shape hv with ⟨i,t,rfl,rfl⟩ | ⟨x,t,rfl,rfl⟩
  ·exact wpAny_pyHash_int h
  ·exact wpAny_pyHash_str h
 eqBool:=fun hu hv h=>by
  rcases keyIs_shape hu with ⟨i,t,rfl,rfl⟩ | ⟨x,t,rfl,rfl⟩
  ·rcases keyIs_shape hv with ⟨j,u,rfl,rfl⟩ | ⟨y,u,rfl,rfl⟩
   ·rw [key_ll] at h; exact wpAny_eqBool_int h
   ·rw [key_lr] at h; exact SeqAt.EqAt.int_str i t y u _ _ _ _ h
  ·rcases keyIs_shape hv with ⟨j,u,rfl,rfl⟩ | ⟨y,u,rfl,rfl⟩
   ·rw [key_rl] at h; exact SeqAt.EqAt.str_int x t j u _ _ _ _ h
   ·rw [key_rr] at h; exact wpAny_eqBool_str h
 «strs»:=fun k x t v h=>by
  rcases keyIs_shape h with ⟨i,u,rfl,e⟩ | ⟨y,u,rfl,e⟩
  ·exact nomatch e
  ·injection e with e1 _
   subst e1;cases v <;> rfl
end L2
namespace L2
open PySem PySem.Spec PyProof.Rows
inductive V where
 | non | bl (b:Bool) | int (i:Int) | str (x:Str) | byt (b:Array UInt8) | flt (b:UInt64) | ref (a:Addr) | ty (n:String)
 deriving DecidableEq
def RelV:V->Value->Prop
 | .non,u=>u=Value.none
 | .bl b,u=>u=Value.bool b
 | .int i,u=>∃ t,u=Value.int i t
 | .str x,u=>∃ t,u=Value.str x t
 | .byt b,u=>∃ t,u=Value.bytes b t
 | .flt b,u=>∃ t,u=Value.float b t
 | .ref a,u=>u=Value.ref a
 | .ty n,u=>u=Value.type n
abbrev Vals:List V->List Value->Prop:=Paired RelV
theorem Vals.length {xs:List V} {us:List Value} (r:Vals xs us):xs.length=us.length:=Paired.length r
theorem Vals.get:∀ {xs:List V} {us:List Value} {i:Nat} {x:V},Vals xs us->xs[i]?=some x->∃ u,us[i]?=some u/\RelV x u
 | _,_,_,_,.nil,e=>by simp at e
 | _,_,0,_,.cons r _,e=>by simp at e; subst e; exact ⟨_,rfl,r⟩
 | _,_,i + 1,x,.cons _ t,e=>by
  obtain ⟨u,h1,h2⟩:=Vals.get (i:=i) (x:=x) t (by simpa using e);exact ⟨u,by simpa using h1,h2⟩
theorem Vals.set {x:V} {u:Value} (r:RelV x u):∀ {xs:List V} {us:List Value} (i:Nat),Vals xs us->Vals (xs.set i x) (us.set i u)
 | _,_,_,.nil=>.nil
 | _,_,0,.cons _ t=>.cons r t
 | _,_,i + 1,.cons q t=>.cons q (Vals.set r i t)
theorem Vals.append:∀ {xs ys:List V} {us ws:List Value},Vals xs us->Vals ys ws->Vals (xs++ys) (us++ws)
 | _,_,_,_,.nil,s=>s
 | _,_,_,_,.cons r t,s=>.cons r (Vals.append t s)
theorem Vals.take:∀ {xs:List V} {us:List Value} (n:Nat),Vals xs us->Vals (xs.take n) (us.take n)
 | _,_,0,_=>.nil
 | _,_,_ + 1,.nil=>.nil
 | _,_,n + 1,.cons r t=>.cons r (Vals.take n t)
theorem Vals.drop:∀ {xs:List V} {us:List Value} (n:Nat),Vals xs us->Vals (xs.drop n) (us.drop n)
 | _,_,0,r=>r
 | _,_,_ + 1,.nil=>.nil
 | _,_,n + 1,.cons _ t=>Vals.drop n t
def RelO:Option V->Option Value->Prop
 | some v,some u=>RelV v u
 | none,none=>True
 | _,_=>False
def KV {κ:Type}:List (κ × V)->List (κ × Value)->Prop:=Paired fun (p:κ × V) (q:κ × Value)=>p.1=q.1/\RelV p.2 q.2
def kV:Key->V
 | .inl i=>.int i
 | .inr x=>.str x
inductive HO where
 | lst (xs:List V)
 | tup (xs:List V)
 | dK (kvs:List (Key × V)) | dT (kvs:List (List Key × V))
 | set (S:Int->Bool) (n:Nat)
 | ins (C dx:Addr) (fs:List (Str × V))
 | own (x:Addr)
 | xd (fs:List (Str × V))
 | met (f x:Addr)
 | rng (lo hi:Int)
 | frz (o:Obj) (u:HO)
 | tbl (ps:Array Value)
 | ext (φ:Heap->Prop)
abbrev Hp:=Addr->Option HO
def upd (H:Hp) (a:Addr) (o:HO):Hp:=fun b=>if b=a then some o else H b
theorem upd_same {H:Hp} {a:Addr} {o:HO}:upd H a o a=some o:=by unfold upd; rw [if_pos rfl]
theorem upd_ne {H:Hp} {a b:Addr} {o:HO} (h:b ≠ a):upd H a o b=H b:=by unfold upd; rw [if_neg h]
theorem _qch {H:Hp} {a b:Addr} {o u:HO} (h:H a=some o) (h':H b=some u) (d:o ≠ u):a ≠ b:=by
 intro e; subst e; rw [h] at h'; exact d (Option.some.inj h')
theorem ne_of_none {H:Hp} {a b:Addr} {o:HO} (h:H a=some o) (h':H b=none):a ≠ b:=by
 intro e; subst e; rw [h] at h'; cases h'
section
variable (P:Program) (w:World)
def ObjOk (H:Hp) (h:Heap) (a:Addr):HO->Prop
 | .lst xs=>xs.length <= sizeLine/\∃ (its:List Value) (n:Nat),Vals xs its/\h.get? a=some { cls:=.type "list",data:=.seq its.toArray n }
 | .tup xs=>xs.length <= sizeLine/\∃ its:List Value,Vals xs its/\IsTup h a its.toArray
 | .dK kvs=>kvs.length <= sizeLine/\(a == sysModules)=false/\∃ vs,KV kvs vs/\h.DictOf (mixKind P w) a vs
 | .dT kvs=>kvs.length <= sizeLine/\(a == sysModules)=false/\∃ xs:List (List Key × Addr × Value),
   Paired (fun (p:List Key × V) (q:List Key × Addr × Value)=>p.1=q.1/\H q.2.1=some (.tup (p.1.map kV))/\RelV p.2 q.2.2) kvs xs /\
   ∃ o es ep,h.get? a=some o/\o.ExactDict/\o.data=.dict es ep/\es.toList=xs.map (entryOfKey (tupleKind (mixKind P w)))/\(xs.map (·.1)).Nodup
 | .set S n=>h.SetOf (intKind P w) a S n
 | .ins C dx fs=>H dx=some (.own a)/\fs.length <= 1000/\dx ≠ a/\h.get? a=some (PySem.W.instObj C dx) /\
   ∃ mA,h.Ns1 dx mA/\(∀ f,RelO (fs.lookup f) (mA f))/\PySem.Within mA (fs.map (·.1))
 | .own _=>∃ o,h.get? a=some o
 | .xd fs=>∃ mA,h.Ns1 a mA/\∀ f,RelO (fs.lookup f) (mA f)
 | .rng lo hi=>∃ t u v,h.get? a=some { cls:=.type "range",data:=.fields #[.int lo t,.int hi u,.int 1 v] }
 | .frz o u=>h.get? a=some o/\ObjOk H h a u
 | .tbl ps=>h.get? a=some { cls:=.none,data:=.fields ps }
 | .met f x=>h.get? a=some (PySem.W.methodObj (.ref f) (.ref x))
 | .ext φ=>φ h/\(∃ o,h.get? a=some o)/\∀ h1 h2:Heap,φ h1->(∀ o,h1.get? a=some o->h2.get? a=some o)->φ h2
def HOk (H:Hp) (h:Heap):Prop:=∀ a o,H a=some o->ObjOk P w H h a o
end
section
variable {P:Program} {w:World} {H H':Hp} {h h':Heap} {a:Addr} {o:HO}
theorem ObjOk.lt (x:ObjOk P w H h a o):a < h.objs.size:=by
 cases o with
 | lst xs=>obtain ⟨_,_,_,_,e⟩:=x; exact Heap.lt_size e
 | tup xs=>obtain ⟨_,_,_,p⟩:=x; exact p.lt
 | dK kvs=>obtain ⟨_,_,_,_,o,_,_,e,_⟩:=x; exact Heap.lt_size e
 | dT kvs=>obtain ⟨_,_,_,_,o,_,_,e,_⟩:=x; exact Heap.lt_size e
 | set S n=>obtain ⟨o,_,_,_,e,_⟩:=x; exact Heap.lt_size e
 | ins C dx fs=>obtain ⟨_,_,_,e,_⟩:=x; exact Heap.lt_size e
 | own y=>obtain ⟨_,e⟩:=x; exact Heap.lt_size e
 | xd fs=>obtain ⟨_,⟨_,_,_,e,_⟩,_⟩:=x; exact Heap.lt_size e
 | rng lo hi=>obtain ⟨_,_,_,e⟩:=x; exact Heap.lt_size e
 | frz ob u=>obtain ⟨e,_⟩:=x; exact Heap.lt_size e
 | tbl ps=>exact Heap.lt_size (show h.get? a=some _ from x)
 | met f y=>exact Heap.lt_size (show h.get? a=some _ from x)
 | ext φ=>obtain ⟨_,⟨_,e⟩,_⟩:=x; exact Heap.lt_size e
theorem Paired.mapP {α β:Type} {F G:α->β->Prop}:∀ {l₁:List α} {l₂:List β},Paired F l₁ l₂->(∀ a b,F a b->G a b)->Paired G l₁ l₂
 | _,_,.nil,_=>.nil
 | _,_,.cons r t,f=>.cons (f _ _ r) (Paired.mapP t f)
theorem ObjOk.stay (x:ObjOk P w H h a o) (k:∀ b u,(b=a \/ H b=some (.own a))->h.get? b=some u->h'.get? b=some u)
  (ho:∀ b,H b=some (.own a)->H' b=some (.own a)) (ht:∀ b xs,H b=some (.tup xs)->H' b=some (.tup xs)):ObjOk P w H' h' a o:=by
 induction o with
 | lst xs=>obtain ⟨z,its,n,r,e⟩:=x; exact ⟨z,its,n,r,k _ _ (.inl rfl) e⟩
 | tup xs=>obtain ⟨z,its,r,ob,e,c⟩:=x; exact ⟨z,its,r,ob,k _ _ (.inl rfl) e,c⟩
 | dK kvs=>obtain ⟨z,y,vs,r,ob,es,ep,e,c⟩:=x; exact ⟨z,y,vs,r,ob,es,ep,k _ _ (.inl rfl) e,c⟩
 | dT kvs =>
  obtain ⟨z,y,xs,r,ob,es,ep,e,c⟩:=x;exact ⟨z,y,xs,Paired.mapP r fun p q z=>⟨z.1,ht _ _ z.2.1,z.2.2⟩,ob,es,ep,k _ _ (.inl rfl) e,c⟩
 | set S n=>obtain ⟨ob,es,ep,t,e,c⟩:=x; exact ⟨ob,es,ep,t,k _ _ (.inl rfl) e,c⟩
 | ins C dx fs =>
  obtain ⟨d,z,ne,e,mA,⟨od,es,ep,e2,c⟩,r⟩:=x;exact ⟨ho _ d,z,ne,k _ _ (.inl rfl) e,mA,⟨od,es,ep,k _ _ (.inr d) e2,c⟩,r⟩
 | own y=>obtain ⟨ob,e⟩:=x; exact ⟨ob,k _ _ (.inl rfl) e⟩
 | xd fs=>obtain ⟨mA,⟨od,es,ep,e,c⟩,r⟩:=x; exact ⟨mA,⟨od,es,ep,k _ _ (.inl rfl) e,c⟩,r⟩
 | rng lo hi=>obtain ⟨t,u,v,e⟩:=x; exact ⟨t,u,v,k _ _ (.inl rfl) e⟩
 | frz ob u ih=>obtain ⟨e,q⟩:=x; exact ⟨k _ _ (.inl rfl) e,ih q⟩
 | tbl ps =>
  have e:h.get? a=some { cls:=.none,data:=.fields ps }:=x;show h'.get? a=some { cls:=.none,data:=.fields ps };exact k a _ (.inl rfl) e
 | met f y =>
  have e:h.get? a=some (PySem.W.methodObj (.ref f) (.ref y)):=x;show h'.get? a=some (PySem.W.methodObj (.ref f) (.ref y));exact k a _ (.inl rfl) e
 | ext φ=>obtain ⟨p,⟨o,e⟩,st⟩:=x; exact ⟨st _ _ p fun o q=>k _ _ (.inl rfl) q,⟨o,k _ _ (.inl rfl) e⟩,st⟩
theorem HOk.lt (x:HOk P w H h) (e:H a=some o):a < h.objs.size:=(x a o e).lt
theorem HOk.fresh (x:HOk P w H h) (e:h.objs.size <= a):H a=none:=by
 cases q:H a with
 | none=>rfl
 | some u=>exact absurd (lt_of_lt_of_le (x.lt q) e) (lt_irrefl _)
theorem HOk.kept (x:HOk P w H h) (k:∀ b u,h.get? b=some u->h'.get? b=some u):HOk P w H h':=fun a o e =>
 (x a o e).stay (fun b u _ q=>k b u q) (fun _ q=>q) fun _ _ q=>q
theorem HOk.laid (x:HOk P w H h) (k:∀ b u,h.get? b=some u->h'.get? b=some u) (hp:h.objs.size <= a) (new:ObjOk P w (upd H a o) h' a o):HOk P w (upd H a o) h':=fun b u e=>by
 have hn:=x.fresh hp
 by_cases hb:b=a
 ·subst hb; rw [upd_same] at e; cases e; exact new
 ·rw [upd_ne hb] at e
  exact (x b u e).stay (fun c v _ q=>k c v q) (fun c q=>by rw [upd_ne (ne_of_none q hn)]; exact q) fun c xs q=>by rw [upd_ne (ne_of_none q hn)]; exact q
end
def Rd (H:Hp) (a:Addr) (u:HO):Prop:=H a=some u \/ ∃ o,H a=some (.frz o u)
theorem Rd.of {H:Hp} {a:Addr} {u:HO} (h:H a=some u):Rd H a u:=.inl h
theorem Rd.ok {P:Program} {w:World} {H:Hp} {h:Heap} {a:Addr} {u:HO} (r:Rd H a u) (x:HOk P w H h):ObjOk P w H h a u:=by
 rcases r with r | ⟨o,r⟩
 ·exact x a u r
 ·obtain ⟨_,q⟩:=x a _ r
  exact q
def Mut:Option HO->Prop
 | some (.lst _)=>True
 | some (.dK _)=>True
 | some (.dT _)=>True
 | some (.set _ _)=>True
 | some (.ins _ _ _)=>True
 | some (.ext _)=>True
 | _=>False
section
variable {P:Program} {w:World} {H:Hp} {h h':Heap} {x e:Addr} {o':HO}
theorem HOk.write (ok:HOk P w H h) (mu:Mut (H x)) (he:e=x \/ H e=some (.own x)) (k:∀ b u,b ≠ e->h.get? b=some u->h'.get? b=some u) (heo:∃ u,h'.get? e=some u)
  (new:ObjOk P w (upd H x o') h' x o'):HOk P w (upd H x o') h':=fun b u q=>by
 have nown:∀ c y,H c=some (.own y)->c ≠ x:=fun c y r z=>by subst z; rw [r] at mu; exact mu
 have ntup:∀ c xs,H c=some (.tup xs)->c ≠ x:=fun c xs r z=>by subst z; rw [r] at mu; exact mu
 by_cases hb:b=x
 ·subst hb; rw [upd_same] at q; cases q; exact new
 ·rw [upd_ne hb] at q
  by_cases hbe:b=e
  ·have q':H b=some (.own x):=by
    rcases he with z | z
    ·exact absurd (hbe.trans z) hb
    ·rw [hbe]; exact z
   rw [q] at q'; cases q';obtain ⟨v,hv⟩:=heo;exact ⟨v,by rw [hbe]; exact hv⟩
  ·refine (ok b u q).stay (fun c v hc r=>k c v ?_ r) (fun c r=>by rw [upd_ne (nown c b r)]; exact r) fun c xs r=>by rw [upd_ne (ntup c xs r)]; exact r
   rcases hc with rfl | hc
   ·exact hbe
   ·rintro rfl
    rcases he with z | z
    ·exact nown c b hc z
    ·rw [hc] at z; cases z; exact hb rfl
end
structure Un (fs ex:List Addr) (H H':Hp) (h h':Heap):Prop where
 keep:∀ b o,h.get? b=some o->H b=none->b ∉ fs->b ∉ ex->h'.get? b=some o
 slot:∀ b o,h.get? b=some o->H b=none->b∈fs->b ∉ ex->∃ sl,h'.get? b=some { o with slots:=sl }
 free:∀ b o,h.get? b=some o->H b=none->b ∉ ex->H' b=none
 there:∀ b o,h.get? b=some o->b ∉ ex->∃ o',h'.get? b=some o'
 tups:∀ b xs,H b=some (.tup xs)->H' b=some (.tup xs)
 frzs:∀ b o u,H b=some (.frz o u)->H' b=some (.frz o u)
 tbls:∀ b ps,H b=some (.tbl ps)->∃ more,H' b=some (.tbl (ps++more))
section
variable {fs fs' ex ex':List Addr} {H H1 H2:Hp} {h h1 h2 h':Heap} {a x e:Addr} {o:HO}
theorem Un.any (u:Un fs ex H H1 h h1) {b:Addr} {ob:Obj} (q:h.get? b=some ob) (n:H b=none) (hx:b ∉ ex):∃ sl,h1.get? b=some { ob with slots:=sl }:=by
 by_cases hb:b∈fs
 ·exact u.slot b ob q n hb hx
 ·exact ⟨ob.slots,u.keep b ob q n hb hx⟩
theorem Un.trans (a:Un fs ex H H1 h h1) (b:Un fs ex H1 H2 h1 h2):Un fs ex H H2 h h2 where
 keep:=fun c ob q n hc hx=>b.keep c ob (a.keep c ob q n hc hx) (a.free c ob q n hx) hc hx
 slot:=fun c ob q n hc hx=>by
  obtain ⟨sl,e1⟩:=a.slot c ob q n hc hx;obtain ⟨sl',e2⟩:=b.slot c _ e1 (a.free c ob q n hx) hc hx;exact ⟨sl',e2⟩
 free:=fun c ob q n hx=>by
  obtain ⟨o',e1⟩:=a.there c ob q hx;exact b.free c o' e1 (a.free c ob q n hx) hx
 there:=fun c ob q hx=>by
  obtain ⟨o',e1⟩:=a.there c ob q hx;exact b.there c o' e1 hx
 tups:=fun c xs q=>b.tups c xs (a.tups c xs q)
 frzs:=fun c ob xs q=>b.frzs c ob xs (a.frzs c ob xs q)
 tbls:=fun c ps q=>by
  obtain ⟨m1,e1⟩:=a.tbls c ps q;obtain ⟨m2,e2⟩:=b.tbls c _ e1;exact ⟨m1++m2,by rw [e2,Array.append_assoc]⟩
theorem Un.kept (k:∀ b u,h.get? b=some u->h'.get? b=some u):Un fs ex H H h h' :=
 ⟨fun b ob q _ _ _=>k b ob q,fun b ob q _ _ _=>⟨ob.slots,k b ob q⟩,fun _ _ _ n _=>n,fun b ob q _=>⟨ob,k b ob q⟩,fun _ _ q=>q,fun _ _ _ q=>q,fun _ ps q=>⟨#[],by rw [q]; simp⟩⟩
theorem Un.refl:Un fs ex H H h h:=Un.kept fun _ _ q=>q
theorem Un.laid (k:∀ b u,h.get? b=some u->h'.get? b=some u) (hp:h.objs.size <= a) (hn:H a=none):Un fs ex H (upd H a o) h h' where
 keep:=fun b u q _ _ _=>k b u q
 slot:=fun b u q _ _ _=>⟨u.slots,k b u q⟩
 free:=fun b u q n _=>by rw [upd_ne (ne_of_lt (lt_of_lt_of_le (Heap.lt_size q) hp))]; exact n
 there:=fun b u q _=>⟨u,k b u q⟩
 tups:=fun b xs q=>by rw [upd_ne (ne_of_none q hn)]; exact q
 frzs:=fun b u xs q=>by rw [upd_ne (ne_of_none q hn)]; exact q
 tbls:=fun b ps q=>⟨#[],by rw [upd_ne (ne_of_none q hn),q]; simp⟩
theorem Un.write (mu:Mut (H x)) (he:e=x \/ H e=some (.own x)) (k:∀ b u,b ≠ e->h.get? b=some u->h'.get? b=some u) (heo:∃ u,h'.get? e=some u):Un fs ex H (upd H x o) h h':=by
 have hx:∀ b,H b=none->b ≠ x:=fun b n z=>by subst z; rw [n] at mu; exact mu
 have hb:∀ b,H b=none->b ≠ e:=fun b n z=>by
  subst z;rcases he with r | r
  ·exact hx b n r
  ·rw [n] at r; cases r
 have hm:∀ b u,H b=some u->¬ Mut (some u)->b ≠ x:=fun b u q nm z=>by subst z; rw [q] at mu; exact nm mu
 refine ⟨fun b u q n _ _=>k b u (hb b n) q,fun b u q n _ _=>⟨u.slots,k b u (hb b n) q⟩,fun b u q n _=>by rw [upd_ne (hx b n)]; exact n,fun b u q _=>?_,
  fun b xs q=>by rw [upd_ne (hm b _ q fun z=>z)]; exact q,fun b u xs q=>by rw [upd_ne (hm b _ q fun z=>z)]; exact q,fun b ps q=>⟨#[],by rw [upd_ne (hm b _ q fun z=>z),q]; simp⟩⟩
 by_cases hbe:b=e
 ·subst hbe; exact heo
 ·exact ⟨u,k b u hbe q⟩
theorem Un.mono (u:Un fs ex H H1 h h1) (hs:∀ b∈fs,b∈fs') (hx:∀ b∈ex,b∈ex'):Un fs' ex' H H1 h h1 :=
 ⟨fun b ob q n hb he=>u.keep b ob q n (fun z=>hb (hs b z)) fun z=>he (hx b z),fun _ _ q n _ he=>u.any q n fun z=>he (hx _ z),fun b ob q n he=>u.free b ob q n fun z=>he (hx b z),fun b ob q he=>u.there b ob q fun z=>he (hx b z),u.tups,u.frzs,u.tbls⟩
end
def trk (h:Heap) (H:Hp):List Addr:=(List.range h.objs.size).filter fun a=>(H a).isSome
def hidT (h:Heap) (H:Hp):Heap:=PySem.W.hideAll h (trk h H)
theorem hidT_size (h:Heap) (H:Hp):(hidT h H).objs.size=h.objs.size:=PySem.W.hideAll_size _ _
theorem hidT_get {h:Heap} {H:Hp} {b:Addr} {o:Obj} (e:h.get? b=some o) (n:H b=none):(hidT h H).get? b=some o :=
 PySem.W.hideAll_get _ e fun hm=>by
  have q:(H b).isSome=true:=(List.mem_filter.mp hm).2;rw [n] at q; simp at q
theorem of_hidT {h:Heap} {H:Hp} {b:Addr} {o:Obj} (e:(hidT h H).get? b=some o):h.get? b=some o/\H b=none:=by
 have e':h.get? b=some o:=PySem.W.of_hideAll (trk h H) e;refine ⟨e',?_⟩;cases q:H b with
 | none=>rfl
 | some x =>
  have hm:b∈trk h H:=List.mem_filter.mpr ⟨List.mem_range.mpr (Heap.lt_size e'),by simp [q]⟩;have z:(hidT h H).get? b=none:=PySem.W.hideAll_none (trk h H) hm;rw [z] at e; cases e
def allNews (g h:Heap) (L:Addr):List (Addr × Obj):=(List.range h.objs.size).filterMap fun a=>if a=L \/ (g.get? a).isSome=true then none else (h.get? a).map fun o=>(a,o)
def rest (g h:Heap) (L d:Addr):List (Addr × Obj):=(allNews g h L).filter fun p=>decide (p.1 ≠ d)
end L2
namespace L2
open PySem PySem.Spec PyProof.Rows
structure Mod (K:Frag) (mg:Str->Option Value) (base:Heap):Prop where
 kin:K.In base
 glob:base.Ns mainGlobals mg
 blt:∃ mb,base.Ns builtinsNs mb/\∀ x:Str,x ≠ "__name__"->mb x=bootBuiltins x
 nolimit:base.NoLimit
structure Cx where
 prog:Program
 w:World
 K:Frag
 mg:Str->Option Value
 base:Heap
 A:Around
 N:List Str
 s₀:Shared
 H₀:Hp
 env:Env
 outer:List Env
 stack:List Env
 ex:List Addr
 fn:Str->Bool
 calm:Bool
 pn:List (Addr × Obj)
 xe:Value->Shared->Prop
def frs (l:List Env):List Addr:=l.filterMap (·.frame)
abbrev Cx.fs (X:Cx):List Addr:=frs X.outer
def Vis (sc:Scope) (x:Str):Prop:=sc.names.lookup x=some .local \/ sc.names.lookup x=some .cell \/ sc.names.lookup x=some .free
def Loc (sc:Scope) (x:Str):Prop:=sc.names.lookup x=some .local \/ sc.names.lookup x=some .cell
def Look (env:Env) (h:Heap) (m:Str->Option Value) (x:Str) (u:Value):Prop :=
 (env.kindOf x=some .local/\m x=some u) \/ ((env.kindOf x=some .cell \/ env.kindOf x=some .free)/\∃ c,env.cells.lookup x=some c/\h.IsCell c (some u))
structure Cx.Ok (X:Cx):Prop where
 mod:Mod X.K X.mg X.base
 kind:X.env.scope.kind=.function
 glob:X.env.globals=mainGlobals
 blt:X.env.builtins=builtinsNs
 above:X.s₀.heap.objs.size <= X.env.locals
 inj:∀ x y c,X.env.cells.lookup x=some c->X.env.cells.lookup y=some c->x=y
 has:∀ x,(X.env.kindOf x=some .cell \/ X.env.kindOf x=some .free)->∃ c,X.env.cells.lookup x=some c
 cab:∀ x c,X.fn x=true->X.env.cells.lookup x=some c->X.s₀.heap.objs.size <= c
 hd:X.calm=true->X.A.handled=none
 frames:X.A.frames=some X.stack
 stk:X.stack=X.outer \/ (X.stack=X.env :: X.outer/\X.env.frame=some X.env.locals)
 exf:∀ b∈X.ex,b ≠ X.env.locals/\∀ x c,X.env.cells.lookup x=some c->c ≠ b
 bs:∀ b o,X.base.get? b=some o->X.s₀.heap.get? b=some o/\X.H₀ b=none
 bsz:X.base.objs.size <= X.s₀.heap.objs.size
 noex:∀ b o,X.base.get? b=some o->b ∉ X.ex
 exfs:∀ b∈X.ex,b ∉ X.fs
 funs:X.s₀.heap.FunFrames X.base X.outer
 frf:∀ b∈X.fs,X.H₀ b=none
structure Inv (X:Cx) (pins:List (Addr × Obj)) (σ:List (Option V)) (H:Hp) (s:Shared):Prop where
 ok:X.Ok
 os:s.os=X.s₀.os
 bare:AllBare s.gens
 base:Un X.fs X.ex X.H₀ H X.s₀.heap s.heap
 loc:∃ m,s.heap.Ns X.env.locals m/\∀ (i:Nat) (x:Str) (v:V),X.N[i]?=some x->σ[i]?=some (some v)->Vis X.env.scope x->∃ u,RelV v u/\Look X.env s.heap m x u
 cell:∀ x c,X.env.cells.lookup x=some c->∃ v,s.heap.IsCell c v
 free:H X.env.locals=none
 freeC:∀ x c,X.env.cells.lookup x=some c->H c=none
 pin:∀ p∈X.pn++pins,s.heap.get? p.1=some p.2/\H p.1=none/\p.1 ≠ X.env.locals/\p.1 ∉ X.fs/\∀ v,p.2.data ≠ .cell v
 hok:HOk X.prog X.w H s.heap
 len:σ.length=X.N.length
section
variable {X:Cx} {pins:List (Addr × Obj)} {σ:List (Option V)} {H H':Hp} {s:Shared} {h':Heap}
theorem Cx.Ok.nofr (ok:X.Ok) {b:Addr} {o:Obj} (e:X.base.get? b=some o):b ∉ X.fs:=fun hb=>by
 have:=(ok.funs.mem hb).1
 rw [e] at this; cases this
theorem Inv.bs (I:Inv X pins σ H s):∀ b o,X.base.get? b=some o->s.heap.get? b=some o/\H b=none:=fun b o e =>
 ⟨I.base.keep b o (I.ok.bs b o e).1 (I.ok.bs b o e).2 (I.ok.nofr e) (I.ok.noex b o e),I.base.free b o (I.ok.bs b o e).1 (I.ok.bs b o e).2 (I.ok.noex b o e)⟩
theorem Inv.bk (I:Inv X pins σ H s):∀ b o,X.base.get? b=some o->s.heap.get? b=some o:=fun b o e=>(I.bs b o e).1
theorem Inv.mod (I:Inv X pins σ H s):Mod X.K X.mg X.base:=I.ok.mod
theorem Inv.kIn (I:Inv X pins σ H s):X.K.In s.heap:=I.ok.mod.kin.keeps I.bk
theorem Inv.nolimit (I:Inv X pins σ H s):s.heap.NoLimit:=I.ok.mod.nolimit.keeps I.bk
theorem Inv.lt (I:Inv X pins σ H s):X.env.locals < s.heap.objs.size:=let ⟨_,hn,_⟩:=I.loc; hn.lt
theorem Inv.sz (I:Inv X pins σ H s):X.s₀.heap.objs.size <= s.heap.objs.size:=le_trans I.ok.above (le_of_lt I.lt)
theorem Inv.nofs (I:Inv X pins σ H s) {a:Addr} (h:s.heap.objs.size <= a):a ∉ X.fs:=fun hb=>by
 obtain ⟨_,o,ho,_⟩:=I.ok.funs.mem hb;exact absurd (lt_of_lt_of_le (Heap.lt_size ho) (le_trans I.sz h)) (lt_irrefl _)
theorem Inv.cne (I:Inv X pins σ H s):∀ x c,X.env.cells.lookup x=some c->c ≠ X.env.locals:=fun x c e z=>by
 obtain ⟨v,o,ho,hd⟩:=I.cell x c e;obtain ⟨m,⟨o',es,ep,ho',hd',_⟩,_⟩:=I.loc;rw [z,ho'] at ho; cases ho; rw [hd'] at hd; cases hd
theorem Inv.funs (I:Inv X pins σ H s):s.heap.FunFrames X.base X.outer:=by
 have all:∀ (l:List Env),(∀ b∈frs l,b∈X.fs)->X.s₀.heap.FunFrames X.base l->s.heap.FunFrames X.base l:=by
  intro l
  induction l with
  | nil=>intro _ _; trivial
  | cons env r ih =>
   intro hs hl;obtain ⟨hk,⟨L,o,hf,hn,ho,hd⟩,hr⟩:=hl;have hL:L∈X.fs:=hs L (by unfold frs; rw [filterMap_cons,hf]; exact mem_cons_self);obtain ⟨sl,e⟩:=I.base.slot L o ho (I.ok.frf L hL) hL fun z=>I.ok.exfs L z hL;exact ⟨hk,⟨L,_,hf,hn,e,hd⟩,ih (fun b hb=>hs b (by unfold frs; rw [filterMap_cons,hf]; exact mem_cons_of_mem _ hb)) hr⟩
 exact all X.outer (fun _ hb=>hb) I.ok.funs
theorem Inv.stack (I:Inv X pins σ H s):s.heap.FunFrames X.base X.stack:=by
 rcases I.ok.stk with e | ⟨e,hf⟩
 ·rw [e]; exact I.funs
 ·rw [e]
  obtain ⟨m,hn,_⟩:=I.loc;refine .cons (by rw [I.ok.kind]; decide) hf hn ?_ I.funs;exact Heap.get?_none_of_le (le_trans I.ok.bsz I.ok.above)
theorem Inv.stkSub (I:Inv X pins σ H s):∀ b∈frs X.stack,b∈X.env.locals :: X.fs:=fun b hb=>by
 rcases I.ok.stk with e | ⟨e,hf⟩
 ·rw [e] at hb; exact mem_cons_of_mem _ hb
 ·rw [e] at hb
  unfold frs at hb;rw [filterMap_cons,hf] at hb;exact hb
theorem Inv.stkFree (I:Inv X pins σ H s):∀ b∈frs X.stack,H b=none:=fun b hb=>by
 rcases List.mem_cons.mp (I.stkSub b hb) with e | hb
 ·rw [e]; exact I.free
 ·obtain ⟨_,o,ho,_⟩:=I.ok.funs.mem hb
  exact I.base.free b o ho (I.ok.frf b hb) fun z=>I.ok.exfs b z hb
theorem Inv.step {g':Array GenState} {t':Nat} {d':Drawn} {ch:List Addr} (I:Inv X pins σ H s)
  (hch:∀ b∈ch,(b∈X.ex \/ X.s₀.heap.objs.size <= b)/\b ≠ X.env.locals/\(∀ x c,X.env.cells.lookup x=some c->c ≠ b)/\∀ p∈X.pn++pins,p.1 ≠ b)
  (keep:∀ b o,b ≠ X.env.locals->b ∉ X.fs->b ∉ ch->s.heap.get? b=some o->H b=none->h'.get? b=some o)
  (slot:∀ b o,b ≠ X.env.locals->b∈X.fs->b ∉ ch->s.heap.get? b=some o->H b=none->∃ sl,h'.get? b=some { o with slots:=sl }) (free:∀ b o,b ∉ ch->s.heap.get? b=some o->H b=none->H' b=none)
  (there:∀ b o,b ∉ ch->s.heap.get? b=some o->∃ o',h'.get? b=some o')
  (tups:∀ b xs,H b=some (.tup xs)->H' b=some (.tup xs)) (frzs:∀ b o u,H b=some (.frz o u)->H' b=some (.frz o u)) (tbls:∀ b ps,H b=some (.tbl ps)->∃ more,H' b=some (.tbl (ps++more)))
  (ns:∀ m,s.heap.Ns X.env.locals m->h'.Ns X.env.locals m) (hok:HOk X.prog X.w H' h') (hg:AllBare g') :
  Inv X pins σ H' { s with heap:=h',gens:=g',drawn:=d',toks:=t' }:=by
 have neL:∀ b o,X.s₀.heap.get? b=some o->b ≠ X.env.locals:=fun b o e=>ne_of_lt (lt_of_lt_of_le (Heap.lt_size e) I.ok.above);have neC:∀ b o,X.s₀.heap.get? b=some o->b ∉ X.ex->b ∉ ch:=fun b o e hx hb=>by
  rcases (hch b hb).1 with z | z
  ·exact hx z
  ·exact absurd (lt_of_lt_of_le (Heap.lt_size e) z) (lt_irrefl _)
 have cellK:∀ x c,X.env.cells.lookup x=some c->∀ v,s.heap.IsCell c v->h'.IsCell c v:=fun x c e v ⟨o,ho,hd⟩=>by
  have nch:c ∉ ch:=fun z=>(hch c z).2.2.1 x c e rfl
  by_cases hc:c∈X.fs
  ·obtain ⟨sl,q⟩:=slot c o (I.cne x c e) hc nch ho (I.freeC x c e)
   exact ⟨_,q,hd⟩
  ·exact ⟨o,keep c o (I.cne x c e) hc nch ho (I.freeC x c e),hd⟩
 refine ⟨I.ok,I.os,hg,⟨fun b o e n hb hx=>?_,fun b o e n hb hx=>?_,fun b o e n hx=>?_,fun b o e hx=>?_,fun b xs e=>tups b xs (I.base.tups b xs e),fun b o xs e=>frzs b o xs (I.base.frzs b o xs e),fun b ps e=>?_⟩,?_,fun x c e=>?_,?_,fun x c e=>?_,fun p hp=>?_,hok,I.len⟩
 ·exact keep b o (neL b o e) hb (neC b o e hx) (I.base.keep b o e n hb hx) (I.base.free b o e n hx)
 ·obtain ⟨sl,e1⟩:=I.base.slot b o e n hb hx
  obtain ⟨sl',e2⟩:=slot b _ (neL b o e) hb (neC b o e hx) e1 (I.base.free b o e n hx);exact ⟨sl',e2⟩
 ·obtain ⟨o',e1⟩:=I.base.there b o e hx
  exact free b o' (neC b o e hx) e1 (I.base.free b o e n hx)
 ·obtain ⟨o',e1⟩:=I.base.there b o e hx
  exact there b o' (neC b o e hx) e1
 ·obtain ⟨m1,e1⟩:=I.base.tbls b ps e
  obtain ⟨m2,e2⟩:=tbls b _ e1;exact ⟨m1++m2,by rw [e2,Array.append_assoc]⟩
 ·obtain ⟨m,hn,hl⟩:=I.loc
  refine ⟨m,ns m hn,fun i x v e1 e2 e3=>?_⟩;obtain ⟨u,r,l⟩:=hl i x v e1 e2 e3;refine ⟨u,r,?_⟩;rcases l with l | ⟨k,c,e,z⟩
  ·exact .inl l
  ·exact .inr ⟨k,c,e,cellK x c e _ z⟩
 ·obtain ⟨v,z⟩:=I.cell x c e
  exact ⟨v,cellK x c e v z⟩
 ·obtain ⟨m,⟨o,_,_,ho,_⟩,_⟩:=I.loc
  exact free _ o (fun z=>(hch _ z).2.1 rfl) ho I.free
 ·obtain ⟨v,o,ho,hd⟩:=I.cell x c e
  exact free c o (fun z=>(hch c z).2.2.1 x c e rfl) ho (I.freeC x c e)
 ·obtain ⟨e,n,ne,nf,d⟩:=I.pin p hp
  have nch:p.1 ∉ ch:=fun z=>(hch p.1 z).2.2.2 p hp rfl;exact ⟨keep p.1 p.2 ne nf nch e n,free p.1 p.2 nch e n,ne,nf,d⟩
theorem Inv.un {t':Nat} (I:Inv X pins σ H s) (u:Un X.fs [] H H' s.heap h') (hok:HOk X.prog X.w H' h'):Inv X pins σ H' { s with heap:=h',toks:=t' }:=by
 obtain ⟨m,⟨o,es,ep,ho,r⟩,_⟩:=id I.loc;obtain ⟨sl,hL⟩:=u.any ho I.free (by simp);exact I.step (g':=s.gens) (d':=s.drawn) (ch:=[]) (fun _ z=>nomatch z) (fun b o _ hb _ e n=>u.keep b o e n hb (by simp)) (fun b o _ hb _ e n=>u.slot b o e n hb (by simp)) (fun b o _ e n=>u.free b o e n (by simp)) (fun b o _ e=>u.there b o e (by simp)) u.tups u.frzs u.tbls (fun m' hm=>by
  obtain ⟨o',es',ep',ho',r'⟩:=hm;rw [ho] at ho'; cases ho';exact ⟨_,es',ep',hL,r'⟩) hok I.bare
theorem Inv.call {g':Array GenState} {t':Nat} {d':Drawn} {ch:List Addr} (I:Inv X pins σ H s) (u:Un (frs X.stack) ch H H' s.heap h') (hok:HOk X.prog X.w H' h') (hg:AllBare g')
  (hch:∀ b∈ch,(b∈X.ex \/ X.s₀.heap.objs.size <= b)/\b ≠ X.env.locals/\(∀ x c,X.env.cells.lookup x=some c->c ≠ b)/\∀ p∈X.pn++pins,p.1 ≠ b) :
  Inv X pins σ H' { s with heap:=h',gens:=g',drawn:=d',toks:=t' }:=by
 obtain ⟨m,⟨o,es,ep,ho,r⟩,_⟩:=id I.loc;obtain ⟨sl,hL⟩:=u.any ho I.free fun z=>(hch _ z).2.1 rfl;exact I.step (ch:=ch) hch (fun b o hL hb hc e n=>u.keep b o e n (fun z=>(List.mem_cons.mp (I.stkSub b z)).elim hL hb) hc) (fun b o _ _ hc e n=>u.any e n hc) (fun b o hc e n=>u.free b o e n hc) (fun b o hc e=>u.there b o e hc) u.tups u.frzs u.tbls (fun m' hm=>by
  obtain ⟨o',es',ep',ho',r'⟩:=hm;rw [ho] at ho'; cases ho';exact ⟨_,es',ep',hL,r'⟩) hok hg
theorem Inv.turned {t':Nat} {it:Addr} (I:Inv X pins σ H s) (k:∀ b o,b ≠ it->s.heap.get? b=some o->h'.get? b=some o) (hn:H it=none) (hL:it ≠ X.env.locals)
  (h1:it∈X.ex \/ X.s₀.heap.objs.size <= it) (h2:∀ x c,X.env.cells.lookup x=some c->c ≠ it) (h3:∀ p∈X.pn++pins,p.1 ≠ it):Inv X pins σ H { s with heap:=h',toks:=t' }:=by
 have nit:∀ b u,H b=some u->b ≠ it:=fun b u e z=>by rw [z,hn] at e; cases e
 refine I.step (g':=s.gens) (d':=s.drawn) (ch:=[it]) (fun b hb=>?_) (fun b o _ _ hc e _=>k b o (fun z=>hc (by simp [z])) e) (fun b o _ _ hc e _=>⟨o.slots,k b o (fun z=>hc (by simp [z])) e⟩) (fun _ _ _ _ n=>n)
  (fun b o hc e=>⟨o,k b o (fun z=>hc (by simp [z])) e⟩) (fun _ _ e=>e) (fun _ _ _ e=>e) (fun b ps e=>⟨#[],by rw [e]; simp⟩) (fun m hm=>?_) (fun b u e=>?_) I.bare
 ·have e:b=it:=by simpa using hb
  subst e;exact ⟨h1,hL,h2,h3⟩
 ·obtain ⟨o,es,ep,ho,r⟩:=hm
  exact ⟨o,es,ep,k _ o (Ne.symm hL) ho,r⟩
 ·refine (I.hok b u e).stay (fun c v hc q=>k c v ?_ q) (fun _ q=>q) fun _ _ q=>q
  rcases hc with z | z
  ·rw [z]; exact nit b u e
  ·exact nit c _ z
theorem Inv.tok (I:Inv X pins σ H s) (t:Nat):Inv X pins σ H { s with toks:=t }:=I.un (h':=s.heap) (t':=t) Un.refl I.hok
theorem Inv.kept {t':Nat} (I:Inv X pins σ H s) (k:∀ b u,s.heap.get? b=some u->h'.get? b=some u):Inv X pins σ H { s with heap:=h',toks:=t' }:=I.un (Un.kept k) (I.hok.kept k)
theorem Inv.laid {a:Addr} {o:HO} {t':Nat} (I:Inv X pins σ H s) (k:∀ b u,s.heap.get? b=some u->h'.get? b=some u) (hp:s.heap.objs.size <= a) (new:ObjOk X.prog X.w (upd H a o) h' a o) :
  Inv X pins σ (upd H a o) { s with heap:=h',toks:=t' }:=I.un (Un.laid k hp (I.hok.fresh hp)) (I.hok.laid k hp new)
theorem Inv.write {x e:Addr} {o:HO} {t':Nat} (I:Inv X pins σ H s) (mu:Mut (H x)) (he:e=x \/ H e=some (.own x)) (k:∀ b u,b ≠ e->s.heap.get? b=some u->h'.get? b=some u) (heo:∃ u,h'.get? e=some u)
  (new:ObjOk X.prog X.w (upd H x o) h' x o):Inv X pins σ (upd H x o) { s with heap:=h',toks:=t' }:=I.un (Un.write mu he k heo) (I.hok.write mu he k heo new)
theorem Inv.pins_of {pins':List (Addr × Obj)} (I:Inv X pins σ H s) (h:∀ p∈pins',s.heap.get? p.1=some p.2/\H p.1=none/\p.1 ≠ X.env.locals/\p.1 ∉ X.fs/\∀ v,p.2.data ≠ .cell v):Inv X pins' σ H s :=
 ⟨I.ok,I.os,I.bare,I.base,I.loc,I.cell,I.free,I.freeC,fun p hp=>(List.mem_append.mp hp).elim (fun z=>I.pin p (List.mem_append_left _ z)) (h p),I.hok,I.len⟩
theorem nodup_ix {N:List Str} (hN:N.Nodup) {i j:Nat} {x:Str} (a:N[i]?=some x) (b:N[j]?=some x):i=j:=by
 obtain ⟨h1,e1⟩:=List.getElem?_eq_some_iff.mp a;obtain ⟨h2,e2⟩:=List.getElem?_eq_some_iff.mp b;exact (List.getElem_inj hN).mp (e1.trans e2.symm)
theorem store_ok2 {M:Model} {A:Around} {E:Value->Shared->Prop} {i:Nat} {x:Str} {v:V} {u:Value} {Q:Unit->Shared->Prop} (I:Inv X pins σ H s) (hN:X.N.Nodup) (hi:X.N[i]?=some x) (hx:Loc X.env.scope x) (r:RelV v u)
  (h:∀ s',Inv X pins (σ.set i (some v)) H s'->(∃ a,Heap.SameBut a s.heap s'.heap/\(a=X.env.locals \/ X.env.cells.lookup x=some a))->Q () s') (hf:X.fn x=true \/ X.env.scope.names.lookup x=some .local:=by first | exact .inl rfl | exact .inr rfl | assumption):wpAny M A (storeName X.env x u) Q E s:=by
 obtain ⟨m,hn,hl⟩:=id I.loc;have hcls:(X.env.scope.kind == .class || (X.env.scope.kind == .module && X.env.locals != X.env.globals))=false:=by rw [I.ok.kind]; rfl
 have hiσ:i < σ.length:=by rw [I.len]; exact (List.getElem?_eq_some_iff.mp hi).1
 have cne:=I.cne;have tracked:∀ {a:Addr} {h':Heap},(∃ o,s.heap.get? a=some o/\H a=none)->Heap.SameBut a s.heap h'->HOk X.prog X.w H h':=fun {a h'} ha hs b ob e=>by
  obtain ⟨_,_,hfree⟩:=ha;refine (I.hok b ob e).stay (fun c w' hc q=>(hs.2 c ?_).trans q) (fun _ q=>q) fun _ _ q=>q;rintro rfl;rcases hc with rfl | hc
  ·rw [hfree] at e; cases e
  ·rw [hfree] at hc; cases hc
 rcases hx with hk | hk
 ·refine wpAny_storeName_local hk hn (fun h' hn' hs=>?_) hcls
  obtain ⟨oL,_,_,hoL,_⟩:=id hn;refine h _ ⟨I.ok,I.os,I.bare,⟨fun b o e n hb hx=>?_,fun b o e n hb hx=>?_,I.base.free,fun b o e hx=>?_,I.base.tups,I.base.frzs,I.base.tbls⟩,⟨_,hn',fun j y v' e1 e2 e3=>?_⟩,fun y c e=>?_,I.free,I.freeC,fun p hp=>?_,tracked ⟨oL,hoL,I.free⟩ hs,by simpa using I.len⟩ ⟨_,hs,.inl rfl⟩
  ·exact (hs.2 b (ne_of_lt (lt_of_lt_of_le (Heap.lt_size e) I.ok.above))).trans (I.base.keep b o e n hb hx)
  ·obtain ⟨sl,e1⟩:=I.base.slot b o e n hb hx
   exact ⟨sl,(hs.2 b (ne_of_lt (lt_of_lt_of_le (Heap.lt_size e) I.ok.above))).trans e1⟩
  ·obtain ⟨o',e1⟩:=I.base.there b o e hx
   exact ⟨o',(hs.2 b (ne_of_lt (lt_of_lt_of_le (Heap.lt_size e) I.ok.above))).trans e1⟩
  ·by_cases hj:j=i
   ·subst hj
    rw [hi] at e1; cases e1;rw [getElem?_set_self hiσ] at e2;cases e2;exact ⟨u,r,.inl ⟨hk,by simp⟩⟩
   ·rw [getElem?_set_ne (Ne.symm hj)] at e2
    obtain ⟨u',r',q⟩:=hl j y v' e1 e2 e3;refine ⟨u',r',?_⟩;rcases q with ⟨k,e⟩ | ⟨k,c,e,z⟩
    ·refine .inl ⟨k,?_⟩
     have:y ≠ x:=fun e=>hj (nodup_ix hN e1 (e ▸ hi))
     simp [this,e]
    ·exact .inr ⟨k,c,e,z.sameBut hs (cne y c e)⟩
  ·obtain ⟨w',z⟩:=I.cell y c e
   exact ⟨w',z.sameBut hs (cne y c e)⟩
  ·obtain ⟨e,n,ne,nf,d⟩:=I.pin p hp
   exact ⟨(hs.2 p.1 ne).trans e,n,ne,nf,d⟩
 ·have hfn:X.fn x=true:=by
   rcases hf with z | z
   ·exact z
   ·rw [z] at hk; cases hk
  obtain ⟨c,hc⟩:=I.ok.has x (.inl hk);obtain ⟨w',z⟩:=I.cell x c hc;refine wpAny_storeName_cell I.ok.kind hk hc z (fun h' hc' hs=>?_);obtain ⟨oc,hoc,hocd⟩:=id z;refine h { s with heap:=h' } ⟨I.ok,I.os,I.bare,⟨fun b o e n hb hx=>?_,fun b o e n hb hx=>?_,I.base.free,fun b o e hx=>?_,I.base.tups,I.base.frzs,I.base.tbls⟩,⟨m,hn.sameBut hs (Ne.symm (cne x c hc)),fun j y v' e1 e2 e3=>?_⟩,fun y c' e=>?_,I.free,I.freeC,fun p hp=>?_,tracked ⟨oc,hoc,I.freeC x c hc⟩ hs,by simpa using I.len⟩ ⟨c,hs,.inr hc⟩
  ·exact (hs.2 b (ne_of_lt (lt_of_lt_of_le (Heap.lt_size e) (I.ok.cab x c hfn hc)))).trans (I.base.keep b o e n hb hx)
  ·obtain ⟨sl,e1⟩:=I.base.slot b o e n hb hx
   exact ⟨sl,(hs.2 b (ne_of_lt (lt_of_lt_of_le (Heap.lt_size e) (I.ok.cab x c hfn hc)))).trans e1⟩
  ·obtain ⟨o',e1⟩:=I.base.there b o e hx
   exact ⟨o',(hs.2 b (ne_of_lt (lt_of_lt_of_le (Heap.lt_size e) (I.ok.cab x c hfn hc)))).trans e1⟩
  ·by_cases hj:j=i
   ·subst hj
    rw [hi] at e1; cases e1;rw [getElem?_set_self hiσ] at e2;cases e2;exact ⟨u,r,.inr ⟨.inl hk,c,hc,hc'⟩⟩
   ·rw [getElem?_set_ne (Ne.symm hj)] at e2
    obtain ⟨u',r',q⟩:=hl j y v' e1 e2 e3;refine ⟨u',r',?_⟩;rcases q with q | ⟨k,c',e,z'⟩
    ·exact .inl q
    ·refine .inr ⟨k,c',e,z'.sameBut hs ?_⟩
     rintro rfl;exact hj (nodup_ix hN e1 (I.ok.inj _ _ _ e hc ▸ hi))
  ·by_cases hcc:c'=c
   ·subst hcc; exact ⟨_,hc'⟩
   ·obtain ⟨w2,z2⟩:=I.cell y c' e
    exact ⟨w2,z2.sameBut hs hcc⟩
  ·obtain ⟨e,n,ne,nf,d⟩:=I.pin p hp
   refine ⟨(hs.2 p.1 ?_).trans e,n,ne,nf,d⟩;intro q;rw [q,hoc] at e;have q':oc=p.2:=Option.some.inj e;exact d w' (by rw [<- q']; exact hocd)
theorem store_ok {M:Model} {A:Around} {E:Value->Shared->Prop} {i:Nat} {x:Str} {v:V} {u:Value} {Q:Unit->Shared->Prop} (I:Inv X pins σ H s) (hN:X.N.Nodup) (hi:X.N[i]?=some x) (hx:Loc X.env.scope x) (r:RelV v u)
  (h:∀ s',Inv X pins (σ.set i (some v)) H s'->Q () s') (hf:X.fn x=true \/ X.env.scope.names.lookup x=some .local:=by first | exact .inl rfl | exact .inr rfl | assumption):wpAny M A (storeName X.env x u) Q E s :=
 store_ok2 I hN hi hx r (fun s' I' _=>h s' I') hf
theorem Inv.call' {s':Shared} {ch:List Addr} (I:Inv X pins σ H s) (ho:s'.os=s.os) (u:Un (frs X.stack) ch H H' s.heap s'.heap) (hok:HOk X.prog X.w H' s'.heap) (hg:AllBare s'.gens)
  (hch:∀ b∈ch,(b∈X.ex \/ X.s₀.heap.objs.size <= b)/\b ≠ X.env.locals/\(∀ x c,X.env.cells.lookup x=some c->c ≠ b)/\∀ p∈X.pn++pins,p.1 ≠ b):Inv X pins σ H' s':=by
 obtain ⟨h',g',d',t',o'⟩:=s';have e:o'=s.os:=ho;subst e;exact I.call (g':=g') (t':=t') (d':=d') u hok hg hch
end
abbrev XK:=Value->Option Addr->Hp->Prop
abbrev St:=List (Option V)
abbrev VK:=V->Hp->Prop
abbrev TE:=St->Hp->VK->Prop
abbrev TT:=St->Hp->(Bool->Hp->Prop)->Prop
abbrev TA:=St->Hp->(List V->Hp->Prop)->Prop
structure Ends where
 nx:St->Hp->Prop
 rt:VK
 bk:St->Hp->Prop:=fun _ _=>False
 ct:St->Hp->Prop:=fun _ _=>False
abbrev TS:=Ends->St->Hp->Prop
def EP (X:Cx) (pins:List (Addr × Obj)) (σ:St) (Q:VK) (u:Value) (s':Shared):Prop:=∃ v H',Inv X pins σ H' s'/\RelV v u/\Q v H'
def TP (X:Cx) (pins:List (Addr × Obj)) (σ:St) (Q:Bool->Hp->Prop) (b:Bool) (s':Shared):Prop:=∃ H',Inv X pins σ H' s'/\Q b H'
def AP (X:Cx) (pins:List (Addr × Obj)) (σ:St) (Q:List V->Hp->Prop) (us:List Value) (s':Shared):Prop:=∃ vs H',Inv X pins σ H' s'/\Vals vs us/\Q vs H'
def SP (X:Cx) (pins:List (Addr × Obj)) (D:Ends) (f:Flow) (s':Shared):Prop :=
 match f with
 | .next=>∃ σ' H',Inv X pins σ' H' s'/\D.nx σ' H'
 | .brk=>∃ σ' H',Inv X pins σ' H' s'/\D.bk σ' H'
 | .cont=>∃ σ' H',Inv X pins σ' H' s'/\D.ct σ' H'
 | .ret u=>∃ v σ' H',Inv X pins σ' H' s'/\RelV v u/\D.rt v H'
def PE (X:Cx) (e:Expr) (t:TE):Prop :=
 ∀ (pins:List (Addr × Obj)) (s:Shared) (σ:St) (H:Hp) (Q:VK),Inv X pins σ H s->t σ H Q->wpAny (model X.prog X.w) X.A (eval e X.env) (EP X pins σ Q) X.xe s
def PT (X:Cx) (e:Expr) (t:TT):Prop :=
 ∀ (pins:List (Addr × Obj)) (s:Shared) (σ:St) (H:Hp) (Q:Bool->Hp->Prop),Inv X pins σ H s->t σ H Q->wpAny (model X.prog X.w) X.A (isTrue e X.env (eval e X.env)) (TP X pins σ Q) X.xe s
def PW (X:Cx) (e:Expr) (t:TT):Prop :=
 ∀ (whole:Sem Value) (pins:List (Addr × Obj)) (s:Shared) (σ:St) (H:Hp) (Q:Bool->Hp->Prop),Inv X pins σ H s->t σ H Q->wpAny (model X.prog X.w) X.A (isTrue e X.env whole) (TP X pins σ Q) X.xe s
def PA (X:Cx) (es:List Expr) (t:TA):Prop :=
 ∀ (pos:Pos) (pins:List (Addr × Obj)) (s:Shared) (σ:St) (H:Hp) (Q:List V->Hp->Prop),Inv X pins σ H s->t σ H Q->wpAny (model X.prog X.w) X.A (spliced (backTo pos (starEach es X.env))) (AP X pins σ Q) X.xe s
def PS (X:Cx) (st:Stmt) (t:TS):Prop :=
 ∀ (pins:List (Addr × Obj)) (s:Shared) (σ:St) (H:Hp) (D:Ends),Inv X pins σ H s->t D σ H->wpAny (model X.prog X.w) X.A (exec st X.env) (SP X pins D) X.xe s
def PSs (X:Cx) (st:List Stmt) (t:TS):Prop :=
 ∀ (pins:List (Addr × Obj)) (s:Shared) (σ:St) (H:Hp) (D:Ends),Inv X pins σ H s->t D σ H->wpAny (model X.prog X.w) X.A (execs st X.env) (SP X pins D) X.xe s
theorem thn {α:Type} {t:Sem α} {Q Q':α->Shared->Prop} {M:Model} {A:Around} {E:Value->Shared->Prop} {s:Shared} (h:wpAny M A t Q E s) (hQ:∀ a s,Q a s->Q' a s):wpAny M A t Q' E s:=wpAny_mono h hQ fun _ _ x=>x
end L2
namespace L2
open PySem PySem.Spec PyProof.Rows
section
variable {X:Cx}
def tVar (i:Nat):TE:=fun σ H Q=>∃ v,σ[i]?=some (some v)/\Q v H
def tC (v:V):TE:=fun _ H Q=>Q v H
theorem pe_var {i:Nat} {x:Str} {pos:Pos} (hN:X.N[i]?=some x) (hv:Vis X.env.scope x) (hd:(x == ("__debug__":Str))=false:=by decide) (hcd:(x == ("__classdict__":Str))=false:=by decide):PE X (.Name x pos) (tVar i):=by
 intro pins s σ H Q I h;obtain ⟨v,e,h⟩:=h;obtain ⟨m,hn,hl⟩:=I.loc;obtain ⟨u,r,l⟩:=hl i x v hN e hv;have fin:EP X pins σ Q u s:=⟨v,H,I,r,h⟩;rcases l with ⟨hk,hm⟩ | ⟨hk,c,hc,hcell⟩
 ·exact wpAny_Name (wpAny_loadName_local I.ok.kind hk hn hm fin) hd
 ·rcases hk with hk | hk
  ·exact wpAny_Name (wpAny_loadName_cell I.ok.kind hk hc hcell fin) hd
  ·exact wpAny_Name (wpAny_loadName_free I.ok.kind hk hc hcell fin hcd) hd
theorem pe_int {i j pos}:PE X (.Constant (.int i) j pos) (tC (.int i)):=fun _ _ _ H _ I h=>wpAny_Constant_int ⟨.int i,H,I.tok _,⟨_,rfl⟩,h⟩
theorem pe_bl {b j pos}:PE X (.Constant (.bool b) j pos) (tC (.bl b)):=fun _ _ _ H _ I h=>Constant_bool ⟨.bl b,H,I,rfl,h⟩
theorem pe_non {j pos}:PE X (.Constant .none j pos) (tC .non):=fun _ _ _ H _ I h=>Constant_none ⟨.non,H,I,rfl,h⟩
def Gl (X:Cx) (x:Str):Prop:=X.env.kindOf x=some .globalImplicit
theorem ld_glob {E:Value->Shared->Prop} {pins:List (Addr × Obj)} {s:Shared} {σ:St} {H:Hp} {x:Str} {u:Value} {pos:Pos} {Q:Value->Shared->Prop} (I:Inv X pins σ H s) (hg:Gl X x) (hm:X.mg x=some u) (h:Q u s)
  (hd:(x == ("__debug__":Str))=false:=by decide):wpAny (model X.prog X.w) X.A (eval (.Name x pos) X.env) Q E s :=
 Calls.Name_function_global I.ok.kind hg (Calls.loadGlobal_global (by rw [I.ok.glob]; exact I.mod.glob.keeps I.bk) hm h) hd
theorem ld_blt {E:Value->Shared->Prop} {pins:List (Addr × Obj)} {s:Shared} {σ:St} {H:Hp} {x:Str} {u:Value} {pos:Pos} {Q:Value->Shared->Prop} (I:Inv X pins σ H s) (hg:Gl X x) (hm:X.mg x=none) (hv:bootBuiltins x=some u) (h:Q u s)
  (hn:x ≠ "__name__":=by decide) (hd:(x == ("__debug__":Str))=false:=by decide):wpAny (model X.prog X.w) X.A (eval (.Name x pos) X.env) Q E s:=by
 obtain ⟨mb,h1,h2⟩:=I.mod.blt;exact Calls.Name_function_global I.ok.kind hg (Calls.loadGlobal_builtin (by rw [I.ok.glob]; exact I.mod.glob.keeps I.bk) hm (by rw [I.ok.blt]; exact h1.keeps I.bk) ((h2 x hn).trans hv) h) hd
theorem pe_glob {x:Str} {v:V} {u:Value} {pos:Pos} (hg:Gl X x) (hm:X.mg x=some u) (r:RelV v u) (hd:(x == ("__debug__":Str))=false:=by decide):PE X (.Name x pos) (tC v) :=
 fun _ _ _ H _ I h=>ld_glob I hg hm ⟨v,H,I,r,h⟩ hd
theorem pe_bltn {x:Str} {v:V} {u:Value} {pos:Pos} (hg:Gl X x) (hm:X.mg x=none) (hv:bootBuiltins x=some u) (r:RelV v u) (hn:x ≠ "__name__":=by decide) (hd:(x == ("__debug__":Str))=false:=by decide):PE X (.Name x pos) (tC v) :=
 fun _ _ _ H _ I h=>ld_blt I hg hm hv ⟨v,H,I,r,h⟩ hn hd
variable {a b:Expr} {ta tb:TE} {pos:Pos}
def tB (t:TE):TT:=fun σ H Q=>t σ H fun x H1=>∃ c,x=.bl c/\Q c H1
theorem pt_val {e:Expr} {t:TE} (h:PE X e t) (he:∀ whole,isTrue e X.env whole=(do let v <- whole; standAt e.pos; holding [v] (truthy v)):=by intro _; rfl):PT X e (tB t):=by
 intro pins s σ H Q I hw;refine isTrue_plain (thn (h pins s σ H _ I hw) fun v s1 hQ=>?_) (he _);obtain ⟨x,H1,I1,r1,q1⟩:=hQ;obtain ⟨d,rfl,q⟩:=q1;cases r1;exact wpAny_truthy_bool ⟨H1,I1,q⟩
variable {tA tB':TT} {rest:List Expr}
def tAnd (t u:TT):TT:=fun σ H Q=>t σ H fun c H1=>if c=true then u σ H1 Q else Q false H1
def tOr (t u:TT):TT:=fun σ H Q=>t σ H fun c H1=>if c=true then Q true H1 else u σ H1 Q
def tNot (t:TT):TT:=fun σ H Q=>t σ H fun c H1=>Q (!c) H1
theorem pw_and1 (ha:PT X a tA):PW X (.BoolOp .And [a] pos) tA:=by
 intro wh pins s σ H Q I h;refine isTrue_and (thn (ha pins s σ H Q I h) fun c s1 e=>?_);cases c with
 | true=>exact isTrue_and_nil e
 | false=>exact e
theorem pw_or1 (ha:PT X a tA):PW X (.BoolOp .Or [a] pos) tA:=by
 intro wh pins s σ H Q I h;refine isTrue_or (thn (ha pins s σ H Q I h) fun c s1 e=>?_);cases c with
 | false=>exact isTrue_or_nil e
 | true=>exact e
theorem pw_and (ha:PT X a tA) (hb:PW X (.BoolOp .And (b :: rest) pos) tB'):PW X (.BoolOp .And (a :: b :: rest) pos) (tAnd tA tB'):=by
 intro wh pins s σ H Q I h;refine isTrue_and (thn (ha pins s σ H _ I h) fun c s1 hQ=>?_);obtain ⟨H1,I1,q1⟩:=hQ;cases c with
 | true=>exact hb wh pins s1 σ H1 Q I1 q1
 | false=>exact ⟨H1,I1,q1⟩
theorem pw_or (ha:PT X a tA) (hb:PW X (.BoolOp .Or (b :: rest) pos) tB'):PW X (.BoolOp .Or (a :: b :: rest) pos) (tOr tA tB'):=by
 intro wh pins s σ H Q I h;refine isTrue_or (thn (ha pins s σ H _ I h) fun c s1 hQ=>?_);obtain ⟨H1,I1,q1⟩:=hQ;cases c with
 | true=>exact ⟨H1,I1,q1⟩
 | false=>exact hb wh pins s1 σ H1 Q I1 q1
theorem pt_not (ha:PT X a tA):PT X (.UnaryOp .Not a pos) (tNot tA):=by
 intro pins s σ H Q I h;exact isTrue_not (ha pins s σ H (fun c H1=>Q (!c) H1) I h)
def tAndV (ta tb:TE):TE:=fun σ H Q=>ta σ H fun x H1=>∃ c,x=.bl c/\if c=true then tb σ H1 Q else Q (.bl false) H1
def tNotV (ta:TE):TE:=fun σ H Q=>ta σ H fun x H1=>∃ c,x=.bl c/\Q (.bl (!c)) H1
theorem pe_one {op} {t:TE} (h:PE X a t):PE X (.BoolOp op [a] pos) t:=fun pins s σ H Q I hw=>BoolOp_one (h pins s σ H Q I hw)
theorem pe_and (ha:PE X a ta) (hb:PE X (.BoolOp .And (b :: rest) pos) tb):PE X (.BoolOp .And (a :: b :: rest) pos) (tAndV ta tb):=by
 intro pins s σ H Q I h;refine BoolOp_and (thn (ha pins s σ H _ I h) fun v s1 hQ=>?_);obtain ⟨x,H1,I1,r1,q1⟩:=hQ;obtain ⟨c,rfl,q1⟩:=q1;cases r1;refine wpAny_truthy_bool ?_;cases c with
 | true=>exact hb pins s1 σ H1 Q I1 q1
 | false=>exact ⟨.bl false,H1,I1,rfl,q1⟩
theorem pe_not (ha:PE X a ta):PE X (.UnaryOp .Not a pos) (tNotV ta):=by
 intro pins s σ H Q I h;refine UnaryOp_ (thn (ha pins s σ H _ I h) fun v s1 hQ=>?_);obtain ⟨x,H1,I1,r1,q1⟩:=hQ;obtain ⟨c,rfl,q1⟩:=q1;cases r1;exact not_of (wpAny_truthy_bool ⟨.bl (!c),H1,I1,rfl,q1⟩)
def tIf (t:TT) (ta tb:TE):TE:=fun σ H Q=>t σ H fun c H1=>if c=true then ta σ H1 Q else tb σ H1 Q
theorem pe_ifExp {c:Expr} (hc:PT X c tA) (ha:PE X a ta) (hb:PE X b tb):PE X (.IfExp c a b pos) (tIf tA ta tb):=by
 intro pins s σ H Q I h;refine wpAny_IfExp (thn (hc pins s σ H _ I h) fun d s1 hQ=>?_);obtain ⟨H1,I1,q1⟩:=hQ;cases d with
 | true=>exact ha pins s1 σ H1 Q I1 q1
 | false=>exact hb pins s1 σ H1 Q I1 q1
end
end L2
namespace L2
open PySem PySem.Spec PyProof.Rows
def SqL (K:Frag) (H:Hp) (a:Addr) (xs:List V):Prop :=
 Rd H a (.lst xs) \/
  ∃ (o:Obj) (its:Array Value) (n:Nat),K.lookup a=some o/\o.cls=.type "list"/\o.dict=none/\o.data=.seq its n/\its.size <= sizeLine/\Vals xs its.toList
def SqT (K:Frag) (H:Hp) (a:Addr) (xs:List V):Prop :=
 Rd H a (.tup xs) \/
  ∃ (o:Obj) (its:Array Value) (n:Nat),K.lookup a=some o/\o.cls=.type "tuple"/\o.data=.seq its n/\its.size <= sizeLine/\Vals xs its.toList
def absV:Value->Option V
 | .none=>some .non
 | .bool b=>some (.bl b)
 | .int i _=>some (.int i)
 | .str x _=>some (.str x)
 | .bytes b _=>some (.byt b)
 | .float b _=>some (.flt b)
 | .ref a=>some (.ref a)
 | .type n=>some (.ty n)
 | _=>none
theorem RelV.abs {x:V} {u:Value} (r:RelV x u):absV u=some x:=by
 cases x with
 | non=>cases r; rfl
 | bl _=>cases r; rfl
 | int _=>obtain ⟨t,rfl⟩:=r; rfl
 | str _=>obtain ⟨t,rfl⟩:=r; rfl
 | byt _=>obtain ⟨t,rfl⟩:=r; rfl
 | flt _=>obtain ⟨t,rfl⟩:=r; rfl
 | ref _=>cases r; rfl
 | ty _=>cases r; rfl
theorem RelV.inj {x y:V} {u:Value} (r:RelV x u) (q:RelV y u):x=y:=Option.some.inj (r.abs.symm.trans q.abs)
theorem Vals.inj:∀ {xs ys:List V} {us:List Value},Vals xs us->Vals ys us->xs=ys
 | _,_,_,.nil,.nil=>rfl
 | _,_,_,.cons r t,.cons r' t'=>by rw [r.inj r',Vals.inj t t']
section
variable {X:Cx} {pins:List (Addr × Obj)} {σ:St} {H:Hp} {s:Shared} {a:Addr} {xs ys:List V}
theorem SqL.of {K:Frag} (h:H a=some (.lst xs)):SqL K H a xs:=.inl (.inl h)
theorem SqT.of {K:Frag} (h:H a=some (.tup xs)):SqT K H a xs:=.inl (.inl h)
theorem Inv.list (I:Inv X pins σ H s) (h:SqL X.K H a xs):∃ its:List Value,Vals xs its/\PlainL s.heap a its.toArray/\xs.length <= sizeLine:=by
 rcases h with h | ⟨o,its,n,hk,hc,hd,hs,hz,r⟩
 ·obtain ⟨z,its,n,r,e⟩:=h.ok I.hok
  exact ⟨its,r,⟨_,n,e,rfl,rfl,rfl⟩,z⟩
 ·refine ⟨its.toList,r,⟨o,n,I.kIn a o hk,hc,hd,by simpa using hs⟩,?_⟩
  have e:=r.length;simp only [length_toList] at e;omega
theorem Inv.tuple (I:Inv X pins σ H s) (h:SqT X.K H a xs):∃ its:List Value,Vals xs its/\IsTup s.heap a its.toArray/\xs.length <= sizeLine:=by
 rcases h with h | ⟨o,its,n,hk,hc,hs,hz,r⟩
 ·obtain ⟨z,its,r,p⟩:=h.ok I.hok
  exact ⟨its,r,p,z⟩
 ·refine ⟨its.toList,r,⟨o,I.kIn a o hk,hc,n,by simpa using hs⟩,?_⟩
  have e:=r.length;simp only [length_toList] at e;omega
theorem Inv.list_inj (I:Inv X pins σ H s) (h:SqL X.K H a xs) (h':SqL X.K H a ys):xs=ys:=by
 obtain ⟨its,r,⟨o,n,e,_,_,d⟩,_⟩:=I.list h;obtain ⟨its',r',⟨o',n',e',_,_,d'⟩,_⟩:=I.list h';rw [e] at e'; cases e';rw [d] at d';injection d' with d1 _
 have:its=its':=by simpa using congrArg Array.toList d1
 subst this;exact r.inj r'
end
abbrev Cx.wish (X:Cx) (E:Value->Shared->Prop):Cx:={ X with xe:=E }
abbrev Cx.nox (X:Cx):Cx:=X.wish fun _ _=>False
theorem Cx.Ok.wish {X:Cx} (ok:X.Ok) (E:Value->Shared->Prop):(X.wish E).Ok :=
 ⟨ok.mod,ok.kind,ok.glob,ok.blt,ok.above,ok.inj,ok.has,ok.cab,ok.hd,ok.frames,ok.stk,ok.exf,ok.bs,ok.bsz,ok.noex,ok.exfs,ok.funs,ok.frf⟩
theorem Cx.Ok.unwish {X:Cx} {E:Value->Shared->Prop} (ok:(X.wish E).Ok):X.Ok :=
 ⟨ok.mod,ok.kind,ok.glob,ok.blt,ok.above,ok.inj,ok.has,ok.cab,ok.hd,ok.frames,ok.stk,ok.exf,ok.bs,ok.bsz,ok.noex,ok.exfs,ok.funs,ok.frf⟩
section
variable {X:Cx} {pins:List (Addr × Obj)} {σ:St} {H:Hp} {s:Shared} {E:Value->Shared->Prop}
theorem Inv.wish (I:Inv X pins σ H s) (E:Value->Shared->Prop):Inv (X.wish E) pins σ H s:=⟨I.ok.wish E,I.os,I.bare,I.base,I.loc,I.cell,I.free,I.freeC,I.pin,I.hok,I.len⟩
theorem Inv.unwish (I:Inv (X.wish E) pins σ H s):Inv X pins σ H s:=⟨I.ok.unwish,I.os,I.bare,I.base,I.loc,I.cell,I.free,I.freeC,I.pin,I.hok,I.len⟩
theorem SP.unwish {D:Ends} {f:Flow} {s':Shared} (h:SP (X.wish E) pins D f s'):SP X pins D f s':=by
 cases f with
 | next=>obtain ⟨σ',H',I,q⟩:=h; exact ⟨σ',H',I.unwish,q⟩
 | brk=>obtain ⟨σ',H',I,q⟩:=h; exact ⟨σ',H',I.unwish,q⟩
 | cont=>obtain ⟨σ',H',I,q⟩:=h; exact ⟨σ',H',I.unwish,q⟩
 | ret u=>obtain ⟨v,σ',H',I,r,q⟩:=h; exact ⟨v,σ',H',I.unwish,r,q⟩
theorem PE.nox {e:Expr} {t:TE} (h:PE X.nox e t):PE X e t:=fun pins s σ H Q I hw =>
 wpAny_mono (h pins s σ H Q (I.wish _) hw) (fun _ _ ⟨v,H',I',r,q⟩=>⟨v,H',I'.unwish,r,q⟩) fun _ _ z=>False.elim z
theorem PT.nox {e:Expr} {t:TT} (h:PT X.nox e t):PT X e t:=fun pins s σ H Q I hw =>
 wpAny_mono (h pins s σ H Q (I.wish _) hw) (fun _ _ ⟨H',I',q⟩=>⟨H',I'.unwish,q⟩) fun _ _ z=>False.elim z
theorem PSs.nox {st:List Stmt} {t:TS} (h:PSs X.nox st t):PSs X st t:=fun pins s σ H D I hw =>
 wpAny_mono (h pins s σ H D (I.wish _) hw) (fun _ _ q=>q.unwish) fun _ _ z=>False.elim z
end
section
variable {X:Cx} {st:Stmt} {rest:List Stmt} {t u:TS} {e:Expr} {te:TE} {pos:Pos}
def tNext:TS:=fun D σ H=>D.nx σ H
def tSeq (t u:TS):TS:=fun D σ H=>t { D with nx:=u D } σ H
theorem pss_nil:PSs X [] tNext:=fun _ _ σ H _ I h=>wpAny_execs_nil ⟨σ,H,I,h⟩
theorem pss_cons (h1:PS X st t) (h2:PSs X rest u):PSs X (st :: rest) (tSeq t u):=by
 intro pins s σ H D I h;refine wpAny_execs_cons (thn (h1 pins s σ H { D with nx:=u D } I h) fun f s1 q=>?_);cases f with
 | next =>
  obtain ⟨σ',H',I',q⟩:=q;exact h2 pins s1 σ' H' D I' q
 | ret v=>exact q
 | brk=>exact q
 | cont=>exact q
theorem pss_one (h1:PS X st t):PSs X [st] t:=by
 intro pins s σ H D I h;refine wpAny_execs_cons (thn (h1 pins s σ H D I h) fun f s1 q=>?_);cases f with
 | next=>exact wpAny_execs_nil q
 | ret v=>exact q
 | brk=>exact q
 | cont=>exact q
theorem Inv.quiet {pins:List (Addr × Obj)} {σ:St} {H:Hp} {s:Shared} (I:Inv X pins σ H s):interactive X.env=false:=by simp [interactive,I.ok.kind]
def tDrop (te:TE):TS:=fun D σ H=>te σ H fun _ H1=>D.nx σ H1
theorem ps_expr (he:PE X e te) (hs:swapsWith e none pos.line X.env=pure false:=by rfl):PS X (.Expr e pos) (tDrop te):=by
 intro pins s σ H D I h;exact wpAny_Expr_any (thn (he pins s σ H _ I h) fun v s1 ⟨x,H1,I1,r1,q1⟩=>⟨σ,H1,I1,q1⟩) I.quiet hs
def tRet (te:TE):TS:=fun D σ H=>te σ H D.rt
theorem ps_ret (he:PE X e te):PS X (.Return (some e) pos) (tRet te):=by
 intro pins s σ H D I h;exact wpAny_Return_some (thn (he pins s σ H _ I h) fun v s1 ⟨x,H1,I1,r1,q1⟩=>⟨x,σ,H1,I1,r1,q1⟩)
def tIfS (c:TT) (t u:TS):TS:=fun D σ H=>c σ H fun b H1=>if b=true then t D σ H1 else u D σ H1
theorem ps_if {c:Expr} {a b:List Stmt} {tc:TT} (hc:PT X c tc) (ha:PSs X a t) (hb:PSs X b u):PS X (.If c a b pos) (tIfS tc t u):=by
 intro pins s σ H D I h;refine wpAny_If (thn (hc pins s σ H _ I h) fun d s1 hQ=>?_);obtain ⟨H1,I1,q1⟩:=hQ;cases d with
 | true=>exact ha pins s1 σ H1 D I1 q1
 | false=>exact hb pins s1 σ H1 D I1 q1
def tNever:TS:=fun _ _ _=>False
theorem ps_never:PS X st tNever:=fun _ _ _ _ _ _ h=>h.elim
end
abbrev TG:=V->St->Hp->(St->Hp->Prop)->Prop
abbrev TGs:=List V->St->Hp->(St->Hp->Prop)->Prop
def PG (X:Cx) (target:Expr) (t:TG):Prop :=
 ∀ (pins:List (Addr × Obj)) (s:Shared) (σ:St) (H:Hp) (v:V) (u:Value) (Q:St->Hp->Prop),Inv X pins σ H s->RelV v u->t v σ H Q ->
  wpAny (model X.prog X.w) X.A (assign target X.env u) (fun _ s'=>∃ σ' H',Inv X pins σ' H' s'/\Q σ' H') X.xe s
def PGs (X:Cx) (ts:List Expr) (t:TGs):Prop :=
 ∀ (pins:List (Addr × Obj)) (s:Shared) (σ:St) (H:Hp) (vs:List V) (us:List Value) (Q:St->Hp->Prop),Inv X pins σ H s->Vals vs us->t vs σ H Q ->
  wpAny (model X.prog X.w) X.A (assignInOrder ((assignEach ts X.env).map (·.2)) us) (fun _ s'=>∃ σ' H',Inv X pins σ' H' s'/\Q σ' H') X.xe s
abbrev TSet:=V->V->V->Hp->(Hp->Prop)->Prop
def PSet (X:Cx) (t:TSet):Prop :=
 ∀ (pins:List (Addr × Obj)) (s:Shared) (σ:St) (H:Hp) (o i v:V) (ov iv u:Value) (Q:Hp->Prop),Inv X pins σ H s->RelV o ov->RelV i iv->RelV v u->t o i v H Q ->
  wpAny (model X.prog X.w) X.A (setItem ov iv u) (fun _ s'=>∃ H',Inv X pins σ H' s'/\Q H') X.xe s
section
variable {X:Cx} {pos:Pos}
def gName (i:Nat):TG:=fun v σ H Q=>Q (σ.set i (some v)) H
theorem pg_name {i:Nat} {x:Str} (hN:X.N.Nodup) (hi:X.N[i]?=some x) (hx:Loc X.env.scope x) (hf:X.fn x=true \/ X.env.scope.names.lookup x=some .local:=by first | exact .inl rfl | exact .inr rfl | assumption):PG X (.Name x pos) (gName i):=by
 intro pins s σ H v u Q I r h;exact wpAny_assign_Name (store_ok I hN hi hx r (fun s' I'=>⟨_,H,I',h⟩) hf)
def gNil:TGs:=fun vs σ H Q=>vs=[]/\Q σ H
def gCons (t:TG) (u:TGs):TGs:=fun vs σ H Q=>∃ v r,vs=v :: r/\t v σ H fun σ' H'=>u r σ' H' Q
theorem pgs_nil:PGs X [] gNil:=by
 intro pins s σ H vs us Q I r h;obtain ⟨e,h⟩:=h;subst e;cases r;exact assignInOrder_nil ⟨σ,H,I,h⟩
theorem pgs_cons {e:Expr} {es:List Expr} {t:TG} {u:TGs} (h1:PG X e t) (h2:PGs X es u)
  (hs:(assignEach (e :: es) X.env).map (·.2)=assign e X.env :: (assignEach es X.env).map (·.2):=by rfl):PGs X (e :: es) (gCons t u):=by
 intro pins s σ H vs us Q I r h;obtain ⟨v,vr,e1,h⟩:=h;subst e1;cases r with
 | cons r rr =>
  rw [hs];refine assignInOrder_cons (thn (h1 pins s σ H _ _ _ I r h) fun _ s1 hQ=>?_);obtain ⟨σ1,H1,I1,q1⟩:=hQ;exact h2 pins s1 σ1 H1 _ _ Q I1 rr q1
def gTup (K:Frag) (n:Nat) (t:TGs):TG:=fun v σ H Q=>∃ a xs,v=.ref a/\SqT K H a xs/\xs.length=n/\t xs σ H Q
theorem pg_tup {es:List Expr} {k:Nat} {t:TGs} {n:Nat} (hc:X.calm=true) (h:PGs X es t)
  (hn:(assignEach es X.env).length=n:=by rfl) (hst:(assignEach es X.env).findIdx? (·.1)=none:=by rfl):PG X (.Tuple es k pos) (gTup X.K n t):=by
 intro pins s σ H v u Q I r hw;obtain ⟨a,xs,e1,hq,hl,hw⟩:=hw;subst e1;cases r;obtain ⟨its,rv,ht,hz⟩:=I.tuple hq;refine assign_Tuple_tuple (I.ok.hd hc) ht (by simp [hn,<- hl,rv.length]) hst fun h' hx=>?_;have I1:Inv X pins σ H { s with heap:=h' }:=I.kept (t':=s.toks) fun b o e=>hx b o (ne_of_lt (Heap.lt_size e)) e;exact h pins _ σ H xs _ Q I1 (by simpa using rv) hw
def gSub (to ti:TE) (t:TSet):TG:=fun v σ H Q=>to σ H fun o H1=>ti σ H1 fun i H2=>t o i v H2 fun H3=>Q σ H3
theorem pg_sub {o i:Expr} {to ti:TE} {t:TSet} (ho:PE X o to) (hi:PE X i ti) (hs:PSet X t)
  (ha:∀ v,assign (.Subscript o i pos) X.env v=(do
   let ov <- holding [v] (eval o X.env)
   let iv <- holding [v,ov] (eval i X.env)
   standAt pos
   holding [v,ov,iv] (setItem ov iv v)
   release [v,ov,iv] []):=by intro _; rfl):PG X (.Subscript o i pos) (gSub to ti t):=by
 intro pins s σ H v u Q I r h;rw [ha];refine wpAny_bind (wpAny_holding (thn (ho pins s σ H _ I h) fun ov s1 hQ=>?_));obtain ⟨x,H1,I1,r1,q1⟩:=hQ;refine wpAny_bind (wpAny_holding (thn (hi pins s1 σ H1 _ I1 q1) fun iv s2 hQ=>?_));obtain ⟨y,H2,I2,r2,q2⟩:=hQ;refine wpAny_bind (wpAny_standAt (wpAny_bind (wpAny_holding (thn (hs pins s2 σ H2 x y v ov iv u _ I2 r1 r2 r q2) fun _ s3 hQ=>?_))));obtain ⟨H3,I3,q3⟩:=hQ;exact wpAny_release ⟨σ,H3,I3,q3⟩
def tAsg (te:TE) (g:TG):TS:=fun D σ H=>te σ H fun x H1=>g x σ H1 D.nx
theorem ps_asg {tg e:Expr} {te:TE} {g:TG} (he:PE X e te) (hg:PG X tg g) (hs:swapsWithSole [tg] e pos.line X.env=pure false:=by rfl) (hw:swappedStores [tg] e X.env=pure none:=by rfl)
  (h1:(assignEach [tg] X.env).map (·.2)=[assign tg X.env]:=by rfl):PS X (.Assign [tg] e pos) (tAsg te g):=by
 intro pins s σ H D I h;refine wpAny_Assign_stores (thn (he pins s σ H _ I h) fun v s1 hQ=>?_) hs hw;obtain ⟨x,H1,I1,r1,q1⟩:=hQ;rw [h1];exact thn (hg pins s1 σ H1 x v _ I1 r1 q1) fun _ s2 q=>q
theorem ps_set {i:Nat} {x:Str} {e:Expr} {te:TE} {pos':Pos} (hN:X.N.Nodup) (hi:X.N[i]?=some x) (hx:Loc X.env.scope x) (he:PE X e te) (hs:swapsWith e (some (.Name x pos')) pos.line X.env=pure false:=by rfl) (hf:X.fn x=true \/ X.env.scope.names.lookup x=some .local:=by first | exact .inl rfl | exact .inr rfl | assumption) :
  PS X (.Assign [.Name x pos'] e pos) (tAsg te (gName i)):=by
 intro pins s σ H D I h;refine wpAny_Assign_Name (thn (he pins s σ H _ I h) fun v s1 hQ=>?_) hs;obtain ⟨y,H1,I1,r1,q1⟩:=hQ;exact store_ok I1 hN hi hx r1 (fun s2 I2=>⟨_,H1,I2,q1⟩) hf
end
section
variable {X:Cx} {pos:Pos}
def tWhile (c:TT) (tb:TS):TS:=fun D σ H=>∃ W:Nat->St->Hp->Prop,(∃ m,W m σ H)/\∀ m σ H,W m σ H ->
 c σ H fun b H1=>if b=true then ∃ N:St->Hp->Prop,(∀ σ' H',N σ' H'->∃ m',m' < m/\W m' σ' H')/\tb { D with nx:=N,ct:=N,bk:=D.nx } σ H1 else D.nx σ H1
theorem ps_while {c:Expr} {body:List Stmt} {tc:TT} {tb:TS} (hp:PassesOwn (model X.prog X.w) X.A X.env X.xe) (hc:PT X c tc) (hb:PSs X body tb):PS X (.While c body [] pos) (tWhile tc tb):=by
 intro pins s σ H D I h;obtain ⟨W,⟨m0,w0⟩,turn⟩:=h;refine wpAny_While (codeAny_whileLoop (fun n s'=>∃ σ' H',Inv X pins σ' H' s'/\W n σ' H') ?_ m0 ⟨σ,H,I,w0⟩);rintro n s1 ⟨σ1,H1,I1,w1⟩;refine wpAny_passesOwn hp (thn (hc pins s1 σ1 H1 _ I1 (turn n σ1 H1 w1)) fun b s2 hQ=>?_);obtain ⟨H2,I2,q2⟩:=hQ;cases b with
 | true =>
  obtain ⟨N,hN,q2⟩:=q2;rw [if_pos rfl];refine wpAny_passesOwn hp (thn (hb pins s2 σ1 H2 _ I2 q2) fun f s3 q3=>?_);cases f with
  | next =>
   obtain ⟨σ3,H3,I3,n3⟩:=q3;obtain ⟨m',hm,w3⟩:=hN σ3 H3 n3;exact ⟨m',hm,σ3,H3,I3,w3⟩
  | cont =>
   obtain ⟨σ3,H3,I3,n3⟩:=q3;obtain ⟨m',hm,w3⟩:=hN σ3 H3 n3;exact ⟨m',hm,σ3,H3,I3,w3⟩
  | brk=>exact q3
  | ret v=>exact q3
 | false =>
  rw [if_neg Bool.false_ne_true];exact wpAny_execs_nil ⟨σ1,H2,I2,q2⟩
end
structure It where
 go:Nat->Hp->Prop
 yld:Nat->Hp->V->Hp->Prop
 stop:Nat->Hp->Prop
def FpOk (X:Cx) (pins:List (Addr × Obj)) (H:Hp) (b:Addr):Prop :=
 H b=none/\b ≠ X.env.locals/\b ∉ X.fs/\(b∈X.ex \/ X.s₀.heap.objs.size <= b)/\(∀ x c,X.env.cells.lookup x=some c->c ≠ b)/\∀ p∈X.pn++pins,p.1 ≠ b
theorem Inv.fpOk {X:Cx} {pins:List (Addr × Obj)} {σ:St} {H H':Hp} {s:Shared} {b:Addr} (I:Inv X pins σ H s) (hb:s.heap.objs.size <= b) (hn:H' b=none):FpOk X pins H' b:=by
 refine ⟨hn,ne_of_gt (lt_of_lt_of_le I.lt hb),I.nofs hb,.inr (le_trans I.sz hb),fun x c e z=>?_,fun p hp z=>?_⟩
 ·obtain ⟨v,q⟩:=I.cell x c e
  exact absurd (lt_of_lt_of_le q.lt (by rw [z]; exact hb)) (lt_irrefl _)
 ·exact absurd (lt_of_lt_of_le (Heap.lt_size (I.pin p hp).1) (by rw [z]; exact hb)) (lt_irrefl _)
structure Turn (P:Program) (w:World) (K:Frag) (tg:Expr) (J:It) (fp:List Addr) (it:Addr) (tn:Nat->Heap->Prop):Prop where
 mem:it∈fp
 obj:∀ i h,tn i h->∀ b∈fp,∃ o,h.get? b=some o/\∀ v,o.data ≠ .cell v
 keep:∀ i h h',tn i h->(∀ b∈fp,∀ o,h.get? b=some o->h'.get? b=some o)->tn i h'
 item:∀ (X:Cx),X.prog=P->X.w=w->X.K=K->X.calm=true->∀ (i:Nat) (pins:List (Addr × Obj)) (s:Shared) (σ:St) (H:Hp) (E:Value->Shared->Prop),Inv X pins σ H s->(∀ b∈fp,FpOk X pins H b)->tn i s.heap->J.go i H ->
  wpAny (model P w) X.A (pyNext (.ref it)) (fun r s1=>∃ u,r=some u /\
   wpAny (model P w) X.A (letOwnedTupleGo tg (.ref it) u) (fun _ s2=>∃ x H',Inv X pins σ H' s2/\RelV x u/\J.yld i H x H'/\tn (i + 1) s2.heap/\∀ b∈fp,H' b=none) E s1) E s
 done:∀ (X:Cx),X.prog=P->X.w=w->X.K=K->X.calm=true->∀ (i:Nat) (pins:List (Addr × Obj)) (s:Shared) (σ:St) (H:Hp) (E:Value->Shared->Prop),Inv X pins σ H s->(∀ b∈fp,FpOk X pins H b)->tn i s.heap->J.stop i H ->
  wpAny (model P w) X.A (pyNext (.ref it)) (fun r s1=>r=none/\Inv X pins σ H s1) E s
 self:∀ (A:Around) (i:Nat) (s:Shared) (Q:Value->Shared->Prop) (E:Value->Shared->Prop),tn i s.heap->Q (.ref it) s->wpAny (model P w) A (pyIter (.ref it)) Q E s
abbrev TI:=St->Hp->(It->Hp->Prop)->Prop
def PIE (X:Cx) (pins:List (Addr × Obj)) (σ:St) (tg:Expr) (R:It->Hp->Prop) (itv:Value) (s2:Shared):Prop :=
 ∃ (it:Addr) (fp:List Addr) (tn:Nat->Heap->Prop) (J:It) (H':Hp),itv=.ref it/\Inv X pins σ H' s2/\Turn X.prog X.w X.K tg J fp it tn/\tn 0 s2.heap/\(∀ b∈fp,FpOk X pins H' b)/\R J H'
def PI (X:Cx) (tg iter:Expr) (wi:TI):Prop :=
 ∀ (pins:List (Addr × Obj)) (s:Shared) (σ:St) (H:Hp) (R:It->Hp->Prop),Inv X pins σ H s->wi σ H R ->
  wpAny (model X.prog X.w) X.A (eval iter X.env) (fun v s1=>wpAny (model X.prog X.w) X.A (pyIter v) (PIE X pins σ tg R) X.xe s1) X.xe s
theorem go_of {M:Model} {A:Around} {E:Value->Shared->Prop} {s:Shared} {tg:Expr} {it:Addr} {u:Value} {o:Obj} {n:String} {vs:Array Value} {Q:Unit->Shared->Prop} (ho:s.heap.get? it=some o) (hc:o.cls=.type n) (hd:o.data=.fields vs)
  (hn:["enumerate","zip","dict_itemiterator","dict_reverseitemiterator","odict_iterator","itertools.zip_longest","itertools.pairwise"].contains n=false) (hQ:Q () s):wpAny M A (letOwnedTupleGo tg (.ref it) u) Q E s:=by
 unfold letOwnedTupleGo;cases tg <;> first
  | exact wpAny_pure hQ
  | (cases u <;> first
    | exact wpAny_pure hQ
    | (refine wpAny_bind (wpAny_load ho ?_)
       rw [hc,hd];show wpAny M A (if (["enumerate","zip","dict_itemiterator","dict_reverseitemiterator","odict_iterator","itertools.zip_longest","itertools.pairwise"].contains n && vs[0]? == some (rawInt _))=true then _ else _) Q E s;rw [if_neg (by intro h; rw [hn,Bool.false_and] at h; cases h)];exact wpAny_pure hQ))
def Itl (K:Frag) (a:Addr):It :=
 ⟨fun i H=>∃ xs x,SqL K H a xs/\xs[i]?=some x,fun i H x H'=>H'=H/\∀ xs,SqL K H a xs->xs[i]?=some x,fun i H=>∃ xs,SqL K H a xs/\xs.length <= i⟩
def Itr (lo:Int) (n:Nat):It:=⟨fun i _=>i < n,fun i H x H'=>H'=H/\x=.int (lo + i),fun i _=>n <= i⟩
theorem turn_list {P:Program} {w:World} {K:Frag} {tg:Expr} (a it:Addr):Turn P w K tg (Itl K a) [it] it (fun i h=>h.IsListIter it a i) where
 mem:=by simp
 obj:=fun i h st b hb=>by
  have e:b=it:=by simpa using hb
  subst e;obtain ⟨o,e,c,d⟩:=st;exact ⟨o,e,fun v z=>by rw [d] at z; cases z⟩
 keep:=fun i h h' st k=>st.at fun o e=>k it (by simp) o e
 item:=by
  intro X hP hw hK hc i pins s σ H E I hf st hg;subst hP hw hK;obtain ⟨xs,x,hq,hx⟩:=hg;obtain ⟨its,rv,p,hz⟩:=I.list hq;obtain ⟨u,hu,ru⟩:=rv.get hx;obtain ⟨f0,f1,f2,f3,f4,f5⟩:=hf it (by simp);refine wpAny_pyNext_list_item st p.isList (x:=u) (by simpa using hu) fun h' st' sb=>?_;have I1:Inv X pins σ H { s with heap:=h' }:=I.turned (t':=s.toks) (fun b o hb e=>(sb.2 b hb).trans e) f0 f1 f3 f4 f5;obtain ⟨o,e,c,d⟩:=id st';exact ⟨u,rfl,go_of (s:={ s with heap:=h' }) e c d (by decide) ⟨x,H,I1,ru,⟨rfl,fun ys hy=>by rw [I.list_inj hy hq]; exact hx⟩,st',fun b hb=>(hf b hb).1⟩⟩
 done:=by
  intro X hP hw hK hc i pins s σ H E I hf st hg;subst hP hw hK;obtain ⟨xs,hq,hx⟩:=hg;obtain ⟨its,rv,p,hz⟩:=I.list hq;obtain ⟨f0,f1,f2,f3,f4,f5⟩:=hf it (by simp);have hl:=rv.length;exact wpAny_pyNext_list_end (I.ok.hd hc) st p.isList (by simp; omega) fun h' eb=>⟨rfl,I.turned (t':=s.toks) (fun b o hb e=>eb b o hb e) f0 f1 f3 f4 f5⟩
 self:=fun _ _ _ _ _ st h=>wpAny_pyIter_listiter st h
theorem turn_range {P:Program} {w:World} {K:Frag} {tg:Expr} (it:Addr) (lo:Int) (n:Nat):Turn P w K tg (Itr lo n) [it] it (fun i h=>IsRangeIter h it (lo + (i:Nat) * 1) ((n:Int) - (i:Nat)) 1) where
 mem:=by simp
 obj:=fun i h st b hb=>by
  have e:b=it:=by simpa using hb
  subst e;exact ⟨_,st,fun v z=>by
   have z':Data.fields _=Data.cell v:=z;cases z'⟩
 keep:=fun i h h' st k=>k it (by simp) _ st
 item:=by
  intro X hP hw hK hc i pins s σ H E I hf st hg;subst hP hw hK;obtain ⟨f0,f1,f2,f3,f4,f5⟩:=hf it (by simp);have W:=Walks.range (prog:=X.prog) (w:=X.w) (I.ok.hd hc) it lo 1 n;refine W.item i s _ _ hg st fun v h' tk hv st' kk=>?_;obtain ⟨t,rfl⟩:=hv;have I1:Inv X pins σ H { s with heap:=h',toks:=tk }:=I.turned (fun b o hb e=>kk b o (by simpa using hb) e) f0 f1 f3 f4 f5;refine ⟨_,rfl,go_of (s:={ s with heap:=h',toks:=tk }) (n:="range_iterator") st' rfl rfl (by decide) ⟨.int (lo + i),H,I1,⟨t,?_⟩,⟨rfl,rfl⟩,st',fun b hb=>(hf b hb).1⟩⟩;rw [Int.mul_one]
 done:=by
  intro X hP hw hK hc i pins s σ H E I hf st hg;subst hP hw hK;obtain ⟨f0,f1,f2,f3,f4,f5⟩:=hf it (by simp);exact wpAny_pyNext_range_end (I.ok.hd hc) st (by have:n <= i:=hg; omega) fun h' eb=>⟨rfl,I.turned (t':=s.toks) (fun b o hb e=>eb b o hb e) f0 f1 f3 f4 f5⟩
 self:=fun _ _ _ _ _ st h=>wpAny_pyIter_rangeiter st h
end L2
namespace L2
open PySem PySem.Spec PyProof.Rows
section
variable {X:Cx} {tg:Expr}
def iList (K:Frag) (tl:TE):TI:=fun σ H R=>tl σ H fun x H1=>∃ a,x=.ref a/\(∃ xs,SqL K H1 a xs)/\R (Itl K a) H1
theorem pi_list {l:Expr} {tl:TE} (hl:PE X l tl):PI X tg l (iList X.K tl):=by
 intro pins s σ H R I h;refine thn (hl pins s σ H _ I h) fun v s1 hQ=>?_;obtain ⟨x,H1,I1,r1,q1⟩:=hQ;obtain ⟨a,e,⟨xs,hq⟩,q⟩:=q1;subst e;cases r1;obtain ⟨its,rv,p,hz⟩:=I1.list hq;refine wpAny_pyIter_list p.isList ?_;refine ⟨s1.heap.objs.size,[s1.heap.objs.size],_,_,H1,rfl,I1.kept (t':=s1.toks) fun b o e=>Heap.get?_push_of_some _ e,turn_list a _,⟨_,Heap.get?_push_size _ rfl,rfl,rfl⟩,fun b hb=>?_,q⟩;have e:b=s1.heap.objs.size:=by simpa using hb
 subst e;exact I1.fpOk (le_refl _) (I1.hok.fresh (le_refl _))
theorem range_it {pins:List (Addr × Obj)} {σ:St} {H:Hp} {s:Shared} {R:It->Hp->Prop} {E:Value->Shared->Prop} {lo hi:Int} {t u v:Tok} {tk:Nat} (I:Inv X pins σ H s) (h1:-(2 ^ 62) <= lo) (h2:lo < 2 ^ 62) (h3:-(2 ^ 62) <= hi) (h4:hi < 2 ^ 62)
  (q:R (Itr lo (hi - lo).toNat) H):wpAny (model X.prog X.w) X.A (pyIter (.ref s.heap.objs.size)) (PIE X pins σ tg R) E { s with heap:=s.heap.push { cls:=.type "range",data:=.fields #[.int lo t,.int hi u,.int 1 v] },toks:=tk }:=by
 refine wpAny_pyIter_range (IsRange.new ..) (small_one h1 h2 h3 h4) ?_;have I1:Inv X pins σ H { s with heap:=s.heap.push { cls:=.type "range",data:=.fields #[.int lo t,.int hi u,.int 1 v] },toks:=tk }:=I.kept fun b o e=>Heap.get?_push_of_some _ e;refine ⟨(s.heap.push { cls:=.type "range",data:=.fields #[.int lo t,.int hi u,.int 1 v] }).objs.size,[(s.heap.push { cls:=.type "range",data:=.fields #[.int lo t,.int hi u,.int 1 v] }).objs.size],_,_,H,rfl,
  I1.kept (t':=tk) fun b o e=>Heap.get?_push_of_some _ e,turn_range _ lo (hi - lo).toNat,?_,fun b hb=>?_,q⟩
 ·have e1:lo + ((0:Nat):Int) * 1=lo:=by simp
  have e2:(((hi - lo).toNat:Nat):Int) - ((0:Nat):Int)=Builtin.Range.rangeSize lo hi 1:=by rw [rangeSize_one]; split <;> omega
  show IsRangeIter _ _ (lo + ((0:Nat):Int) * 1) ((((hi - lo).toNat:Nat):Int) - ((0:Nat):Int)) 1;rw [e1,e2];exact Heap.get?_push_size _ rfl
 ·have e:b=(s.heap.push { cls:=.type "range",data:=.fields #[.int lo t,.int hi u,.int 1 v] }).objs.size:=by simpa using hb
  subst e;exact I1.fpOk (le_refl _) (I1.hok.fresh (le_refl _))
def iRng1 (ta:TA):TI:=fun σ H R=>ta σ H fun vs H1=>∃ j:Int,vs=[.int j]/\-(2 ^ 62) <= j/\j < 2 ^ 62/\R (Itr 0 j.toNat) H1
theorem pi_range1 {a:Expr} {ta:TA} {p pos:Pos} (hg:Gl X "range") (hm:X.mg "range"=none) (ha:PA X [a] ta) (hs:starEach [a] X.env=[(false,eval a X.env)]:=by rfl):PI X tg (.Call (.Name "range" p) [a] [] pos) (iRng1 ta):=by
 intro pins s σ H R I h;refine Call_ (ld_blt I hg hm boot_range (PyProof.Rows.callWith_type1 (thn (ha pos pins s σ H _ I h) fun us s1 hQ=>?_) hs rfl));obtain ⟨vs,H1,I1,r1,q1⟩:=hQ;obtain ⟨j,e,q1,q2,q⟩:=q1;subst e;cases r1 with
 | cons r rr =>
  cases rr;obtain ⟨t,rfl⟩:=r;exact call_range_1 (range_it I1 (by omega) (by omega) q1 q2 (by simpa using q))
def tFor (wi:TI) (g:TG) (tb:TS):TS:=fun D σ H=>wi σ H fun J H1=>∃ W:Nat->Nat->St->Hp->Prop,(∃ m,W 0 m σ H1)/\∀ i m σ H,W i m σ H ->
 (J.stop i H/\D.nx σ H) \/ (J.go i H/\∃ N:St->Hp->Prop,(∀ σ' H',N σ' H'->∃ m',m' < m/\W (i + 1) m' σ' H')/\∀ x H',J.yld i H x H'->g x σ H' fun σ2 H2=>tb { D with nx:=N,ct:=N,bk:=D.nx } σ2 H2)
def pinsAt (fp:List Addr) (h:Heap):List (Addr × Obj):=fp.filterMap fun b=>(h.get? b).map fun o=>(b,o)
theorem mem_pinsAt {fp:List Addr} {h:Heap} {b:Addr} {o:Obj} (hb:b∈fp) (e:h.get? b=some o):(b,o)∈pinsAt fp h:=List.mem_filterMap.mpr ⟨b,hb,by rw [e]; rfl⟩
theorem of_pinsAt {fp:List Addr} {h:Heap} {p:Addr × Obj} (hp:p∈pinsAt fp h):p.1∈fp/\h.get? p.1=some p.2:=by
 obtain ⟨b,hb,e⟩:=List.mem_filterMap.mp hp;cases q:h.get? b with
 | none=>rw [q] at e; cases e
 | some o =>
  rw [q] at e;have e':(b,o)=p:=Option.some.inj e;subst e';exact ⟨hb,q⟩
theorem Inv.pinned {pins:List (Addr × Obj)} {σ:St} {H:Hp} {s:Shared} {fp:List Addr} (I:Inv X pins σ H s) (hf:∀ b∈fp,FpOk X pins H b) (ho:∀ b∈fp,∃ o,s.heap.get? b=some o/\∀ v,o.data ≠ .cell v):Inv X (pins++pinsAt fp s.heap) σ H s :=
 I.pins_of fun p hp=>(List.mem_append.mp hp).elim (fun z=>I.pin p (mem_append_right _ z)) fun z=>by
  obtain ⟨hb,e⟩:=of_pinsAt z;obtain ⟨f0,f1,f2,_⟩:=hf p.1 hb;obtain ⟨o,e',d⟩:=ho p.1 hb;rw [e] at e'; cases e';exact ⟨e,f0,f1,f2,d⟩
theorem Inv.unpinned {pins pl:List (Addr × Obj)} {σ:St} {H:Hp} {s:Shared} (I:Inv X (pins++pl) σ H s):Inv X pins σ H s:=I.pins_of fun p hp=>I.pin p (mem_append_right _ (List.mem_append_left _ hp))
theorem ps_for {iter:Expr} {body:List Stmt} {wi:TI} {g:TG} {tb:TS} {pos:Pos} (hp:PassesOwn (model X.prog X.w) X.A X.env X.xe) (hc:X.calm=true) (hi:PI X tg iter wi) (hg:PG X tg g) (hb:PSs X body tb)
  (hs:∀ x,foldedSetIterable iter X.env x=pure x:=by intro _; rfl):PS X (.For tg iter body [] pos) (tFor wi g tb):=by
 intro pins s σ H D I h;refine wpAny_For (thn (hi pins s σ H _ I h) fun v s1 h1=>thn h1 fun itv s2 h2=>?_) hs;obtain ⟨it,fp,tn,J,H2,e,I2,T,st2,f2,W,⟨m0,w0⟩,turn⟩:=h2;subst e;have stat:∀ {H':Hp},(∀ b∈fp,H' b=none)->∀ b∈fp,FpOk X pins H' b:=fun hn b hb=>⟨hn b hb,(f2 b hb).2⟩;refine codeAny_forLoop_any (fun n s'=>∃ i σ' H',Inv X pins σ' H' s'/\tn i s'.heap/\(∀ b∈fp,H' b=none)/\W i n σ' H') ?_ m0 ⟨0,σ,H2,I2,st2,fun b hb=>(f2 b hb).1,w0⟩;rintro n s3 ⟨i,σ3,H3,I3,st3,fr3,w3⟩;rcases turn i n σ3 H3 w3 with ⟨stop,qn⟩ | ⟨go,N,hN,step⟩
 ·refine wpAny_passesOwn hp (thn (T.done X rfl rfl rfl hc i pins s3 σ3 H3 X.xe I3 (stat fr3) st3 stop) fun r s4 hQ=>?_)
  obtain ⟨hr,I4⟩:=hQ;subst hr;exact wpAny_execs_nil ⟨σ3,H3,I4,qn⟩
 ·refine wpAny_passesOwn hp (thn (T.item X rfl rfl rfl hc i pins s3 σ3 H3 X.xe I3 (stat fr3) st3 go) fun r s4 hQ=>?_)
  obtain ⟨u,hr,h4⟩:=hQ;subst hr;refine wpAny_passesOwn hp (thn h4 fun _ s5 hQ=>?_);obtain ⟨x,H5,I5,r5,y5,st5,fr5⟩:=hQ;have I5':=I5.pinned (stat fr5) (T.obj _ _ st5);refine wpAny_passesOwn hp (thn (hg _ s5 σ3 H5 x u _ I5' r5 (step x H5 y5)) fun _ s6 hQ=>?_);obtain ⟨σ6,H6,I6,q6⟩:=hQ;refine wpAny_passesOwn hp (thn (hb _ s6 σ6 H6 _ I6 q6) fun f s7 q7=>?_);have again:∀ {σ7:St} {H7:Hp},Inv X (pins++pinsAt fp s5.heap) σ7 H7 s7->N σ7 H7->∃ m,m < n/\∃ i σ' H',Inv X pins σ' H' s7/\tn i s7.heap/\(∀ b∈fp,H' b=none)/\W i m σ' H':=fun {σ7 H7} I7 n7=>by
   obtain ⟨m',hm,w7⟩:=hN σ7 H7 n7;refine ⟨m',hm,i + 1,σ7,H7,I7.unpinned,T.keep _ _ _ st5 fun b hb o e=>(I7.pin (b,o) (mem_append_right _ (mem_append_right _ (mem_pinsAt hb e)))).1,fun b hb=>?_,w7⟩;obtain ⟨o,e,d⟩:=T.obj _ _ st5 b hb;exact (I7.pin (b,o) (mem_append_right _ (mem_append_right _ (mem_pinsAt hb e)))).2.1
  cases f with
  | next=>obtain ⟨σ7,H7,I7,n7⟩:=q7; exact again I7 n7
  | cont=>obtain ⟨σ7,H7,I7,n7⟩:=q7; exact again I7 n7
  | brk=>obtain ⟨σ7,H7,I7,q7⟩:=q7; exact ⟨σ7,H7,I7.unpinned,q7⟩
  | ret v=>obtain ⟨x7,σ7,H7,I7,r7,q7⟩:=q7; exact ⟨x7,σ7,H7,I7.unpinned,r7,q7⟩
end
end L2
namespace L2
open PySem PySem.Spec PyProof.Rows
abbrev R2:=V->V->Hp->VK->Prop
def OpR (X:Cx) (f:Value->Value->Sem Value) (r:R2):Prop :=
 ∀ (pins:List (Addr × Obj)) (s:Shared) (σ:St) (H:Hp) (x y:V) (v u:Value) (Q:VK),Inv X pins σ H s->RelV x v->RelV y u->r x y H Q ->
  wpAny (model X.prog X.w) X.A (f v u) (EP X pins σ Q) X.xe s
def UnR (X:Cx) (f:Value->Sem Value) (r:V->Hp->VK->Prop):Prop :=
 ∀ (pins:List (Addr × Obj)) (s:Shared) (σ:St) (H:Hp) (x:V) (v:Value) (Q:VK),Inv X pins σ H s->RelV x v->r x H Q ->
  wpAny (model X.prog X.w) X.A (f v) (EP X pins σ Q) X.xe s
def CallR (X:Cx) (f:Value) (r:List V->Hp->VK->Prop):Prop :=
 ∀ (pins:List (Addr × Obj)) (s:Shared) (σ:St) (H:Hp) (xs:List V) (us:List Value) (Q:VK),Inv X pins σ H s->Vals xs us->r xs H Q ->
  wpAny (model X.prog X.w) X.A (call f us) (EP X pins σ Q) X.xe s
def tOp (r:R2) (ta tb:TE):TE:=fun σ H Q=>ta σ H fun x H1=>tb σ H1 fun y H2=>r x y H2 Q
def tUn (r:V->Hp->VK->Prop) (ta:TE):TE:=fun σ H Q=>ta σ H fun x H1=>r x H1 Q
def rI (C:Int->Int->Prop) (g:Int->Int->V):R2:=fun x y H Q=>∃ i j,x=.int i/\y=.int j/\C i j/\Q (g i j) H
def rI0 (g:Int->Int->V):R2:=fun x y H Q=>∃ i j,x=.int i/\y=.int j/\Q (g i j) H
def rU (g:Int->V):V->Hp->VK->Prop:=fun x H Q=>∃ i,x=.int i/\Q (g i) H
section
variable {X:Cx} {a b c:Expr} {ta tb tc:TE} {pos:Pos}
theorem binT (ha:PE X a ta) (hb:PE X b tb) {pins:List (Addr × Obj)} {s:Shared} {σ:St} {H:Hp} {R:V->V->Hp->Prop} (I:Inv X pins σ H s)
  (h:ta σ H fun x H1=>tb σ H1 fun y H2=>R x y H2) {Q:Value->Shared->Prop} {f:Value->Value->Sem Value}
  (hf:∀ v u s2 x y H2,Inv X pins σ H2 s2->RelV x v->RelV y u->R x y H2->wpAny (model X.prog X.w) X.A (f v u) Q X.xe s2) :
  wpAny (model X.prog X.w) X.A (eval a X.env) (fun v s₁=>wpAny (model X.prog X.w) X.A (eval b X.env) (fun u s₂=>wpAny (model X.prog X.w) X.A (f v u) Q X.xe s₂) X.xe s₁) X.xe s:=by
 refine thn (ha pins s σ H _ I h) fun v s1 hQ=>?_;obtain ⟨x,H1,I1,r1,q1⟩:=hQ;refine thn (hb pins s1 σ H1 _ I1 q1) fun u s2 hQ=>?_;obtain ⟨y,H2,I2,r2,q2⟩:=hQ;exact hf v u s2 x y H2 I2 r1 r2 q2
theorem pe_op {op:Operator} {r:R2} (ho:OpR X (binaryOp op) r) (ha:PE X a ta) (hb:PE X b tb):PE X (.BinOp a op b pos) (tOp r ta tb):=by
 intro pins s σ H Q I h;exact wpAny_BinOp (binT ha hb I h fun v u s2 x y H2 I2 rx ry q=>ho pins s2 σ H2 x y v u Q I2 rx ry q)
theorem pe_un {op:UnaryOp} {r:V->Hp->VK->Prop} (ho:UnR X (unaryOp op) r) (ha:PE X a ta):PE X (.UnaryOp op a pos) (tUn r ta):=by
 intro pins s σ H Q I h;exact UnaryOp_ (thn (ha pins s σ H _ I h) fun v s1 ⟨x,H1,I1,r1,q1⟩=>ho pins s1 σ H1 x v Q I1 r1 q1)
theorem opI {f:Value->Value->Sem Value} {C:Int->Int->Prop} {g:Int->Int->Int}
  (rule:∀ (i j:Int) (t u:Tok) (s:Shared) (Q:Value->Shared->Prop) (E:Value->Shared->Prop),C i j->Q (.int (g i j) s.toks) { s with toks:=s.toks + 1 }->wpAny (model X.prog X.w) X.A (f (.int i t) (.int j u)) Q E s) :
  OpR X f (rI C fun i j=>.int (g i j)):=by
 intro pins s σ H x y v u Q I rx ry h;obtain ⟨i,j,rfl,rfl,hc,q⟩:=h;obtain ⟨t,rfl⟩:=rx;obtain ⟨t',rfl⟩:=ry;exact rule i j t t' s _ _ hc ⟨.int (g i j),H,I.tok _,⟨_,rfl⟩,q⟩
theorem opI0 {f:Value->Value->Sem Value} {g:Int->Int->Int}
  (rule:∀ (i j:Int) (t u:Tok) (s:Shared) (Q:Value->Shared->Prop) (E:Value->Shared->Prop),Q (.int (g i j) s.toks) { s with toks:=s.toks + 1 }->wpAny (model X.prog X.w) X.A (f (.int i t) (.int j u)) Q E s) :
  OpR X f (rI0 fun i j=>.int (g i j)):=by
 intro pins s σ H x y v u Q I rx ry h;obtain ⟨i,j,rfl,rfl,q⟩:=h;obtain ⟨t,rfl⟩:=rx;obtain ⟨t',rfl⟩:=ry;exact rule i j t t' s _ _ ⟨.int (g i j),H,I.tok _,⟨_,rfl⟩,q⟩
theorem opB0 {f:Value->Value->Sem Value} {g:Int->Int->Bool}
  (rule:∀ (i j:Int) (t u:Tok) (s:Shared) (Q:Value->Shared->Prop) (E:Value->Shared->Prop),Q (.bool (g i j)) s->wpAny (model X.prog X.w) X.A (f (.int i t) (.int j u)) Q E s) :
  OpR X f (rI0 fun i j=>.bl (g i j)):=by
 intro pins s σ H x y v u Q I rx ry h;obtain ⟨i,j,rfl,rfl,q⟩:=h;obtain ⟨t,rfl⟩:=rx;obtain ⟨t',rfl⟩:=ry;exact rule i j t t' s _ _ ⟨.bl (g i j),H,I,rfl,q⟩
def CPow (i j:Int):Prop:=0 <= j/\j <= 1000000/\i.natAbs < 2 ^ 64
def CMul (i j:Int):Prop:=(-(2 ^ 64) < i/\i < 2 ^ 64) \/ (-(2 ^ 64) < j/\j < 2 ^ 64)
theorem CMul.ok {i j:Int} (h:CMul i j):IntMulOk i j:=by
 rcases h with ⟨h1,h2⟩ | ⟨h1,h2⟩
 ·exact .of_left (intBits_le_64 h1 h2)
 ·exact .of_right (intBits_le_64 h1 h2)
theorem op_add:OpR X (binaryOp .Add) (rI0 fun i j=>.int (i + j)):=opI0 fun _ _ _ _ _ _ _ q=>add_int q
theorem op_sub:OpR X (binaryOp .Sub) (rI0 fun i j=>.int (i - j)):=opI0 fun _ _ _ _ _ _ _ q=>sub_int q
theorem op_modN:OpR X (binaryOp .Mod) (rI (fun _ j=>j ≠ 0) fun i j=>.int (i.fmod j)):=opI fun _ _ _ _ _ _ _ hc q=>mod_int' hc q
theorem op_pow:OpR X (binaryOp .Pow) (rI CPow fun i j=>.int (i ^ j.toNat)):=opI fun _ _ _ _ _ _ _ hc q=>pow_int_small hc.1 hc.2.1 hc.2.2 q
theorem unI {f:Value->Sem Value} {g:Int->Int}
  (rule:∀ (i:Int) (t:Tok) (s:Shared) (Q:Value->Shared->Prop) (E:Value->Shared->Prop),Q (.int (g i) s.toks) { s with toks:=s.toks + 1 }->wpAny (model X.prog X.w) X.A (f (.int i t)) Q E s) :
  UnR X f (rU fun i=>.int (g i)):=by
 intro pins s σ H x v Q I rx h;obtain ⟨i,rfl,q⟩:=h;obtain ⟨t,rfl⟩:=rx;exact rule i t s _ _ ⟨.int (g i),H,I.tok _,⟨_,rfl⟩,q⟩
theorem un_neg:UnR X (unaryOp .USub) (rU fun i=>.int (-i)):=unI fun _ _ _ _ _ q=>neg_int q
end
section
variable {X:Cx} {a b c:Expr} {ta tb tc:TE} {pos:Pos}
theorem fin_bl {pins:List (Addr × Obj)} {σ:St} {H:Hp} {s:Shared} {Q:VK} {k k':Bool} (I:Inv X pins σ H s) (q:Q (.bl k) H) (e:k=k'):EP X pins σ Q (.bool k') s:=by
 subst e;exact ⟨.bl k,H,I,rfl,q⟩
theorem op_lt:OpR X (compareOp .Lt) (rI0 fun i j=>.bl (decide (i < j))):=opB0 fun _ _ _ _ _ _ _ q=>lt_int q
theorem op_le:OpR X (compareOp .LtE) (rI0 fun i j=>.bl (decide (i <= j))):=opB0 fun _ _ _ _ _ _ _ q=>le_int q
theorem op_ge:OpR X (compareOp .GtE) (rI0 fun i j=>.bl (decide (j <= i))):=opB0 fun _ _ _ _ _ _ _ q=>ge_int q
theorem op_isN:OpR X (compareOp .Is) (fun x y H Q=>y=.non/\Q (.bl (decide (x=.non))) H):=by
 intro pins s σ H x y v u Q I rx ry h;obtain ⟨rfl,q⟩:=h;cases ry;refine is_none_gen (fin_bl I q ?_);cases x <;> first
  | (cases rx; rfl)
  | (obtain ⟨t,rfl⟩:=rx; rfl)
theorem op_notN:OpR X (compareOp .IsNot) (fun x y H Q=>y=.non/\Q (.bl (!decide (x=.non))) H):=by
 intro pins s σ H x y v u Q I rx ry h;obtain ⟨rfl,q⟩:=h;cases ry;refine isnot_none_gen (fin_bl I q ?_);cases x <;> first
  | (cases rx; rfl)
  | (obtain ⟨t,rfl⟩:=rx; rfl)
theorem OpR.or {f:Value->Value->Sem Value} {r r':R2} (h:OpR X f r) (h':OpR X f r'):OpR X f (fun x y H Q=>r x y H Q \/ r' x y H Q):=by
 intro pins s σ H x y v u Q I rx ry q;rcases q with q | q
 ·exact h pins s σ H x y v u Q I rx ry q
 ·exact h' pins s σ H x y v u Q I rx ry q
theorem nomark (b:Expr) {op:CmpOp} (h:op ≠ .In:=by decide) (h2:op ≠ .NotIn:=by decide):behindInMarks op b=false:=by
 have e1:(op == CmpOp.In)=false:=by cases op <;> first | rfl | exact absurd rfl h
 have e2:(op == CmpOp.NotIn)=false:=by cases op <;> first | rfl | exact absurd rfl h2
 cases b <;> simp [behindInMarks,e1,e2]
theorem pe_cmpR {op:CmpOp} {r:R2} (ho:OpR X (compareOp op) r) (ha:PE X a ta) (hb:PE X b tb) (hm:behindInMarks op b=false):PE X (.Compare a [op] [b] pos) (tOp r ta tb):=by
 intro pins s σ H Q I h;exact wpAny_Compare1 (binT ha hb I h fun v u s2 x y H2 I2 rx ry q=>ho pins s2 σ H2 x y v u Q I2 rx ry q) hm
def tTest (t:TE):TT:=fun σ H Q=>t σ H fun x H'=>∃ k,x=.bl k/\Q k H'
theorem pt_cmpR {op:CmpOp} {r:R2} (ho:OpR X (compareOp op) r) (ha:PE X a ta) (hb:PE X b tb) (hm:behindInMarks op b=false):PT X (.Compare a [op] [b] pos) (tTest (tOp r ta tb)):=by
 intro pins s σ H Q I h;refine wpAny_isTrue_Compare1 (thn (ha pins s σ H _ I h) fun v s1 ⟨x,H1,I1,r1,q1⟩=>thn (hb pins s1 σ H1 _ I1 q1) fun u s2 ⟨y,H2,I2,r2,q2⟩ =>
  thn (ho pins s2 σ H2 x y v u _ I2 r1 r2 q2) fun c s3 ⟨z,H3,I3,r3,k,e,q3⟩=>?_) hm
 subst e;cases r3;exact wpAny_truthy_bool ⟨H3,I3,q3⟩
theorem line63:(sizeLine:Nat) < 2 ^ 63:=by rw [sizeLine_eq]; decide
theorem op_add_str:OpR X (binaryOp .Add) (fun x y H Q=>∃ i j,x=.str i/\y=.str j/\i.length + j.length <= sizeLine/\Q (.str (i++j)) H):=by
 intro pins s σ H x y v u Q I rx ry h;obtain ⟨i,j,rfl,rfl,hz,q⟩:=h;obtain ⟨t,rfl⟩:=rx;obtain ⟨t',rfl⟩:=ry;exact add_str (fun t' tk=>⟨.str (i++j),H,I.tok _,⟨_,rfl⟩,q⟩) hz
theorem vals1 {x:V} {us:List Value} (r:Vals [x] us):∃ u,us=[u]/\RelV x u:=by
 cases r with
 | cons r1 r2=>cases r2; exact ⟨_,rfl,r1⟩
theorem vals2 {x y:V} {us:List Value} (r:Vals [x,y] us):∃ u w',us=[u,w']/\RelV x u/\RelV y w':=by
 cases r with
 | cons r1 r2 =>
  cases r2 with
  | cons r3 r4=>cases r4; exact ⟨_,_,rfl,r1,r3⟩
theorem call_abs:CallR X (.builtin "abs") (fun xs H Q=>∃ i,xs=[.int i]/\Q (.int (if i < 0 then -i else i)) H):=by
 intro pins s σ H xs us Q I r h;obtain ⟨i,rfl,q⟩:=h;obtain ⟨u,rfl,t,rfl⟩:=vals1 r;exact call_abs_int fun u tk=>⟨.int (if i < 0 then -i else i),H,I.tok _,⟨_,rfl⟩,q⟩
theorem call_min2 (hc:X.calm=true):CallR X (.builtin "min") (fun xs H Q=>∃ i j,xs=[.int i,.int j]/\Q (.int (if j < i then j else i)) H):=by
 intro pins s σ H xs us Q I r h;obtain ⟨i,j,rfl,q⟩:=h;obtain ⟨u,w',rfl,⟨t,rfl⟩,⟨t',rfl⟩⟩:=vals2 r;refine min_two_ints (I.ok.hd hc) fun h' tk k=>⟨_,H,I.kept k,?_,q⟩
 by_cases hj:j < i
 ·rw [if_pos hj,if_pos hj]; exact ⟨_,rfl⟩
 ·rw [if_neg hj,if_neg hj]; exact ⟨_,rfl⟩
end
end L2
namespace L2
open PySem PySem.Spec PyProof.Rows
structure ObjM (h:Heap) (x dx C:Addr) (mA:Str->Option Value):Prop where
 obj:h.get? x=some (PySem.W.instObj C dx)
 ns:h.Ns1 dx mA
 ne:dx ≠ x
theorem lookIn_ns {h:Heap} {dx:Addr} {mA:Str->Option Value} (n:h.Ns1 dx mA):∃ od,h.get? dx=some od/\∀ name,PySem.W.lookIn name od=some (mA name):=by
 obtain ⟨o,es,ep,ho,hd,hk,_,hm⟩:=n;refine ⟨o,ho,fun name=>?_⟩;have e:=hm name;unfold nsFind findBy at e;rw [<- Array.find?_toList] at e;unfold PySem.W.lookIn;rw [hd];dsimp only;split
 ·rename_i y q
  rw [q] at e;exact congrArg some e
 ·rename_i q
  rw [q] at e;have a:es.toList.any (·.refKey)=false:=by
   rw [List.any_eq_false];intro y hy;obtain ⟨z,t,hkey⟩:=hk y (Array.mem_toList_iff.mp hy);simp [DictEntry.refKey,hkey]
  have a':¬ es.toList.any (·.refKey)=true:=by rw [a]; exact Bool.false_ne_true
  rw [if_neg a'];exact congrArg some e
theorem ObjM.look {h:Heap} {x dx C:Addr} {mA:Str->Option Value} (I:ObjM h x dx C mA):∃ od,PySem.W.InstAt h x (PySem.W.instObj C dx) C (some od)/\∀ name,PySem.W.lookIn name od=some (mA name) :=
 let ⟨od,ho,hl⟩:=lookIn_ns I.ns
 ⟨od,⟨I.obj,rfl,rfl,ho⟩,hl⟩
section
variable {prog:Program} {w:World} {A:Around} {E:Value->Shared->Prop} {s:Shared} {K:Frag} {x dx C f:Addr} {mA:Str->Option Value} {name:Str} {v:Value}
end
section
variable {P:Program} {w:World} {H H':Hp} {h h':Heap} {a C dx:Addr} {fs fs':List (Str × V)}
end
structure Cls (K:Frag) (C:Addr):Prop where
 pg:PySem.W.plainGet K C Str.empty=true
 hd:PySem.W.hasDictIn K C=true
 po:PySem.W.plainOver K C=true
 sa:PySem.W.findIn K (.ref C) "__setattr__"=some (some (.builtin "object.__setattr__"))
theorem Cls.get {K:Frag} {C:Addr} (c:Cls K C) (f:Str):PySem.W.plainGet K C f=true:=c.pg
structure Con (K:Frag) (C:Addr) (f:Str) (v:V) (u:Value):Prop where
 at_:PySem.W.findIn K (.ref C) f=some (some u)
 rel:RelV v u
 get:PySem.W.specialIn K u "__get__"=some none
 cp:PySem.W.copiedNames.contains f=false
structure Meth (K:Frag) (C:Addr) (m:Str) (f:Addr):Prop where
 at_:PySem.W.findIn K (.ref C) m=some (some (.ref f))
 fn:PySem.W.isFn K (.ref f)=true
 kp:keepIn K (.ref f)=true
section
variable {X:Cx} {pins:List (Addr × Obj)} {σ:St} {H:Hp} {s:Shared} {a C dx:Addr} {fs:List (Str × V)} {f:Str} {v:V} {A:Around} {E:Value->Shared->Prop}
theorem Inv.made (I:Inv X pins σ H s):Inv X pins σ (upd (upd H s.heap.objs.size (.own (s.heap.objs.size + 1))) (s.heap.objs.size + 1) (.ins C s.heap.objs.size []))
  { s with heap:=(s.heap.push PySem.W.emptyDict).push (PySem.W.instObj C s.heap.objs.size) }:=by
 have e1:(s.heap.push PySem.W.emptyDict).get? s.heap.objs.size=some PySem.W.emptyDict:=Heap.get?_push_size s.heap rfl;have e2:((s.heap.push PySem.W.emptyDict).push (PySem.W.instObj C s.heap.objs.size)).get? (s.heap.objs.size + 1)=some (PySem.W.instObj C s.heap.objs.size):=by
  have:=Heap.get?_push_size (s.heap.push PySem.W.emptyDict) (o:=PySem.W.instObj C s.heap.objs.size) rfl
  rwa [Heap.size_push] at this
 have e3:(s.heap.push PySem.W.emptyDict).Ns s.heap.objs.size (fun _=>none):=⟨PySem.W.emptyDict,#[],_,e1,rfl,(fun e he=>absurd he (by simp)),fun _=>rfl⟩;have I1:=I.laid (a:=s.heap.objs.size) (o:=.own (s.heap.objs.size + 1)) (h':=s.heap.push PySem.W.emptyDict) (t':=s.toks) (fun b u q=>Heap.get?_push_of_some _ q) (le_refl _) ⟨_,e1⟩;refine I1.laid (a:=s.heap.objs.size + 1) (o:=.ins C s.heap.objs.size []) (t':=s.toks) (fun b u q=>Heap.get?_push_of_some _ q) (Nat.le_of_eq (Heap.size_push _ _)) ?_;have ne:s.heap.objs.size ≠ s.heap.objs.size + 1:=ne_of_lt (lt_succ_self _);refine ⟨by rw [upd_ne ne,upd_same],zero_le _,ne,e2,fun _=>none,(Heap.Ns1.of_empty e3).at fun o q=>Heap.get?_push_of_some _ q,fun _=>True.intro,fun y hy=>absurd rfl hy⟩
end
section
variable {X:Cx} {o e value:Expr} {f:Str} {pos pos' tpos:Pos} {ta tv:TE}
end
section
variable {X:Cx} {pins:List (Addr × Obj)} {σ:St} {H:Hp} {s:Shared} {A:Around} {E:Value->Shared->Prop} {Q:Value->Shared->Prop} {c:Value} {b:Bool}
inductive TyOf (K:Frag) (H:Hp):V->Value->Prop where
 | non:TyOf K H .non (.type "NoneType")
 | bl (x:Bool):TyOf K H (.bl x) (.type "bool")
 | int (i:Int):TyOf K H (.int i) (.type "int")
 | str (x:Str):TyOf K H (.str x) (.type "str")
 | flt (x:UInt64):TyOf K H (.flt x) (.type "float")
 | lst {a:Addr} {xs:List V} (e:H a=some (.lst xs)):TyOf K H (.ref a) (.type "list")
 | frz {a:Addr} {o:Obj} {xs:List V} (e:H a=some (.frz o (.lst xs))):TyOf K H (.ref a) (.type "list")
 | tup {a:Addr} {xs:List V} (e:H a=some (.tup xs)):TyOf K H (.ref a) (.type "tuple")
 | dK {a:Addr} {kvs:List (Key × V)} (e:H a=some (.dK kvs)):TyOf K H (.ref a) (.type "dict")
 | dT {a:Addr} {kvs:List (List Key × V)} (e:H a=some (.dT kvs)):TyOf K H (.ref a) (.type "dict")
 | ins {a C dx:Addr} {fs:List (Str × V)} (e:H a=some (.ins C dx fs)) (cl:Cls K C) (ha:PySem.W.findIn K (.ref C) "__class__"=some (some (.builtin "object.__class__")))
   (hn:PySem.W.specialIn K (.builtin "object.__class__") "__get__"=some (some (.builtin "getset_descriptor.__get__"))) (htk:PySem.W.takesIn K (.builtin "object.__class__")=some true)
   (hm:PySem.W.mroIn K C (.type "object")=some true):TyOf K H (.ref a) (.ref C)
end
end L2
namespace L2
open PySem PySem.Spec PyProof.Rows
structure Room (k:Nat) (A:Around):Prop where
 hd:A.handled=none
 dp:A.depth + 3 * k + 5 < recursionLimit
 un:A.units + 16 * k + 200 < cLine
theorem Room.mono {j k:Nat} {A:Around} (r:Room k A) (h:j <= k):Room j A:=⟨r.hd,by have:=r.dp; omega,by have:=r.un; omega⟩
theorem Room.deeper {k:Nat} {A:Around} (r:Room (k + 1) A) (env:Env):Room k (A.deeper env) :=
 ⟨r.hd,by have:=r.dp; show A.depth + 1 + 3 * k + 5 < _; omega,by have:=r.un; show A.units + 3 + 16 * k + 200 < _; omega⟩
theorem Room.in1 {k:Nat} {A:Around} (r:Room (k + 1) A):Room k A.in1 :=
 ⟨r.hd,by have:=r.dp; show A.depth + 3 * k + 5 < _; omega,by have:=r.un; show A.units + 1 + 16 * k + 200 < _; omega⟩
theorem Room.depth {k:Nat} {A:Around} (r:Room k A):A.depth < recursionLimit:=by have:=r.dp; omega
theorem Room.units {k:Nat} {A:Around} (r:Room k A):A.units + 64 < cLine:=by have:=r.un; omega
def tNil:TA:=fun _ H Q=>Q [] H
def tCons (ta:TE) (tr:TA):TA:=fun σ H Q=>ta σ H fun x H1=>tr σ H1 fun xs H2=>Q (x :: xs) H2
section
variable {X:Cx} {e:Expr} {es:List Expr} {te:TE} {t:TA} {pos:Pos}
theorem pa_nil:PA X [] tNil:=fun _ _ _ _ H Q I h=>Calls.spliced_nil ⟨[],H,I,.nil,h⟩
theorem pa_cons (ha:PE X e te) (hr:PA X es t) (hs:starEach (e :: es) X.env=(false,eval e X.env) :: starEach es X.env:=by rfl):PA X (e :: es) (tCons te t):=by
 intro pos pins s σ H Q I h;rw [hs];show wpAny _ _ (spliced ((false,eval e X.env) :: backTo pos (starEach es X.env))) _ _ s;refine Calls.spliced_cons (thn (ha pins s σ H _ I h) fun u s1 hQ=>?_);obtain ⟨x,H1,I1,r1,q1⟩:=hQ;exact thn (hr pos pins s1 σ H1 _ I1 q1) fun us s2 ⟨xs,H2,I2,r2,q2⟩=>⟨x :: xs,H2,I2,.cons r1 r2,q2⟩
def tTup (t:TA):TE:=fun σ H Q=>t σ H fun xs H1=>xs.length <= sizeLine/\∀ p,H1 p=none->Q (.ref p) (upd H1 p (.tup xs))
def tLst (t:TA):TE:=fun σ H Q=>t σ H fun xs H1=>xs.length <= sizeLine/\∀ p,H1 p=none->Q (.ref p) (upd H1 p (.lst xs))
theorem pe_tup {x1} (h:PA X es t):PE X (.Tuple es x1 pos) (tTup t):=by
 intro pins s σ H Q I hq;refine wpAny_Tuple_spliced (thn (h pos pins s σ H _ I hq) fun us s1 ⟨xs,H1,I1,r,z,q⟩=>⟨by rw [<- r.length]; exact z,?_⟩);have hf:H1 s1.heap.objs.size=none:=I1.hok.fresh (le_refl _);refine ⟨.ref s1.heap.objs.size,upd H1 s1.heap.objs.size (.tup xs),I1.laid (t':=s1.toks) (fun b u e=>Heap.get?_push_of_some _ e) (le_refl _) ?_,rfl,q _ hf⟩;exact ⟨z,us,r,⟨_,Heap.get?_push_size _ rfl,rfl,_,rfl⟩⟩
theorem pe_lst (h:PA X es t):PE X (.List es pos) (tLst t):=by
 intro pins s σ H Q I hq;refine wpAny_List_spliced (thn (h pos pins s σ H _ I hq) fun us s1 ⟨xs,H1,I1,r,z,q⟩=>⟨by rw [<- r.length]; exact z,?_⟩);have hf:H1 s1.heap.objs.size=none:=I1.hok.fresh (le_refl _);refine ⟨.ref s1.heap.objs.size,upd H1 s1.heap.objs.size (.lst xs),I1.laid (t':=s1.toks) (fun b u e=>Heap.get?_push_of_some _ e) (le_refl _) ?_,rfl,q _ hf⟩;exact ⟨z,us,0,r,Heap.get?_push_size _ rfl⟩
end
abbrev Sp:=List V->Hp->VK->XK->Prop
abbrev CXT:=List Env->Hp->Shared->XK->Value->Shared->Prop
structure Env0 (P:Program) (w:World) (K:Frag) (mg:Str->Option Value) (base:Heap) (A:Around) (outer:List Env) (s:Shared) (H:Hp):Prop where
 frames:A.frames=some outer
 mod:Mod K mg base
 bs:∀ b o,base.get? b=some o->s.heap.get? b=some o/\H b=none
 bsz:base.objs.size <= s.heap.objs.size
 funs:s.heap.FunFrames base outer
 frf:∀ b∈frs outer,H b=none
 hok:HOk P w H s.heap
 bare:AllBare s.gens
def CE (outer:List Env) (P:Program) (w:World) (H:Hp) (s:Shared) (Q:VK) (u:Value) (s':Shared):Prop :=
 ∃ v H',s'.os=s.os/\AllBare s'.gens/\Un (frs outer) [] H H' s.heap s'.heap/\HOk P w H' s'.heap/\RelV v u/\Q v H'
def CR (CX:CXT) (outer:List Env) (P:Program) (w:World) (H:Hp) (s:Shared) (Q:VK) (E:XK) (r:Result) (s':Shared):Prop :=
 match r with
 | .ok (.ret u)=>CE outer P w H s Q u s'
 | .ok _=>False
 | .error e=>CX outer H s E e s'
structure FnOk (P:Program) (w:World) (K:Frag) (mg:Str->Option Value) (base:Heap) (CX:CXT) (k:Nat) (f:Addr) (fd:FuncData) (ps:List Str) (sp:Sp):Prop where
 len:∀ vs H Q E,sp vs H Q E->vs.length=ps.length
 run:∀ (A:Around) (outer:List Env) (s:Shared) (H:Hp) (args:Args) (us:List Value) (vs:List V) (Q:VK) (E:XK),Room k A->Env0 P w K mg base A outer s H->BindsTo s fd args (ps.zip us)->Vals vs us->sp vs H Q E ->
  codeAny (model P w) A (.call (.ref f) args) (CR CX outer P w H s Q E) s
theorem FnOk.mono {P:Program} {w:World} {K:Frag} {mg:Str->Option Value} {base:Heap} {CX:CXT} {j k:Nat} {f:Addr} {fd:FuncData} {ps:List Str} {sp:Sp} (F:FnOk P w K mg base CX j f fd ps sp) (h:j <= k) :
  FnOk P w K mg base CX k f fd ps sp:=⟨F.len,fun A outer s H args us vs Q E hr=>F.run A outer s H args us vs Q E (hr.mono h)⟩
theorem FnOk.imp {P:Program} {w:World} {K:Frag} {mg:Str->Option Value} {base:Heap} {CX:CXT} {k:Nat} {f:Addr} {fd:FuncData} {ps:List Str} {sp sp':Sp} (F:FnOk P w K mg base CX k f fd ps sp)
  (h:∀ vs H Q E,sp' vs H Q E->sp vs H Q E):FnOk P w K mg base CX k f fd ps sp' :=
 ⟨fun vs H Q E q=>F.len vs H Q E (h _ _ _ _ q),fun A outer s H args us vs Q E hr he hb hv hs=>F.run A outer s H args us vs Q E hr he hb hv (h _ _ _ _ hs)⟩
theorem Env0.in1 {P:Program} {w:World} {K:Frag} {mg:Str->Option Value} {base:Heap} {A:Around} {outer:List Env} {s:Shared} {H:Hp} (e:Env0 P w K mg base A outer s H) :
  Env0 P w K mg base A.in1 outer s H:=⟨e.frames,e.mod,e.bs,e.bsz,e.funs,e.frf,e.hok,e.bare⟩
section
variable {X:Cx} {pins:List (Addr × Obj)} {σ:St} {H:Hp} {s s':Shared}
theorem Inv.env0 (I:Inv X pins σ H s):Env0 X.prog X.w X.K X.mg X.base X.A X.stack s H :=
 ⟨I.ok.frames,I.ok.mod,I.bs,le_trans I.ok.bsz I.sz,I.stack,I.stkFree,I.hok,I.bare⟩
theorem Inv.after {Q:VK} {u:Value} (I:Inv X pins σ H s) (h:CE X.stack X.prog X.w H s Q u s'):EP X pins σ Q u s':=by
 obtain ⟨v,H',os,bare,un,hok,r,q⟩:=h;obtain ⟨hh,g,d,t,os'⟩:=s';obtain rfl:os'=s.os:=os;exact ⟨v,H',I.call (h':=hh) (g':=g) (d':=d) (t':=t) (ch:=[]) un hok bare (fun b z=>absurd z (by simp)),r,q⟩
end
def tCall (sp:Sp) (dvs:List V) (E:XK) (t:TA):TE:=fun σ H Q=>t σ H fun vs H1=>sp (vs++dvs) H1 Q E
def Binds (K:Frag) (fd:FuncData) (ps:List Str) (ds:List Value):Prop :=
 ∀ (s:Shared) (us:List Value),K.In s.heap->(us++ds).length=ps.length->BindsTo s fd ⟨us,[]⟩ (ps.zip (us++ds))
theorem Binds.all {K:Frag} {fd:FuncData} {ps:List Str} (h:∀ us:List Value,us.length=ps.length->bindArgs fd ⟨us,[]⟩=pure (ps.zip us)):Binds K fd ps []:=fun s us _ hl=>by
 rw [append_nil] at hl ⊢;exact .of_eq (h us hl)
def Passes (CX:CXT) (X:Cx) (E:XK):Prop:=∀ (pins:List (Addr × Obj)) (σ:St) (H:Hp) (s:Shared) (e:Value) (s':Shared),Inv X pins σ H s->CX X.stack H s E e s'->X.xe e s'
section
variable {X:Cx} {CX:CXT} {k:Nat} {f C:Addr} {fd:FuncData} {ps:List Str} {sp:Sp} {dvs:List V} {ds:List Value} {E:XK} {x m:Str} {p pos apos:Pos} {e o:Expr} {es:List Expr} {ta:TE} {t:TA}
theorem run_fn {pins:List (Addr × Obj)} {σ:St} {H:Hp} {s:Shared} {Q:VK} {us:List Value} {vs:List V} (F:FnOk X.prog X.w X.K X.mg X.base CX k f fd ps sp) (hr:Room k X.A) (hb:Binds X.K fd ps ds) (hd:Vals dvs ds) (hx:Passes CX X E)
  (I:Inv X pins σ H s) (r:Vals vs us) (h:sp (vs++dvs) H Q E):wpAny (model X.prog X.w) X.A (call (.ref f) us) (EP X pins σ Q) X.xe s:=by
 have r2:Vals (vs++dvs) (us++ds):=r.append hd;have hl:(us++ds).length=ps.length:=by rw [<- r2.length]; exact F.len _ _ _ _ h
 refine wpAny_call (codeAny_mono (F.run X.A X.stack s H ⟨us,[]⟩ (us++ds) (vs++dvs) Q E hr I.env0 (hb s us I.kIn hl) r2 h) fun r s' hq=>?_);cases r with
 | error e=>exact hx pins σ H s e s' I hq
 | ok fl =>
  cases fl with
  | ret u=>exact I.after hq
  | next=>exact False.elim hq
  | brk=>exact False.elim hq
  | cont=>exact False.elim hq
theorem pe_call (F:FnOk X.prog X.w X.K X.mg X.base CX k f fd ps sp) (hr:Room k X.A) (hg:Gl X x) (hm:X.mg x=some (.ref f)) (hk:keepIn X.K (.ref f)=true) (hb:Binds X.K fd ps ds) (hd:Vals dvs ds) (hx:Passes CX X E)
  (ha:PA X (e :: es) t) (hdb:(x == ("__debug__":Str))=false:=by decide) (he:starEach (e :: es) X.env=(false,eval e X.env) :: starEach es X.env:=by rfl) (hpl:(backTo pos (starEach es X.env)).any (·.1)=false:=by rfl) :
  PE X (.Call (.Name x p) (e :: es) [] pos) (tCall sp dvs E t):=by
 intro pins s σ H Q I h;refine wpAny_Call_Name_kw (ld_glob I hg hm ?_ hdb);refine PySem.W.callWith_K (h₀:=X.base) I.ok.mod.kin hk (thn (ha pos pins s σ H _ I h) fun us s1 ⟨vs,H1,I1,r,q⟩=>⟨I1.kIn,?_⟩) he hpl;exact run_fn F hr hb hd hx I1 r q
structure Mk (K:Frag) (C f:Addr):Prop where
 makes:PySem.W.makesIn K C=true
 init:PySem.W.findIn K (.ref C) "__init__"=some (some (.ref f))
 fn:PySem.W.isFn K (.ref f)=true
 kp:keepIn K (.ref C)=true
end
section
variable {X:Cx} {CX:CXT} {k:Nat} {f C:Addr} {fd:FuncData} {ps ks:List Str} {sp:Sp} {E:XK} {x m:Str} {p pos apos kpos:Pos} {e o:Expr} {es:List Expr} {kws:List Keyword} {te ta:TE} {t tk:TA} {nm:Option Str}
structure KBinds (K:Frag) (fd:FuncData) (ps ks:List Str) (g:List Value->List Value->List Value) (gV:List V->List V->List V):Prop where
 to:∀ (s:Shared) (us ws:List Value),K.In s.heap->(g us ws).length=ps.length->BindsTo s fd ⟨us,ks.zip ws⟩ (ps.zip (g us ws))
 rel:∀ {vs:List V} {us:List Value} {zs:List V} {ws:List Value},Vals vs us->Vals zs ws->Vals (gV vs zs) (g us ws)
variable {g:List Value->List Value->List Value} {gV:List V->List V->List V}
end
structure FnScope (N P:List Str) (sc:Scope):Prop where
 kind:sc.kind=.function
 co:sc.isCoroutine=false
 gen:sc.isGenerator=false
 nd:N.Nodup
 pre:N.take P.length=P
 par:∀ x∈P,sc.names.lookup x=some .local \/ sc.names.lookup x=some .cell
 nofree:∀ y∈sc.names,y.2 ≠ .free
theorem bindL_out {kindOf:Str->Option NameKind} {x:Str}:∀ {binds:List (Str × Value)} {m:Str->Option Value},(∀ v,(x,v) ∉ binds)->bindL kindOf binds m x=m x
 | [],_,_=>rfl
 | (n,v) :: r,m,h=>by
  unfold bindL;rw [bindL_out fun w hw=>h w (mem_cons_of_mem _ hw)];split
  ·have:x ≠ n:=by rintro rfl; exact h v mem_cons_self
   simp [this]
  ·rfl
theorem bindC_out {kindOf:Str->Option NameKind} {x:Str}:∀ {binds:List (Str × Value)} {m:Str->Option Value},(∀ v,(x,v) ∉ binds)->bindC kindOf binds m x=m x
 | [],_,_=>rfl
 | (n,v) :: r,m,h=>by
  unfold bindC;rw [bindC_out fun w hw=>h w (mem_cons_of_mem _ hw)];split
  ·rfl
  ·have:x ≠ n:=by rintro rfl; exact h v mem_cons_self
   simp [this]
theorem bindL_get {kindOf:Str->Option NameKind} {x:Str} {v:Value}:∀ {P:List Str} {vs:List Value} {i:Nat} {m:Str->Option Value},P.Nodup->P[i]?=some x->vs[i]?=some v->kindOf x=some .local ->
  bindL kindOf (P.zip vs) m x=some v
 | [],_,_,_,_,h,_,_=>by simp at h
 | _ :: _,[],_,_,_,_,h,_=>by simp at h
 | p :: P,w :: vs,0,m,nd,h1,h2,hk=>by
  simp at h1 h2; subst h1; subst h2;show bindL kindOf ((p,w) :: P.zip vs) m p=_;unfold bindL;rw [bindL_out fun v hv=>(List.nodup_cons.mp nd).1 (of_mem_zip hv).1,if_pos hk]
  simp
 | p :: P,w :: vs,i + 1,m,nd,h1,h2,hk=>by
  show bindL kindOf ((p,w) :: P.zip vs) m x=_;unfold bindL;exact bindL_get (i:=i) (List.nodup_cons.mp nd).2 (by simpa using h1) (by simpa using h2) hk
theorem bindC_get {kindOf:Str->Option NameKind} {x:Str} {v:Value}:∀ {P:List Str} {vs:List Value} {i:Nat} {m:Str->Option Value},P.Nodup->P[i]?=some x->vs[i]?=some v->kindOf x ≠ some .local ->
  bindC kindOf (P.zip vs) m x=some v
 | [],_,_,_,_,h,_,_=>by simp at h
 | _ :: _,[],_,_,_,_,h,_=>by simp at h
 | p :: P,w :: vs,0,m,nd,h1,h2,hk=>by
  simp at h1 h2; subst h1; subst h2;show bindC kindOf ((p,w) :: P.zip vs) m p=_;unfold bindC;rw [bindC_out fun v hv=>(List.nodup_cons.mp nd).1 (of_mem_zip hv).1,if_neg hk]
  simp
 | p :: P,w :: vs,i + 1,m,nd,h1,h2,hk=>by
  show bindC kindOf ((p,w) :: P.zip vs) m x=_;unfold bindC;exact bindC_get (i:=i) (List.nodup_cons.mp nd).2 (by simpa using h1) (by simpa using h2) hk
def start (N:List Str) (vs:List V):St:=vs.map some++List.replicate (N.length - vs.length) none
def cxOf (CX:CXT) (P:Program) (w:World) (K:Frag) (mg:Str->Option Value) (base:Heap) (N:List Str) (qual:Str) (scope:Scope) (f:Addr) (cd:Value) (A:Around) (outer:List Env) (s:Shared) (H:Hp) (E:XK):Cx where
 prog:=P
 w:=w
 K:=K
 mg:=mg
 base:=base
 A:=A.deeper (envOfC qual scope s.heap.objs.size f cd)
 N:=N
 s₀:=s
 H₀:=H
 env:=envOfC qual scope s.heap.objs.size f cd
 outer:=outer
 stack:=envOfC qual scope s.heap.objs.size f cd :: outer
 ex:=[]
 calm:=true
 fn:=fun _=>true
 pn:=[]
 xe:=fun e s'=>wpAny (model P w) (A.deeper (envOfC qual scope s.heap.objs.size f cd)) (leaving (envOfC qual scope s.heap.objs.size f cd) e) (fun _ s''=>CX outer H s E e s'') (fun e' s''=>CX outer H s E e' s'') s'
theorem cell_has {sc:Scope} {n:Nat} {x:Str} (h:sc.names.lookup x=some .cell):∃ c,(cellsFrom n sc.names []).lookup x=some c:=by
 have q:=PySem.W.cellsFrom_some sc.names n [] (.inl h);exact Option.isSome_iff_exists.mp q
theorem inv_start {CX:CXT} {P:Program} {w:World} {K:Frag} {mg:Str->Option Value} {base:Heap} {N ps:List Str} {qual:Str} {scope:Scope} {f:Addr} {cd:Value} {A:Around} {outer:List Env} {s s1:Shared} {H:Hp} {E:XK} {us:List Value} {vs:List V}
  (S:FnScope N ps scope) (hd:A.handled=none) (e0:Env0 P w K mg base A outer s H) (hl:vs.length=ps.length) (r:Vals vs us)
  (x:InCallC s s.heap.objs.size (bindL (envOfC qual scope s.heap.objs.size f cd).kindOf (ps.zip us) fun _=>none) (cellsFrom (s.heap.objs.size + 1) scope.names []) (bindC (envOfC qual scope s.heap.objs.size f cd).kindOf (ps.zip us) fun _=>none) s1) :
  Inv (cxOf CX P w K mg base N qual scope f cd A outer s H E) [] (start N vs) H s1:=by
 have hpl:ps.length <= N.length:=by have:=congrArg List.length S.pre; rw [List.length_take] at this; omega
 obtain ⟨h1,tk,rfl,hk⟩:=x.done;have noA:∀ b:Addr,b ∉ (cxOf CX P w K mg base N qual scope f cd A outer s H E).ex:=fun b z=>absurd (show b∈([]:List Addr) from z) (by simp);refine ⟨⟨e0.mod,S.kind,rfl,rfl,le_refl _,fun y z c h1 h2=>?_,fun y hy=>?_,fun y c _ h=>?_,fun _=>hd,Around.frames_deeper e0.frames,.inr ⟨rfl,rfl⟩,fun b z=>absurd z (noA b),e0.bs,e0.bsz,fun b _ _=>noA b,fun b z=>absurd z (noA b),e0.funs,e0.frf⟩,
  rfl,e0.bare,Un.kept hk,⟨_,x.toInCall.ns,fun i y v h1 h2 h3=>?_⟩,fun y c h=>⟨_,x.cell y c h⟩,e0.hok.fresh (le_refl _),fun y c h=>?_,fun p hp=>absurd (show p∈([]:List (Addr × Obj)) from hp) (by simp),e0.hok.kept hk,?_⟩
 ·exact name_of_addr x.apart (PySem.mem_of_lookup h1) (PySem.mem_of_lookup h2)
 ·have hy:scope.names.lookup y=some .cell \/ scope.names.lookup y=some .free:=hy
  rcases hy with hy | hy
  ·exact cell_has hy
  ·exact absurd rfl (S.nofree _ (PySem.mem_of_lookup hy))
 ·exact le_of_lt (x.above y c (PySem.mem_of_lookup h))
 ·have hi:i < vs.length:=by
   unfold start at h2
   by_cases hi:i < vs.length
   ·exact hi
   ·rw [List.getElem?_append_right (by simpa using hi)] at h2
    rw [List.getElem?_replicate] at h2;split at h2 <;> cases h2
  have ha:vs[i]?=some v:=by
   unfold start at h2;rw [List.getElem?_append_left (by simpa using hi),getElem?_map] at h2;cases e:vs[i]? with
   | none=>rw [e] at h2; cases h2
   | some a=>rw [e] at h2; cases h2; rfl
  obtain ⟨u,hu,rv⟩:=r.get ha;have hp:ps[i]?=some y:=by
   rw [<- S.pre,List.getElem?_take_of_lt (by omega)]; exact h1
  have ndP:ps.Nodup:=by rw [<- S.pre]; exact S.nd.sublist (take_sublist _ _)
  refine ⟨u,rv,?_⟩;rcases S.par y (mem_of_getElem? hp) with k | k
  ·exact .inl ⟨k,bindL_get ndP hp hu k⟩
  ·obtain ⟨c,e⟩:=cell_has (n:=s.heap.objs.size + 1) k
   refine .inr ⟨.inl k,c,e,?_⟩;have q:=x.cell y c e;rw [bindC_get ndP hp hu (by show scope.names.lookup y ≠ _; rw [k]; decide)] at q;exact q
 ·exact e0.hok.fresh (le_of_lt (x.above y c (PySem.mem_of_lookup h)))
 ·unfold start
  show _=N.length;rw [length_append,length_map,List.length_replicate];omega
theorem fn_of {CX:CXT} {P:Program} {w:World} {K:Frag} {mg:Str->Option Value} {base:Heap} {k:Nat} {f:Addr} {name qual:Str} {params:Arguments} {body:List Stmt} {scope:Scope} {dV kV doc pm cdv ct oc:Value} {an od:Option Addr}
  {osl:Array (Option Value)} {N ps:List Str} {sp:Sp} (lk:K.lookup f=some ⟨oc,od,.func (fnOf name qual params body scope dV kV doc pm an cdv ct),osl⟩) (hcd:codeIn K cdv qual=true) (S:FnScope N ps scope)
  (len:∀ vs H Q E,sp vs H Q E->vs.length=ps.length)
  (hbody:∀ (A:Around) (outer:List Env) (s:Shared) (H:Hp) (vs:List V) (Q:VK) (E:XK),Room k (A.deeper (envOfC qual scope s.heap.objs.size f cdv))->sp vs H Q E ->
   ∃ t,PSs (cxOf CX P w K mg base N qual scope f cdv A outer s H E) body t/\t { nx:=fun _ H'=>Q .non H',rt:=Q } (start N vs) H) :
  FnOk P w K mg base CX (k + 1) f (fnOf name qual params body scope dV kV doc pm an cdv ct) ps sp:=by
 refine ⟨len,fun A outer s H args us vs Q E hr e0 hb r hsp=>?_⟩;have hl:=len _ _ _ _ hsp;have KX:K.In s.heap:=e0.mod.kin.keeps fun b o e=>(e0.bs b o e).1;have lim:s.heap.NoLimit:=e0.mod.nolimit.keeps fun b o e=>(e0.bs b o e).1;have hkind:∀ y∈ps.zip us,scope.names.lookup y.1=some .local \/ (scope.names.lookup y.1=some .cell/\((cellsFrom (s.heap.objs.size + 1) scope.names []).lookup y.1).isSome=true):=fun ⟨n,v⟩ hy=>by
  rcases S.par n (of_mem_zip hy).1 with q | q
  ·exact .inl q
  ·exact .inr ⟨q,PySem.W.cellsFrom_some _ _ _ (.inl q)⟩
 refine codeAny_call_function hr.depth (KX _ _ lk) rfl S.co S.gen rfl (PySem.W.codeRec_of KX hcd) (hb _ _ _ _ ?_);refine wpAny_newFunctionEnv_cells S.kind hkind fun env he s1 x=>?_;subst he;refine ⟨lim.keeps x.toInCall.keep,codeAny_func ?_⟩;obtain ⟨t,ht,hq⟩:=hbody A outer s H vs Q E (hr.deeper _) hsp;have I:Inv (cxOf CX P w K mg base N qual scope f cdv A outer s H E) [] (start N vs) H s1:=inv_start S hr.hd e0 hl r x;refine wpAny_mono (ht [] s1 (start N vs) H _ I hq) (fun fl s' hs=>?_) fun e s' hs=>hs;have fin:∀ {σ':St} {H':Hp} {v:V} {u:Value},Inv (cxOf CX P w K mg base N qual scope f cdv A outer s H E) [] σ' H' s'->RelV v u->Q v H'->CE outer P w H s Q u s' :=
  fun {σ' H' v u} J rv q=>⟨v,H',J.os,J.bare,J.base,J.hok,rv,q⟩
 cases fl with
 | ret u =>
  obtain ⟨v,σ',H',J,rv,q⟩:=hs;exact fin J rv q
 | next =>
  obtain ⟨σ',H',J,q⟩:=hs;exact fin (v:=V.non) (u:=Value.none) J rfl q
 | brk =>
  obtain ⟨_,_,_,q⟩:=hs;exact False.elim q
 | cont =>
  obtain ⟨_,_,_,q⟩:=hs;exact False.elim q
end L2
namespace L2
open PySem PySem.Spec PyProof.Rows
section
variable {X:Cx} {x:Str} {p pos:Pos} {e:Expr} {es:List Expr} {t:TA} {id T:String} {r:List V->Hp->VK->Prop}
def tCB (r:List V->Hp->VK->Prop) (t:TA):TE:=fun σ H Q=>t σ H fun vs H1=>r vs H1 Q
theorem pe_callB (hc:CallR X (.builtin id) r) (hg:Gl X x) (hm:X.mg x=none) (hv:bootBuiltins x=some (.builtin id)) (ha:PA X (e :: es) t) (hn:x ≠ "__name__":=by decide) (hdb:(x == ("__debug__":Str))=false:=by decide)
  (he:starEach (e :: es) X.env=(false,eval e X.env) :: starEach es X.env:=by rfl) (hpl:(backTo pos (starEach es X.env)).any (·.1)=false:=by rfl):PE X (.Call (.Name x p) (e :: es) [] pos) (tCB r t):=by
 intro pins s σ H Q I h;refine wpAny_Call_Name_kw (ld_blt I hg hm hv ?_ hn hdb);exact PyProof.Rows.callWith_builtin1 (thn (ha pos pins s σ H _ I h) fun us s1 ⟨vs,H1,I1,r1,q1⟩=>hc pins s1 σ H1 vs us Q I1 r1 q1) he hpl
theorem pe_callTy (hc:CallR X (.type T) r) (hg:Gl X x) (hm:X.mg x=none) (hv:bootBuiltins x=some (.type T)) (ha:PA X (e :: es) t) (hn:x ≠ "__name__":=by decide) (hdb:(x == ("__debug__":Str))=false:=by decide)
  (he:starEach (e :: es) X.env=(false,eval e X.env) :: starEach es X.env:=by rfl) (hpl:(backTo pos (starEach es X.env)).any (·.1)=false:=by rfl):PE X (.Call (.Name x p) (e :: es) [] pos) (tCB r t):=by
 intro pins s σ H Q I h;refine wpAny_Call_Name_kw (ld_blt I hg hm hv ?_ hn hdb);exact PyProof.Rows.callWith_type1 (thn (ha pos pins s σ H _ I h) fun us s1 ⟨vs,H1,I1,r1,q1⟩=>hc pins s1 σ H1 vs us Q I1 r1 q1) he hpl
end
end L2
namespace HT
open PySem PyProof.Rows
section
open PySem.SeqAt
open PySem.AutoSeq1 (wpAny_loadPart')
open PySem.MeetsSeq PySem.MeetsSeq2 PySem.MeetsSeq3
end
section
variable {prog:Program} {w:World} {A:Around} {E:Value->Shared->Prop} {s:Shared}
def sIx (n d:Nat):Option Int->Nat
 | none=>d
 | some v=>if v < 0 then (v + (n:Int)).toNat else min v.toNat n
end
end HT
namespace L2
open PySem PySem.Spec PyProof.Rows
abbrev TO:=St->Hp->(Option Int->Hp->Prop)->Prop
def PO (X:Cx) (e:Option Expr) (t:TO):Prop :=
 ∀ (pins:List (Addr × Obj)) (s:Shared) (σ:St) (H:Hp) (Q:Option Int->Hp->Prop),Inv X pins σ H s->t σ H Q ->
  wpAny (model X.prog X.w) X.A (evalPart e X.env) (fun u s'=>∃ o H',Inv X pins σ H' s'/\IsPart u o/\Q o H') X.xe s
def tNoPart:TO:=fun _ H Q=>Q none H
def tPart (t:TE):TO:=fun σ H Q=>t σ H fun x H1=>∃ i,x=.int i/\Q (some i) H1
theorem intsAre_of {ns:List Int}:∀ {us:List Value},Vals (ns.map V.int) us->IntsAre us ns:=by
 induction ns with
 | nil=>intro us r; rw [map_nil] at r; cases r; exact .nil
 | cons n ns ih =>
  intro us r;rw [map_cons] at r;cases r with
  | cons r1 r2 =>
   obtain ⟨t,e⟩:=r1;subst e;exact .cons n t (ih r2)
section
variable {X:Cx} {e:Expr} {te:TE} {lo hi:Option Expr} {tl th:TO} {pos p2:Pos}
theorem po_none:PO X none tNoPart:=by
 intro pins s σ H Q I h;rw [evalPart_none];exact wpAny_pure ⟨none,H,I,.none,h⟩
theorem po_some (h:PE X e te):PO X (some e) (tPart te):=by
 intro pins s σ H Q I hw;rw [evalPart_some];refine thn (h pins s σ H _ I hw) fun u s1 hQ=>?_;obtain ⟨x,H1,I1,r1,q1⟩:=hQ;obtain ⟨i,rfl,q⟩:=q1;obtain ⟨t,rfl⟩:=r1;exact ⟨some i,H1,I1,.int i t,q⟩
def SlR (X:Cx) (r:V->Option Int->Option Int->Hp->VK->Prop):Prop :=
 ∀ (pins:List (Addr × Obj)) (s:Shared) (σ:St) (H:Hp) (x:V) (v vl vu:Value) (lo hi:Option Int) (sl:Addr) (Q:VK),Inv X pins σ H s->RelV x v->s.heap.IsSliceOf sl vl vu .none->IsPart vl lo->IsPart vu hi->r x lo hi H Q ->
  ∃ T id,typeLookup (.type T) "__getitem__"=pure (some (.builtin id))/\s.TypeIs v T/\wpAny (model X.prog X.w) X.A (getItem v (.ref sl)) (EP X pins σ Q) X.xe s
theorem SlR.or {r r':V->Option Int->Option Int->Hp->VK->Prop} (h:SlR X r) (h':SlR X r'):SlR X (fun x lo hi H Q=>r x lo hi H Q \/ r' x lo hi H Q):=by
 intro pins s σ H x v vl vu lo hi sl Q I rx hs pl pu q;rcases q with q | q
 ·exact h pins s σ H x v vl vu lo hi sl Q I rx hs pl pu q
 ·exact h' pins s σ H x v vl vu lo hi sl Q I rx hs pl pu q
def tSl (r:V->Option Int->Option Int->Hp->VK->Prop) (te:TE) (tl th:TO):TE:=fun σ H Q=>te σ H fun x H1=>tl σ H1 fun l H2=>th σ H2 fun u H3=>r x l u H3 Q
theorem pe_slice {r:V->Option Int->Option Int->Hp->VK->Prop} (hr:SlR X r) (he:PE X e te) (hl:PO X lo tl) (hu:PO X hi th):PE X (.Subscript e (.Slice lo hi none p2) pos) (tSl r te tl th):=by
 intro pins s σ H Q I h;refine Subscript_ (thn (he pins s σ H _ I h) fun v s1 hQ=>?_);obtain ⟨x,H1,I1,r1,q1⟩:=hQ;refine wpAny_Slice (thn (hl pins s1 σ H1 _ I1 q1) fun vl s2 ⟨l,H2,I2,pl,q2⟩=>thn (hu pins s2 σ H2 _ I2 q2) fun vu s3 hQ=>?_);obtain ⟨u,H3,I3,pu,q3⟩:=hQ;rw [evalPart_none];refine wpAny_pure ?_;have I4:Inv X pins σ H3 { s3 with heap:=s3.heap.push { cls:=.type "slice",data:=.fields #[vl,vu,.none] } }:=I3.kept (t':=s3.toks) fun b ob q=>Heap.get?_push_of_some _ q;obtain ⟨T,id,hT,ht,hg⟩:=hr pins { s3 with heap:=s3.heap.push { cls:=.type "slice",data:=.fields #[vl,vu,.none] } } σ H3 x v vl vu l u s3.heap.objs.size Q I4 r1 (Heap.IsSliceOf.new ..) pl pu q3;show wpAny (model X.prog X.w) X.A (subscriptTail e (.Slice lo hi none p2) v (.ref s3.heap.objs.size)) (EP X pins σ Q) X.xe { s3 with heap:=s3.heap.push { cls:=.type "slice",data:=.fields #[vl,vu,.none] } };exact tail_any (ops:=[.ref s3.heap.objs.size,v]) ht hT hg (by with_unfolding_all rfl)
def cutV (xs:List V) (lo hi:Option Int):List V:=(xs.drop (HT.sIx xs.length 0 lo)).take (HT.sIx xs.length xs.length hi - HT.sIx xs.length 0 lo)
theorem cutV_length (xs:List V) (lo hi:Option Int):(cutV xs lo hi).length <= xs.length:=by
 unfold cutV;rw [List.length_take,List.length_drop];omega
end
end L2
namespace L2
open PySem PySem.Spec PyProof.Rows
def ixN (n:Nat) (i:Int):Option Nat:=if 0 <= i then (if i < n then some i.toNat else none) else if -(n:Int) <= i then some (i + n).toNat else none
def atI {α:Type} (xs:List α) (i:Int):Option α:=(ixN xs.length i).bind fun j=>xs[j]?
theorem ixN_seq {n:Nat} {i:Int} {j:Nat} (h:ixN n i=some j):seqIndex? i n=some j/\j < n/\-(n:Int) <= i/\i < n:=by
 unfold ixN at h
 by_cases h0:0 <= i
 ·rw [if_pos h0] at h
  by_cases h1:i < n
  ·rw [if_pos h1] at h
   have e:i.toNat=j:=Option.some.inj h;exact ⟨by rw [seqIndex_of h0 h1,e],by omega,by omega,h1⟩
  ·rw [if_neg h1] at h; cases h
 ·rw [if_neg h0] at h
  by_cases h1:-(n:Int) <= i
  ·rw [if_pos h1] at h
   have e:(i + n).toNat=j:=Option.some.inj h;exact ⟨by rw [seqIndex_neg (by omega) h1,e],by omega,h1,by omega⟩
  ·rw [if_neg h1] at h; cases h
theorem atI_get {α:Type} {xs:List α} {i:Int} {v:α} (h:atI xs i=some v):∃ j,seqIndex? i xs.length=some j/\xs[j]?=some v/\j < xs.length/\-(xs.length:Int) <= i/\i < xs.length:=by
 unfold atI at h;cases e:ixN xs.length i with
 | none=>rw [e] at h; cases h
 | some j =>
  rw [e] at h;obtain ⟨h1,h2,h3,h4⟩:=ixN_seq e;exact ⟨j,h1,h,h2,h3,h4⟩
def PlainIx (b:Expr):Prop:=∀ o i,subscripted b false o i=operate [o,i] (getItem o i)
def IxR (X:Cx) (r:R2):Prop :=
 ∀ (value slice:Expr) (pins:List (Addr × Obj)) (s:Shared) (σ:St) (H:Hp) (x y:V) (v u:Value) (Q:VK),Inv X pins σ H s->RelV x v->RelV y u->r x y H Q ->
  subscripted slice false v u=operate [v,u] (getItem v u)->wpAny (model X.prog X.w) X.A (subscriptTail value slice v u) (EP X pins σ Q) X.xe s
def MtR (X:Cx) (id:String) (r:V->List V->Hp->VK->Prop):Prop :=
 ∀ (pins:List (Addr × Obj)) (s:Shared) (σ:St) (H:Hp) (x:V) (xs:List V) (v:Value) (us:List Value) (Q:VK),Inv X pins σ H s->RelV x v->Vals xs us->r x xs H Q ->
  wpAny (model X.prog X.w) X.A (call (.builtin id) (v :: us)) (EP X pins σ Q) X.xe s
section
variable {X:Cx} {a b:Expr} {ta tb:TE} {pos:Pos}
theorem IxR.or {r r':R2} (h:IxR X r) (h':IxR X r'):IxR X (fun x y H Q=>r x y H Q \/ r' x y H Q):=by
 intro value slice pins s σ H x y v u Q I rx ry q hs;rcases q with q | q
 ·exact h value slice pins s σ H x y v u Q I rx ry q hs
 ·exact h' value slice pins s σ H x y v u Q I rx ry q hs
theorem MtR.or {id:String} {r r':V->List V->Hp->VK->Prop} (h:MtR X id r) (h':MtR X id r'):MtR X id (fun x xs H Q=>r x xs H Q \/ r' x xs H Q):=by
 intro pins s σ H x xs v us Q I rx rs q;rcases q with q | q
 ·exact h pins s σ H x xs v us Q I rx rs q
 ·exact h' pins s σ H x xs v us Q I rx rs q
theorem pe_ix {r:R2} (hr:IxR X r) (ha:PE X a ta) (hb:PE X b tb) (hs:PlainIx b):PE X (.Subscript a b pos) (tOp r ta tb):=by
 intro pins s σ H Q I h;exact Subscript_ (binT ha hb I h fun v u s2 x y H2 I2 rx ry q=>hr a b pins s2 σ H2 x y v u Q I2 rx ry q (hs _ _))
def rIxL (K:Frag):R2:=fun x y H Q=>∃ p xs i v,x=.ref p/\y=.int i/\SqL K H p xs/\atI xs i=some v/\Q v H
def rIxT (K:Frag):R2:=fun x y H Q=>∃ p xs i v,x=.ref p/\y=.int i/\SqT K H p xs/\atI xs i=some v/\Q v H
theorem ix_list:IxR X (rIxL X.K):=by
 intro value slice pins s σ H x y v u Q I rx ry h hs;obtain ⟨p,xs,i,z,rfl,rfl,hq,he,q⟩:=h;cases rx;obtain ⟨t,rfl⟩:=ry;obtain ⟨its,r,pl,hz⟩:=I.list hq;obtain ⟨j,h1,h2,h3,h4,h5⟩:=atI_get he;obtain ⟨w,ew,rw'⟩:=r.get h2;have hl:=r.length;have hn:=line63;have fin:EP X pins σ Q w s:=⟨z,H,I,rw',q⟩
 by_cases h0:0 <= i
 ·have hj:i.toNat=j:=by
   rw [seqIndex_of h0 h5] at h1;exact Option.some.inj h1
  exact item_listR pl.isList h0 (by omega) (by rw [hj]; simpa using ew) fin hs
 ·have hj:(i + (its.toArray.size:Int)).toNat=j:=by
   rw [seqIndex_neg (by omega) h4] at h1;rw [size_toArray,<- hl];exact Option.some.inj h1
  exact subscriptTail_builtinR (x:=w) pl.isList.typeIs slot_list_getitem.lookup
   (wpAny_getItem_list_neg (Q:=fun r s'=>r=w/\EP X pins σ Q r s') pl.isList (by omega) (by rw [size_toArray] <;> omega) (by omega) (by rw [hj]; simpa using ew) ⟨rfl,fin⟩) hs
theorem ix_tup:IxR X (rIxT X.K):=by
 intro value slice pins s σ H x y v u Q I rx ry h hs;obtain ⟨p,xs,i,z,rfl,rfl,hq,he,q⟩:=h;cases rx;obtain ⟨t,rfl⟩:=ry;obtain ⟨its,r,pl,hz⟩:=I.tuple hq;obtain ⟨j,h1,h2,h3,h4,h5⟩:=atI_get he;obtain ⟨w,ew,rw'⟩:=r.get h2;have hl:=r.length;have hn:=line63;have fin:EP X pins σ Q w s:=⟨z,H,I,rw',q⟩;exact subscriptTail_builtinR (x:=w) pl.typeIs slot_tuple_getitem.lookup
  (getItem_tuple (j:=j) (Q:=fun r s'=>r=w/\EP X pins σ Q r s') pl (by omega) (by omega) (by rw [size_toArray,<- hl]; exact h1) (by simpa using ew) ⟨rfl,fin⟩) hs
theorem mapSeq_set (its:List Value) (n j:Nat) (u:Value):Obj.mapSeq (·.setIfInBounds j u) { cls:=.type "list",data:=.seq its.toArray n }={ cls:=.type "list",data:=.seq (its.set j u).toArray n }:=by
 simp [Obj.mapSeq]
theorem Inv.lst {pins:List (Addr × Obj)} {σ:St} {H:Hp} {s:Shared} {p:Addr} {xs:List V} (I:Inv X pins σ H s) (h:H p=some (.lst xs)) :
  ∃ (its:List Value) (n:Nat),Vals xs its/\s.heap.get? p=some { cls:=.type "list",data:=.seq its.toArray n }/\xs.length <= sizeLine:=by
 obtain ⟨z,its,n,r,e⟩:=I.hok p _ h;exact ⟨its,n,r,e,z⟩
theorem Inv.lstUpd {pins:List (Addr × Obj)} {σ:St} {H:Hp} {s:Shared} {p:Addr} {xs ys:List V} {its its':List Value} {n n':Nat} {f:Obj->Obj} (I:Inv X pins σ H s) (h:H p=some (.lst xs))
  (ho:s.heap.get? p=some { cls:=.type "list",data:=.seq its.toArray n }) (hf:f { cls:=.type "list",data:=.seq its.toArray n }={ cls:=.type "list",data:=.seq its'.toArray n' }) (r:Vals ys its') (hz:ys.length <= sizeLine) (t:Nat) :
  Inv X pins σ (upd H p (.lst ys)) { s with heap:=s.heap.update p f,toks:=t }:=by
 have e:(s.heap.update p f).get? p=some { cls:=.type "list",data:=.seq its'.toArray n' }:=by
  rw [Heap.get?_update_self f ho (by rw [hf] <;> rfl),hf]
 refine I.write (x:=p) (e:=p) (by rw [h]; trivial) (.inl rfl) (fun b u hb q=>(Heap.get?_update_other _ _ (Ne.symm hb)).trans q) ⟨_,e⟩ ?_;exact ⟨hz,its',n',r,e⟩
def rSetL:V->V->V->Hp->(Hp->Prop)->Prop:=fun o i v H Q=>∃ p xs k j,o=.ref p/\i=.int k/\H p=some (.lst xs)/\ixN xs.length k=some j/\Q (upd H p (.lst (xs.set j v)))
theorem set_list:PSet X rSetL:=by
 intro pins s σ H o i v ov iv u Q I ro ri rv h;obtain ⟨p,xs,k,j,rfl,rfl,hp,hj,q⟩:=h;cases ro;obtain ⟨t,rfl⟩:=ri;obtain ⟨its,n,r,ho,hz⟩:=I.lst hp;obtain ⟨h1,h2,h3,h4⟩:=ixN_seq hj;have hl:=r.length;have hn:=line63;have I':Inv X pins σ (upd H p (.lst (xs.set j v))) { s with heap:=s.heap.update p (Obj.mapSeq (·.setIfInBounds j u)) } :=
  I.lstUpd hp ho (mapSeq_set its n j u) (r.set rv j) (by rw [List.length_set]; exact hz) s.toks
 by_cases h0:0 <= k
 ·have hk:k.toNat=j:=by
   rw [seqIndex_of h0 h4] at h1;exact Option.some.inj h1
  exact PySem.W.ki_setAt ho h0 (by omega) (by rw [size_toArray,<- hl]; exact h4) (by rw [hk]; exact ⟨_,I',q⟩)
 ·have hk:(k + (its.toArray.size:Int)).toNat=j:=by
   rw [seqIndex_neg (by omega) h3] at h1;rw [size_toArray,<- hl];exact Option.some.inj h1
  exact PySem.W.ki_setBack ho (by omega) (by rw [size_toArray,<- hl]; exact h3) (by omega) (by rw [hk]; exact ⟨_,I',q⟩)
theorem sb1 {i:Int} {n:Nat} (h:i < 0):max 0 (min (i + (n:Int)) n)=(((i + n).toNat:Nat):Int):=by
 rw [Int.min_eq_left (Int.add_le_of_le_sub_right (by rw [Int.sub_self]; exact Int.le_of_lt h)),Int.max_comm,Int.toNat_eq_max]
theorem sb2 {i:Int} {n:Nat} (h:¬ i < 0):max 0 (min i (n:Int))=((min i.toNat n:Nat):Int):=by
 obtain ⟨k,rfl⟩:=Int.eq_ofNat_of_zero_le (Int.not_lt.mp h);rw [Int.toNat_natCast];rcases Nat.le_total k n with e | e
 ·rw [min_eq_left e,Int.min_eq_left (Int.ofNat_le.mpr e)]; exact Int.max_eq_right (Int.natCast_nonneg _)
 ·rw [min_eq_right e,Int.min_eq_right (Int.ofNat_le.mpr e)]; exact Int.max_eq_right (Int.natCast_nonneg _)
theorem slice_bounds (lo hi:Option Int) (n:Nat):(sliceBounds lo hi none n).1=((HT.sIx n 0 lo:Nat):Int)/\(sliceBounds lo hi none n).2.1=((HT.sIx n n hi:Nat):Int)/\(sliceBounds lo hi none n).2.2=1:=by
 refine ⟨?_,?_,rfl⟩
 ·cases lo with
  | none=>simp [sliceBounds,HT.sIx]
  | some i =>
   simp only [sliceBounds,HT.sIx,getD_none,show (1:Int) > 0 by decide,if_true]
   by_cases h:i < 0
   ·simp only [h,if_true]; exact sb1 h
   ·simp only [h,if_false]; exact sb2 h
 ·cases hi with
  | none=>simp [sliceBounds,HT.sIx]
  | some i =>
   simp only [sliceBounds,HT.sIx,getD_none,show (1:Int) > 0 by decide,if_true]
   by_cases h:i < 0
   ·simp only [h,if_true]; exact sb1 h
   ·simp only [h,if_false]; exact sb2 h
theorem slicePick_cut (its:List Value) (lo hi:Option Int):slicePick its.toArray lo hi none=((its.drop (HT.sIx its.length 0 lo)).take (HT.sIx its.length its.length hi - HT.sIx its.length 0 lo)).toArray:=by
 obtain ⟨h1,h2,h3⟩:=slice_bounds lo hi its.toArray.size;unfold slicePick;rw [h1,h2,h3];simp only [sliceRange_one,pick_run,size_toArray] <;> rfl
def rSlL (K:Frag):V->Option Int->Option Int->Hp->VK->Prop:=fun x lo hi H Q=>∃ a xs,x=.ref a/\SqL K H a xs/\∀ p,H p=none->Q (.ref p) (upd H p (.lst (cutV xs lo hi)))
theorem sl_list:SlR X (rSlL X.K):=by
 intro pins s σ H x v vl vu lo hi sl Q I rx hs pl pu h;obtain ⟨a,xs,rfl,hx,q⟩:=h;cases rx;obtain ⟨its,r,ht,hz⟩:=I.list hx;have hlen:=r.length;refine ⟨"list",_,slot_list_getitem.lookup,ht.isList.typeIs,?_⟩;refine wpAny_getItem_list_slice ht.isList hs pl pu .none (by simp) ?_ (by rw [size_toArray] <;> omega);rw [slicePick_cut,<- hlen];refine ⟨.ref s.heap.objs.size,_,I.laid (t':=s.toks) (o:=.lst (cutV xs lo hi)) (fun b ob q=>Heap.get?_push_of_some _ q) (le_refl _) ?_,rfl,q _ (I.hok.fresh (le_refl _))⟩;exact ⟨le_trans (cutV_length xs lo hi) hz,_,0,(r.drop (HT.sIx xs.length 0 lo)).take (HT.sIx xs.length xs.length hi - HT.sIx xs.length 0 lo),Heap.get?_push_size _ rfl⟩
theorem call_len_seq:CallR X (.builtin "len") (fun xs H Q=>∃ p ys,xs=[.ref p]/\(SqL X.K H p ys \/ SqT X.K H p ys)/\Q (.int ys.length) H):=by
 intro pins s σ H xs us Q I r h;obtain ⟨p,ys,rfl,hq,q⟩:=h;obtain ⟨u,rfl,rx⟩:=vals1 r;cases rx;have hn:=line63;rcases hq with hq | hq
 ·obtain ⟨its,r',pl,hz⟩:=I.list hq
  have hlen:=r'.length;exact Calls.call_len_list pl.isList (by simp only [size_toArray] <;> omega) ⟨.int ys.length,H,I.tok _,⟨s.toks + 1,by rw [size_toArray,hlen]⟩,q⟩
 ·obtain ⟨its,r',pl,hz⟩:=I.tuple hq
  have hlen:=r'.length;exact len_tuple pl (by simp only [size_toArray] <;> omega) ⟨.int ys.length,H,I.tok _,⟨s.toks + 1,by rw [size_toArray,hlen]⟩,q⟩
theorem CallR.or {f:Value} {r r':List V->Hp->VK->Prop} (h:CallR X f r) (h':CallR X f r'):CallR X f (fun xs H Q=>r xs H Q \/ r' xs H Q):=by
 intro pins s σ H xs us Q I rs q;rcases q with q | q
 ·exact h pins s σ H xs us Q I rs q
 ·exact h' pins s σ H xs us Q I rs q
theorem call_list_of:CallR X (.type "list") (fun xs H Q=>∃ p ys,xs=[.ref p]/\(SqL X.K H p ys \/ SqT X.K H p ys)/\∀ l,H l=none->Q (.ref l) (upd H l (.lst ys))):=by
 intro pins s σ H xs us Q I r h;obtain ⟨p,ys,rfl,hq,q⟩:=h;obtain ⟨u,rfl,rx⟩:=vals1 r;cases rx;have fin:∀ (its:List Value),Vals ys its->ys.length <= sizeLine->∀ (h':Heap) (c':Nat),(∀ b o',s.heap.get? b=some o'->h'.get? b=some o') ->
   h'.get? s.heap.objs.size=some { cls:=.type "list",dict:=none,data:=.seq its.toArray c',slots:=#[] }->EP X pins σ Q (.ref s.heap.objs.size) { s with heap:=h' }:=fun its r' hz h' c' kp e =>
  ⟨.ref s.heap.objs.size,_,I.laid (t':=s.toks) kp (le_refl _) (show ObjOk X.prog X.w _ h' _ (.lst ys) from ⟨hz,its,c',r',e⟩),rfl,q _ (I.hok.fresh (le_refl _))⟩
 rcases hq with hq | hq
 ·obtain ⟨its,r',pl,hz⟩:=I.list hq
  have hlen:=r'.length;obtain ⟨o,ho,hc,n,hd⟩:=pl.isList;exact call_list_seq p (.inl rfl) ho hc hd (fun h' c' kp e=>fin its r' hz h' c' kp e) (by simp only [size_toArray] <;> omega)
 ·obtain ⟨its,r',pl,hz⟩:=I.tuple hq
  have hlen:=r'.length;obtain ⟨o,ho,hc,n,hd⟩:=pl;exact call_list_seq p (.inr rfl) ho hc hd (fun h' c' kp e=>fin its r' hz h' c' kp e) (by simp only [size_toArray] <;> omega)
def tyV (K:Frag) (T:String) (x:V) (H:Hp):Prop:=match x with
 | .str _=>T="str"
 | .int _=>T="int"
 | .ref p=>(T="list"/\∃ xs,SqL K H p xs) \/ (T="tuple"/\∃ o,K.lookup p=some o/\o.cls=.type "tuple"/\o.dict=none) \/
   (T="dict"/\((∃ kvs,H p=some (.dK kvs)) \/ ∃ kvs,H p=some (.dT kvs))) \/ (T="set"/\∃ S n,H p=some (.set S n))
 | _=>False
theorem tyV_is {pins:List (Addr × Obj)} {σ:St} {H:Hp} {s:Shared} {T:String} {x:V} {v:Value} (I:Inv X pins σ H s) (r:RelV x v) (ty:tyV X.K T x H) :
  s.TypeIs v T/\∀ a,v=.ref a->∃ ob,s.heap.get? a=some ob/\ob.dict=none:=by
 cases x with
 | str z =>
  obtain ⟨t,rfl⟩:=r;cases (show T="str" from ty);exact ⟨typeIs_str s z t,fun _ e=>nomatch e⟩
 | int i =>
  obtain ⟨t,rfl⟩:=r;cases (show T="int" from ty);exact ⟨typeIs_int s i t,fun _ e=>nomatch e⟩
 | ref p =>
  cases r;rcases ty with ⟨rfl,xs,hq⟩ | ⟨rfl,o,hk,hc,hd⟩ | ⟨rfl,hk⟩ | ⟨rfl,S,n,hk⟩
  ·obtain ⟨its,_,pl,_⟩:=I.list hq
   refine ⟨pl.isList.typeIs,fun a e=>?_⟩;cases e;obtain ⟨o,n,e,c,hd,_⟩:=pl;exact ⟨o,e,hd⟩
  ·refine ⟨⟨o,I.kIn p o hk,hc⟩,fun a e=>?_⟩
   cases e;exact ⟨o,I.kIn _ o hk,hd⟩
  ·have z:∃ o,s.heap.get? p=some o/\o.ExactDict:=by
    rcases hk with ⟨kvs,hk⟩ | ⟨kvs,hk⟩
    ·obtain ⟨_,_,_,_,o,_,_,e,ex,_⟩:=I.hok p _ hk
     exact ⟨o,e,ex⟩
    ·obtain ⟨_,_,_,_,o,_,_,e,ex,_⟩:=I.hok p _ hk
     exact ⟨o,e,ex⟩
   obtain ⟨o,e,ex⟩:=z;refine ⟨⟨o,e,ex.1⟩,fun a e2=>?_⟩;cases e2;exact ⟨o,e,ex.2.1⟩
  ·obtain ⟨o,_,_,_,e,ex,_⟩:=I.hok p _ hk
   refine ⟨⟨o,e,ex.1⟩,fun a e2=>?_⟩;cases e2;exact ⟨o,e,ex.2.1⟩
 | _=>exact False.elim ty
def tBM (K:Frag) (T:String) (r:V->List V->Hp->VK->Prop) (to:TE) (t:TA):TE:=fun σ H Q=>to σ H fun x H1=>tyV K T x H1/\t σ H1 fun xs H2=>r x xs H2 Q
variable {o e:Expr} {es:List Expr} {to:TE} {t:TA} {name:Str} {apos cpos:Pos} {T id:String} {r:V->List V->Hp->VK->Prop}
theorem pe_bm (pa:PlainAttrs T) (slot:Slot T name id) (hty:typeOf (.builtin id)=pure (.type "method_descriptor")) (hm:MtR X id r) (ho:PE X o to) (ha:PA X (e :: es) t)
  (hbase:attributeBase o name X.env (eval o X.env)=eval o X.env:=by rfl)
  (hfew:((backTo cpos (starEach (e :: es) X.env)).all (fun x=>!x.1) && (backToKw cpos (keywordEach [] X.env)).all (fun x=>x.1.isSome)
   && decide ((e :: es).length + ([]:List Keyword).length + (if ([]:List Keyword).isEmpty then 0 else 1) < 30))=true:=by rfl)
  (hline:(apos.endLine == cpos.line)=true:=by rfl) (hs:starEach (e :: es) X.env=(false,eval e X.env) :: starEach es X.env:=by rfl) (hplain:(backTo cpos (starEach es X.env)).any (·.1)=false:=by rfl) :
  PE X (.Call (.Attribute o name apos) (e :: es) [] cpos) (tBM X.K T r to t):=by
 intro pins s σ H Q I h;refine wpAny_Call_method_late hbase hfew hline rfl (thn (ho pins s σ H _ I h) fun v s1 hQ=>?_);obtain ⟨x,H1,I1,r1,ty,q1⟩:=hQ;obtain ⟨h1,h2⟩:=tyV_is I1 r1 ty;refine ⟨T,id,pa,slot,hty,h1,h2,?_⟩;have hA:=ha cpos pins s1 σ H1 _ I1 q1;rw [hs] at hA ⊢;refine Calls.callWith_builtin (by show (false || (backTo cpos (starEach es X.env)).any (·.1))=false; rw [hplain] <;> rfl) (Calls.evalArgs_plain ?_);exact thn hA fun us s2 ⟨vs,H2,I2,r2,q2⟩=>hm pins s2 σ H2 x vs v us Q I2 r1 r2 q2
end
end L2
namespace L2
open PySem PySem.Spec PyProof.Rows
def MtM (X:Cx) (id:String) (r:V->List V->Hp->VK->Prop):Prop :=
 ∀ (pins:List (Addr × Obj)) (s:Shared) (σ:St) (H:Hp) (x:V) (xs:List V) (v:Value) (us:List Value) (Q:VK),Inv X pins σ H s->RelV x v->Vals xs us->r x xs H Q ->
  wpAny (model X.prog X.w) X.A (call (.builtin id) (v :: us)) (EP X pins σ Q) X.xe s
theorem Vals.one:∀ {x:V} {us:List Value},Vals [x] us->∃ u,us=[u]/\RelV x u
 | _,_,.cons r .nil=>⟨_,rfl,r⟩
theorem Vals.zero:∀ {us:List Value},Vals [] us->us=[]
 | _,.nil=>rfl
theorem Vals.eraseIdx:∀ {xs:List V} {us:List Value} (i:Nat),Vals xs us->Vals (xs.eraseIdx i) (us.eraseIdx i)
 | _,_,_,.nil=>.nil
 | _,_,0,.cons _ t=>t
 | _,_,i + 1,.cons r t=>.cons r (Vals.eraseIdx i t)
theorem Vals.reverse {xs:List V} {us:List Value} (h:Vals xs us):Vals xs.reverse us.reverse:=by
 induction h with
 | nil=>exact .nil
 | cons r t ih=>rw [List.reverse_cons,List.reverse_cons]; exact Vals.append ih (.cons r .nil)
theorem Vals.rep {xs:List V} {us:List Value} (h:Vals xs us):∀ k:Nat,Vals (List.replicate k xs).flatten (List.replicate k us).flatten
 | 0=>.nil
 | k + 1=>by
  rw [List.replicate_succ,List.replicate_succ,List.flatten_cons,List.flatten_cons];exact Vals.append h (Vals.rep h k)
section
variable {X:Cx} {pins:List (Addr × Obj)} {σ:St} {H:Hp} {s:Shared} {l b:Addr} {xs ys zs:List V}
theorem Inv.lset {its its':List Value} {n:Nat} {f:Array Value->Array Value} {t':Nat} (I:Inv X pins σ H s) (hH:H l=some (.lst xs))
  (e:s.heap.get? l=some { cls:=.type "list",data:=.seq its.toArray n }) (hf:f its.toArray=its'.toArray) (hv:Vals ys its') (hz:ys.length <= sizeLine) :
  Inv X pins σ (upd H l (.lst ys)) { s with heap:=s.heap.update l (Obj.mapSeq f),toks:=t' }:=by
 have q:=PySem.IsL.update e f;rw [hf] at q;refine I.write (x:=l) (e:=l) (by rw [hH]; exact trivial) (.inl rfl) (fun b' u hb hu=>(Heap.get?_update_other s.heap (Obj.mapSeq f) (Ne.symm hb)).trans hu) ⟨_,q⟩ ?_;exact ⟨hz,its',_,hv,q⟩
theorem Inv.lnew {its:List Value} {t':Nat} (I:Inv X pins σ H s) (hv:Vals ys its) (hz:ys.length <= sizeLine) :
  Inv X pins σ (upd H s.heap.objs.size (.lst ys)) { s with heap:=s.heap.push { cls:=.type "list",data:=.seq its.toArray },toks:=t' } :=
 I.laid (fun _ _ q=>Heap.get?_push_of_some _ q) (le_refl _) ⟨hz,its,0,hv,Heap.get?_push_size _ rfl⟩
theorem Inv.fresh (I:Inv X pins σ H s):H s.heap.objs.size=none:=I.hok.fresh (le_refl _)
theorem Inv.lstM (I:Inv X pins σ H s) (hH:H l=some (.lst xs)):xs.length <= sizeLine/\∃ (its:List Value) (n:Nat),Vals xs its/\xs.length=its.length/\s.heap.get? l=some { cls:=.type "list",data:=.seq its.toArray n }:=by
 obtain ⟨z,its,n,r,e⟩:=I.hok l _ hH;exact ⟨z,its,n,r,r.length,e⟩
theorem notLongL {n:Nat} (h:n <= sizeLine):Builtin.List.listTooLong n=false:=by
 unfold Builtin.List.listTooLong;exact decide_eq_false (by omega)
end
section
variable {X:Cx}
def rAppend:V->List V->Hp->VK->Prop:=fun x vs H Q=>∃ l xs y,x=.ref l/\vs=[y]/\H l=some (.lst xs)/\xs.length < sizeLine/\Q .non (upd H l (.lst (xs++[y])))
theorem mt_append:MtM X "list.append" rAppend:=by
 intro pins s σ H x vs v us Q I rx rv h;obtain ⟨l,xs,y,rfl,rfl,hH,hz,q⟩:=h;cases rx;obtain ⟨u,rfl,ru⟩:=rv.one;obtain ⟨z,its,n,r,hl,e⟩:=I.lstM hH;refine call_meets F.slot_list_append ⟨_,e,rfl⟩ F.entry_list_append (F.args_list_append_2 _ _) (PySem.list_append l its.toArray n u (by rw [size_toArray]; omega)) ⟨e,?_⟩;refine ⟨.non,_,I.lset (its':=its++[u]) hH e (by simp) (r.append (.cons ru .nil)) ?_,rfl,q⟩;rw [length_append,List.length_singleton];omega
end
section
variable {prog:Program} {w:World} {A:Around} {E:Value->Shared->Prop} {s:Shared}
end
section
variable {X:Cx}
end
end L2
namespace Att
open PySem PySem.W PySem.Calls PyProof.Rows
theorem ints_of_wellAll {P:Params} {h:Heap}:∀ (ns:List Int) (vs:List Value),WellAll P h vs (ns.map WData.int)->IntsAre vs ns:=by
 intro ns
 induction ns with
 | nil =>
  intro vs w;rw [map_nil] at w;cases w;exact .nil
 | cons n ns ih =>
  intro vs w;rw [map_cons] at w;cases w with
  | cons a b =>
   cases a;exact .cons _ _ (ih _ b)
theorem script_of {l:OpenLaw} {n:Nat} (hn:l.most=some n) {P:Params} {h:Heap} {args:List WData} {vals:List Value}
  (hpre:l.row.toRowW.claim.pre args=true) (hwl:WellAll P h vals args) :
  ∃ a vs ns,vals=[Value.ref a]/\args=[WData.list (ns.map WData.int)]/\h.get? a=some { cls:=.type "list",data:=.seq vs.toArray }/\IntsAre vs ns/\ns.length <= n:=by
 have hsh:WShape.hasAll [] args [.list .int]=true:=(pre_splitW hpre).1;have hc:l.pre.holds [] { args:=args }=true:=(pre_splitW hpre).2;obtain ⟨d,r,rfl,h1,h2⟩:=hasAllW_cons hsh;obtain rfl:=hasAllW_nil h2;obtain ⟨xs,rfl,h3⟩:=hasW_list h1;obtain ⟨ns,rfl⟩:=items_int h3;have hlen:ns.length <= n:=by
  unfold OpenLaw.pre at hc;have h4:(WTm.not (.lt (.lit (.int (n:Int))) (.len (.arg 0)))).holds [] { args:=[.list (ns.map .int)] }=true:=by
   have h4:=(holds_andW hc).1;rw [hn] at h4;exact h4
  have h5:=condW_of h4 (w_not (w_lt w_lit (w_len_list (w_arg rfl))));rw [length_map] at h5;refine Nat.le_of_not_lt fun q=>?_;have q':(n:Int) < ((ns.length:Nat):Int):=by omega
  first
   | (rw [decide_eq_true q'] at h5; exact absurd h5 (by decide))
   | (simp at h5; omega)
 cases hwl with
 | cons w1 w2 =>
  cases w2;cases w1 with
  | list ho hall=>exact ⟨_,_,ns,rfl,rfl,ho,ints_of_wellAll ns _ hall,hlen⟩
theorem post_true (l:OpenLaw) (args:List WData):l.row.toRowW.claim.post args (.bool true) args=true :=
 postW_of (r:=l.row.toRowW) (X:=(true == true))
  (show WShape.has [] (.bool true) .bool=true by first | rfl | decide | simp [WShape.has,WShape.arms,WShape.armsAll])
  (show (WTm.eq .res (.lit (.bool true))).value [] { args:=args,res:=some (.bool true),after:=args }=some (.bool (true == true)) from w_eq_bool (w_res rfl) w_lit) rfl
theorem attach_call {l:OpenLaw} {n:Nat} {q:Program} {loose:List Str} {XP:(Str->Option Value)->Heap->Prop} {YP:World->Heap->Prop} {d:DefRec}
  (hn:l.most=some n) (hdf:d.params.defaults=[])
  (call:∀ (w:World) (s₀ s₁:Shared) (mg mb:Str->Option Value) (fa:Addr) (o:Obj) (pm cd doc:Value) (a:Addr) (vs:List Value) (ns:List Int),
   Ground q loose [] XP w s₀ mg mb s₁.heap->YP w s₁.heap ->
   s₁.heap.get? fa=some o->o.data=.func (docDef d.name d.params d.body d.scope pm cd doc)->s₁.heap.CodeRec cd d.name->mg d.name=some (.ref fa) ->
   s₁.heap.get? a=some { cls:=.type "list",data:=.seq vs.toArray }->IntsAre vs ns->ns.length <= n->s₁.gens=#[] ->
   codeAny (model l.prog w) callerA (.call (.ref fa) ⟨[.ref a],[]⟩) (fun r s'=>r=.ok (.ret (.bool true))/\OldK s₁.heap s'.heap/\s'.os=s₁.os/\AllBare s'.gens) s₁) :
  WalkO q loose XP YP l.row.toRowW d [] (fun f vs=>PySem.call f vs):=by
 intro w s₀ s₁ mg mb G Y fa o pm cd doc dV kV ho hd hcd hD hmg hg args vals as hpre hlay hrd hwl hlo;obtain rfl:dV=.none:=Dflts.none hD hdf;obtain rfl:kV=.none:=Dflts.noKw hD;obtain ⟨a,vs,ns,rfl,rfl,hobj,hints,hlen⟩:=script_of hn hpre hwl;refine enter_call (codeAny_mono (call w s₀ s₁ mg mb fa o pm cd doc a vs ns G Y ho (fd_plain hd) hcd hmg hobj hints hlen hg) fun r s' hq=>?_);obtain ⟨rfl,h2,h3,h4⟩:=hq;exact ⟨.inl ⟨.bool true,.bool true,[],rfl,fun _=>rfl,.bool true,post_true l _,fun _=>⟨List.Pairwise.nil,fun _ hm=>(nomatch hm)⟩⟩,h2,h3,h4⟩
section
variable {prog:Program} {w:World} {A:Around} {E:Value->Shared->Prop} {s:Shared} {K:Frag}
end
end Att
namespace L2
open PySem PySem.Spec PyProof.Rows
theorem vals_ints:∀ {vs:List Value} {ns:List Int},IntsAre vs ns->Vals (ns.map V.int) vs
 | _,_,.nil=>.nil
 | _,_,.cons n t h=>.cons ⟨t,rfl⟩ (vals_ints h)
def Only (H:Hp):Prop:=∀ b,H b=none \/ ∃ o xs,H b=some (.frz o (.lst xs))
theorem law_call {P:Program} {w:World} {K:Frag} {mg mb:Str->Option Value} {CX:CXT} {k:Nat} {fa a:Addr} {fd:FuncData} {x:Str} {sp:Sp} {s₁:Shared} {vs:List Value} {ns:List Int}
  (KX:K.In s₁.heap) (hns:s₁.heap.Ns mainGlobals mg) (hb:s₁.heap.Ns builtinsNs mb) (hbb:∀ x:Str,x ≠ "__name__"->mb x=bootBuiltins x) (hlim:s₁.heap.NoLimit) (hg:s₁.gens=#[])
  (ha:s₁.heap.get? a=some { cls:=.type "list",data:=.seq vs.toArray }) (hi:IntsAre vs ns) (hl:ns.length <= sizeLine) (hr:Room k callerA)
  (F:∀ base:Heap,K.In base->base.Ns mainGlobals mg->FnOk P w K mg base CX k fa fd [x] sp) (hbind:∀ (s:Shared) (u:Value),BindsTo s fd ⟨[u],[]⟩ [(x,u)])
  (hsp:∀ H:Hp,Only H->SqL K H a (ns.map V.int)->sp [.ref a] H (fun v _=>v=.bl true) fun _ _ _=>False)
  (hCX:∀ H e s',CX [] H s₁ (fun _ _ _=>False) e s'->False) :
  codeAny (model P w) callerA (.call (.ref fa) ⟨[.ref a],[]⟩) (fun r s'=>r=.ok (.ret (.bool true))/\OldK s₁.heap s'.heap/\s'.os=s₁.os/\AllBare s'.gens) s₁:=by
 have rv:=vals_ints hi;have lenV:=hi.length;have core:∀ H:Hp,Only H->SqL K H a (ns.map V.int)->HOk P w H s₁.heap->(∀ b,H b ≠ none->b=a)->(H a ≠ none->K.lookup a=none) ->
   codeAny (model P w) callerA (.call (.ref fa) ⟨[.ref a],[]⟩) (fun r s'=>r=.ok (.ret (.bool true))/\OldK s₁.heap s'.heap/\s'.os=s₁.os/\AllBare s'.gens) s₁:=by
  intro H hO hS hok hA hK;have base_of:∀ {b:Addr} {o:Obj},s₁.heap.get? b=some o->H b=none->(hidT s₁.heap H).get? b=some o:=fun e n=>hidT_get e n;have noA:∀ {b:Addr} {o:Obj} {es:Array DictEntry} {ep:Nat},s₁.heap.get? b=some o->o.data=.dict es ep->H b=none:=fun {b o es ep} e d=>by
   cases q:H b with
   | none=>rfl
   | some u =>
    have e':b=a:=hA b (by rw [q]; simp);subst e';rw [ha] at e; cases e;have d':Data.seq vs.toArray _=Data.dict es ep:=d;cases d'
  have nsK:∀ {b:Addr} {m:Str->Option Value},s₁.heap.Ns b m->(hidT s₁.heap H).Ns b m:=fun {b m} ⟨o,es,ep,e,d,r⟩=>⟨o,es,ep,base_of e (noA e d),d,r⟩;have hKb:K.In (hidT s₁.heap H):=fun b o e=>base_of (KX b o e) (by
   cases q:H b with
   | none=>rfl
   | some u =>
    have e':b=a:=hA b (by rw [q]; simp);subst e';rw [hK (by rw [q]; simp)] at e; cases e)
  have hM:Mod K mg (hidT s₁.heap H):=⟨hKb,nsK hns,⟨mb,nsK hb,hbb⟩,let ⟨mc,h1,h2⟩:=hlim; ⟨mc,nsK h1,h2⟩⟩;have e0:Env0 P w K mg (hidT s₁.heap H) callerA [] s₁ H:=⟨rfl,hM,fun b o e=>of_hidT e,Nat.le_of_eq (hidT_size _ _),trivial,fun b hb=>absurd (show b∈([]:List Addr) from hb) (by simp),hok,.of_eq hg⟩;refine codeAny_mono ((F _ hKb (nsK hns)).run callerA [] s₁ H ⟨[.ref a],[]⟩ [.ref a] [.ref a] _ _ hr e0 (hbind s₁ (.ref a)) (.cons rfl .nil) (hsp H hO hS)) fun r s' h=>?_;cases r with
  | error e=>exact (hCX H e s' h).elim
  | ok fl =>
   cases fl with
   | next=>exact False.elim h
   | brk=>exact False.elim h
   | cont=>exact False.elim h
   | ret u =>
    obtain ⟨v,H',os,bare,un,hok',r',q⟩:=h;have q':v=.bl true:=q;subst q';obtain rfl:u=Value.bool true:=r';refine ⟨rfl,OldK.of_keep fun b o e=>?_,os,bare⟩;cases q:H b with
    | none=>exact un.keep b o e q (by intro z; exact absurd (show b∈([]:List Addr) from z) (by simp)) (by simp)
    | some u =>
     rcases hO b with z | ⟨ob,xs,z⟩
     ·rw [q] at z; cases z
     ·have z2:=un.frzs b ob _ z
      obtain ⟨e1,_⟩:=hok b _ z;obtain ⟨e2,_⟩:=hok' b _ z2;rw [e] at e1; cases e1;exact e2
 cases hk:K.lookup a with
 | some o =>
  have e:=KX a o hk;rw [ha] at e;cases e;refine core (fun _=>none) (fun _=>.inl rfl) (.inr ⟨_,vs.toArray,_,hk,rfl,rfl,rfl,by rw [size_toArray,lenV]; exact hl,by simpa using rv⟩) (fun b u z=>by have z':(none:Option HO)=some u:=z; cases z') (fun b z=>absurd rfl z) fun z=>absurd rfl z
 | none =>
  refine core (fun b=>if b=a then some (.frz { cls:=.type "list",data:=.seq vs.toArray } (.lst (ns.map V.int))) else none) (fun b=>?_) (.inl (.inr ⟨{ cls:=.type "list",data:=.seq vs.toArray },if_pos rfl⟩)) (fun b u z=>?_) (fun b z=>?_) fun _=>hk
  ·by_cases hb:b=a
   ·exact .inr ⟨_,_,if_pos hb⟩
   ·exact .inl (if_neg hb)
  ·by_cases hb:b=a
   ·have z':=(if_pos hb).symm.trans z
    cases z';subst hb;exact ⟨ha,by rw [length_map]; exact hl,vs,_,rv,ha⟩
   ·have z':=(if_neg hb).symm.trans z
    cases z'
  ·by_cases hb:b=a
   ·exact hb
   ·exact absurd (if_neg hb) z
end L2
namespace L2
open PySem PySem.Spec PyProof.Rows
theorem _qhj {l:PySem.W.OpenLaw} {n k:Nat} {q:Program} {loose:List Str} {XP:(Str->Option Value)->Heap->Prop} {YP:World->Heap->Prop} {d:DefRec} {K:Params->Frag} {CX:World->CXT} {sp:World->Sp} {x:Str}
  (hn:l.most=some n) (hn2:n <= sizeLine) (hdf:d.params.defaults=[]) (hr:Room k callerA)
  (hY:∀ (w:World) (h:Heap),YP w h->(K w.params).In h)
  (F:∀ (w:World) (mg:Str->Option Value) (fa:Addr) (h:Heap),(K w.params).In h->h.Ns mainGlobals mg->mg d.name=some (.ref fa) ->
   ∃ fd:FuncData,(∀ (s:Shared) (u:Value),BindsTo s fd ⟨[u],[]⟩ [(x,u)]) /\
    ∀ base:Heap,(K w.params).In base->base.Ns mainGlobals mg->FnOk l.prog w (K w.params) mg base (CX w) k fa fd [x] (sp w))
  (hsp:∀ (w:World) (H:Hp) (a:Addr) (ns:List Int),ns.length <= n->Only H->SqL (K w.params) H a (ns.map V.int)->sp w [.ref a] H (fun v _=>v=.bl true) fun _ _ _=>False)
  (hCX:∀ (w:World) (H:Hp) (s:Shared) (e:Value) (s':Shared),CX w [] H s (fun _ _ _=>False) e s'->False) :
  PySem.W.WalkO q loose XP YP l.row.toRowW d [] (fun f vs=>PySem.call f vs):=by
 refine Att.attach_call hn hdf fun w s₀ s₁ mg mb fa o pm cd doc a vs ns G Y ho hd hcd hmg hobj hints hlen hg=>?_;have KX:=hY w _ Y;obtain ⟨fd,hb,hF⟩:=F w mg fa _ KX G.T.g hmg;exact law_call KX G.T.g G.T.b G.T.builtins G.T.nolimit hg hobj hints (le_trans hlen hn2) hr hF hb (fun H hO hS=>hsp w H a ns hlen hO hS) fun H e s'=>hCX w H s₁ e s'
end L2
namespace L2
open PySem PySem.Spec PyProof.Rows
def defArgs (s:Stmt):Arguments:=match s with
 | .FunctionDef _ a _ _ _ _ _ _ _ _=>a
 | _=>{ posonlyargs:=[],args:=[],vararg:=none,kwonlyargs:=[],kw_defaults:=[],kwarg:=none,defaults:=[] }
def defBody (s:Stmt):List Stmt:=match s with
 | .FunctionDef _ _ b _ _ _ _ _ _ _=>b
 | _=>[]
def defScope (s:Stmt):Scope:=match s with
 | .FunctionDef _ _ _ _ _ _ sc _ _ _=>sc
 | _=>{ kind:=.function,names:=[],isGenerator:=false,isCoroutine:=false }
abbrev CX0:CXT:=fun _ _ _ _ _ _=>False
abbrev E0:XK:=fun _ _ _=>False
theorem pass0 {X:Cx}:Passes CX0 X E0:=fun _ _ _ _ _ _ _ h=>h.elim
structure Fun (K:Frag) (x qual:Str) (st:Stmt) (f:Addr) (fd:FuncData):Prop where
 ex:∃ (oc:Value) (od:Option Addr) (kV doc pm:Value) (an:Option Addr) (cdv ct:Value) (osl:Array (Option Value)),
  fd=fnOf x qual (defArgs st) (defBody st) (defScope st) .none kV doc pm an cdv ct/\K.lookup f=some ⟨oc,od,.func fd,osl⟩/\codeIn K cdv qual=true
 kp:keepIn K (.ref f)=true
section
variable {P:Program} {w:World} {K:Frag} {mg:Str->Option Value} {base:Heap}
theorem Fun.ok {x qual:Str} {st:Stmt} {f:Addr} {fd:FuncData} {N ps:List Str} {k:Nat} {sp:Sp} (F:Fun K x qual st f fd) (S:FnScope N ps (defScope st)) (len:∀ vs H Q E,sp vs H Q E->vs.length=ps.length)
  (hbody:∀ (cdv:Value) (A:Around) (outer:List Env) (s:Shared) (H:Hp) (vs:List V) (Q:VK) (E:XK),Room k (A.deeper (envOfC qual (defScope st) s.heap.objs.size f cdv))->sp vs H Q E ->
   ∃ t,PSs (cxOf CX0 P w K mg base N qual (defScope st) f cdv A outer s H E).nox (defBody st) t/\t { nx:=fun _ H'=>Q .non H',rt:=Q } (start N vs) H):FnOk P w K mg base CX0 (k + 1) f fd ps sp:=by
 obtain ⟨oc,od,kV,doc,pm,an,cdv,ct,osl,rfl,lk,hcd⟩:=F.ex;refine fn_of lk hcd S len fun A outer s H vs Q E hr hsp=>?_;obtain ⟨t,h,q⟩:=hbody cdv A outer s H vs Q E hr hsp;exact ⟨t,h.nox,q⟩
theorem Fun.binds {x qual:Str} {st:Stmt} {f:Addr} {fd:FuncData} {ps:List Str} (F:Fun K x qual st f fd)
  (h:∀ (kV doc pm:Value) (an:Option Addr) (cdv ct:Value) (us:List Value),us.length=ps.length->bindArgs (fnOf x qual (defArgs st) (defBody st) (defScope st) .none kV doc pm an cdv ct) ⟨us,[]⟩=pure (ps.zip us)):Binds K fd ps []:=by
 obtain ⟨oc,od,kV,doc,pm,an,cdv,ct,osl,rfl,lk,hcd⟩:=F.ex;exact .all (h kV doc pm an cdv ct)
theorem fun_mk {x qual:Str} {st:Stmt} {f:Addr} {oc:Value} {od an:Option Addr} {osl:Array (Option Value)} {kV doc pm cdv ct:Value} (l:K.lookup f=some ⟨oc,od,.func (fnOf x qual (defArgs st) (defBody st) (defScope st) .none kV doc pm an cdv ct),osl⟩)
  (c:codeIn K cdv qual=true) (k:keepIn K (.ref f)=true):Fun K x qual st f (fnOf x qual (defArgs st) (defBody st) (defScope st) .none kV doc pm an cdv ct):=⟨⟨oc,od,kV,doc,pm,an,cdv,ct,osl,rfl,l,c⟩,k⟩
end
section
variable {X:Cx}
theorem pv (i:Nat) {x:Str} {pos:Pos} (hN:X.N[i]?=some x:=by rfl) (hv:Vis X.env.scope x:=by first | exact Or.inl rfl | exact Or.inr (Or.inl rfl) | exact Or.inr (Or.inr rfl)) (hd:(x == ("__debug__":Str))=false:=by decide)
  (hcd:(x == ("__classdict__":Str))=false:=by decide):PE X (.Name x pos) (tVar i):=pe_var hN hv hd hcd
end
theorem iteF {A B:Prop} (h:B):if false=true then A else B:=by
 rw [if_neg Bool.false_ne_true];exact h
theorem iteT {A B:Prop} (h:A):if true=true then A else B:=by
 rw [if_pos rfl];exact h
def Same (H H':Hp):Prop:=∀ b o,H b=some o->H' b=some o
theorem Same.refl (H:Hp):Same H H:=fun _ _ h=>h
theorem Same.trans {H H1 H2:Hp} (a:Same H H1) (b:Same H1 H2):Same H H2:=fun c o h=>b c o (a c o h)
theorem Same.free {H H':Hp} (e:Same H H') {l:Addr} (h:H' l=Option.none):H l=Option.none:=by
 cases q:H l with
 | none=>rfl
 | some o =>
  rw [e l o q] at h;cases h
theorem Same.seq {K:Frag} {H H':Hp} {a:Addr} {xs:List V} (e:Same H H') (h:SqL K H a xs):SqL K H' a xs:=by
 rcases h with (h | ⟨o,h⟩) | h
 ·exact .inl (.inl (e _ _ h))
 ·exact .inl (.inr ⟨o,e _ _ h⟩)
 ·exact .inr h
end L2
namespace DL
open PySem
inductive D where
 | non | bl (b:Bool) | int (i:Int) | str (x:Str) | lst (xs:List D) | tup (xs:List D)
inductive O where
 | sh (d:D) | lst (os:List O) | tup (os:List O)
mutual
def imm:D->Bool
 | .lst _=>false
 | .tup ds=>_qsy ds
 | _=>true
def _qsy:List D->Bool
 | []=>true
 | d :: ds=>imm d && _qsy ds
end
mutual
def oD:O->Option D
 | .sh d=>some d
 | .lst os=>(oDs os).map D.lst
 | .tup os=>(oDs os).map D.tup
def oDs:List O->Option (List D)
 | []=>some []
 | o :: os=>(oD o).bind fun d=>(oDs os).map fun ds=>d :: ds
end
mutual
def oim:O->Bool
 | .sh d=>imm d
 | .lst os=>_qst os
 | .tup os=>_qst os
def _qst:List O->Bool
 | []=>true
 | o :: os=>oim o && _qst os
end
def ow (ds:List D):O:=.lst (ds.map O.sh)
abbrev Cs:=List (Option O)
abbrev _qu7:=List (Option D)
abbrev FE:=_qu7->Option D
abbrev FO:=_qu7->Option O
abbrev FT:=_qu7->Option Bool
abbrev FA:=_qu7->Option (List D)
abbrev FAO:=_qu7->Option (List O)
def _qu4:Nat:=100000
def _qt7 (i:Nat):FE:=fun ρ=>(ρ[i]?).bind id
def fC (d:D):FE:=fun _=>some d
def f2 (g:D->D->Option D) (a b:FE):FE:=fun ρ=>(a ρ).bind fun x=>(b ρ).bind fun y=>g x y
def f1 (g:D->Option D) (a:FE):FE:=fun ρ=>(a ρ).bind g
def fL (f:FO):FE:=fun ρ=>(f ρ).bind oD
def oE (f:FE):FO:=fun ρ=>(f ρ).map O.sh
def qV (f:FE):FT:=fun ρ=>(f ρ).bind fun d=>match d with | .bl b=>some b | _=>none
def _qsn (f:FT):FT:=fun ρ=>(f ρ).map not
def qAnd (f g:FT):FT:=fun ρ=>(f ρ).bind fun x=>if x=true then g ρ else some false
def qOr (f g:FT):FT:=fun ρ=>(f ρ).bind fun x=>if x=true then some true else g ρ
def fB (f:FT):FE:=fun ρ=>(f ρ).map D.bl
def fNot (f:FE):FE:=fB (_qsn (qV f))
def _qta (f g:FE):FE:=fun ρ=>(qV f ρ).bind fun x=>if x=true then g ρ else some (.bl false)
def fOr (f g:FE):FE:=fun ρ=>(qV f ρ).bind fun x=>if x=true then some (.bl true) else g ρ
def fIf (c:FT) (f g:FE):FE:=fun ρ=>(c ρ).bind fun x=>if x=true then f ρ else g ρ
def _qty:FA:=fun _=>some []
def _d (f:FE) (g:FA):FA:=fun ρ=>(f ρ).bind fun d=>(g ρ).map fun ds=>d :: ds
def _qik:FAO:=fun _=>some []
def _Qs (f:FO) (g:FAO):FAO:=fun ρ=>(f ρ).bind fun d=>(g ρ).map fun ds=>d :: ds
def _qt8 (g:FA):FE:=fun ρ=>(g ρ).bind fun ds=>if ds.length <= _qu4 then some (.tup ds) else none
def _qsv (g:FA):FO:=fun ρ=>(g ρ).bind fun ds=>if ds.length <= _qu4 then some (ow ds) else none
def oLstO (g:FAO):FO:=fun ρ=>(g ρ).bind fun os=>if os.length <= _qu4 then some (.lst os) else none
def _qld (g:FAO):FO:=fun ρ=>(g ρ).bind fun os=>if os.length <= _qu4 then some (.tup os) else none
def _A (n:Nat) (g:List D->Option D) (f:FA):FE:=fun ρ=>(f ρ).bind fun ds=>if ds.length=n then g ds else none
def _Xa (n:Nat) (g:List D->Option O) (f:FA):FO:=fun ρ=>(f ρ).bind fun ds=>if ds.length=n then g ds else none
def _qt9 (g:List D->Option D) (f:FA):FE:=fun ρ=>(f ρ).bind g
def _qsw (g:List D->Option (List D)) (f:FA):FO:=fun ρ=>((f ρ).bind g).map ow
def o2 (g:D->D->Option (List D)) (a b:FE):FO:=fun ρ=>((a ρ).bind fun x=>(b ρ).bind fun y=>g x y).map ow
abbrev GE:=D->_qu7->Option _qu7
def geN (i:Nat):GE:=fun d ρ=>some (ρ.set i (some d))
def geT:List GE->List D->_qu7->Option _qu7
 | [],[],ρ=>some ρ
 | g :: gs,d :: ds,ρ=>(g d ρ).bind fun ρ'=>geT gs ds ρ'
 | _,_,_=>none
def _qt4 (gs:List GE):GE:=fun d ρ=>match d with
 | .tup ds=>geT gs ds ρ
 | _=>none
def mkD (js:List (Option Nat)) (ρ:_qu7):_qu7:=js.map fun o=>o.bind fun j=>(ρ[j]?).bind id
def _ji (g:GE) (c:FT) (e:FO):List D->_qu7->Option (List O)
 | [],_=>some []
 | d :: ds,ρ=>(g d ρ).bind fun ρ1=>(c ρ1).bind fun b=>if b=true then (e ρ1).bind fun y=>(_ji g c e ds ρ1).map fun ys=>y :: ys else _ji g c e ds ρ1
def qT:FT:=fun _=>some true
def _kv:D->Option (List D)
 | .lst ds=>some ds
 | _=>none
theorem _V2 {α:Type} (d:D) (k:List D->Option α):(_kv d).bind k=match d with
 | .lst ds=>k ds
 | _=>none:=by cases d <;> rfl
theorem _qhd {α:Type} (d d':D) (k:List D->List D->Option α):((_kv d).bind fun xs=>(_kv d').bind fun ys=>k xs ys)=match d,d' with
 | .lst xs,.lst ys=>k xs ys
 | _,_=>none:=by cases d <;> cases d' <;> rfl
def _qa (js:List (Option Nat)) (f:FE) (g:GE) (c:FT) (e:FO):FO:=fun ρ=>(f ρ).bind fun d=>(_kv d).bind fun ds=>if ds.length <= _qu4 then (_ji g c e ds (mkD js ρ)).map O.lst else none
def _qsm (lo:Int) (n:Nat):List D:=(List.range n).map fun (i:Nat)=>.int (lo + (i:Int))
def _qe6 (js:List (Option Nat)) (f:FA) (g:GE) (c:FT) (e:FO):FO:=fun ρ=>(f ρ).bind fun ds=>match ds with
 | [.int j]=>if 0 <= j/\j <= (_qu4:Int) then (_ji g c e (_qsm 0 j.toNat) (mkD js ρ)).map O.lst else none
 | _=>none
def _qez (ds:List D):List D:=(List.range ds.length).zipWith (fun (i:Nat) d=>.tup [.int (i:Int),d]) ds
def _qe7 (js:List (Option Nat)) (f:FE) (g:GE) (c:FT) (e:FO):FO:=fun ρ=>(f ρ).bind fun d=>(_kv d).bind fun ds=>if ds.length <= _qu4 then (_ji g c e (_qez ds) (mkD js ρ)).map O.lst else none
def _qs7 (xs ys:List D):List D:=List.zipWith (fun a b=>.tup [a,b]) xs ys
def _qcg (js:List (Option Nat)) (f h:FE) (g:GE) (c:FT) (e:FO):FO:=fun ρ=>(f ρ).bind fun d=>(h ρ).bind fun d'=>(_kv d).bind fun xs=>(_kv d').bind fun ys=>if xs.length <= _qu4/\ys.length <= _qu4 then (_ji g c e (_qs7 xs ys) (mkD js ρ)).map O.lst else none
inductive Out where
 | nx (ρ:Cs) | bk (ρ:Cs) | ct (ρ:Cs) | rt (o:O) (ρ:Cs) | ex (c:Str) (ρ:Cs)
abbrev Blk:=Cs->Option Out
def fzc:Option O->Option O
 | some o=>match oD o with | some d=>some (.sh d) | none=>some o
 | none=>none
def frz:List Bool->Cs->_qu7
 | b :: S,c :: ρ=>(if b=true then c.bind oD else none) :: frz S ρ
 | _,_=>[]
def fz:List Bool->Cs->Cs
 | b :: S,c :: ρ=>(if b=true then fzc c else c) :: fz S ρ
 | _,ρ=>ρ
def all (ρ:Cs):_qu7:=ρ.map fun c=>c.bind oD
abbrev FM:=Cs->Option (O × Cs)
def mE (S:List Bool) (f:FE):FM:=fun ρ=>(f (frz S ρ)).map fun d=>(.sh d,if imm d=true then ρ else fz S ρ)
def mO (S:List Bool) (f:FO):FM:=fun ρ=>(f (frz S ρ)).map fun o=>(o,if oim o=true then ρ else fz S ρ)
def mMv (i:Nat):FM:=fun ρ=>((ρ[i]?).bind id).map fun o=>(o,ρ.set i none)
def _qtt:Blk:=fun ρ=>some (.nx ρ)
def _qtr (b c:Blk):Blk:=fun ρ=>match b ρ with
 | some (.nx ρ')=>c ρ'
 | o=>o
def _qtq (i:Nat) (f:FM):Blk:=fun ρ=>(f ρ).map fun p=>.nx (p.2.set i (some p.1))
def _qts (f:FM):Blk:=fun ρ=>(f ρ).map fun p=>.rt p.1 p.2
def bRetN:Blk:=fun ρ=>some (.rt (.sh .non) ρ)
def bExpr (f:FM):Blk:=fun ρ=>(f ρ).map fun p=>.nx p.2
def bIf (c:FT) (a b:Blk):Blk:=fun ρ=>(c (DL.all ρ)).bind fun t=>if t=true then a ρ else b ρ
def bPass:Blk:=fun ρ=>some (.nx ρ)
def bBrk:Blk:=fun ρ=>some (.bk ρ)
def bCnt:Blk:=fun ρ=>some (.ct ρ)
def bNever:Blk:=fun _=>none
abbrev GD:=D->Cs->Option Cs
def gN (i:Nat):GD:=fun d ρ=>some (ρ.set i (some (.sh d)))
def gT:List GD->List D->Cs->Option Cs
 | [],[],ρ=>some ρ
 | g :: gs,d :: ds,ρ=>(g d ρ).bind fun ρ'=>gT gs ds ρ'
 | _,_,_=>none
def gTp (gs:List GD):GD:=fun d ρ=>match d with
 | .tup ds=>gT gs ds ρ
 | _=>none
def bUnp (S:List Bool) (f:FE) (g:GD):Blk:=fun ρ=>(f (frz S ρ)).bind fun d=>(g d (fz S ρ)).map Out.nx
def _qt6 (g:GD) (b:Blk):List D->Blk
 | [],ρ=>some (.nx ρ)
 | d :: ds,ρ=>(g d ρ).bind fun ρ1=>match b ρ1 with
  | some (.nx ρ2)=>_qt6 g b ds ρ2
  | some (.ct ρ2)=>_qt6 g b ds ρ2
  | some (.bk ρ2)=>some (.nx ρ2)
  | o=>o
def _qtu (S:List Bool) (f:FE) (g:GD) (b:Blk):Blk:=fun ρ=>(f (frz S ρ)).bind fun d=>(_kv d).bind fun ds=>_qt6 g b ds (fz S ρ)
def bForR (S:List Bool) (f:FA) (g:GD) (b:Blk):Blk:=fun ρ=>(f (frz S ρ)).bind fun ds=>match ds with
 | [.int j]=>if -1000000 <= j/\j <= 1000000 then _qt6 g b (_qsm 0 j.toNat) ρ else none
 | _=>none
def _Yv (c:FT) (b:Blk):Nat->Blk
 | 0,_=>none
 | n + 1,ρ=>(c (DL.all ρ)).bind fun t=>if t=true then match b ρ with
   | some (.nx ρ2)=>_Yv c b n ρ2
   | some (.ct ρ2)=>_Yv c b n ρ2
   | some (.bk ρ2)=>some (.nx ρ2)
   | o=>o
  else some (.nx ρ)
theorem bind_some {α β:Type} {o:Option α} {f:α->Option β} {y:β} (h:o.bind f=some y):∃ x,o=some x/\f x=some y:=by
 cases o with
 | none=>cases h
 | some x=>exact ⟨x,rfl,h⟩
theorem map_some {α β:Type} {o:Option α} {f:α->β} {y:β} (h:o.map f=some y):∃ x,o=some x/\f x=y:=by
 cases o with
 | none=>cases h
 | some x=>exact ⟨x,rfl,Option.some.inj h⟩
theorem _wg {c:FT} {b:Blk}:∀ {n m:Nat} {ρ:Cs} {o:Out},_Yv c b n ρ=some o->n <= m->_Yv c b m ρ=some o
 | 0,_,_,_,h,_=>by cases h
 | n + 1,0,_,_,_,h=>by omega
 | n + 1,m + 1,ρ,o,h,hl=>by
  unfold _Yv at h ⊢;obtain ⟨t,ht,h⟩:=bind_some h;rw [ht];show (if t=true then _ else _)=some o;split at h
  ·rename_i htt
   rw [if_pos htt];cases hb:b ρ with
   | none=>rw [hb] at h; cases h
   | some o1 =>
    rw [hb] at h;cases o1 with
    | nx ρ2=>exact _wg h (by omega)
    | ct ρ2=>exact _wg h (by omega)
    | bk ρ2=>exact h
    | rt d ρ2=>exact h
    | ex d ρ2=>exact h
  ·rename_i htt
   rw [if_neg htt]; exact h
open Classical in
noncomputable def _wo (c:FT) (b:Blk):Blk:=fun ρ=>if h:∃ n o,_Yv c b n ρ=some o then _Yv c b (choose h) ρ else none
theorem _qbx {c:FT} {b:Blk} {n:Nat} {ρ:Cs} {o:Out} (h:_Yv c b n ρ=some o):_wo c b ρ=some o:=by
 have h':∃ n o,_Yv c b n ρ=some o:=⟨n,o,h⟩;unfold _wo;rw [dif_pos h'];obtain ⟨o',ho⟩:=Classical.choose_spec h';have e1:=_wg h (Nat.le_max_left n (Classical.choose h'));have e2:=_wg ho (Nat.le_max_right n (Classical.choose h'));rw [e1] at e2;cases e2;exact ho
theorem _qb3 {c:FT} {b:Blk} {ρ:Cs} {o:Out} (h:_wo c b ρ=some o):∃ n,_Yv c b n ρ=some o:=by
 unfold _wo at h;split at h
 ·exact ⟨_,h⟩
 ·cases h
inductive Stp where
 | ix (i:Int) | fl (x:Str)
def ixP (n:Nat) (i:Int):Option Nat:=if 0 <= i then (if i < n then some i.toNat else none) else if -(n:Int) <= i then some (i + n).toNat else none
def atP {α:Type} (xs:List α) (i:Int):Option α:=(ixP xs.length i).bind fun j=>xs[j]?
def plc:O->Stp->Option Nat
 | .lst os,.ix i=>ixP os.length i
 | .tup os,.ix i=>ixP os.length i
 | _,_=>none
def kids:O->List O
 | .lst os=>os
 | .tup os=>os
 | _=>[]
def reset:O->List O->O
 | .lst _,os=>.lst os
 | .tup _,os=>.tup os
 | o,_=>o
def atO (g:O->Option O):List Stp->O->Option O
 | [],o=>g o
 | s :: p,o=>(plc o s).bind fun n=>((kids o)[n]?).bind fun c=>(atO g p c).map fun c'=>reset o ((kids o).set n c')
def _qt3:List Stp->O->Option O
 | [],o=>some o
 | s :: p,o=>(plc o s).bind fun n=>((kids o)[n]?).bind fun c=>_qt3 p c
abbrev FP:=_qu7->Option (List Stp)
def _qsr:FP:=fun _=>some []
def _qt5 (o:O):O->Option O
 | .lst os=>if os.length < _qu4 then some (.lst (os++[o])) else none
 | _=>none
def gSetI (i:Int) (o:O):O->Option O
 | .lst os=>(ixP os.length i).map fun n=>.lst (os.set n o)
 | _=>none
def gExt (ds:List D):O->Option O
 | .lst os=>if os.length + ds.length <= _qu4 then some (.lst (os++ds.map O.sh)) else none
 | _=>none
def isL:O->Bool
 | .lst _=>true
 | _=>false
def bMut (i:Nat) (S:List Bool) (p:FP) (f:FM) (g:O->O->Option O):Blk:=fun ρ=>(p (frz S ρ)).bind fun q=>((ρ[i]?).bind id).bind fun c0=>(_qt3 q c0).bind fun m=>if isL m=true then
  (f ρ).bind fun r=>((r.2[i]?).bind id).bind fun c=>(atO (g r.1) q c).map fun c'=>.nx (r.2.set i (some c')) else none
def bPut (i:Nat) (S:List Bool) (p:FP) (k:FE) (f:FM):Blk:=fun ρ=>(f ρ).bind fun r=>(p (frz S r.2)).bind fun q=>(k (frz S r.2)).bind fun d=>((r.2[i]?).bind id).bind fun c=>match d with
 | .int j=>(atO (gSetI j r.1) q c).map fun c'=>.nx (r.2.set i (some c'))
 | _=>none
def bExt (i:Nat) (S:List Bool) (p:FP) (f:FE):Blk:=fun ρ=>(p (frz S ρ)).bind fun q=>(f (frz S ρ)).bind fun d=>((ρ[i]?).bind id).bind fun c=>match d with
 | .lst ds=>if _qsy ds=true then (atO (gExt ds) q c).map fun c'=>.nx (ρ.set i (some c')) else none
 | _=>none
def ini (m:Nat) (ds:List D):Cs:=ds.map (fun d=>some (.sh d))++List.replicate (m - ds.length) none
def _qsi (m:Nat) (b:Blk):List D->Option O:=fun ds=>match b (ini m ds) with
 | some (.rt o _)=>some o
 | some (.nx _)=>some (.sh .non)
 | _=>none
def _qsk (m:Nat) (b:Blk):List D->Option D:=fun ds=>(_qsi m b ds).bind oD
def BIG:Nat:=2 ^ 1000000
def BIGD:Nat:=2 ^ 9000
def SHORT:Nat:=2 ^ 63
def _qi0 (i j:Int):Prop:=(i.natAbs < BIG/\j.natAbs < BIG) \/ i.natAbs < SHORT \/ j.natAbs < SHORT
instance (i j:Int):Decidable (_qi0 i j):=inferInstanceAs (Decidable (_ \/ _ \/ _))
def dI (g:Int->Int->Int):D->D->Option D
 | .int i,.int j=>some (.int (g i j))
 | _,_=>none
def dB (g:Int->Int->Bool):D->D->Option D
 | .int i,.int j=>some (.bl (g i j))
 | _,_=>none
def _qtl:D->D->Option D
 | .int i,.int j=>some (.int (i + j))
 | .str x,.str y=>if x.length + y.length <= _qu4 then some (.str (x++y)) else none
 | _,_=>none
def dSub:D->D->Option D:=dI fun i j=>i - j
def _qte:D->D->Option D
 | .int i,.int j=>if _qi0 i j then some (.int (i * j)) else none
 | _,_=>none
def _qti:D->D->Option D
 | .int i,.int j=>if j ≠ 0/\j.natAbs < BIGD then some (.int (i.fdiv j)) else none
 | _,_=>none
def _qtf:D->D->Option D
 | .int i,.int j=>if j ≠ 0 then some (.int (i.fmod j)) else none
 | _,_=>none
def dPow:D->D->Option D
 | .int i,.int j=>if 0 <= j/\j <= 1000/\i.natAbs < 1000 then some (.int (i ^ j.toNat)) else none
 | _,_=>none
def dNeg:D->Option D
 | .int i=>some (.int (-i))
 | _=>none
def dLt:D->D->Option D:=dB fun i j=>decide (i < j)
def dLe:D->D->Option D:=dB fun i j=>decide (i <= j)
def dGt:D->D->Option D:=dB fun i j=>decide (j < i)
def dGe:D->D->Option D:=dB fun i j=>decide (j <= i)
mutual
def eqD:D->D->Bool
 | .non,.non=>true
 | .bl a,.bl b=>a == b
 | .int i,.int j=>i == j
 | .bl a,.int j=>(if a=true then 1 else 0) == j
 | .int i,.bl b=>i == (if b=true then 1 else 0)
 | .str x,.str y=>x == y
 | .lst xs,.lst ys=>_qtb xs ys
 | .tup xs,.tup ys=>_qtb xs ys
 | _,_=>false
def _qtb:List D->List D->Bool
 | [],[]=>true
 | x :: xs,y :: ys=>eqD x y && _qtb xs ys
 | _,_=>false
end
mutual
def shp:Nat->D->Bool
 | _,.non=>true
 | _,.bl _=>true
 | _,.int _=>true
 | _,.str x=>x.cps.all (· < 0x110000)
 | 0,.lst _=>false
 | n + 1,.lst xs=>_qsg n xs
 | 0,.tup _=>false
 | n + 1,.tup xs=>_qsg n xs
def _qsg:Nat->List D->Bool
 | _,[]=>true
 | n,x :: xs=>shp n x && _qsg n xs
end
def dEq (x y:D):Option D:=if shp 20 x=true/\shp 20 y=true then some (.bl (eqD x y)) else none
def dNe (x y:D):Option D:=if shp 20 x=true/\shp 20 y=true then some (.bl (!eqD x y)) else none
def dIs:D->D->Option D
 | .bl a,.bl b=>some (.bl (a == b))
 | x,.non=>match x with | .non=>some (.bl true) | _=>some (.bl false)
 | _,_=>none
def _qth:D->D->Option D
 | .bl a,.bl b=>some (.bl (a != b))
 | x,.non=>match x with | .non=>some (.bl false) | _=>some (.bl true)
 | _,_=>none
def dIn:D->D->Option D
 | x,.lst ds=>if shp 20 x=true/\shp 20 (.lst ds)=true then some (.bl (ds.any fun y=>eqD y x)) else none
 | x,.tup ds=>if shp 20 x=true/\shp 20 (.tup ds)=true then some (.bl (ds.any fun y=>eqD y x)) else none
 | _,_=>none
def _Q8:D->D->Option D
 | x,.lst ds=>if shp 20 x=true/\shp 20 (.lst ds)=true then some (.bl (!ds.any fun y=>eqD y x)) else none
 | x,.tup ds=>if shp 20 x=true/\shp 20 (.tup ds)=true then some (.bl (!ds.any fun y=>eqD y x)) else none
 | _,_=>none
def dIx:D->D->Option D
 | .lst xs,.int i=>atP xs i
 | .tup xs,.int i=>atP xs i
 | _,_=>none
def _qtg:List D->Option D
 | [.lst xs]=>some (.int xs.length)
 | [.tup xs]=>some (.int xs.length)
 | _=>none
def dAbs:List D->Option D
 | [.int i]=>some (.int (if i < 0 then -i else i))
 | _=>none
def dMax2:List D->Option D
 | [.int i,.int j]=>some (.int (if j > i then j else i))
 | _=>none
def _qng:List D->Option D
 | [.int i,.int j]=>some (.int (if j < i then j else i))
 | _=>none
def tyD:D->String
 | .non=>"NoneType"
 | .bl _=>"bool"
 | .int _=>"int"
 | .str _=>"str"
 | .lst _=>"list"
 | .tup _=>"tuple"
def isT (d:D) (T:String):Bool:=tyD d == T || (tyD d == "bool" && T == "int")
def _qsx (T:String):D->Option D
 | d=>some (.bl (isT d T))
def fIsi (T:String) (f:FE):FE:=fun ρ=>(f ρ).bind (_qsx T)
def _qtj:D->D->Option (List D)
 | .lst xs,.lst ys=>if xs.length + ys.length <= _qu4 then some (xs++ys) else none
 | _,_=>none
def slI (n d:Nat):Option Int->Nat
 | none=>d
 | some v=>if v < 0 then (v + n).toNat else min v.toNat n
def _qtm {α:Type} (xs:List α) (lo hi:Option Int):List α:=(xs.drop (slI xs.length 0 lo)).take (slI xs.length xs.length hi - slI xs.length 0 lo)
abbrev FPt:=_qu7->Option (Option Int)
def ptN:FPt:=fun _=>some none
def ptE (f:FE):FPt:=fun ρ=>(f ρ).bind fun d=>match d with
 | .int i=>some (some i)
 | _=>none
def oSl (f:FE) (lo hi:FPt):FO:=fun ρ=>(f ρ).bind fun d=>(lo ρ).bind fun l=>(hi ρ).bind fun h=>(_kv d).bind fun ds=>some (ow (_qtm ds l h))
def sumD:List D->Int->Option Int
 | [],a=>some a
 | .int i :: ds,a=>sumD ds (a + i)
 | _,_=>none
def dSum:List D->Option D
 | [.lst ds]=>(sumD ds 0).map D.int
 | _=>none
def _qcr:List D->Option (List Bool)
 | []=>some []
 | .bl b :: ds=>(_qcr ds).map fun r=>b :: r
 | _=>none
def _qtk:List D->Option D
 | [.lst ds]=>(_qcr ds).map fun bs=>D.bl (bs.all id)
 | _=>none
def _Zd:List D->Option (List D)
 | [.lst ds]=>some ds
 | [.tup ds]=>some ds
 | _=>none
def dTuple:List D->Option D
 | [.lst ds]=>some (.tup ds)
 | [.tup ds]=>some (.tup ds)
 | _=>none
end DL
namespace DL
open PySem
section
variable {ρ:_qu7} {σ:Cs} {f g:FE} {a:FA} {p q:FT} {o:FO}
@[simp] theorem _qqn {i:Nat}:_qt7 i ρ=(ρ[i]?).bind id:=rfl
@[simp] theorem fC_ap {d:D}:fC d ρ=some d:=rfl
@[simp] theorem f2_ap {o:D->D->Option D}:f2 o f g ρ=(f ρ).bind fun x=>(g ρ).bind fun y=>o x y:=rfl
@[simp] theorem f1_ap {o:D->Option D}:f1 o f ρ=(f ρ).bind o:=rfl
@[simp] theorem fL_ap:fL o ρ=(o ρ).bind oD:=rfl
@[simp] theorem oE_ap:oE f ρ=(f ρ).map O.sh:=rfl
@[simp] theorem qV_ap:qV f ρ=(f ρ).bind fun d=>match d with | .bl b=>some b | _=>none:=rfl
@[simp] theorem qT_ap:qT ρ=some true:=rfl
@[simp] theorem _qq0:_qsn p ρ=(p ρ).map not:=rfl
@[simp] theorem _qq1:qAnd p q ρ=(p ρ).bind fun x=>if x=true then q ρ else some false:=rfl
@[simp] theorem _qrb:qOr p q ρ=(p ρ).bind fun x=>if x=true then some true else q ρ:=rfl
@[simp] theorem fB_ap:fB p ρ=(p ρ).map D.bl:=rfl
@[simp] theorem _qqp:fNot f ρ=((qV f ρ).map not).map D.bl:=rfl
@[simp] theorem _qqs:_qta f g ρ=(qV f ρ).bind fun x=>if x=true then g ρ else some (.bl false):=rfl
@[simp] theorem _qrq:fOr f g ρ=(qV f ρ).bind fun x=>if x=true then some (.bl true) else g ρ:=rfl
@[simp] theorem _qrr:fIf p f g ρ=(p ρ).bind fun x=>if x=true then f ρ else g ρ:=rfl
@[simp] theorem _qr9:_qty ρ=some []:=rfl
@[simp] theorem _qpu:_d f a ρ=(f ρ).bind fun d=>(a ρ).map fun ds=>d :: ds:=rfl
@[simp] theorem _qpr:_qik ρ=some []:=rfl
@[simp] theorem _qoe {h:FAO}:_Qs o h ρ=(o ρ).bind fun d=>(h ρ).map fun ds=>d :: ds:=rfl
@[simp] theorem _qqo:_qt8 a ρ=(a ρ).bind fun ds=>if ds.length <= _qu4 then some (.tup ds) else none:=rfl
@[simp] theorem _qq5:_qsv a ρ=(a ρ).bind fun ds=>if ds.length <= _qu4 then some (ow ds) else none:=rfl
@[simp] theorem _qor {h:FAO}:oLstO h ρ=(h ρ).bind fun ds=>if ds.length <= _qu4 then some (.lst ds) else none:=rfl
@[simp] theorem _qoq {h:FAO}:_qld h ρ=(h ρ).bind fun ds=>if ds.length <= _qu4 then some (.tup ds) else none:=rfl
@[simp] theorem _qpb {n:Nat} {h:List D->Option D}:_A n h a ρ=(a ρ).bind fun ds=>if ds.length=n then h ds else none:=rfl
@[simp] theorem _qot {n:Nat} {h:List D->Option O}:_Xa n h a ρ=(a ρ).bind fun ds=>if ds.length=n then h ds else none:=rfl
@[simp] theorem _qqr {h:List D->Option D}:_qt9 h a ρ=(a ρ).bind h:=rfl
@[simp] theorem _qq8 {h:List D->Option (List D)}:_qsw h a ρ=((a ρ).bind h).map ow:=rfl
@[simp] theorem o2_ap {h:D->D->Option (List D)}:o2 h f g ρ=((f ρ).bind fun x=>(g ρ).bind fun y=>h x y).map ow:=rfl
@[simp] theorem _qqq {T:String}:fIsi T f ρ=(f ρ).bind (_qsx T):=rfl
@[simp] theorem _qp3 {T:String} {i:Int}:_qsx T (.int i)=some (.bl (isT (.int i) T)):=rfl
@[simp] theorem _qqc {T:String} {i:Bool}:_qsx T (.bl i)=some (.bl (isT (.bl i) T)):=rfl
@[simp] theorem _qp0 {T:String} {i:Str}:_qsx T (.str i)=some (.bl (isT (.str i) T)):=rfl
@[simp] theorem _qp1 {T:String}:_qsx T .non=some (.bl (isT .non T)):=rfl
@[simp] theorem _qp2 {T:String} {i:List D}:_qsx T (.lst i)=some (.bl (isT (.lst i) T)):=rfl
@[simp] theorem _qoz {T:String} {i:List D}:_qsx T (.tup i)=some (.bl (isT (.tup i) T)):=rfl
@[simp] theorem mE_ap {S:List Bool}:mE S f σ=(f (frz S σ)).map fun d=>(.sh d,if imm d=true then σ else fz S σ):=rfl
@[simp] theorem mO_ap {S:List Bool}:mO S o σ=(o (frz S σ)).map fun o=>(o,if oim o=true then σ else fz S σ):=rfl
@[simp] theorem _qrf {i:Nat}:mMv i σ=((σ[i]?).bind id).map fun o=>(o,σ.set i none):=rfl
@[simp] theorem _qr1 {b c:Blk}:_qtr b c σ=(match b σ with | some (.nx ρ')=>c ρ' | o=>o):=rfl
@[simp] theorem _qr3:_qtt σ=some (.nx σ):=rfl
@[simp] theorem _qpo:bPass σ=some (.nx σ):=rfl
@[simp] theorem _qr6:bBrk σ=some (.bk σ):=rfl
@[simp] theorem _qr5:bCnt σ=some (.ct σ):=rfl
@[simp] theorem _qr0 {i:Nat} {m:FM}:_qtq i m σ=(m σ).map fun p=>.nx (p.2.set i (some p.1)):=rfl
@[simp] theorem _qr2 {m:FM}:_qts m σ=(m σ).map fun p=>.rt p.1 p.2:=rfl
@[simp] theorem _qpn:bRetN σ=some (.rt (.sh .non) σ):=rfl
@[simp] theorem _qpp {m:FM}:bExpr m σ=(m σ).map fun p=>.nx p.2:=rfl
@[simp] theorem _qs6 {b c:Blk}:bIf p b c σ=(p (all σ)).bind fun t=>if t=true then b σ else c σ:=rfl
@[simp] theorem _qqm {S:List Bool}:frz S []=[]:=by cases S <;> rfl
@[simp] theorem frz_t {S:List Bool} {c:Option O}:frz (true :: S) (c :: σ)=c.bind oD :: frz S σ:=rfl
@[simp] theorem frz_f {S:List Bool} {c:Option O}:frz (false :: S) (c :: σ)=none :: frz S σ:=rfl
@[simp] theorem _qrp {S:List Bool}:fz S []=[]:=by cases S <;> rfl
@[simp] theorem _qql:fz [] σ=σ:=by cases σ <;> rfl
@[simp] theorem fz_t {S:List Bool} {c:Option O}:fz (true :: S) (c :: σ)=fzc c :: fz S σ:=rfl
@[simp] theorem fz_f {S:List Bool} {c:Option O}:fz (false :: S) (c :: σ)=c :: fz S σ:=rfl
@[simp] theorem _qp9:fzc none=none:=rfl
@[simp] theorem _qro {d:D}:fzc (some (.sh d))=some (.sh d):=by simp [fzc,oD]
@[simp] theorem _qr8:all []=[]:=rfl
@[simp] theorem _qps {c:Option O}:all (c :: σ)=c.bind oD :: all σ:=rfl
@[simp] theorem oD_sh {d:D}:oD (.sh d)=some d:=by simp [oD]
@[simp] theorem _qq7 {ds:List D}:oDs (ds.map O.sh)=some ds:=by
 induction ds with
 | nil=>simp [oDs]
 | cons d ds ih=>simp [oDs,ih]
@[simp] theorem oD_ow {ds:List D}:oD (ow ds)=some (.lst ds):=by simp [ow,oD]
@[simp] theorem _J9 {os:List O}:oD (.lst os)=(oDs os).map D.lst:=by simp [oD]
@[simp] theorem _qre {os:List O}:oD (.tup os)=(oDs os).map D.tup:=by simp [oD]
@[simp] theorem _qq6:oDs []=some []:=by simp [oDs]
@[simp] theorem _qos {x:O} {xs:List O}:oDs (x :: xs)=(oD x).bind fun d=>(oDs xs).map fun ds=>d :: ds:=by simp [oDs]
@[simp] theorem _qp8 {ds:List D}:fzc (some (ow ds))=some (.sh (.lst ds)):=by simp [fzc]
@[simp] theorem _qqj {i:Int}:imm (.int i)=true:=by simp [imm]
@[simp] theorem _qrn {i:Bool}:imm (.bl i)=true:=by simp [imm]
@[simp] theorem _qqf {i:Str}:imm (.str i)=true:=by simp [imm]
@[simp] theorem _qqh:imm .non=true:=by simp [imm]
@[simp] theorem _qqi {ds:List D}:imm (.lst ds)=false:=by simp [imm]
@[simp] theorem _qqe {ds:List D}:imm (.tup ds)=_qsy ds:=by simp [imm]
@[simp] theorem _qp5:_qsy []=true:=by simp [_qsy]
@[simp] theorem _qo5 {d:D} {ds:List D}:_qsy (d :: ds)=(imm d && _qsy ds):=by simp [_qsy]
@[simp] theorem _qo4 {ns:List Int}:_qsy (ns.map D.int)=true:=by
 induction ns with
 | nil=>simp
 | cons n ns ih=>simp [ih]
theorem _Yy {ds:List D}:_qsy ds=true ↔ ∀ d∈ds,imm d=true:=by
 induction ds with
 | nil=>simp
 | cons d ds ih=>simp [ih]
@[simp] theorem _qrc {d:D}:oim (.sh d)=imm d:=by simp [oim]
@[simp] theorem _qq4 {os:List O}:oim (.lst os)=_qst os:=by simp [oim]
@[simp] theorem _qq3 {os:List O}:oim (.tup os)=_qst os:=by simp [oim]
@[simp] theorem _qoo:_qst []=true:=by simp [_qst]
@[simp] theorem _qo0 {x:O} {xs:List O}:_qst (x :: xs)=(oim x && _qst xs):=by simp [_qst]
@[simp] theorem _qop {ds:List D}:_qst (ds.map O.sh)=_qsy ds:=by
 induction ds with
 | nil=>simp
 | cons d ds ih=>simp [ih]
@[simp] theorem _qrd {ds:List D}:oim (ow ds)=_qsy ds:=by simp [ow]
@[simp] theorem dI_ap {o:Int->Int->Int} {i j:Int}:dI o (.int i) (.int j)=some (.int (o i j)):=rfl
@[simp] theorem dB_ap {o:Int->Int->Bool} {i j:Int}:dB o (.int i) (.int j)=some (.bl (o i j)):=rfl
@[simp] theorem _qqz {i j:Int}:_qtl (.int i) (.int j)=some (.int (i + j)):=rfl
@[simp] theorem _qqt {i j:Int}:dSub (.int i) (.int j)=some (.int (i - j)):=rfl
@[simp] theorem _qrv {i j:Int}:dLt (.int i) (.int j)=some (.bl (decide (i < j))):=rfl
@[simp] theorem _qry {i j:Int}:dLe (.int i) (.int j)=some (.bl (decide (i <= j))):=rfl
@[simp] theorem _qs0 {i j:Int}:dGt (.int i) (.int j)=some (.bl (decide (j < i))):=rfl
@[simp] theorem _qs1 {i j:Int}:dGe (.int i) (.int j)=some (.bl (decide (j <= i))):=rfl
@[simp] theorem _qqu {i:Int}:dNeg (.int i)=some (.int (-i)):=rfl
theorem _q9 {i j:Int} (h:i.natAbs < BIG) (h':j.natAbs < BIG):_qte (.int i) (.int j)=some (.int (i * j)):=by
 have:_qi0 i j:=.inl ⟨h,h'⟩
 simp [_qte,this]
theorem _qf4 {i j:Int} (h:i.natAbs < 2 ^ 63):_qte (.int i) (.int j)=some (.int (i * j)):=by
 have:_qi0 i j:=.inr (.inl h)
 simp [_qte,this]
theorem _qh6 {i j:Int} (h:j.natAbs < 2 ^ 63):_qte (.int i) (.int j)=some (.int (i * j)):=by
 have:_qi0 i j:=.inr (.inr h)
 simp [_qte,this]
theorem _wi {i j:Int} (h:j ≠ 0) (h':j.natAbs < BIGD):_qti (.int i) (.int j)=some (.int (i.fdiv j)):=by simp [_qti,h,h']
theorem _x2 {i j:Int} (h:j ≠ 0):_qtf (.int i) (.int j)=some (.int (i.fmod j)):=by simp [_qtf,h]
@[simp] theorem _qs3 {i j:Int}:dEq (.int i) (.int j)=some (.bl (i == j)):=by simp [dEq,shp,eqD]
@[simp] theorem _qrt {i j:Int}:dNe (.int i) (.int j)=some (.bl (i != j)):=by simp [dNe,shp,eqD,bne]
@[simp] theorem _qs4 {i j:Bool}:dEq (.bl i) (.bl j)=some (.bl (i == j)):=by simp [dEq,shp,eqD]
@[simp] theorem _qru {i j:Bool}:dNe (.bl i) (.bl j)=some (.bl (i != j)):=by simp [dNe,shp,eqD,bne]
@[simp] theorem _qs2 {a b c d:Int}:dEq (.tup [.int a,.int b]) (.tup [.int c,.int d])=some (.bl (a == c && b == d)):=by simp [dEq,shp,_qsg,eqD,_qtb]
@[simp] theorem _qrs {a b c d:Int}:dNe (.tup [.int a,.int b]) (.tup [.int c,.int d])=some (.bl (!(a == c && b == d))):=by simp [dNe,shp,_qsg,eqD,_qtb]
@[simp] theorem _qrz {i j:Bool}:dIs (.bl i) (.bl j)=some (.bl (i == j)):=rfl
@[simp] theorem _qqx {i j:Bool}:_qth (.bl i) (.bl j)=some (.bl (i != j)):=rfl
@[simp] theorem _qq9 {ds:List D}:_kv (.lst ds)=some ds:=rfl
@[simp] theorem _qrx {ds:List D}:_qtg [.lst ds]=some (.int ds.length):=rfl
@[simp] theorem _qrw {ds:List D}:_qtg [.tup ds]=some (.int ds.length):=rfl
@[simp] theorem _qs5 {i:Int}:dAbs [.int i]=some (.int (if i < 0 then -i else i)):=rfl
@[simp] theorem _qqw {i j:Int}:dMax2 [.int i,.int j]=some (.int (if j > i then j else i)):=rfl
@[simp] theorem _qnf {i j:Int}:_qng [.int i,.int j]=some (.int (if j < i then j else i)):=rfl
@[simp] theorem _qqb {ds:List D}:_Zd [.lst ds]=some ds:=rfl
@[simp] theorem _qqa {ds:List D}:_Zd [.tup ds]=some ds:=rfl
@[simp] theorem _qpf {ds:List D}:dTuple [.lst ds]=some (.tup ds):=rfl
@[simp] theorem _qcn {a:D} {ds:List D}:dIx (.tup (a :: ds)) (.int 0)=some a:=by simp [dIx,atP,ixP]
@[simp] theorem _qku {a b:D} {ds:List D}:dIx (.tup (a :: b :: ds)) (.int 1)=some b:=by
 have:(1:Int) < (ds.length:Int) + 1 + 1:=by omega
 simp [dIx,atP,ixP,this]
theorem _qnr {α:Type} {ds:List α} {i:Nat} (h:i < ds.length):atP ds (i:Int)=some ds[i]:=by
 unfold atP ixP;simp [h]
theorem dIx_l {ds:List D} {i:Nat} (h:i < ds.length):dIx (.lst ds) (.int (i:Int))=some ds[i]:=_qnr h
end
@[simp] theorem _qri {i:Int}:isT (.int i) "int"=true:=rfl
@[simp] theorem _qrj {i:Int}:isT (.int i) "bool"=false:=rfl
@[simp] theorem _qrk {i:Bool}:isT (.bl i) "int"=true:=rfl
@[simp] theorem _qrl {i:Bool}:isT (.bl i) "bool"=true:=rfl
@[simp] theorem _qrg {ds:List D}:isT (.tup ds) "tuple"=true:=rfl
@[simp] theorem _qrh {ds:List D}:isT (.lst ds) "list"=true:=rfl
@[simp] theorem _qrm {ds:List D}:isL (ow ds)=true:=rfl
@[simp] theorem _qqd {os:List O}:isL (.lst os)=true:=rfl
@[simp] theorem _qp6 {o:O}:_qt3 [] o=some o:=rfl
@[simp] theorem _qr7 {g:O->Option O} {o:O}:atO g [] o=g o:=rfl
@[simp] theorem _qq2 {ρ:_qu7}:_qsr ρ=some []:=rfl
theorem _qbg {ds:List D} {d:D} (h:ds.length < _qu4):_qt5 (.sh d) (ow ds)=some (ow (ds++[d])):=by simp [_qt5,ow,h]
@[simp] theorem _qr4 {i:Nat} {S:List Bool} {p:FP} {f:FM} {g:O->O->Option O} {ρ:Cs}:bMut i S p f g ρ=(p (frz S ρ)).bind fun q=>((ρ[i]?).bind id).bind fun c0=>(_qt3 q c0).bind fun m=>if isL m=true then
  (f ρ).bind fun r=>((r.2[i]?).bind id).bind fun c=>(atO (g r.1) q c).map fun c'=>.nx (r.2.set i (some c')) else none:=rfl
mutual
theorem _qkm:∀ {n:Nat} {d:D},shp n d=true->eqD d d=true
 | n,.non,_=>by simp [eqD]
 | n,.bl _,_=>by simp [eqD]
 | n,.int _,_=>by simp [eqD]
 | n,.str _,_=>by simp [eqD]
 | 0,.lst _,h=>by simp [shp] at h
 | n + 1,.lst xs,h=>by simp only [eqD]; exact _Vv (n:=n) (by simpa [shp] using h)
 | 0,.tup _,h=>by simp [shp] at h
 | n + 1,.tup xs,h=>by simp only [eqD]; exact _Vv (n:=n) (by simpa [shp] using h)
theorem _Vv:∀ {n:Nat} {ds:List D},_qsg n ds=true->_qtb ds ds=true
 | n,[],_=>by simp [_qtb]
 | n,d :: ds,h=>by
  have h':shp n d=true/\_qsg n ds=true:=by simpa [_qsg] using h
  simp [_qtb,_qkm h'.1,_Vv h'.2]
end
theorem _Wj {n:Nat} {ds:List D}:_qsg n ds=true ↔ ∀ d∈ds,shp n d=true:=by
 induction ds with
 | nil=>simp [_qsg]
 | cons d ds ih=>simp [_qsg,ih]
@[simp] theorem _qpy {n:Nat} {i:Int}:shp n (.int i)=true:=by simp [shp]
@[simp] theorem _qra {n:Nat} {i:Bool}:shp n (.bl i)=true:=by simp [shp]
@[simp] theorem _qpx {n:Nat}:shp n .non=true:=by simp [shp]
@[simp] theorem _qho {n:Nat} {ds:List D}:shp (n + 1) (.lst ds)=_qsg n ds:=by simp [shp]
@[simp] theorem _qpw {n:Nat} {ds:List D}:shp (n + 1) (.tup ds)=_qsg n ds:=by simp [shp]
@[simp] theorem _qoh {n:Nat}:_qsg n []=true:=by simp [_qsg]
@[simp] theorem _qnw {n:Nat} {d:D} {ds:List D}:_qsg n (d :: ds)=(shp n d && _qsg n ds):=by simp [_qsg]
@[simp] theorem _qnv {n:Nat} {ns:List Int}:_qsg n (ns.map D.int)=true:=by
 induction ns with
 | nil=>simp
 | cons m ns ih=>simp [ih]
theorem _qh4 {xs ys:List Int}:_qtb (xs.map D.int) (ys.map D.int)=decide (xs=ys):=by
 induction xs generalizing ys with
 | nil=>cases ys <;> simp [_qtb]
 | cons x xs ih=>cases ys with
  | nil=>simp [_qtb]
  | cons y ys=>simp [_qtb,eqD,ih]; rw [Bool.eq_iff_iff]; simp
theorem _qt {α:Type} {f:α->O} {g:α->D} (h:∀ a,oD (f a)=some (g a)) (l:List α):oDs (l.map f)=some (l.map g):=by
 induction l with
 | nil=>simp
 | cons a l ih=>simp [h,ih]
theorem _J8 {α:Type} {f:α->O} (h:∀ a,oim (f a)=true) (l:List α):_qst (l.map f)=true:=by
 induction l with
 | nil=>simp
 | cons a l ih=>simp [h,ih]
theorem _xx {c:FT} {b:Blk} {ρ:Cs} (h:c (all ρ)=some false):_wo c b ρ=some (.nx ρ):=_qbx (n:=1) (by simp [_Yv,h])
theorem _Qr {c:FT} {b:Blk} {ρ ρ2:Cs} {o:Out} (h:c (all ρ)=some true) (hb:b ρ=some (.nx ρ2)) (hr:_wo c b ρ2=some o):_wo c b ρ=some o:=by
 obtain ⟨n,hn⟩:=_qb3 hr;exact _qbx (n:=n + 1) (by simp [_Yv,h,hb,hn])
theorem _qkh {g:GD} {b:Blk} {ρ:Cs}:_qt6 g b [] ρ=some (.nx ρ):=rfl
theorem _K2 {g:GD} {b:Blk} {d:D} {ds:List D} {ρ ρ1 ρ2:Cs} (h1:g d ρ=some ρ1) (h2:b ρ1=some (.nx ρ2) \/ b ρ1=some (.ct ρ2)):_qt6 g b (d :: ds) ρ=_qt6 g b ds ρ2:=by
 have e:_qt6 g b (d :: ds) ρ=(g d ρ).bind fun ρ1=>match b ρ1 with
  | some (.nx ρ2)=>_qt6 g b ds ρ2
  | some (.ct ρ2)=>_qt6 g b ds ρ2
  | some (.bk ρ2)=>some (.nx ρ2)
  | o=>o:=rfl
 rw [e,h1];rcases h2 with h2 | h2 <;> simp [h2]
theorem _qes {g:GD} {b:Blk} {d:D} {ds:List D} {ρ ρ1 ρ2:Cs} {o:O} (h1:g d ρ=some ρ1) (h2:b ρ1=some (.rt o ρ2)):_qt6 g b (d :: ds) ρ=some (.rt o ρ2):=by
 unfold _qt6;rw [h1];simp [h2]
theorem _Y2 {α:Type} {inj:α->D} {g:GD} {b:Blk} (P:List α->Cs->Prop) (xs:List α) (ρ:Cs) (h0:P [] ρ)
  (step:∀ (pre:List α) (a:α) (post:List α) (ρ:Cs),xs=pre++a :: post->P pre ρ->∃ ρ1 ρ2,g (inj a) ρ=some ρ1/\(b ρ1=some (.nx ρ2) \/ b ρ1=some (.ct ρ2))/\P (pre++[a]) ρ2) :
  ∃ ρ',_qt6 g b (xs.map inj) ρ=some (.nx ρ')/\P xs ρ':=by
 have key:∀ (post pre:List α) (ρ:Cs),xs=pre++post->P pre ρ->∃ ρ',_qt6 g b (post.map inj) ρ=some (.nx ρ')/\P xs ρ':=by
  intro post
  induction post with
  | nil=>intro pre ρ e h; exact ⟨ρ,rfl,by rw [e,append_nil]; exact h⟩
  | cons a post ih =>
   intro pre ρ e h;obtain ⟨ρ1,ρ2,h1,h2,h3⟩:=step pre a post ρ e h;obtain ⟨ρ',e1,e2⟩:=ih (pre++[a]) ρ2 (by rw [e]; simp) h3;exact ⟨ρ',(_K2 h1 h2).trans e1,e2⟩
 exact key xs [] ρ rfl h0
theorem _l {α:Type} {inj:α->D} {g:GE} {c:FT} {e:FO} (P:_qu7->Prop) (p:α->Bool) (f:α->O) (xs:List α) (ρ:_qu7) (h0:P ρ)
  (step:∀ a∈xs,∀ ρ,P ρ->∃ ρ1,g (inj a) ρ=some ρ1/\P ρ1/\c ρ1=some (p a)/\(p a=true->e ρ1=some (f a))):_ji g c e (xs.map inj) ρ=some ((xs.filter p).map f):=by
 induction xs generalizing ρ with
 | nil=>rfl
 | cons a xs ih =>
  obtain ⟨ρ1,h1,h2,h3,h4⟩:=step a mem_cons_self ρ h0;have ih':=ih ρ1 h2 fun b m=>step b (mem_cons_of_mem _ m);rw [map_cons];unfold _ji;rw [h1];simp only [Option.bind_some,h3];cases hp:p a with
  | true=>simp [h4 hp,ih',hp]
  | false=>simp [ih',hp]
end DL
namespace DL
open PySem PySem.Spec PyProof.Rows L2
theorem _qpm:bootBuiltins "int"=some (.type "int"):=by decide +kernel
theorem _qnm:bootBuiltins "bool"=some (.type "bool"):=by decide +kernel
theorem _vx:bootBuiltins "list"=some (.type "list"):=by decide +kernel
theorem _qf9:bootBuiltins "tuple"=some (.type "tuple"):=by decide +kernel
theorem _qpk:bootBuiltins "set"=some (.type "set"):=by decide +kernel
theorem _qa5:bootBuiltins "enumerate"=some (.type "enumerate"):=by decide +kernel
theorem _qnl:bootBuiltins "zip"=some (.type "zip"):=by decide +kernel
theorem _qnn:bootBuiltins "abs"=some (.builtin "abs"):=by decide +kernel
theorem _qpl:bootBuiltins "min"=some (.builtin "min"):=by decide +kernel
theorem _z5:bootBuiltins "len"=some (.builtin "len"):=by decide +kernel
theorem _ql2:bootBuiltins "sum"=some (.builtin "sum"):=by decide +kernel
theorem _kd:bootBuiltins "sorted"=some (.builtin "sorted"):=by decide +kernel
theorem _K9:bootBuiltins "all"=some (.builtin "all"):=by decide +kernel
end DL
set_option maxHeartbeats 1000000
namespace DL
open PySem PySem.Spec PyProof.Rows L2
abbrev St:=L2.St
theorem seqT {K:Frag} {H H':Hp} {a:Addr} {xs:List V} (e:Same H H') (h:SqT K H a xs):SqT K H' a xs:=by
 rcases h with (h | ⟨o,h⟩) | h
 ·exact .inl (.inl (e _ _ h))
 ·exact .inl (.inr ⟨o,e _ _ h⟩)
 ·exact .inr h
def SqE (K:Frag) (H:Hp) (a:Addr) (xs:List V):Prop :=
 Rd H a (.lst xs) \/ ∃ (its:List Value) (n:Nat),K.lookup a=some { cls:=.type "list",data:=.seq its.toArray n }/\xs.length <= sizeLine/\Vals xs its
theorem SqE.l {K:Frag} {H:Hp} {a:Addr} {xs:List V} (h:SqE K H a xs):SqL K H a xs:=by
 rcases h with h | ⟨its,n,h,hz,r⟩
 ·exact .inl h
 ·exact .inr ⟨_,its.toArray,n,h,rfl,rfl,rfl,by rw [size_toArray,<- r.length]; exact hz,by simpa using r⟩
theorem _qsh {K:Frag} {H H':Hp} {a:Addr} {xs:List V} (e:Same H H') (h:SqE K H a xs):SqE K H' a xs:=by
 rcases h with (h | ⟨o,h⟩) | h
 ·exact .inl (.inl (e _ _ h))
 ·exact .inl (.inr ⟨o,e _ _ h⟩)
 ·exact .inr h
theorem Inv.listE {X:Cx} {pins:List (Addr × Obj)} {σ:St} {H:Hp} {s:Shared} {a:Addr} {xs:List V} (I:Inv X pins σ H s) (h:SqE X.K H a xs) :
  ∃ (its:List Value) (n:Nat),Vals xs its/\s.heap.get? a=some { cls:=.type "list",data:=.seq its.toArray n }/\xs.length <= sizeLine:=by
 rcases h with h | ⟨its,n,h,hz,r⟩
 ·obtain ⟨z,its,n,r,e⟩:=h.ok I.hok
  exact ⟨its,n,r,e,z⟩
 ·exact ⟨its,n,r,I.kIn a _ h,hz⟩
mutual
inductive Rep (K:Frag) (F:Hp):V->D->Prop
 | non:Rep K F .non .non
 | bl (b:Bool):Rep K F (.bl b) (.bl b)
 | int (i:Int):Rep K F (.int i) (.int i)
 | str (x:Str):Rep K F (.str x) (.str x)
 | lst {a:Addr} {vs:List V} {ds:List D} (h:SqE K F a vs) (r:Reps K F vs ds):Rep K F (.ref a) (.lst ds)
 | tup {a:Addr} {vs:List V} {ds:List D} (h:SqT K F a vs) (r:Reps K F vs ds):Rep K F (.ref a) (.tup ds)
inductive Reps (K:Frag) (F:Hp):List V->List D->Prop
 | nil:Reps K F [] []
 | cons {v:V} {d:D} {vs:List V} {ds:List D} (h:Rep K F v d) (t:Reps K F vs ds):Reps K F (v :: vs) (d :: ds)
end
theorem _qdr {K:Frag} {F F':Hp} (e:Same F F'):(∀ {v:V} {d:D},Rep K F v d->Rep K F' v d)/\∀ {vs:List V} {ds:List D},Reps K F vs ds->Reps K F' vs ds:=by
 refine ⟨@Rep.rec K F (fun v d _=>Rep K F' v d) (fun v d _=>Reps K F' v d) .non .bl .int .str ?a ?b .nil ?c,@Reps.rec K F (fun v d _=>Rep K F' v d) (fun v d _=>Reps K F' v d) .non .bl .int .str ?a ?b .nil ?c⟩
 case a=>exact fun h _ r=>.lst (_qsh e h) r
 case b=>exact fun h _ r=>.tup (seqT e h) r
 case c=>exact fun _ _ h t=>.cons h t
theorem Rep.mono {K:Frag} {F F':Hp} (e:Same F F') {v:V} {d:D} (h:Rep K F v d):Rep K F' v d:=(_qdr e).1 h
theorem Reps.mono {K:Frag} {F F':Hp} (e:Same F F') {vs:List V} {ds:List D} (h:Reps K F vs ds):Reps K F' vs ds:=(_qdr e).2 h
section
variable {K:Frag} {F:Hp}
theorem Reps.length {vs:List V} {ds:List D} (r:Reps K F vs ds):vs.length=ds.length:=by
 induction vs generalizing ds with
 | nil=>cases r; rfl
 | cons v vs ih=>cases r with | cons h t=>simp [ih t]
theorem Reps.get {vs:List V} {ds:List D} (r:Reps K F vs ds) {i:Nat} {v:V} (h:vs[i]?=some v):∃ d,ds[i]?=some d/\Rep K F v d:=by
 induction vs generalizing ds i with
 | nil=>simp at h
 | cons w vs ih =>
  cases r with
  | cons q t =>
   cases i with
   | zero=>simp at h; subst h; exact ⟨_,rfl,q⟩
   | succ i=>exact ih t (by simpa using h)
theorem Reps.getD {vs:List V} {ds:List D} (r:Reps K F vs ds) {i:Nat} {d:D} (h:ds[i]?=some d):∃ v,vs[i]?=some v/\Rep K F v d:=by
 induction vs generalizing ds i with
 | nil=>cases r; simp at h
 | cons w vs ih =>
  cases r with
  | cons q t =>
   cases i with
   | zero=>simp at h; subst h; exact ⟨_,rfl,q⟩
   | succ i=>exact ih t (by simpa using h)
theorem Reps.append {vs ws:List V} {ds es:List D} (r:Reps K F vs ds) (q:Reps K F ws es):Reps K F (vs++ws) (ds++es):=by
 induction vs generalizing ds with
 | nil=>cases r; exact q
 | cons v vs ih=>cases r with | cons h t=>exact .cons h (ih t)
theorem Reps.take {vs:List V} {ds:List D} (r:Reps K F vs ds) (n:Nat):Reps K F (vs.take n) (ds.take n):=by
 induction vs generalizing ds n with
 | nil=>cases r; simp; exact .nil
 | cons v vs ih=>cases r with | cons h t=>cases n with
  | zero=>exact .nil
  | succ n=>exact .cons h (ih t n)
theorem Reps.drop {vs:List V} {ds:List D} (r:Reps K F vs ds) (n:Nat):Reps K F (vs.drop n) (ds.drop n):=by
 induction vs generalizing ds n with
 | nil=>cases r; simp; exact .nil
 | cons v vs ih=>cases r with | cons h t=>cases n with
  | zero=>exact .cons h t
  | succ n=>exact ih t n
theorem _Vf (ns:List Int):Reps K F (ns.map V.int) (ns.map D.int):=by
 induction ns with
 | nil=>exact .nil
 | cons n ns ih=>exact .cons (.int n) ih
end
structure Ext (F H F' H':Hp):Prop where
 ff:Same F F'
 fh:Same F' H'
 hh:Same H H'
 nw:∀ b o,F' b=some o->F b=some o \/ H b=none
theorem Ext.refl {F H:Hp} (s:Same F H):Ext F H F H:=⟨Same.refl _,s,Same.refl _,fun _ _ h=>.inl h⟩
theorem Ext.trans {F H F1 H1 F2 H2:Hp} (a:Ext F H F1 H1) (b:Ext F1 H1 F2 H2):Ext F H F2 H2 :=
 ⟨a.ff.trans b.ff,b.fh,a.hh.trans b.hh,fun c o h=>by
  rcases b.nw c o h with h | h
  ·exact a.nw c o h
  ·exact .inr (a.hh.free h)⟩
theorem _j4 {H:Hp} {l:Addr} {o:HO} (h:H l=none):Same H (upd H l o):=fun b u e=>by rw [upd_ne (ne_of_none e h)]; exact e
theorem Ext.laid {F H:Hp} (s:Same F H) {l:Addr} {o:HO} (h:H l=none):Ext F H (upd F l o) (upd H l o) :=
 ⟨_j4 (s.free h),fun b u e=>by
   by_cases hb:b=l
   ·subst hb; rw [upd_same] at e ⊢; exact e
   ·rw [upd_ne hb] at e ⊢; exact s _ _ e,
  _j4 h,fun b u e=>by
   by_cases hb:b=l
   ·subst hb; exact .inr h
   ·rw [upd_ne hb] at e; exact .inl e⟩
theorem Ext.laidH {F H:Hp} (s:Same F H) {l:Addr} {o:HO} (h:H l=none):Ext F H F (upd H l o) :=
 ⟨Same.refl _,s.trans (_j4 h),_j4 h,fun _ _ e=>.inl e⟩
theorem Ext.keep {F H F' H':Hp} (e:Ext F H F' H') {l:Addr} {o:HO} (h:H l=none) (h1:F' l=none) (h2:H' l=some o):Ext F H (upd F' l o) H' :=
 ⟨e.ff.trans (_j4 h1),fun b u q=>by
   by_cases hb:b=l
   ·subst hb; rw [upd_same] at q; rw [<- q]; exact h2
   ·rw [upd_ne hb] at q; exact e.fh _ _ q,
  e.hh,fun b u q=>by
   by_cases hb:b=l
   ·subst hb; exact .inr h
   ·rw [upd_ne hb] at q; exact e.nw b u q⟩
def RE (K:Frag) (F:Hp) (σ:St) (ρ:_qu7):Prop:=∀ (i:Nat) (d:D),ρ[i]?=some (some d)->∃ v,σ[i]?=some (some v)/\Rep K F v d
theorem RE.mono {K:Frag} {F F':Hp} {σ:St} {ρ:_qu7} (r:RE K F σ ρ) (e:Same F F'):RE K F' σ ρ:=fun i d h=>by
 obtain ⟨v,h1,h2⟩:=r i d h;exact ⟨v,h1,h2.mono e⟩
def tD (K:Frag) (f:FE):TE:=fun σ H Q=>∃ F ρ d,Same F H/\RE K F σ ρ/\f ρ=some d/\∀ v F' H',Ext F H F' H'->Rep K F' v d->Q v H'
def tDT (K:Frag) (f:FT):TT:=fun σ H Q=>∃ F ρ b,Same F H/\RE K F σ ρ/\f ρ=some b/\∀ F' H',Ext F H F' H'->Q b H'
def tDA (K:Frag) (f:FA):TA:=fun σ H Q=>∃ F ρ ds,Same F H/\RE K F σ ρ/\f ρ=some ds/\∀ vs F' H',Ext F H F' H'->Reps K F' vs ds->Q vs H'
def DE (X:Cx) (e:Expr) (f:FE):Prop:=PE X e (tD X.K f)
def DT (X:Cx) (e:Expr) (f:FT):Prop:=PT X e (tDT X.K f)
def DW (X:Cx) (e:Expr) (f:FT):Prop:=PW X e (tDT X.K f)
def DA (X:Cx) (es:List Expr) (f:FA):Prop:=PA X es (tDA X.K f)
theorem PE.imp {X:Cx} {e:Expr} {t t':TE} (h:PE X e t) (i:∀ σ H Q,t' σ H Q->t σ H Q):PE X e t':=fun pins s σ H Q I q=>h pins s σ H Q I (i σ H Q q)
theorem PT.imp {X:Cx} {e:Expr} {t t':TT} (h:PT X e t) (i:∀ σ H Q,t' σ H Q->t σ H Q):PT X e t':=fun pins s σ H Q I q=>h pins s σ H Q I (i σ H Q q)
theorem PW.imp {X:Cx} {e:Expr} {t t':TT} (h:PW X e t) (i:∀ σ H Q,t' σ H Q->t σ H Q):PW X e t':=fun wh pins s σ H Q I q=>h wh pins s σ H Q I (i σ H Q q)
theorem PA.imp {X:Cx} {e:List Expr} {t t':TA} (h:PA X e t) (i:∀ σ H Q,t' σ H Q->t σ H Q):PA X e t':=fun pos pins s σ H Q I q=>h pos pins s σ H Q I (i σ H Q q)
theorem PS.imp {X:Cx} {st:Stmt} {t t':TS} (h:PS X st t) (i:∀ E σ H,t' E σ H->t E σ H):PS X st t':=fun pins s σ H E I q=>h pins s σ H E I (i E σ H q)
theorem PSs.imp {X:Cx} {st:List Stmt} {t t':TS} (h:PSs X st t) (i:∀ E σ H,t' E σ H->t E σ H):PSs X st t':=fun pins s σ H E I q=>h pins s σ H E I (i E σ H q)
theorem PG.imp {X:Cx} {tg:Expr} {t t':TG} (h:PG X tg t) (i:∀ v σ H Q,t' v σ H Q->t v σ H Q):PG X tg t':=fun pins s σ H v u Q I r q=>h pins s σ H v u Q I r (i v σ H Q q)
section
variable {X:Cx} {a b c:Expr} {pos:Pos}
theorem _b (i:Nat) {x:Str} {pos:Pos} (h:PE X (.Name x pos) (tVar i)):DE X (.Name x pos) (_qt7 i):=by
 refine PE.imp h fun σ H Q q=>?_;obtain ⟨F,ρ,d,s,r,hf,k⟩:=q;have e:ρ[i]?=some (some d):=by
  unfold _qt7 at hf;cases q:ρ[i]? with
  | none=>rw [q] at hf; cases hf
  | some o=>rw [q] at hf; cases o with
   | none=>cases hf
   | some d'=>cases hf; rfl
 obtain ⟨v,h1,h2⟩:=r i d e;exact ⟨v,h1,k v F H (Ext.refl s) h2⟩
theorem de_c {e:Expr} {v:V} {d:D} (h:PE X e (tC v)) (r:∀ F,Rep X.K F v d):DE X e (fC d):=by
 refine PE.imp h fun σ H Q q=>?_;obtain ⟨F,ρ,d',s,_,hf,k⟩:=q;cases hf;exact k v F H (Ext.refl s) (r F)
theorem _h {i j pos}:DE X (.Constant (.int i) j pos) (fC (.int i)):=de_c pe_int fun _=>.int i
theorem _Zf {i j pos}:DE X (.Constant (.bool i) j pos) (fC (.bl i)):=de_c pe_bl fun _=>.bl i
theorem _kz {j pos}:DE X (.Constant .none j pos) (fC .non):=de_c pe_non fun _=>.non
def OpD (K:Frag) (r:R2) (g:D->D->Option D):Prop:=∀ x y d F H v u Q,g x y=some d->Same F H->Rep K F v x->Rep K F u y->(∀ w F' H',Ext F H F' H'->Rep K F' w d->Q w H')->r v u H Q
def UnD (K:Frag) (r:V->Hp->VK->Prop) (g:D->Option D):Prop:=∀ x d F H v Q,g x=some d->Same F H->Rep K F v x->(∀ w F' H',Ext F H F' H'->Rep K F' w d->Q w H')->r v H Q
theorem d_op {K:Frag} {r:R2} {g:D->D->Option D} (hr:OpD K r g) {fa fb:FE} {σ:St} {H:Hp} {Q:VK} (q:tD K (f2 g fa fb) σ H Q):tOp r (tD K fa) (tD K fb) σ H Q:=by
 obtain ⟨F,ρ,d,s,re,hf,k⟩:=q;obtain ⟨x,hx,hf⟩:=bind_some hf;obtain ⟨y,hy,hf⟩:=bind_some hf;exact ⟨F,ρ,x,s,re,hx,fun v F1 H1 e1 r1=>⟨F1,ρ,y,e1.fh,re.mono e1.ff,hy,fun u F2 H2 e2 r2=>hr x y d F2 H2 v u Q hf e2.fh (r1.mono e2.ff) r2 fun w F' H' e' r'=>k w F' H' ((e1.trans e2).trans e') r'⟩⟩
theorem d_un {K:Frag} {r:V->Hp->VK->Prop} {g:D->Option D} (hr:UnD K r g) {fa:FE} {σ:St} {H:Hp} {Q:VK} (q:tD K (f1 g fa) σ H Q):tUn r (tD K fa) σ H Q:=by
 obtain ⟨F,ρ,d,s,re,hf,k⟩:=q;obtain ⟨x,hx,hf⟩:=bind_some hf;exact ⟨F,ρ,x,s,re,hx,fun v F1 H1 e1 r1=>hr x d F1 H1 v Q hf e1.fh r1 fun w F' H' e' r'=>k w F' H' (e1.trans e') r'⟩
theorem _qh {op:Operator} {r:R2} {g:D->D->Option D} {fa fb:FE} (ho:OpR X (binaryOp op) r) (hr:OpD X.K r g) (ha:DE X a fa) (hb:DE X b fb):DE X (.BinOp a op b pos) (f2 g fa fb) :=
 PE.imp (pe_op ho ha hb) fun _ _ _ q=>d_op hr q
theorem de_un {op:UnaryOp} {r:V->Hp->VK->Prop} {g:D->Option D} {fa:FE} (ho:UnR X (unaryOp op) r) (hr:UnD X.K r g) (ha:DE X a fa):DE X (.UnaryOp op a pos) (f1 g fa) :=
 PE.imp (pe_un ho ha) fun _ _ _ q=>d_un hr q
theorem _vw {op:CmpOp} {r:R2} {g:D->D->Option D} {fa fb:FE} (ho:OpR X (compareOp op) r) (hr:OpD X.K r g) (ha:DE X a fa) (hb:DE X b fb) (hm:behindInMarks op b=false):DE X (.Compare a [op] [b] pos) (f2 g fa fb) :=
 PE.imp (pe_cmpR ho ha hb hm) fun _ _ _ q=>d_op hr q
theorem OpR.or {f:Value->Value->Sem Value} {r r':R2} (h:OpR X f r) (h':OpR X f r'):OpR X f (fun x y H Q=>r x y H Q \/ r' x y H Q):=by
 intro pins s σ H x y v u Q I rx ry q;rcases q with q | q
 ·exact h pins s σ H x y v u Q I rx ry q
 ·exact h' pins s σ H x y v u Q I rx ry q
theorem _qav {f:FE} {ρ:_qu7} {b:Bool} (h:qV f ρ=some b):f ρ=some (.bl b):=by
 obtain ⟨d,h1,h2⟩:=bind_some h;cases d <;> cases h2;exact h1
theorem _zs {f:FE} (h:DE X a f) (he:∀ whole,isTrue a X.env whole=(do let v <- whole; standAt a.pos; holding [v] (truthy v)):=by intro _; rfl):DT X a (qV f):=by
 refine PT.imp (pt_val h he) fun σ H Q q=>?_;obtain ⟨F,ρ,b,s,re,hf,k⟩:=q;exact ⟨F,ρ,.bl b,s,re,_qav hf,fun v F' H' e r=>by cases r; exact ⟨b,rfl,k F' H' e⟩⟩
theorem _V {op:CmpOp} {r:R2} {g:D->D->Option D} {fa fb:FE} (ho:OpR X (compareOp op) r) (hr:OpD X.K r g) (ha:DE X a fa) (hb:DE X b fb) (hm:behindInMarks op b=false):DT X (.Compare a [op] [b] pos) (qV (f2 g fa fb)):=by
 refine PT.imp (pt_cmpR ho ha hb hm) fun σ H Q q=>?_;obtain ⟨F,ρ,c,s,re,hf,k⟩:=q;refine d_op (K:=X.K) hr (σ:=σ) (H:=H) ⟨F,ρ,.bl c,s,re,_qav hf,fun v F' H' e r=>?_⟩;cases r;exact ⟨c,rfl,k F' H' e⟩
variable {rest:List Expr}
theorem _Xm {f:FT} (h:DT X a f):DT X (.UnaryOp .Not a pos) (_qsn f):=by
 refine PT.imp (pt_not h) fun σ H Q q=>?_;obtain ⟨F,ρ,b,s,re,hf,k⟩:=q;unfold _qsn at hf;cases hd:f ρ with
 | none=>rw [hd] at hf; cases hf
 | some c=>rw [hd] at hf; cases hf; exact ⟨F,ρ,c,s,re,hd,k⟩
theorem _qn7 {f:FT} (h:DT X a f):DW X (.BoolOp .And [a] pos) f:=pw_and1 h
theorem _Y5 {f:FT} (h:DT X a f):DW X (.BoolOp .Or [a] pos) f:=pw_or1 h
theorem _qpc {f g:FT} (h:DT X a f) (h':DW X (.BoolOp .And (b :: rest) pos) g):DW X (.BoolOp .And (a :: b :: rest) pos) (qAnd f g):=by
 refine PW.imp (pw_and h h') fun σ H Q q=>?_;obtain ⟨F,ρ,c,s,re,hf,k⟩:=q;obtain ⟨x,hx,hf⟩:=bind_some hf;refine ⟨F,ρ,x,s,re,hx,fun F1 H1 e1=>?_⟩;cases x with
 | true=>rw [if_pos rfl] at hf ⊢; exact ⟨F1,ρ,c,e1.fh,re.mono e1.ff,hf,fun F2 H2 e2=>k F2 H2 (e1.trans e2)⟩
 | false=>rw [if_neg Bool.false_ne_true] at hf ⊢; cases hf; exact k F1 H1 e1
theorem _qko {f g:FT} (h:DT X a f) (h':DW X (.BoolOp .Or (b :: rest) pos) g):DW X (.BoolOp .Or (a :: b :: rest) pos) (qOr f g):=by
 refine PW.imp (pw_or h h') fun σ H Q q=>?_;obtain ⟨F,ρ,c,s,re,hf,k⟩:=q;obtain ⟨x,hx,hf⟩:=bind_some hf;refine ⟨F,ρ,x,s,re,hx,fun F1 H1 e1=>?_⟩;cases x with
 | true=>rw [if_pos rfl] at hf ⊢; cases hf; exact k F1 H1 e1
 | false=>rw [if_neg Bool.false_ne_true] at hf ⊢; exact ⟨F1,ρ,c,e1.fh,re.mono e1.ff,hf,fun F2 H2 e2=>k F2 H2 (e1.trans e2)⟩
theorem DW.dt {e:Expr} {f:FT} (h:DW X e f):DT X e f:=h _
theorem _qpe {f:FE} (h:DE X a f):DE X (.UnaryOp .Not a pos) (fNot f):=by
 refine PE.imp (pe_not h) fun σ H Q q=>?_;obtain ⟨F,ρ,d,s,re,hf,k⟩:=q;unfold fNot fB _qsn at hf;cases hd:qV f ρ with
 | none=>rw [hd] at hf; cases hf
 | some c=>rw [hd] at hf; cases hf; exact ⟨F,ρ,.bl c,s,re,_qav hd,fun v F' H' e r=>by cases r; exact ⟨c,rfl,k _ F' H' e (.bl _)⟩⟩
theorem _Y9 {op} {f:FE} (h:DE X a f):DE X (.BoolOp op [a] pos) f:=pe_one h
theorem _Q7 {f g:FE} (h:DE X a f) (h':DE X (.BoolOp .And (b :: rest) pos) g):DE X (.BoolOp .And (a :: b :: rest) pos) (_qta f g):=by
 refine PE.imp (pe_and h h') fun σ H Q q=>?_;obtain ⟨F,ρ,d,s,re,hf,k⟩:=q;obtain ⟨x,hx,hf⟩:=bind_some hf;refine ⟨F,ρ,.bl x,s,re,_qav hx,fun v F1 H1 e1 r1=>?_⟩;cases r1;refine ⟨x,rfl,?_⟩;cases x with
 | true=>rw [if_pos rfl] at hf ⊢; exact ⟨F1,ρ,d,e1.fh,re.mono e1.ff,hf,fun w F2 H2 e2 r2=>k w F2 H2 (e1.trans e2) r2⟩
 | false=>rw [if_neg Bool.false_ne_true] at hf ⊢; cases hf; exact k _ F1 H1 e1 (.bl false)
theorem de_if {t:Expr} {q:FT} {f g:FE} (hc:DT X t q) (ha:DE X a f) (hb:DE X b g):DE X (.IfExp t a b pos) (fIf q f g):=by
 refine PE.imp (pe_ifExp hc ha hb) fun σ H Q q=>?_;obtain ⟨F,ρ,d,s,re,hf,k⟩:=q;obtain ⟨x,hx,hf⟩:=bind_some hf;refine ⟨F,ρ,x,s,re,hx,fun F1 H1 e1=>?_⟩;cases x with
 | true=>rw [if_pos rfl] at hf ⊢; exact ⟨F1,ρ,d,e1.fh,re.mono e1.ff,hf,fun w F2 H2 e2 r2=>k w F2 H2 (e1.trans e2) r2⟩
 | false=>rw [if_neg Bool.false_ne_true] at hf ⊢; exact ⟨F1,ρ,d,e1.fh,re.mono e1.ff,hf,fun w F2 H2 e2 r2=>k w F2 H2 (e1.trans e2) r2⟩
variable {es:List Expr}
theorem _e:DA X [] _qty:=by
 refine PA.imp pa_nil fun σ H Q q=>?_;obtain ⟨F,ρ,d,s,re,hf,k⟩:=q;cases hf;exact k [] F H (Ext.refl s) .nil
theorem _a {f:FE} {g:FA} (ha:DE X a f) (hr:DA X es g) (hs:starEach (a :: es) X.env=(false,eval a X.env) :: starEach es X.env:=by rfl):DA X (a :: es) (_d f g):=by
 refine PA.imp (pa_cons ha hr hs) fun σ H Q q=>?_;obtain ⟨F,ρ,ds,s,re,hf,k⟩:=q;obtain ⟨d,hd,hf⟩:=bind_some hf;cases hg:g ρ with
 | none=>rw [hg] at hf; cases hf
 | some ds' =>
  rw [hg] at hf;cases hf;exact ⟨F,ρ,d,s,re,hd,fun v F1 H1 e1 r1=>⟨F1,ρ,ds',e1.fh,re.mono e1.ff,hg,fun vs F2 H2 e2 r2=>k _ F2 H2 (e1.trans e2) (.cons (r1.mono e2.ff) r2)⟩⟩
theorem _vb {n:Nat} (h:n <= _qu4):n <= sizeLine:=le_trans h (by unfold _qu4; decide)
theorem _Qh {x1} {g:FA} (h:DA X es g):DE X (.Tuple es x1 pos) (_qt8 g):=by
 refine PE.imp (pe_tup h) fun σ H Q q=>?_;obtain ⟨F,ρ,d,s,re,hf,k⟩:=q;obtain ⟨ds,hd,hf⟩:=bind_some hf;split at hf
 ·rename_i hl
  cases hf;exact ⟨F,ρ,ds,s,re,hd,fun vs F1 H1 e1 r1=>⟨by rw [r1.length]; exact _vb hl,fun p hp=>k _ _ _ (e1.trans (Ext.laid e1.fh hp)) (.tup (.inl (.inl upd_same)) (r1.mono (_j4 (e1.fh.free hp))))⟩⟩
 ·cases hf
def spD (K:Frag) (n:Nat) (g:List D->Option D):Sp:=fun vs H Q _=>∃ F ds d,Same F H/\Reps K F vs ds/\ds.length=n/\g ds=some d/\∀ v F' H',Ext F H F' H'->Rep K F' v d->Q v H'
variable {k n:Nat} {f:Addr} {fd:FuncData} {ps:List Str} {x:Str} {p:Pos}
theorem _qne {g:List D->Option D} {h:FA} (G:FnOk X.prog X.w X.K X.mg X.base CX0 k f fd ps (spD X.K n g)) (hr:Room k X.A) (hg:Gl X x) (hm:X.mg x=some (.ref f)) (hk:keepIn X.K (.ref f)=true) (hb:Binds X.K fd ps [])
  (ha:DA X (a :: es) h) (hdb:(x == ("__debug__":Str))=false:=by decide) (he:starEach (a :: es) X.env=(false,eval a X.env) :: starEach es X.env:=by rfl) (hpl:(backTo pos (starEach es X.env)).any (·.1)=false:=by rfl) :
  DE X (.Call (.Name x p) (a :: es) [] pos) (_A n g h):=by
 refine PE.imp (pe_call G hr hg hm hk hb .nil pass0 ha hdb he hpl) fun σ H Q q=>?_;obtain ⟨F,ρ,d,s,re,hf,k⟩:=q;obtain ⟨ds,hd,hf⟩:=bind_some hf;refine ⟨F,ρ,ds,s,re,hd,fun vs F1 H1 e1 r1=>?_⟩;dsimp only;rw [append_nil];split at hf
 ·rename_i hl
  exact ⟨F1,ds,d,e1.fh,r1,hl,hf,fun v F2 H2 e2 r2=>k v F2 H2 (e1.trans e2) r2⟩
 ·cases hf
def _qlg (K:Frag) (r:List V->Hp->VK->Prop) (g:List D->Option D):Prop:=∀ ds d F H vs Q,g ds=some d->Same F H->Reps K F vs ds->(∀ w F' H',Ext F H F' H'->Rep K F' w d->Q w H')->r vs H Q
theorem _w {id:String} {r:List V->Hp->VK->Prop} {g:List D->Option D} {h:FA} (hc:CallR X (.builtin id) r) (hr:_qlg X.K r g) (hg:Gl X x) (hm:X.mg x=none) (hv:bootBuiltins x=some (.builtin id)) (ha:DA X (a :: es) h)
  (hn:x ≠ "__name__":=by decide) (hdb:(x == ("__debug__":Str))=false:=by decide)
  (he:starEach (a :: es) X.env=(false,eval a X.env) :: starEach es X.env:=by rfl) (hpl:(backTo pos (starEach es X.env)).any (·.1)=false:=by rfl):DE X (.Call (.Name x p) (a :: es) [] pos) (_qt9 g h):=by
 refine PE.imp (pe_callB hc hg hm hv ha hn hdb he hpl) fun σ H Q q=>?_;obtain ⟨F,ρ,d,s,re,hf,k⟩:=q;obtain ⟨ds,hd,hf⟩:=bind_some hf;exact ⟨F,ρ,ds,s,re,hd,fun vs F1 H1 e1 r1=>hr ds d F1 H1 vs Q hf e1.fh r1 fun w F' H' e' r'=>k w F' H' (e1.trans e') r'⟩
end
end DL
namespace DL
open PySem PySem.Spec PyProof.Rows L2
abbrev AS:=Addr->Prop
mutual
inductive Own (K:Frag) (F H:Hp):V->O->AS->Prop
 | sh {v:V} {d:D} {A:AS} (h:Rep K F v d) (hA:∀ b,¬ A b):Own K F H v (.sh d) A
 | lst {a:Addr} {vs:List V} {os:List O} {A' A:AS} (h:H a=some (.lst vs)) (n:¬ A' a) (r:Owns K F H vs os A') (hA:∀ b,A b ↔ b=a \/ A' b):Own K F H (.ref a) (.lst os) A
 | tup {a:Addr} {vs:List V} {os:List O} {A:AS} (h:F a=some (.tup vs)) (r:Owns K F H vs os A):Own K F H (.ref a) (.tup os) A
inductive Owns (K:Frag) (F H:Hp):List V->List O->AS->Prop
 | nil {A:AS} (hA:∀ b,¬ A b):Owns K F H [] [] A
 | cons {v:V} {o:O} {vs:List V} {os:List O} {A1 A2 A:AS} (h:Own K F H v o A1) (t:Owns K F H vs os A2) (d:∀ b,A1 b->¬ A2 b) (hA:∀ b,A b ↔ A1 b \/ A2 b):Owns K F H (v :: vs) (o :: os) A
end
section
variable {K:Frag} {F F' H H':Hp}
theorem _qax:(∀ {v:V} {o:O} {A:AS},Own K F H v o A->∀ b,A b->∃ u,H b=some u/\∀ xs,u ≠ .tup xs/\∀ ob w,u ≠ .frz ob w)/\∀ {vs:List V} {os:List O} {A:AS},Owns K F H vs os A->∀ b,A b->∃ u,H b=some u/\∀ xs,u ≠ .tup xs/\∀ ob w,u ≠ .frz ob w:=by
 refine ⟨@Own.rec K F H (fun _ _ A _=>∀ b,A b->∃ u,H b=some u/\∀ xs,u ≠ .tup xs/\∀ ob w,u ≠ .frz ob w) (fun _ _ A _=>∀ b,A b->∃ u,H b=some u/\∀ xs,u ≠ .tup xs/\∀ ob w,u ≠ .frz ob w) ?a ?b ?c ?a2 ?d,@Owns.rec K F H (fun _ _ A _=>∀ b,A b->∃ u,H b=some u/\∀ xs,u ≠ .tup xs/\∀ ob w,u ≠ .frz ob w) (fun _ _ A _=>∀ b,A b->∃ u,H b=some u/\∀ xs,u ≠ .tup xs/\∀ ob w,u ≠ .frz ob w) ?a ?b ?c ?a2 ?d⟩
 case a=>exact fun _ hA b h=>absurd h (hA b)
 case b =>
  intro a vs os A' A h n r hA ih b hb;rcases (hA b).mp hb with rfl | z
  ·exact ⟨_,h,fun xs=>⟨(fun z=>by cases z),fun _ _ z=>by cases z⟩⟩
  ·exact ih b z
 case c=>exact fun _ _ ih=>ih
 case a2=>exact fun hA b h=>absurd h (hA b)
 case d =>
  intro v o vs os A1 A2 A h t d hA ih it b hb;rcases (hA b).mp hb with z | z
  ·exact ih b z
  ·exact it b z
theorem Own.there {v:V} {o:O} {A:AS} (h:Own K F H v o A):∀ b,A b->∃ u,H b=some u/\∀ xs,u ≠ .tup xs/\∀ ob w,u ≠ .frz ob w:=_qax.1 h
theorem Owns.there {vs:List V} {os:List O} {A:AS} (h:Owns K F H vs os A):∀ b,A b->∃ u,H b=some u/\∀ xs,u ≠ .tup xs/\∀ ob w,u ≠ .frz ob w:=_qax.2 h
theorem _qdx (e:Same F F'):(∀ {v:V} {o:O} {A:AS},Own K F H v o A->(∀ b,A b->H' b=H b)->Own K F' H' v o A)/\∀ {vs:List V} {os:List O} {A:AS},Owns K F H vs os A->(∀ b,A b->H' b=H b)->Owns K F' H' vs os A:=by
 refine ⟨@Own.rec K F H (fun v o A _=>(∀ b,A b->H' b=H b)->Own K F' H' v o A) (fun v o A _=>(∀ b,A b->H' b=H b)->Owns K F' H' v o A) ?a ?b ?c ?a2 ?d,@Owns.rec K F H (fun v o A _=>(∀ b,A b->H' b=H b)->Own K F' H' v o A) (fun v o A _=>(∀ b,A b->H' b=H b)->Owns K F' H' v o A) ?a ?b ?c ?a2 ?d⟩
 case a=>exact fun h hA _=>.sh (h.mono e) hA
 case b=>exact fun h n _ hA ih k=>.lst ((k _ ((hA _).mpr (.inl rfl))).trans h) n (ih fun b z=>k b ((hA b).mpr (.inr z))) hA
 case c=>exact fun h _ ih k=>.tup (e _ _ h) (ih k)
 case a2=>exact fun hA _=>.nil hA
 case d=>exact fun _ _ d hA ih it k=>.cons (ih fun b z=>k b ((hA b).mpr (.inl z))) (it fun b z=>k b ((hA b).mpr (.inr z))) d hA
theorem Own.stay (e:Same F F') {v:V} {o:O} {A:AS} (h:Own K F H v o A) (k:∀ b,A b->H' b=H b):Own K F' H' v o A:=(_qdx e).1 h k
theorem Owns.stay (e:Same F F') {vs:List V} {os:List O} {A:AS} (h:Owns K F H vs os A) (k:∀ b,A b->H' b=H b):Owns K F' H' vs os A:=(_qdx e).2 h k
theorem Own.ext (e:Same F F') (s:Same H H') {v:V} {o:O} {A:AS} (h:Own K F H v o A):Own K F' H' v o A:=h.stay e fun b z=>by
 obtain ⟨u,e1,_⟩:=h.there b z;rw [e1,s _ _ e1]
theorem Owns.ext (e:Same F F') (s:Same H H') {vs:List V} {os:List O} {A:AS} (h:Owns K F H vs os A):Owns K F' H' vs os A:=h.stay e fun b z=>by
 obtain ⟨u,e1,_⟩:=h.there b z;rw [e1,s _ _ e1]
theorem Own.congr {v:V} {o:O} {A A':AS} (h:Own K F H v o A) (e:∀ b,A b ↔ A' b):Own K F H v o A':=by
 have:A=A':=funext fun b=>propext (e b)
 subst this; exact h
theorem Owns.congr {v:List V} {o:List O} {A A':AS} (h:Owns K F H v o A) (e:∀ b,A b ↔ A' b):Owns K F H v o A':=by
 have:A=A':=funext fun b=>propext (e b)
 subst this; exact h
theorem Owns.length {vs:List V} {os:List O} {A:AS} (h:Owns K F H vs os A):vs.length=os.length :=
 Owns.rec (motive_1:=fun _ _ _ _=>True) (motive_2:=fun vs os _ _=>vs.length=os.length) (fun _ _=>trivial) (fun _ _ _ _ _=>trivial) (fun _ _ _=>trivial) (fun _=>rfl) (fun _ _ _ _ _ it=>congrArg Nat.succ it) h
open Classical in
noncomputable def _qtx (F H:Hp) (A:AS):Hp:=fun b=>if A b then H b else F b
theorem _vz {A:AS} {b:Addr} (h:A b):_qtx F H A b=H b:=by unfold _qtx; exact if_pos h
theorem _zi {A:AS} {b:Addr} (h:¬ A b):_qtx F H A b=F b:=by unfold _qtx; exact if_neg h
theorem _Jm {A:AS} (h:∀ b,A b->F b=none):Same F (_qtx F H A):=fun b o e=>by
 rw [_zi fun z=>by rw [h b z] at e; cases e]; exact e
theorem _qfr {A:AS} (s:Same F H):Same (_qtx F H A) H:=fun b o e=>by
 by_cases z:A b
 ·rw [_vz z] at e; exact e
 ·rw [_zi z] at e; exact s _ _ e
theorem _qag {F₀ B:Hp} {A:AS} (e:Ext F₀ B F H) (h:∀ b,A b->F b=none/\B b=none):Ext F₀ B (_qtx F H A) H :=
 ⟨e.ff.trans (_Jm fun b z=>(h b z).1),_qfr e.fh,e.hh,fun b o q=>by
  by_cases z:A b
  ·exact .inr (h b z).2
  ·rw [_zi z] at q; exact e.nw b o q⟩
theorem _qhw {G:Hp} (sF:Same F G):(∀ {v:V} {o:O} {A:AS},Own K F H v o A->∀ {d:D},oD o=some d->(∀ b,A b->G b=H b)->Rep K G v d)/\∀ {vs:List V} {os:List O} {A:AS},Owns K F H vs os A->∀ {ds:List D},oDs os=some ds->(∀ b,A b->G b=H b)->Reps K G vs ds:=by
 refine ⟨@Own.rec K F H (fun v o A _=>∀ {d:D},oD o=some d->(∀ b,A b->G b=H b)->Rep K G v d) (fun v o A _=>∀ {d:List D},oDs o=some d->(∀ b,A b->G b=H b)->Reps K G v d) ?a ?b ?c ?a2 ?d,@Owns.rec K F H (fun v o A _=>∀ {d:D},oD o=some d->(∀ b,A b->G b=H b)->Rep K G v d) (fun v o A _=>∀ {d:List D},oDs o=some d->(∀ b,A b->G b=H b)->Reps K G v d) ?a ?b ?c ?a2 ?d⟩
 case a =>
  intro v d A h hA d' e _;cases e; exact h.mono sF
 case b =>
  intro a vs os A' A h n r hA ih d e k;obtain ⟨ds,hd,rfl⟩:=map_some (by simpa [oD] using e);exact .lst (.inl (.inl ((k _ ((hA _).mpr (.inl rfl))).trans h))) (ih hd fun b z=>k b ((hA b).mpr (.inr z)))
 case c =>
  intro a vs os A h r ih d e k;obtain ⟨ds,hd,rfl⟩:=map_some (by simpa [oD] using e);exact .tup (.inl (.inl (sF _ _ h))) (ih hd k)
 case a2 =>
  intro A hA ds e _;cases e; exact .nil
 case d =>
  intro v o vs os A1 A2 A h t d hA ih it ds e k;obtain ⟨d,hd,e⟩:=bind_some (by simpa [oDs] using e);obtain ⟨ds,hds,rfl⟩:=map_some e;exact .cons (ih hd fun b z=>k b ((hA b).mpr (.inl z))) (it hds fun b z=>k b ((hA b).mpr (.inr z)))
theorem Own.rep {G:Hp} (sF:Same F G) {v:V} {o:O} {A:AS} {d:D} (h:Own K F H v o A) (e:oD o=some d) (k:∀ b,A b->G b=H b):Rep K G v d:=(_qhw sF).1 h e k
theorem Owns.rep {G:Hp} (sF:Same F G) {vs:List V} {os:List O} {A:AS} {ds:List D} (h:Owns K F H vs os A) (e:oDs os=some ds) (k:∀ b,A b->G b=H b):Reps K G vs ds:=(_qhw sF).2 h e k
theorem _qhv {vs:List V} {ds:List D} (h:Reps K F vs ds):Owns K F H vs (ds.map O.sh) fun _=>False :=
 Reps.rec (motive_1:=fun _ _ _=>True) (motive_2:=fun vs ds _=>Owns K F H vs (ds.map O.sh) fun _=>False) trivial (fun _=>trivial) (fun _=>trivial) (fun _=>trivial) (fun _ _ _=>trivial) (fun _ _ _=>trivial) (.nil fun _ z=>z) (fun h _ _ it=>.cons (.sh h (A:=fun _=>False) fun _ z=>z) it (fun _ z=>z.elim) fun b=>⟨fun z=>z.elim,fun z=>z.elim id id⟩) h
theorem _qdy {a:Addr} {vs:List V} {os:List O} {A:AS} (h:H a=some (.lst vs)) (n:¬ A a) (r:Owns K F H vs os A):Own K F H (.ref a) (.lst os) fun b=>b=a \/ A b:=.lst h n r fun _=>Iff.rfl
theorem _W7 {a:Addr} {vs:List V} {ds:List D} (h:H a=some (.lst vs)) (r:Reps K F vs ds):Own K F H (.ref a) (ow ds) fun b=>b=a:=.lst h (A':=fun _=>False) id (_qhv r) fun b=>⟨.inl,fun z=>z.elim id False.elim⟩
theorem Owns.append {vs ws:List V} {os ps:List O} {A B:AS} (h:Owns K F H vs os A) (s:Owns K F H ws ps B):(∀ b,A b->¬ B b)->Owns K F H (vs++ws) (os++ps) fun b=>A b \/ B b :=
 Owns.rec (motive_1:=fun _ _ _ _=>True) (motive_2:=fun vs os A _=>(∀ b,A b->¬ B b)->Owns K F H (vs++ws) (os++ps) fun b=>A b \/ B b) (fun _ _=>trivial) (fun _ _ _ _ _=>trivial) (fun _ _ _=>trivial)
  (fun hA _=>s.congr fun b=>⟨.inr,fun z=>z.elim (fun y=>absurd y (hA b)) id⟩)
  (fun h _ dd hA _ it d=>.cons h (it fun b y=>d b ((hA b).mpr (.inr y))) (fun b y z=>z.elim (dd b y) (d b ((hA b).mpr (.inl y)))) fun b=>by
   rw [hA b]; exact ⟨fun z=>z.elim (fun y=>y.elim .inl fun w=>.inr (.inl w)) fun w=>.inr (.inr w),fun z=>z.elim (fun y=>.inl (.inl y)) fun y=>y.elim (fun w=>.inl (.inr w)) .inr⟩) h
theorem Owns.split:∀ {vs:List V} {os:List O} {A:AS} {n:Nat} {o:O},Owns K F H vs os A->os[n]?=some o ->
  ∃ (v:V) (A1 A2:AS),vs[n]?=some v/\Own K F H v o A1/\(∀ b,A b ↔ A1 b \/ A2 b)/\(∀ b,A1 b->¬ A2 b) /\
   ∀ (F' H':Hp) (v':V) (o':O) (A1':AS),Same F F'->(∀ b,A2 b->H' b=H b)->Own K F' H' v' o' A1'->(∀ b,A1' b->¬ A2 b)->Owns K F' H' (vs.set n v') (os.set n o') fun b=>A1' b \/ A2 b
 | _,_,_,_,_,.nil _,e=>by simp at e
 | _,_,A,0,o,.cons (v:=v) (vs:=vs) (os:=os) (A1:=A1) (A2:=A2) h t d hA,e=>by
  simp at e; subst e;exact ⟨v,A1,A2,rfl,h,hA,d,fun F' H' v' o' A1' sF k q dd=>.cons q (t.stay sF k) dd fun b=>Iff.rfl⟩
 | _,_,A,n + 1,o,.cons (v:=v) (vs:=vs) (os:=os) (A1:=B1) (A2:=B2) h t d hA,e=>by
  obtain ⟨w,A1,A2,h1,h2,h3,h4,h5⟩:=Owns.split t (n:=n) (o:=o) (by simpa using e);refine ⟨w,A1,fun b=>B1 b \/ A2 b,by simpa using h1,h2,fun b=>?_,fun b y z=>?_,fun F' H' v' o' A1' sF k q dd=>?_⟩
  ·rw [hA b,h3 b]; exact ⟨fun z=>z.elim (fun y=>.inr (.inl y)) fun y=>y.elim .inl fun w=>.inr (.inr w),fun z=>z.elim (fun y=>.inr (.inl y)) fun y=>y.elim .inl fun w=>.inr (.inr w)⟩
  ·rcases z with z | z
   ·exact d b z ((h3 b).mpr (.inl y))
   ·exact h4 b y z
  ·refine .cons (h.stay sF fun b y=>k b (.inl y)) (h5 F' H' v' o' A1' sF (fun b y=>k b (.inr y)) q fun b y z=>dd b y (.inr z)) (fun b y z=>?_) fun b=>⟨fun z=>z.elim (fun y=>.inr (.inl y)) fun y=>y.elim .inl fun w=>.inr (.inr w),fun z=>z.elim (fun y=>.inr (.inl y)) fun y=>y.elim .inl fun w=>.inr (.inr w)⟩
   rcases z with z | z
   ·exact dd b z (.inl y)
   ·exact d b y ((h3 b).mpr (.inr z))
end
def tO (K:Frag) (f:FO):TE:=fun σ H Q=>∃ F ρ o,Same F H/\RE K F σ ρ/\f ρ=some o /\
 ∀ v F' H' A,Ext F H F' H'->Own K F' H' v o A->(∀ b,A b->F' b=none/\H b=none)->Q v H'
def tAO (K:Frag) (f:FAO):TA:=fun σ H Q=>∃ F ρ os,Same F H/\RE K F σ ρ/\f ρ=some os /\
 ∀ vs F' H' A,Ext F H F' H'->Owns K F' H' vs os A->(∀ b,A b->F' b=none/\H b=none)->Q vs H'
def DO (X:Cx) (e:Expr) (f:FO):Prop:=PE X e (tO X.K f)
def DAO (X:Cx) (es:List Expr) (f:FAO):Prop:=PA X es (tAO X.K f)
section
variable {X:Cx} {a b c e:Expr} {es:List Expr} {pos:Pos}
theorem DE.o {f:FE} (h:DE X e f):DO X e (oE f):=by
 refine PE.imp h fun σ H Q q=>?_;obtain ⟨F,ρ,o,s,re,hf,k⟩:=q;obtain ⟨d,hd,rfl⟩:=map_some hf;exact ⟨F,ρ,d,s,re,hd,fun v F' H' e r=>k v F' H' (fun _=>False) e (.sh r fun _ z=>z) fun _ z=>z.elim⟩
theorem DO.de {f:FO} (h:DO X e f):DE X e (fL f):=by
 refine PE.imp h fun σ H Q q=>?_;obtain ⟨F,ρ,d,s,re,hf,k⟩:=q;obtain ⟨o,ho,hd⟩:=bind_some hf;exact ⟨F,ρ,o,s,re,ho,fun v F' H' A e r hA=>k v (_qtx F' H' A) H' (_qag e hA) (r.rep (_Jm fun b z=>(hA b z).1) hd fun b z=>_vz z)⟩
theorem _qn6 {H F1 H1 F2 H2:Hp} {A:AS} (e2:Ext F1 H1 F2 H2) (h:∀ b,A b->F1 b=none/\H b=none) (t:∀ b,A b->∃ u,H1 b=some u):∀ b,A b->F2 b=none/\H b=none:=fun b z=>by
 obtain ⟨h1,h2⟩:=h b z;obtain ⟨u,hu⟩:=t b z;refine ⟨?_,h2⟩;cases q:F2 b with
 | none=>rfl
 | some o =>
  rcases e2.nw b o q with y | y
  ·rw [h1] at y; cases y
  ·rw [hu] at y; cases y
theorem _Zy:DAO X [] _qik:=by
 refine PA.imp pa_nil fun σ H Q q=>?_;obtain ⟨F,ρ,d,s,re,hf,k⟩:=q;cases hf;exact k [] F H (fun _=>False) (Ext.refl s) (.nil fun _ z=>z) fun _ z=>z.elim
theorem _xu {f:FO} {g:FAO} (ha:DO X a f) (hr:DAO X es g) (hs:starEach (a :: es) X.env=(false,eval a X.env) :: starEach es X.env:=by rfl):DAO X (a :: es) (_Qs f g):=by
 refine PA.imp (pa_cons ha hr hs) fun σ H Q q=>?_;obtain ⟨F,ρ,ds,s,re,hf,k⟩:=q;obtain ⟨d,hd,hf⟩:=bind_some hf;obtain ⟨ds',hg,rfl⟩:=map_some hf;refine ⟨F,ρ,d,s,re,hd,fun v F1 H1 A1 e1 r1 n1=>⟨F1,ρ,ds',e1.fh,re.mono e1.ff,hg,fun vs F2 H2 A2 e2 r2 n2=>?_⟩⟩;have t1:∀ b,A1 b->∃ u,H1 b=some u:=fun b z=>by obtain ⟨u,h,_⟩:=r1.there b z; exact ⟨u,h⟩
 refine k _ F2 H2 (fun b=>A1 b \/ A2 b) (e1.trans e2) (.cons (r1.ext e2.ff e2.hh) r2 (fun b y z=>?_) fun _=>Iff.rfl) fun b z=>?_
 ·obtain ⟨u,hu⟩:=t1 b y
  rw [(n2 b z).2] at hu; cases hu
 ·rcases z with z | z
  ·exact _qn6 e2 n1 t1 b z
  ·exact ⟨(n2 b z).1,e1.hh.free (n2 b z).2⟩
theorem _zd {g:FA} (h:DA X es g):DO X (.List es pos) (_qsv g):=by
 refine PE.imp (pe_lst h) fun σ H Q q=>?_;obtain ⟨F,ρ,d,s,re,hf,k⟩:=q;obtain ⟨ds,hd,hf⟩:=bind_some hf;split at hf
 ·rename_i hl
  cases hf;refine ⟨F,ρ,ds,s,re,hd,fun vs F1 H1 e1 r1=>⟨by rw [r1.length]; exact _vb hl,fun p hp=>?_⟩⟩;exact k _ F1 _ _ (e1.trans (Ext.laidH e1.fh hp)) (_W7 upd_same r1) fun b z=>by subst z; exact ⟨e1.fh.free hp,e1.hh.free hp⟩
 ·cases hf
theorem _qib {g:FAO} (h:DAO X es g):DO X (.List es pos) (oLstO g):=by
 refine PE.imp (pe_lst h) fun σ H Q q=>?_;obtain ⟨F,ρ,d,s,re,hf,k⟩:=q;obtain ⟨os,hd,hf⟩:=bind_some hf;split at hf
 ·rename_i hl
  cases hf;refine ⟨F,ρ,os,s,re,hd,fun vs F1 H1 A e1 r1 n1=>⟨by rw [r1.length]; exact _vb hl,fun p hp=>?_⟩⟩;have np:¬ A p:=fun z=>by obtain ⟨u,hu,_⟩:=r1.there p z; rw [hp] at hu; cases hu
  refine k _ F1 _ _ (e1.trans (Ext.laidH e1.fh hp)) (_qdy upd_same np (r1.ext (Same.refl _) (_j4 hp))) fun b z=>?_;rcases z with rfl | z
  ·exact ⟨e1.fh.free hp,e1.hh.free hp⟩
  ·exact n1 b z
 ·cases hf
theorem _qbl {x1} {g:FAO} (h:DAO X es g):DO X (.Tuple es x1 pos) (_qld g):=by
 refine PE.imp (pe_tup h) fun σ H Q q=>?_;obtain ⟨F,ρ,d,s,re,hf,k⟩:=q;obtain ⟨os,hd,hf⟩:=bind_some hf;split at hf
 ·rename_i hl
  cases hf;refine ⟨F,ρ,os,s,re,hd,fun vs F1 H1 A e1 r1 n1=>⟨by rw [r1.length]; exact _vb hl,fun p hp=>?_⟩⟩;have np:¬ A p:=fun z=>by obtain ⟨u,hu,_⟩:=r1.there p z; rw [hp] at hu; cases hu
  refine k _ (upd F1 p (.tup vs)) _ A (e1.trans (Ext.laid e1.fh hp)) (.tup upd_same (r1.ext (_j4 (e1.fh.free hp)) (_j4 hp))) fun b z=>?_;obtain ⟨h1,h2⟩:=n1 b z;exact ⟨by rw [upd_ne (by rintro rfl; exact np z)]; exact h1,h2⟩
 ·cases hf
def spO (K:Frag) (n:Nat) (g:List D->Option O):Sp:=fun vs H Q _=>∃ F ds o,Same F H/\Reps K F vs ds/\ds.length=n/\g ds=some o /\
 ∀ v F' H' A,Ext F H F' H'->Own K F' H' v o A->(∀ b,A b->F' b=none/\H b=none)->Q v H'
def CallO (K:Frag) (r:List V->Hp->VK->Prop) (g:List D->Option (List D)):Prop:=∀ ds es F H vs Q,g ds=some es->Same F H->Reps K F vs ds ->
 (∀ a ws F' H',Ext F H F' H'->H' a=some (.lst ws)->F' a=none->H a=none->Reps K F' ws es->Q (.ref a) H')->r vs H Q
def OpO (K:Frag) (r:R2) (g:D->D->Option (List D)):Prop:=∀ x y es F H v u Q,g x y=some es->Same F H->Rep K F v x->Rep K F u y ->
 (∀ a ws F' H',Ext F H F' H'->H' a=some (.lst ws)->F' a=none->H a=none->Reps K F' ws es->Q (.ref a) H')->r v u H Q
variable {k n:Nat} {f:Addr} {fd:FuncData} {ps:List Str} {x:Str} {p:Pos}
theorem _qnb {g:List D->Option O} {h:FA} (G:FnOk X.prog X.w X.K X.mg X.base CX0 k f fd ps (spO X.K n g)) (hr:Room k X.A) (hg:Gl X x) (hm:X.mg x=some (.ref f)) (hk:keepIn X.K (.ref f)=true) (hb:Binds X.K fd ps [])
  (ha:DA X (a :: es) h) (hdb:(x == ("__debug__":Str))=false:=by decide) (he:starEach (a :: es) X.env=(false,eval a X.env) :: starEach es X.env:=by rfl) (hpl:(backTo pos (starEach es X.env)).any (·.1)=false:=by rfl) :
  DO X (.Call (.Name x p) (a :: es) [] pos) (_Xa n g h):=by
 refine PE.imp (pe_call G hr hg hm hk hb .nil pass0 ha hdb he hpl) fun σ H Q q=>?_;obtain ⟨F,ρ,d,s,re,hf,k⟩:=q;obtain ⟨ds,hd,hf⟩:=bind_some hf;refine ⟨F,ρ,ds,s,re,hd,fun vs F1 H1 e1 r1=>?_⟩;dsimp only;rw [append_nil];split at hf
 ·rename_i hl
  exact ⟨F1,ds,d,e1.fh,r1,hl,hf,fun v F2 H2 A e2 r2 n2=>k v F2 H2 A (e1.trans e2) r2 fun b z=>⟨(n2 b z).1,e1.hh.free (n2 b z).2⟩⟩
 ·cases hf
theorem _Vy {id:String} {r:List V->Hp->VK->Prop} {g:List D->Option (List D)} {h:FA} (hc:CallR X (.builtin id) r) (hr:CallO X.K r g) (hg:Gl X x) (hm:X.mg x=none) (hv:bootBuiltins x=some (.builtin id)) (ha:DA X (a :: es) h)
  (hn:x ≠ "__name__":=by decide) (hdb:(x == ("__debug__":Str))=false:=by decide)
  (he:starEach (a :: es) X.env=(false,eval a X.env) :: starEach es X.env:=by rfl) (hpl:(backTo pos (starEach es X.env)).any (·.1)=false:=by rfl):DO X (.Call (.Name x p) (a :: es) [] pos) (_qsw g h):=by
 refine PE.imp (pe_callB hc hg hm hv ha hn hdb he hpl) fun σ H Q q=>?_;obtain ⟨F,ρ,o,s,re,hf,k⟩:=q;obtain ⟨zs,hf2,rfl⟩:=map_some hf;obtain ⟨ds,hd,hf⟩:=bind_some hf2;exact ⟨F,ρ,ds,s,re,hd,fun vs F1 H1 e1 r1=>hr ds zs F1 H1 vs Q hf e1.fh r1 fun a ws F' H' e' h1 h2 h3 r'=>k (.ref a) F' H' _ (e1.trans e') (_W7 h1 r') fun b z=>by subst z; exact ⟨h2,e1.hh.free h3⟩⟩
theorem _xe {T:String} {r:List V->Hp->VK->Prop} {g:List D->Option (List D)} {h:FA} (hc:CallR X (.type T) r) (hr:CallO X.K r g) (hg:Gl X x) (hm:X.mg x=none) (hv:bootBuiltins x=some (.type T)) (ha:DA X (a :: es) h)
  (hn:x ≠ "__name__":=by decide) (hdb:(x == ("__debug__":Str))=false:=by decide)
  (he:starEach (a :: es) X.env=(false,eval a X.env) :: starEach es X.env:=by rfl) (hpl:(backTo pos (starEach es X.env)).any (·.1)=false:=by rfl):DO X (.Call (.Name x p) (a :: es) [] pos) (_qsw g h):=by
 refine PE.imp (pe_callTy hc hg hm hv ha hn hdb he hpl) fun σ H Q q=>?_;obtain ⟨F,ρ,o,s,re,hf,k⟩:=q;obtain ⟨zs,hf2,rfl⟩:=map_some hf;obtain ⟨ds,hd,hf⟩:=bind_some hf2;exact ⟨F,ρ,ds,s,re,hd,fun vs F1 H1 e1 r1=>hr ds zs F1 H1 vs Q hf e1.fh r1 fun a ws F' H' e' h1 h2 h3 r'=>k (.ref a) F' H' _ (e1.trans e') (_W7 h1 r') fun b z=>by subst z; exact ⟨h2,e1.hh.free h3⟩⟩
theorem do_op {op:Operator} {r:R2} {g:D->D->Option (List D)} {fa fb:FE} (ho:OpR X (binaryOp op) r) (hr:OpO X.K r g) (ha:DE X a fa) (hb:DE X b fb):DO X (.BinOp a op b pos) (o2 g fa fb):=by
 refine PE.imp (pe_op ho ha hb) fun σ H Q q=>?_;obtain ⟨F,ρ,o,s,re,hf,k⟩:=q;obtain ⟨zs,hf2,rfl⟩:=map_some hf;obtain ⟨x,hx,hf⟩:=bind_some hf2;obtain ⟨y,hy,hf⟩:=bind_some hf;exact ⟨F,ρ,x,s,re,hx,fun v F1 H1 e1 r1=>⟨F1,ρ,y,e1.fh,re.mono e1.ff,hy,fun u F2 H2 e2 r2=>hr x y zs F2 H2 v u Q hf e2.fh (r1.mono e2.ff) r2 fun a ws F' H' e' h1 h2 h3 r' =>
  k (.ref a) F' H' _ ((e1.trans e2).trans e') (_W7 h1 r') fun b z=>by subst z; exact ⟨h2,(e1.trans e2).hh.free h3⟩⟩⟩
end
end DL
namespace DL
open PySem PySem.Spec PyProof.Rows L2
structure Bs where
 F₀:Hp
 B:Hp
 P:Nat->Bool
 σ₀:St
def OwnT (K:Frag) (B F H:Hp) (σ:St) (ρ:Cs) (A:Nat->AS):Prop :=
 (∀ (i:Nat) (o:O),ρ[i]?=some (some o)->∃ v,σ[i]?=some (some v)/\Own K F H v o (A i))/\(∀ i b,A i b->F b=none/\B b=none/\∃ o,ρ[i]?=some (some o))/\∀ i j b,A i b->A j b->i=j
structure RS (K:Frag) (β:Bs) (F H:Hp) (σ:St) (ρ:Cs):Prop where
 ext:Ext β.F₀ β.B F H
 len:ρ.length=σ.length
 pin:∀ i,β.P i=true->σ[i]?=β.σ₀[i]?
 own:∃ A:Nat->AS,OwnT K β.B F H σ ρ A
section
variable {K:Frag} {β:Bs} {F F' H H':Hp} {σ:St} {ρ:Cs}
abbrev Bs.re (β:Bs) (F:Hp):Bs:=⟨F,β.B,β.P,β.σ₀⟩
theorem RS.rebase (r:RS K β F H σ ρ):RS K (β.re F) F H σ ρ:=⟨⟨Same.refl _,r.ext.fh,r.ext.hh,fun _ _ h=>.inl h⟩,r.len,r.pin,r.own⟩
theorem _qn5 {F₀ B F1 H1:Hp} (e:Ext F₀ B F H) (r:Ext F B F1 H1):Ext F₀ B F1 H1 :=
 ⟨e.ff.trans r.ff,r.fh,r.hh,fun b o h=>(r.nw b o h).elim (fun z=>e.nw b o z) .inr⟩
theorem RS.unbase (e:Ext β.F₀ β.B F H) {F1 H1:Hp} {σ1:St} {ρ1:Cs} (r:RS K (β.re F) F1 H1 σ1 ρ1):RS K β F1 H1 σ1 ρ1:=⟨_qn5 e r.ext,r.len,r.pin,r.own⟩
theorem OwnT.there {B:Hp} {A:Nat->AS} (w:OwnT K B F H σ ρ A) {i:Nat} {b:Addr} (h:A i b):∃ u,H b=some u/\∀ xs,u ≠ .tup xs/\∀ ob w,u ≠ .frz ob w:=by
 obtain ⟨h1,h2,h3⟩:=w;obtain ⟨_,_,o,ho⟩:=h2 i b h;obtain ⟨v,_,z⟩:=h1 i o ho;exact z.there b h
theorem OwnT.ext {B:Hp} {A:Nat->AS} (w:OwnT K B F H σ ρ A) (e:Ext F H F' H'):OwnT K B F' H' σ ρ A:=by
 have th:=fun i b h=>w.there (i:=i) (b:=b) h;obtain ⟨h1,h2,h3⟩:=w;refine ⟨fun i o h=>?_,fun i b h=>?_,h3⟩
 ·obtain ⟨v,e1,e2⟩:=h1 i o h
  exact ⟨v,e1,e2.ext e.ff e.hh⟩
 ·obtain ⟨e1,e2,ho⟩:=h2 i b h
  obtain ⟨u,hu,_⟩:=th i b h;refine ⟨?_,e2,ho⟩;cases q:F' b with
  | none=>rfl
  | some w =>
   rcases e.nw b w q with z | z
   ·rw [e1] at z; cases z
   ·rw [hu] at z; cases z
theorem RS.ext' (r:RS K β F H σ ρ) (e:Ext F H F' H'):RS K β F' H' σ ρ:=⟨r.ext.trans e,r.len,r.pin,r.own.imp fun _ w=>w.ext e⟩
def msk (S:List Bool) (i:Nat):Bool:=S[i]?.getD false
theorem _qn0 {S:List Bool} {ρ:Cs} {i:Nat} {d:D} (h:(frz S ρ)[i]?=some (some d)):msk S i=true/\∃ o,ρ[i]?=some (some o)/\oD o=some d:=by
 induction S generalizing ρ i with
 | nil=>simp [frz] at h
 | cons b S ih =>
  cases ρ with
  | nil=>simp [frz] at h
  | cons c ρ =>
   cases i with
   | zero =>
    simp [frz] at h;obtain ⟨hb,h⟩:=h;obtain ⟨o,e1,e2⟩:=bind_some h;subst e1;exact ⟨by simp [msk,hb],o,rfl,e2⟩
   | succ i =>
    obtain ⟨h1,h2⟩:=ih (ρ:=ρ) (i:=i) (by simpa [frz] using h);exact ⟨by simpa [msk] using h1,by simpa using h2⟩
theorem _qmz (S:List Bool) (ρ:Cs):(fz S ρ).length=ρ.length:=by
 induction S generalizing ρ with
 | nil=>cases ρ <;> simp [fz]
 | cons b S ih=>cases ρ <;> simp [fz,ih]
theorem _qpa {S:List Bool} {ρ:Cs} {i:Nat} {o:O} (h:(fz S ρ)[i]?=some (some o)) :
  (msk S i=true/\∃ o' d,ρ[i]?=some (some o')/\oD o'=some d/\o=.sh d) \/ (ρ[i]?=some (some o)/\(msk S i=true->oD o=none)):=by
 induction S generalizing ρ i with
 | nil=>cases ρ <;> exact .inr ⟨by simpa [fz] using h,by simp [msk]⟩
 | cons b S ih =>
  cases ρ with
  | nil=>simp [fz] at h
  | cons c ρ =>
   cases i with
   | zero =>
    cases b with
    | true =>
     simp [fz] at h;cases c with
     | none=>cases h
     | some o' =>
      unfold fzc at h;cases q:oD o' with
      | none =>
       simp only [q] at h;cases h;exact .inr ⟨rfl,fun _=>q⟩
      | some d =>
       simp only [q] at h;cases h;exact .inl ⟨by simp [msk],o',d,rfl,q,rfl⟩
    | false=>exact .inr ⟨by simpa [fz] using h,by simp [msk]⟩
   | succ i =>
    rcases ih (ρ:=ρ) (i:=i) (by simpa [fz] using h) with ⟨h1,h2⟩ | ⟨h1,h2⟩
    ·exact .inl ⟨by simpa [msk] using h1,by simpa using h2⟩
    ·exact .inr ⟨by simpa using h1,by simpa [msk] using h2⟩
noncomputable def _wq (F H F':Hp):Hp:=fun b=>match F b with | some o=>some o | none=>match H b with | some _=>none | none=>F' b
theorem _xt:Same F (_wq F H F'):=fun b o h=>by unfold _wq; rw [h]
theorem _qeg {b:Addr} {o:HO} (h:_wq F H F' b=some o):F b=some o \/ (H b=none/\F' b=some o):=by
 unfold _wq at h;cases q:F b with
 | some u=>rw [q] at h; exact .inl h
 | none =>
  rw [q] at h;cases z:H b with
  | some u=>rw [z] at h; cases h
  | none=>rw [z] at h; exact .inr ⟨rfl,h⟩
theorem _Vt {b:Addr} (s:Same F H) (h:H b=none):_wq F H F' b=F' b:=by
 unfold _wq;rw [s.free h,h]
structure Look (F H G:Hp):Prop where
 fg:Same F G
 gh:Same G H
 nt:∀ b u,G b=some u->F b=some u \/ ∀ xs,u ≠ .tup xs/\∀ ob w,u ≠ .frz ob w
section
variable {G:Hp}
theorem Look.ext (l:Look F H G) (e:Ext G H F' H') (s:Same F H):Ext F H (_wq F H F') H' where
 ff:=_xt
 fh:=fun b o h=>by
  rcases _qeg h with h | ⟨_,h⟩
  ·exact e.hh _ _ (s _ _ h)
  ·exact e.fh _ _ h
 hh:=e.hh
 nw:=fun b o h=>by
  rcases _qeg h with h | ⟨h,_⟩
  ·exact .inl h
  ·exact .inr h
theorem Look.at (l:Look F H G) (e:Ext G H F' H') (s:Same F H) {a:Addr} {u:HO} (h:F' a=some u) (nt:(∃ xs,u=.tup xs) \/ ∃ ob w,u=.frz ob w):_wq F H F' a=some u:=by
 rcases e.nw a u h with z | z
 ·rcases l.nt a u z with y | y
  ·unfold _wq; rw [y]
  ·rcases nt with ⟨xs,rfl⟩ | ⟨ob,w,rfl⟩
   ·exact absurd rfl (y xs).1
   ·exact absurd rfl ((y []).2 ob w)
 ·rw [_Vt s z]; exact h
theorem Look.seqT (l:Look F H G) (e:Ext G H F' H') (s:Same F H) {a:Addr} {vs:List V} (h:SqT K F' a vs):SqT K (_wq F H F') a vs:=by
 rcases h with (q | ⟨o,q⟩) | q
 ·exact .inl (.inl (l.at e s q (.inl ⟨_,rfl⟩)))
 ·exact .inl (.inr ⟨o,l.at e s q (.inr ⟨_,_,rfl⟩)⟩)
 ·exact .inr q
theorem _qec (l:Look F H G) (e:Ext G H F' H') (s:Same F H):(∀ {v:V} {d:D},Rep K F' v d->imm d=true->Rep K (DL._wq F H F') v d)/\∀ {vs:List V} {ds:List D},Reps K F' vs ds->_qsy ds=true->Reps K (DL._wq F H F') vs ds:=by
 refine ⟨@Rep.rec K F' (fun v d _=>imm d=true->Rep K (DL._wq F H F') v d) (fun v d _=>_qsy d=true->Reps K (DL._wq F H F') v d) (fun _=>.non) (fun b _=>.bl b) (fun i _=>.int i) (fun x _=>.str x) ?a ?b (fun _=>.nil) ?c,@Reps.rec K F' (fun v d _=>imm d=true->Rep K (DL._wq F H F') v d) (fun v d _=>_qsy d=true->Reps K (DL._wq F H F') v d) (fun _=>.non) (fun b _=>.bl b) (fun i _=>.int i) (fun x _=>.str x) ?a ?b (fun _=>.nil) ?c⟩
 case a=>exact fun _ _ _ h=>by simp [imm] at h
 case b=>exact fun q _ ih h=>.tup (l.seqT e s q) (ih (by simpa [imm] using h))
 case c =>
  intro v d vs ds q t ih it h;simp [_qsy] at h;exact .cons (ih h.1) (it h.2)
theorem Look.rep (l:Look F H G) (e:Ext G H F' H') (s:Same F H) {v:V} {d:D} (h:imm d=true) (q:Rep K F' v d):Rep K (DL._wq F H F') v d:=(_qec l e s).1 q h
theorem Look.reps (l:Look F H G) (e:Ext G H F' H') (s:Same F H) {vs:List V} {ds:List D} (h:_qsy ds=true) (q:Reps K F' vs ds):Reps K (DL._wq F H F') vs ds:=(_qec l e s).2 q h
theorem _qjx (l:Look F H G) (e:Ext G H F' H') (s:Same F H):(∀ {v:V} {o:O} {A:AS},Own K F' H' v o A->oim o=true->Own K (DL._wq F H F') H' v o A)/\∀ {vs:List V} {os:List O} {A:AS},Owns K F' H' vs os A->_qst os=true->Owns K (DL._wq F H F') H' vs os A:=by
 refine ⟨@Own.rec K F' H' (fun v o A _=>oim o=true->Own K (DL._wq F H F') H' v o A) (fun v o A _=>_qst o=true->Owns K (DL._wq F H F') H' v o A) ?a ?b ?c ?a2 ?d,@Owns.rec K F' H' (fun v o A _=>oim o=true->Own K (DL._wq F H F') H' v o A) (fun v o A _=>_qst o=true->Owns K (DL._wq F H F') H' v o A) ?a ?b ?c ?a2 ?d⟩
 case a=>exact fun q hA h=>.sh (l.rep e s (by simpa [oim] using h) q) hA
 case b=>exact fun q n _ hA ih h=>.lst q n (ih (by simpa [oim] using h)) hA
 case c=>exact fun q _ ih h=>.tup (l.at e s q (.inl ⟨_,rfl⟩)) (ih (by simpa [oim] using h))
 case a2=>exact fun hA _=>.nil hA
 case d =>
  intro v o vs os A1 A2 A q t d hA ih it h;simp [_qst] at h;exact .cons (ih h.1) (it h.2) d hA
theorem Look.own (l:Look F H G) (e:Ext G H F' H') (s:Same F H) {v:V} {o:O} {A:AS} (h:oim o=true) (q:Own K F' H' v o A):Own K (DL._wq F H F') H' v o A:=(_qjx l e s).1 q h
end
theorem RS.look (r:RS K β F H σ ρ) (S:List Bool):∃ G,Look F H G/\RE K G σ (frz S ρ)/\RS K β G H σ (fz S ρ):=by
 obtain ⟨A,h1,h2,h3⟩:=r.own
 let Z:AS:=fun b=>∃ i,msk S i=true/\(∃ o d,ρ[i]?=some (some o)/\oD o=some d)/\A i b
 have Zf:∀ b,Z b->F b=none/\β.B b=none:=fun b ⟨i,_,_,q⟩=>⟨(h2 i b q).1,(h2 i b q).2.1⟩;have Zt:∀ b,Z b->∃ u,H b=some u/\∀ xs,u ≠ .tup xs/\∀ ob w,u ≠ .frz ob w:=fun b ⟨i,_,_,q⟩=>by
  obtain ⟨_,_,o,ho⟩:=h2 i b q;obtain ⟨v,_,z⟩:=h1 i o ho;exact z.there b q
 have sF:Same F (_qtx F H Z):=_Jm fun b z=>(Zf b z).1;refine ⟨_qtx F H Z,⟨sF,_qfr r.ext.fh,fun b u q=>?_⟩,fun i d h=>?_,⟨_qag r.ext Zf,(_qmz S ρ).trans r.len,r.pin,?_⟩⟩
 ·by_cases z:Z b
  ·rw [_vz z] at q
   obtain ⟨u',e1,e2⟩:=Zt b z;rw [q] at e1; cases e1;exact .inr e2
  ·rw [_zi z] at q; exact .inl q
 ·obtain ⟨g1,o,g2,g3⟩:=_qn0 h
  obtain ⟨v,e1,e2⟩:=h1 i o g2;exact ⟨v,e1,e2.rep sF g3 fun b z=>_vz ⟨i,g1,⟨o,d,g2,g3⟩,z⟩⟩
 ·classical
  refine ⟨fun i b=>A i b/\¬ (msk S i=true/\∃ o d,ρ[i]?=some (some o)/\oD o=some d),fun i o h=>?_,fun i b h=>?_,fun i j b x y=>h3 i j b x.1 y.1⟩
  ·rcases _qpa h with ⟨g1,o',d,g2,g3,rfl⟩ | ⟨g1,g2⟩
   ·obtain ⟨v,e1,e2⟩:=h1 i o' g2
    exact ⟨v,e1,.sh (e2.rep sF g3 fun b z=>_vz ⟨i,g1,⟨o',d,g2,g3⟩,z⟩) fun b z=>z.2 ⟨g1,o',d,g2,g3⟩⟩
   ·obtain ⟨v,e1,e2⟩:=h1 i o g1
    refine ⟨v,e1,(e2.stay sF (H':=H) fun _ _=>rfl).congr fun b=>⟨fun z=>⟨z,?_⟩,fun z=>z.1⟩⟩;rintro ⟨m,o',d,q1,q2⟩;rw [g1] at q1; cases q1;rw [g2 m] at q2; cases q2
  ·obtain ⟨e1,e2,o,ho⟩:=h2 i b h.1
   refine ⟨(_zi ?_).trans e1,e2,?_⟩
   ·rintro ⟨j,m,q,z⟩
    have:=h3 i j b h.1 z
    subst this;exact h.2 ⟨m,q⟩
   ·
    have hl:i < (fz S ρ).length:=by rw [_qmz]; exact (List.getElem?_eq_some_iff.mp ho).1
    have hx:∃ c,(fz S ρ)[i]?=some c:=⟨_,getElem?_eq_getElem hl⟩;obtain ⟨c,hc⟩:=hx;cases c with
    | some o'=>exact ⟨o',hc⟩
    | none =>
     exfalso
     have:∀ (S:List Bool) (ρ:Cs) (i:Nat) (o:O),ρ[i]?=some (some o)->(fz S ρ)[i]? ≠ some none:=by
      intro S
      induction S with
      | nil=>intro ρ i o h z; cases ρ <;> simp [fz] at z h; rw [h] at z; cases z
      | cons b S ih =>
       intro ρ i o h z;cases ρ with
       | nil=>simp at h
       | cons c ρ =>
        cases i with
        | zero =>
         simp at h; subst h;cases b with
         | false=>simp [fz] at z
         | true=>simp [fz,fzc] at z; split at z <;> cases z
        | succ i=>exact ih ρ i o (by simpa using h) (by simpa [fz] using z)
     exact this S ρ i o ho hc
theorem _qns (ρ:Cs):frz (List.replicate ρ.length true) ρ=all ρ:=by
 induction ρ with
 | nil=>simp [frz,all]
 | cons c ρ ih=>simp [frz,all,List.replicate_succ] at ih ⊢; exact ih
theorem RS.lookAll (r:RS K β F H σ ρ):∃ G,Look F H G/\RE K G σ (all ρ):=by
 obtain ⟨G,l,re,_⟩:=r.look (List.replicate ρ.length true);rw [_qns] at re;exact ⟨G,l,re⟩
theorem RS.back (r:RS K β F H σ ρ) {G:Hp} (l:Look F H G) (e:Ext G H F' H'):RS K β (_wq F H F') H' σ ρ:=r.ext' (l.ext e r.ext.fh)
structure RT (K:Frag) (β:Bs) (F H:Hp) (σ:St) (ρ:Cs) (v:V) (o:O):Prop where
 ext:Ext β.F₀ β.B F H
 len:ρ.length=σ.length
 pin:∀ i,β.P i=true->σ[i]?=β.σ₀[i]?
 own:∃ (A:Nat->AS) (T:AS),OwnT K β.B F H σ ρ A/\Own K F H v o T/\(∀ b,T b->F b=none/\β.B b=none)/\∀ i b,A i b->¬ T b
theorem RT.unbase (e:Ext β.F₀ β.B F H) {F1 H1:Hp} {σ1:St} {ρ1:Cs} {v:V} {o:O} (r:RT K (β.re F) F1 H1 σ1 ρ1 v o):RT K β F1 H1 σ1 ρ1 v o:=⟨_qn5 e r.ext,r.len,r.pin,r.own⟩
theorem RS.push (r:RS K β F H σ ρ) (e:Ext F H F' H') {v:V} {o:O} {T:AS} (q:Own K F' H' v o T) (n:∀ b,T b->F' b=none/\H b=none):RT K β F' H' σ ρ v o :=
 ⟨r.ext.trans e,r.len,r.pin,by
  obtain ⟨A,w⟩:=r.own;refine ⟨A,T,w.ext e,q,fun b z=>⟨(n b z).1,r.ext.hh.free (n b z).2⟩,fun i b x y=>?_⟩;obtain ⟨u,hu,_⟩:=w.there x;rw [(n b y).2] at hu; cases hu⟩
theorem RS.sh (r:RS K β F H σ ρ) {v:V} {d:D} (q:Rep K F v d):RT K β F H σ ρ v (.sh d) :=
 r.push (Ext.refl r.ext.fh) (T:=fun _=>False) (.sh q fun _ z=>z) fun _ z=>z.elim
theorem _qbe {α:Type} {l:List (Option α)} {i j:Nat} {c:Option α} {c':α} (h:(l.set i c)[j]?=some (some c')):(j=i/\some c'=c/\i < l.length) \/ (j ≠ i/\l[j]?=some (some c')):=by
 by_cases e:j=i
 ·subst e
  have hl:j < l.length:=by
   have:=(List.getElem?_eq_some_iff.mp h).1
   simpa using this
  rw [getElem?_set_self hl] at h;cases h;exact .inl ⟨rfl,rfl,hl⟩
 ·rw [getElem?_set_ne (Ne.symm e)] at h
  exact .inr ⟨e,h⟩
theorem RT.give {v:V} {o:O} (r:RT K β F H σ ρ v o) (i:Nat) (hi:β.P i=false):RS K β F H (σ.set i (some v)) (ρ.set i (some o)) where
 ext:=r.ext
 len:=by simpa using r.len
 pin:=fun j h=>by
  have ne:j ≠ i:=by rintro rfl; rw [hi] at h; cases h
  rw [getElem?_set_ne (Ne.symm ne)]; exact r.pin j h
 own:=by
  obtain ⟨A,T,⟨h1,h2,h3⟩,q,n,d⟩:=r.own;have hl:=r.len;refine ⟨fun j b=>(j ≠ i/\A j b) \/ (j=i/\i < ρ.length/\T b),fun j o' h=>?_,fun j b h=>?_,fun j k b x y=>?_⟩
  ·rcases _qbe h with ⟨rfl,e,hl'⟩ | ⟨ne,h⟩
   ·cases e
    exact ⟨v,getElem?_set_self (by rw [<- hl]; exact hl'),q.congr fun b=>⟨fun z=>.inr ⟨rfl,hl',z⟩,fun z=>z.elim (fun y=>absurd rfl y.1) (·.2.2)⟩⟩
   ·obtain ⟨v',e1,e2⟩:=h1 j o' h
    exact ⟨v',by rw [getElem?_set_ne (Ne.symm ne)]; exact e1,e2.congr fun b=>⟨fun z=>.inl ⟨ne,z⟩,fun z=>z.elim (·.2) fun y=>absurd y.1 ne⟩⟩
  ·rcases h with ⟨ne,h⟩ | ⟨rfl,hl',h⟩
   ·obtain ⟨e1,e2,o',ho⟩:=h2 j b h
    exact ⟨e1,e2,o',by rw [getElem?_set_ne (Ne.symm ne)]; exact ho⟩
   ·exact ⟨(n b h).1,(n b h).2,o,getElem?_set_self hl'⟩
  ·rcases x with ⟨_,x⟩ | ⟨rfl,_,x⟩ <;> rcases y with ⟨_,y⟩ | ⟨rfl,_,y⟩
   ·exact h3 j k b x y
   ·exact absurd y (d j b x)
   ·exact absurd x (d k b y)
   ·rfl
theorem RS.set_sh (r:RS K β F H σ ρ) (i:Nat) (hi:β.P i=false) {v:V} {d:D} (q:Rep K F v d):RS K β F H (σ.set i (some v)) (ρ.set i (some (.sh d))):=(r.sh q).give i hi
theorem RS.move (r:RS K β F H σ ρ) {i:Nat} {o:O} (h:ρ[i]?=some (some o)):∃ v,σ[i]?=some (some v)/\RT K β F H σ (ρ.set i none) v o:=by
 obtain ⟨A,h1,h2,h3⟩:=r.own;obtain ⟨v,e1,e2⟩:=h1 i o h;refine ⟨v,e1,r.ext,by simpa using r.len,r.pin,fun j b=>j ≠ i/\A j b,A i,⟨fun j o' h=>?_,fun j b h=>?_,fun j k b x y=>h3 j k b x.2 y.2⟩,e2,fun b z=>⟨(h2 i b z).1,(h2 i b z).2.1⟩,fun j b x y=>x.1 (h3 j i b x.2 y)⟩
 ·rcases _qbe h with ⟨_,e,_⟩ | ⟨ne,h⟩
  ·cases e
  ·obtain ⟨v',g1,g2⟩:=h1 j o' h
   exact ⟨v',g1,g2.congr fun b=>⟨fun z=>⟨ne,z⟩,(·.2)⟩⟩
 ·obtain ⟨g1,g2,o',ho⟩:=h2 j b h.2
  exact ⟨g1,g2,o',by rw [getElem?_set_ne (Ne.symm h.1)]; exact ho⟩
end
def tM (K:Frag) (f:FM):TE:=fun σ H Q=>∃ β F ρ p,RS K β F H σ ρ/\f ρ=some p/\∀ v F' H',Same F F'->Same H H'->RT K β F' H' σ p.2 v p.1->Q v H'
def DM (X:Cx) (e:Expr) (f:FM):Prop:=PE X e (tM X.K f)
section
variable {X:Cx} {e:Expr}
theorem DE.m (S:List Bool) {f:FE} (h:DE X e f):DM X e (mE S f):=by
 refine PE.imp h fun σ H Q q=>?_;obtain ⟨β,F,ρ,p,r,hf,k⟩:=q;obtain ⟨d,hd,rfl⟩:=map_some hf;obtain ⟨G,l,re,rz⟩:=r.look S;refine ⟨G,frz S ρ,d,l.gh,re,hd,fun v F' H' e q=>?_⟩
 by_cases hi:imm d=true
 ·rw [if_pos hi] at k
  exact k v _ H' _xt e.hh ((r.back l e).sh (l.rep e r.ext.fh hi q))
 ·rw [if_neg hi] at k
  exact k v F' H' (l.fg.trans e.ff) e.hh ((rz.ext' e).sh q)
theorem DO.m (S:List Bool) {f:FO} (h:DO X e f):DM X e (mO S f):=by
 refine PE.imp h fun σ H Q q=>?_;obtain ⟨β,F,ρ,p,r,hf,k⟩:=q;obtain ⟨o,ho,rfl⟩:=map_some hf;obtain ⟨G,l,re,rz⟩:=r.look S;refine ⟨G,frz S ρ,o,l.gh,re,ho,fun v F' H' A e q n=>?_⟩
 by_cases hi:oim o=true
 ·rw [if_pos hi] at k
  exact k v _ H' _xt e.hh (r.push (l.ext e r.ext.fh) (l.own e r.ext.fh hi q) fun b z=>⟨(_Vt r.ext.fh (n b z).2).trans (n b z).1,(n b z).2⟩)
 ·rw [if_neg hi] at k
  exact k v F' H' (l.fg.trans e.ff) e.hh (rz.push e q n)
theorem _qnc {i:Nat} {x:Str} {pos:Pos} (h:PE X (.Name x pos) (tVar i)):DM X (.Name x pos) (mMv i):=by
 refine PE.imp h fun σ H Q q=>?_;obtain ⟨β,F,ρ,p,r,hf,k⟩:=q;obtain ⟨o,ho,rfl⟩:=map_some hf;have hi:ρ[i]?=some (some o):=by
  cases q:ρ[i]? with
  | none=>rw [q] at ho; cases ho
  | some c=>rw [q] at ho; cases c with
   | none=>cases ho
   | some o'=>cases ho; rfl
 obtain ⟨v,e1,rt⟩:=r.move hi;exact ⟨v,e1,k v F H (Same.refl _) (Same.refl _) rt⟩
end
def EndS (K:Frag) (β:Bs) (E:Ends):Out->Prop
 | .nx ρ'=>∀ F' H' σ',RS K β F' H' σ' ρ'->E.nx σ' H'
 | .bk ρ'=>∀ F' H' σ',RS K β F' H' σ' ρ'->E.bk σ' H'
 | .ct ρ'=>∀ F' H' σ',RS K β F' H' σ' ρ'->E.ct σ' H'
 | .rt o ρ'=>∀ F' H' σ' v,RT K β F' H' σ' ρ' v o->E.rt v H'
 | .ex _ _=>False
def tS (K:Frag) (W:List Nat) (b:Blk):TS:=fun E σ H=>∃ β F ρ o,RS K β F H σ ρ/\(∀ i∈W,β.P i=false)/\b ρ=some o/\EndS K β E o
def DS (X:Cx) (st:Stmt) (W:List Nat) (b:Blk):Prop:=PS X st (tS X.K W b)
def DSs (X:Cx) (st:List Stmt) (W:List Nat) (b:Blk):Prop:=PSs X st (tS X.K W b)
section
variable {X:Cx} {st:Stmt} {rest:List Stmt} {a e:Expr} {pos:Pos} {W W1 W2:List Nat}
theorem _qgs {β:Bs} (h:∀ i∈W1++W2,β.P i=false):∀ i∈W1,β.P i=false:=fun i m=>h i (List.mem_append_left _ m)
theorem _qmo {β:Bs} (h:∀ i∈W1++W2,β.P i=false):∀ i∈W2,β.P i=false:=fun i m=>h i (mem_append_right _ m)
theorem _F:DSs X [] [] _qtt:=by
 refine PSs.imp pss_nil fun E σ H q=>?_;obtain ⟨β,F,ρ,o,r,_,h,k⟩:=q;cases h;exact k F H σ r
theorem _c {b c:Blk} (h1:DS X st W1 b) (h2:DSs X rest W2 c):DSs X (st :: rest) (W1++W2) (_qtr b c):=by
 refine PSs.imp (pss_cons h1 h2) fun E σ H q=>?_;obtain ⟨β,F,ρ,o,r,hw,h,k⟩:=q;unfold _qtr at h;cases hb:b ρ with
 | none=>rw [hb] at h; cases h
 | some o1 =>
  rw [hb] at h;cases o1 with
  | nx ρ'=>exact ⟨β,F,ρ,.nx ρ',r,_qgs hw,hb,fun F' H' σ' r'=>⟨β,F',ρ',o,r',_qmo hw,h,k⟩⟩
  | bk ρ'=>cases h; exact ⟨β,F,ρ,.bk ρ',r,_qgs hw,hb,k⟩
  | ct ρ'=>cases h; exact ⟨β,F,ρ,.ct ρ',r,_qgs hw,hb,k⟩
  | rt d ρ'=>cases h; exact ⟨β,F,ρ,.rt d ρ',r,_qgs hw,hb,k⟩
  | ex d ρ'=>cases h; exact ⟨β,F,ρ,.ex d ρ',r,_qgs hw,hb,k⟩
theorem _f {b:Blk} (h1:DS X st W b):DSs X [st] W b:=pss_one h1
theorem _r (i:Nat) {f:FM} {st:Stmt} (hp:PS X st (tAsg (tM X.K f) (gName i))):DS X st [i] (_qtq i f):=by
 refine PS.imp hp fun E σ H q=>?_;obtain ⟨β,F,ρ,o,r,hw,h,k⟩:=q;obtain ⟨p,hd,rfl⟩:=map_some h;exact ⟨β,F,ρ,p,r,hd,fun v F' H' _ _ rt=>k F' H' _ (rt.give i (hw i (by simp)))⟩
theorem _p {f:FM} (h:DM X e f):DS X (.Return (some e) pos) [] (_qts f):=by
 refine PS.imp (ps_ret h) fun E σ H q=>?_;obtain ⟨β,F,ρ,o,r,hw,h,k⟩:=q;obtain ⟨p,hd,rfl⟩:=map_some h;exact ⟨β,F,ρ,p,r,hd,fun v F' H' _ _ rt=>k F' H' σ v rt⟩
theorem _ka {c:Expr} {as bs:List Stmt} {q:FT} {a b:Blk} (hc:DT X c q) (ha:DSs X as W1 a) (hb:DSs X bs W2 b):DS X (.If c as bs pos) (W1++W2) (bIf q a b):=by
 refine PS.imp (ps_if hc ha hb) fun E σ H z=>?_;obtain ⟨β,F,ρ,o,r,hw,h,k⟩:=z;obtain ⟨t,ht,h⟩:=bind_some h;obtain ⟨G,l,re⟩:=r.lookAll;refine ⟨G,DL.all ρ,t,l.gh,re,ht,fun F' H' e=>?_⟩;have r':=r.back l e;cases t with
 | true=>rw [if_pos rfl] at h; exact iteT ⟨β,_,ρ,o,r',_qgs hw,h,k⟩
 | false=>rw [if_neg Bool.false_ne_true] at h; exact iteF ⟨β,_,ρ,o,r',_qmo hw,h,k⟩
theorem _qkp {st:Stmt}:DS X st [] bNever:=by
 refine PS.imp ps_never fun E σ H q=>?_;obtain ⟨β,F,ρ,o,r,_,h,k⟩:=q;cases h
def tG (K:Frag) (W:List Nat) (g:GD):TG:=fun v σ H Q=>∃ β F ρ d ρ',RS K β F H σ ρ/\(∀ i∈W,β.P i=false)/\Rep K F v d/\g d ρ=some ρ'/\∀ σ',RS K β F H σ' ρ'->Q σ' H
def tGs (K:Frag) (W:List Nat) (g:List D->Cs->Option Cs):TGs:=fun vs σ H Q=>∃ β F ρ ds ρ',RS K β F H σ ρ/\(∀ i∈W,β.P i=false)/\Reps K F vs ds/\g ds ρ=some ρ'/\∀ σ',RS K β F H σ' ρ'->Q σ' H
def DG (X:Cx) (tg:Expr) (W:List Nat) (g:GD):Prop:=PG X tg (tG X.K W g)
theorem _N (i:Nat) {tg:Expr} (h:PG X tg (gName i)):DG X tg [i] (gN i):=by
 refine PG.imp h fun v σ H Q q=>?_;obtain ⟨β,F,ρ,d,ρ',r,hw,q,h,k⟩:=q;cases h;exact k _ (r.set_sh i (hw i (by simp)) q)
theorem _qmy:∀ {gs:List GD} {ds:List D} {ρ ρ':Cs},gT gs ds ρ=some ρ'->ds.length=gs.length
 | [],[],_,_,_=>rfl
 | g :: gs,d :: ds,ρ,ρ',h=>by
  obtain ⟨r1,_,h2⟩:=bind_some h;simp [_qmy h2]
 | [],_ :: _,_,_,h=>by simp [gT] at h
 | _ :: _,[],_,_,h=>by simp [gT] at h
def DGs (X:Cx) (ts:List Expr) (W:List Nat) (gs:List GD):Prop:=PGs X ts (tGs X.K W (gT gs))
theorem _Q0:DGs X [] [] []:=by
 intro pins s σ H vs us Q I rv q;refine pgs_nil pins s σ H vs us Q I rv ?_;obtain ⟨β,F,ρ,ds,ρ',r,hw,q,h,k⟩:=q;cases q with
 | nil=>cases h; exact ⟨rfl,k _ r⟩
 | cons=>cases h
theorem _qg {t:Expr} {ts:List Expr} {g:GD} {gs:List GD} (h1:DG X t W1 g) (h2:DGs X ts W2 gs)
  (hs:(assignEach (t :: ts) X.env).map (·.2)=assign t X.env :: (assignEach ts X.env).map (·.2):=by rfl):DGs X (t :: ts) (W1++W2) (g :: gs):=by
 intro pins s σ H vs us Q I rv q;refine pgs_cons h1 h2 hs pins s σ H vs us Q I rv ?_;obtain ⟨β,F,ρ,ds,ρ',r,hw,q,h,k⟩:=q;cases q with
 | nil=>cases h
 | cons q1 q2 =>
  obtain ⟨ρ1,h1,h2⟩:=bind_some h;exact ⟨_,_,rfl,β,F,ρ,_,ρ1,r,_qgs hw,q1,h1,fun σ' r'=>⟨β,F,ρ1,_,ρ',r',_qmo hw,q2,h2,k⟩⟩
theorem _K4 {ts:List Expr} {gs:List GD} {kk:Nat} (hc:X.calm=true) (h:DGs X ts W gs) (hn:(assignEach ts X.env).length=gs.length:=by rfl) (hst:(assignEach ts X.env).findIdx? (·.1)=none:=by rfl):DG X (.Tuple ts kk pos) W (gTp gs):=by
 refine PG.imp (pg_tup hc h hn hst) fun v σ H Q q=>?_;obtain ⟨β,F,ρ,d,ρ',r,hw,q,h,k⟩:=q;unfold gTp at h;split at h
 ·rename_i ds
  cases q with
  | tup q t=>exact ⟨_,_,rfl,seqT r.ext.fh q,by rw [t.length]; exact _qmy h,β,F,ρ,ds,ρ',r,hw,t,h,k⟩
 ·cases h
theorem _qn8 {S:List Bool} {f:FE} {g:GD} {st:Stmt} (hp:PS X st (tAsg (tD X.K f) (tG X.K W g))):DS X st W (bUnp S f g):=by
 refine PS.imp hp fun E σ H q=>?_;obtain ⟨β,F,ρ,o,r,hw,h,k⟩:=q;obtain ⟨d,hd,h⟩:=bind_some h;obtain ⟨ρ',hg,rfl⟩:=map_some h;obtain ⟨G,l,re,rz⟩:=r.look S;exact ⟨G,frz S ρ,d,l.gh,re,hd,fun v F' H' e q=>⟨β,F',fz S ρ,d,ρ',rz.ext' e,hw,q,hg,fun σ' r'=>k F' H' σ' r'⟩⟩
theorem _qer {K:Frag} {β:Bs} {F H:Hp} {σ:St} {ρ:Cs} {gD:GD} {bD:Blk} {d:D} {rest:List D} {o:Out} {E:Ends} {x:V} {N:St->Hp->Prop}
  (r:RS K β F H σ ρ) (hw1:∀ i∈W1,β.P i=false) (hw2:∀ i∈W2,β.P i=false) (q:Rep K F x d) (h:_qt6 gD bD (d :: rest) ρ=some o) (k:EndS K β E o)
  (hN:∀ F' H' σ' ρ',Same F F'->RS K β F' H' σ' ρ'->_qt6 gD bD rest ρ'=some o->N σ' H'):tG K W1 gD x σ H fun σ2 H2=>tS K W2 bD { E with nx:=N,ct:=N,bk:=E.nx } σ2 H2:=by
 obtain ⟨ρ1,h1,h2⟩:=bind_some h;refine ⟨β.re F,F,ρ,d,ρ1,r.rebase,hw1,q,h1,fun σ' r'=>?_⟩;cases hb1:bD ρ1 with
 | none=>rw [hb1] at h2; cases h2
 | some o1 =>
  rw [hb1] at h2;refine ⟨β.re F,F,ρ1,o1,r',hw2,hb1,?_⟩;cases o1 with
  | nx ρ2=>exact fun F' H' σ2 r2=>hN F' H' σ2 ρ2 r2.ext.ff (RS.unbase r.ext r2) h2
  | ct ρ2=>exact fun F' H' σ2 r2=>hN F' H' σ2 ρ2 r2.ext.ff (RS.unbase r.ext r2) h2
  | bk ρ2=>cases h2; exact fun F' H' σ2 r2=>k F' H' σ2 (RS.unbase r.ext r2)
  | rt d ρ2=>cases h2; exact fun F' H' σ2 v r2=>k F' H' σ2 v (RT.unbase r.ext r2)
  | ex d ρ2=>cases h2; exact k
theorem _kb {α:Type} {l:List α} {i:Nat} (h:i < l.length):l.drop i=l[i] :: l.drop (i + 1):=(List.getElem_cons_drop h).symm
theorem _vu {tg iter:Expr} {body:List Stmt} {S:List Bool} {f:FE} {gD:GD} {bD:Blk} (hp:PassesOwn (model X.prog X.w) X.A X.env X.xe) (hc:X.calm=true) (hi:DE X iter f) (hg:DG X tg W1 gD) (hb:DSs X body W2 bD)
  (hs:∀ x,foldedSetIterable iter X.env x=pure x:=by intro _; rfl):DS X (.For tg iter body [] pos) (W1++W2) (_qtu S f gD bD):=by
 refine PS.imp (ps_for hp hc (pi_list hi) hg hb hs) fun E σ H q=>?_;obtain ⟨β,F,ρ,o,r,hw,h,k⟩:=q;obtain ⟨d,hd,h⟩:=bind_some h;rw [_V2] at h;split at h
 ·rename_i ds
  obtain ⟨G,l,re,rz⟩:=r.look S;refine ⟨G,frz S ρ,.lst ds,l.gh,re,hd,fun v F' H' e q=>?_⟩;cases q with
  | lst q t =>
   rename_i a vs;refine ⟨a,rfl,⟨vs,(_qsh e.fh q).l⟩,fun i m σ H=>∃ F ρ,RS X.K β F H σ ρ/\SqE X.K F a vs/\Reps X.K F vs ds/\i <= ds.length/\m=ds.length - i/\_qt6 gD bD (ds.drop i) ρ=some o,
    ⟨_,F',fz S ρ,rz.ext' e,q,t,zero_le _,rfl,h⟩,?_⟩
   rintro i m σ1 H1 ⟨F1,ρ1,r1,q1,t1,hi,rfl,h1⟩
   by_cases hl:i < ds.length
   ·have hv:i < vs.length:=by rw [t1.length]; exact hl
    refine .inr ⟨⟨vs,vs[i],(_qsh r1.ext.fh q1).l,by simp [hv]⟩,fun σ' H'=>∃ F ρ,RS X.K β F H' σ' ρ/\SqE X.K F a vs/\Reps X.K F vs ds/\_qt6 gD bD (ds.drop (i + 1)) ρ=some o,fun σ' H' ⟨F2,ρ2,r2,q2,t2,h2⟩=>⟨_,by omega,F2,ρ2,r2,q2,t2,hl,rfl,h2⟩,fun x H2 y=>?_⟩;obtain ⟨rfl,y⟩:=y;obtain ⟨d,hd1,hd2⟩:=t1.get (y vs (_qsh r1.ext.fh q1).l);have ed:ds[i]=d:=by rw [getElem?_eq_getElem hl] at hd1; exact Option.some.inj hd1
    rw [_kb hl,ed] at h1;exact _qer r1 (_qgs hw) (_qmo hw) hd2 h1 k fun F' H' σ' ρ' s r' h'=>⟨F',ρ',r',_qsh s q1,t1.mono s,h'⟩
   ·refine .inl ⟨⟨vs,(_qsh r1.ext.fh q1).l,by rw [t1.length]; omega⟩,?_⟩
    rw [drop_of_length_le (by omega)] at h1;cases h1;exact k F1 H1 σ1 r1
 ·cases h
theorem _qn2 {K:Frag} {β:Bs} {F H:Hp} {σ:St} {ρ:Cs} {gD:GD} {bD:Blk} {o:Out} {E:Ends} {lo:Int} {n:Nat} (r:RS K β F H σ ρ) (hw1:∀ i∈W1,β.P i=false) (hw2:∀ i∈W2,β.P i=false) (h:_qt6 gD bD (_qsm lo n) ρ=some o) (k:EndS K β E o) :
  ∃ W:Nat->Nat->St->Hp->Prop,(∃ m,W 0 m σ H)/\∀ i m σ H,W i m σ H ->
   ((Itr lo n).stop i H/\E.nx σ H) \/ ((Itr lo n).go i H/\∃ N:St->Hp->Prop,(∀ σ' H',N σ' H'->∃ m',m' < m/\W (i + 1) m' σ' H')/\∀ x H',(Itr lo n).yld i H x H'->tG K W1 gD x σ H' fun σ2 H2=>tS K W2 bD { E with nx:=N,ct:=N,bk:=E.nx } σ2 H2):=by
 refine ⟨fun i m σ H=>∃ F ρ,RS K β F H σ ρ/\i <= n/\m=n - i/\_qt6 gD bD ((_qsm lo n).drop i) ρ=some o,⟨_,F,ρ,r,zero_le _,rfl,h⟩,?_⟩;rintro i m σ1 H1 ⟨F1,ρ1,r1,hi,rfl,h1⟩
 by_cases hl:i < n
 ·refine .inr ⟨hl,fun σ' H'=>∃ F ρ,RS K β F H' σ' ρ/\_qt6 gD bD ((_qsm lo n).drop (i + 1)) ρ=some o,fun σ' H' ⟨F2,ρ2,r2,h2⟩=>⟨_,by omega,F2,ρ2,r2,hl,rfl,h2⟩,fun x H2 y=>?_⟩
  obtain ⟨rfl,rfl⟩:=y;rw [_kb (by simpa [_qsm] using hl)] at h1;have ed:(_qsm lo n)[i]'(by simpa [_qsm] using hl)=D.int (lo + (i:Int)):=by simp [_qsm]
  rw [ed] at h1;exact _qer r1 hw1 hw2 (.int _) h1 k fun F' H' σ' ρ' s r' h'=>⟨F',ρ',r',h'⟩
 ·refine .inl ⟨by show n <= i; omega,?_⟩
  rw [drop_of_length_le (by simp [_qsm]; omega)] at h1;cases h1;exact k F1 H1 σ1 r1
theorem _qkq {tg ar:Expr} {body:List Stmt} {S:List Bool} {f:FA} {gD:GD} {bD:Blk} {p p2:Pos} (hp:PassesOwn (model X.prog X.w) X.A X.env X.xe) (hc:X.calm=true) (hG:Gl X "range") (hm:X.mg "range"=none) (hi:DA X [ar] f) (hg:DG X tg W1 gD) (hb:DSs X body W2 bD)
  (hs1:starEach [ar] X.env=[(false,eval ar X.env)]:=by rfl)
  (hs:∀ x,foldedSetIterable (.Call (.Name "range" p) [ar] [] p2) X.env x=pure x:=by intro _; rfl):DS X (.For tg (.Call (.Name "range" p) [ar] [] p2) body [] pos) (W1++W2) (bForR S f gD bD):=by
 refine PS.imp (ps_for hp hc (pi_range1 hG hm hi hs1) hg hb hs) fun E σ H q=>?_;obtain ⟨β,F,ρ,o,r,hw,h,k⟩:=q;obtain ⟨d,hd,h⟩:=bind_some h;obtain ⟨G,l,re,rz⟩:=r.look S;refine ⟨G,frz S ρ,d,l.gh,re,hd,fun vs F' H' e q=>?_⟩;split at h
 ·rename_i j
  split at h
  ·rename_i hj
   cases q with
   | cons q1 q =>
    cases q1;cases q;exact ⟨j,rfl,by omega,by omega,_qn2 (r.back l e) (_qgs hw) (_qmo hw) h k⟩
  ·cases h
 ·cases h
theorem _Y6 {c:Expr} {body:List Stmt} {cD:FT} {bD:Blk} (hp:PassesOwn (model X.prog X.w) X.A X.env X.xe) (hc:DT X c cD) (hb:DSs X body W bD):DS X (.While c body [] pos) W (_wo cD bD):=by
 refine PS.imp (ps_while hp hc hb) fun E σ H q=>?_;obtain ⟨β,F,ρ,o,r,hw,h,k⟩:=q;obtain ⟨n,h⟩:=_qb3 h;refine ⟨fun m σ H=>∃ F ρ,RS X.K β F H σ ρ/\_Yv cD bD m ρ=some o,⟨n,F,ρ,r,h⟩,?_⟩;rintro m σ1 H1 ⟨F1,ρ1,r1,h1⟩;cases m with
 | zero=>cases h1
 | succ m =>
  unfold _Yv at h1;obtain ⟨t,ht,h1⟩:=bind_some h1;obtain ⟨G,l,re⟩:=r1.lookAll;refine ⟨G,DL.all ρ1,t,l.gh,re,ht,fun F' H' e=>?_⟩;have r2:=r1.back l e;cases t with
  | false =>
   rw [if_neg Bool.false_ne_true] at h1;cases h1;exact iteF (k _ H' σ1 r2)
  | true =>
   rw [if_pos rfl] at h1;refine iteT ⟨fun σ' H'=>∃ F ρ,RS X.K β F H' σ' ρ/\_Yv cD bD m ρ=some o,fun σ' H' q=>⟨m,lt_succ_self _,q⟩,?_⟩;cases hb1:bD ρ1 with
   | none=>rw [hb1] at h1; cases h1
   | some o1 =>
    rw [hb1] at h1;refine ⟨β,_,ρ1,o1,r2,hw,hb1,?_⟩;cases o1 with
    | nx ρ2=>exact fun F' H' σ2 r2=>⟨F',ρ2,r2,h1⟩
    | ct ρ2=>exact fun F' H' σ2 r2=>⟨F',ρ2,r2,h1⟩
    | bk ρ2=>cases h1; exact k
    | rt d ρ2=>cases h1; exact k
    | ex d ρ2=>cases h1; exact k
end
theorem _qoi {K:Frag} {F H:Hp} {N:List Str} {vs:List V} {ds:List D} (s:Same F H) (r:Reps K F vs ds):RS K ⟨F,H,fun _=>false,[]⟩ F H (L2.start N vs) (ini N.length ds) where
 ext:=Ext.refl s
 len:=by simp [L2.start,ini,r.length]
 pin:=fun i h=>by cases h
 own:=by
  refine ⟨fun _ _=>False,fun i o h=>?_,fun _ _ z=>z.elim,fun _ _ _ z=>z.elim⟩;unfold ini at h
  by_cases hi:i < ds.length
  ·rw [List.getElem?_append_left (by simpa using hi),getElem?_map] at h
   cases q:ds[i]? with
   | none=>rw [q] at h; cases h
   | some d' =>
    rw [q] at h;cases h;obtain ⟨v,h1,h2⟩:=r.getD q;refine ⟨v,?_,.sh h2 fun _ z=>z⟩;unfold L2.start;rw [List.getElem?_append_left (by rw [length_map,r.length]; exact hi),getElem?_map,h1];rfl
  ·rw [List.getElem?_append_right (by simpa using hi)] at h
   have:=mem_of_getElem? h
   simp at this
section
variable {P:Program} {w:World} {K:Frag} {mg:Str->Option Value} {base:Heap}
theorem fnO {x qual:Str} {st:Stmt} {f:Addr} {fd:FuncData} {N ps:List Str} {k n m:Nat} {W:List Nat} {b:Blk} (F:Fun K x qual st f fd) (S:FnScope N ps (defScope st)) (hn:ps.length=n) (hm:N.length=m)
  (hb:∀ (cdv:Value) (A:Around) (outer:List Env) (s:Shared) (H:Hp) (E:XK),Room k (A.deeper (envOfC qual (defScope st) s.heap.objs.size f cdv))->DSs (cxOf CX0 P w K mg base N qual (defScope st) f cdv A outer s H E).nox (defBody st) W b) :
  FnOk P w K mg base CX0 (k + 1) f fd ps (spO K n (_qsi m b)):=by
 subst hn hm;refine F.ok S (fun vs H Q E h=>?_) (fun cdv A outer s H vs Q E hr h=>⟨_,hb cdv A outer s H E hr,?_⟩)
 ·obtain ⟨F,ds,d,_,r,hl,_⟩:=h
  rw [r.length,hl]
 ·obtain ⟨F,ds,o,s,r,hl,h,k⟩:=h
  unfold _qsi at h;cases hb1:b (ini N.length ds) with
  | none=>rw [hb1] at h; cases h
  | some o1 =>
   rw [hb1] at h;refine ⟨_,F,_,o1,_qoi s r,fun _ _=>rfl,hb1,?_⟩;cases o1 with
   | nx ρ=>cases h; exact fun F' H' σ' r'=>k _ F' H' (fun _=>False) r'.ext (.sh .non fun _ z=>z) fun _ z=>z.elim
   | rt o' ρ =>
    cases h;intro F' H' σ' v r';obtain ⟨A,T,_,q,n,_⟩:=r'.own;exact k v F' H' T r'.ext q n
   | bk ρ=>cases h
   | ct ρ=>cases h
   | ex c ρ=>cases h
theorem FnOk.d {f:Addr} {fd:FuncData} {ps:List Str} {k n:Nat} {g:List D->Option O} (F:FnOk P w K mg base CX0 k f fd ps (spO K n g)):FnOk P w K mg base CX0 k f fd ps (spD K n fun ds=>(g ds).bind oD) :=
 F.imp fun vs H Q E h=>by
  obtain ⟨F,ds,d,s,r,hl,hg,k⟩:=h;obtain ⟨o,ho,hd⟩:=bind_some hg;exact ⟨F,ds,o,s,r,hl,ho,fun v F' H' A e q hA=>k v (_qtx F' H' A) H' (_qag e hA) (q.rep (_Jm fun b z=>(hA b z).1) hd fun b z=>_vz z)⟩
end
theorem _qox {K:Frag} {g:List D->Option D} {H:Hp} {a:Addr} {ns:List Int} (h:g [.lst (ns.map .int)]=some (.bl true)) (hS:SqE K H a (ns.map V.int)):spD K 1 g [.ref a] H (fun v _=>v=.bl true) fun _ _ _=>False :=
 ⟨H,[.lst (ns.map .int)],.bl true,Same.refl _,.cons (.lst hS (_Vf ns)) .nil,rfl,h,fun v F' H' _ r=>by cases r; rfl⟩
theorem law_call {P:Program} {w:World} {K:Frag} {mg mb:Str->Option Value} {CX:CXT} {k:Nat} {fa a:Addr} {fd:FuncData} {x:Str} {sp:Sp} {s₁:Shared} {vs:List Value} {ns:List Int}
  (KX:K.In s₁.heap) (hns:s₁.heap.Ns mainGlobals mg) (hb:s₁.heap.Ns builtinsNs mb) (hbb:∀ x:Str,x ≠ "__name__"->mb x=bootBuiltins x) (hlim:s₁.heap.NoLimit) (hg:s₁.gens=#[])
  (ha:s₁.heap.get? a=some { cls:=.type "list",data:=.seq vs.toArray }) (hi:IntsAre vs ns) (hl:ns.length <= sizeLine) (hr:Room k callerA)
  (F:∀ base:Heap,K.In base->base.Ns mainGlobals mg->FnOk P w K mg base CX k fa fd [x] sp) (hbind:∀ (s:Shared) (u:Value),BindsTo s fd ⟨[u],[]⟩ [(x,u)])
  (hsp:∀ H:Hp,SqE K H a (ns.map V.int)->sp [.ref a] H (fun v _=>v=.bl true) fun _ _ _=>False)
  (hCX:∀ H e s',CX [] H s₁ (fun _ _ _=>False) e s'->False) :
  codeAny (model P w) callerA (.call (.ref fa) ⟨[.ref a],[]⟩) (fun r s'=>r=.ok (.ret (.bool true))/\OldK s₁.heap s'.heap/\s'.os=s₁.os/\AllBare s'.gens) s₁:=by
 refine L2.law_call KX hns hb hbb hlim hg ha hi hl hr F hbind (fun H _ hS=>hsp H ?_) hCX;rcases hS with h | ⟨o,its,n,hk,hc,hd,hs,hz,r⟩
 ·exact .inl h
 ·have e:=KX a o hk
  rw [ha] at e;cases e;exact .inr ⟨vs,_,hk,by rw [length_map]; exact hl,vals_ints hi⟩
theorem _qhj {l:PySem.W.OpenLaw} {n k:Nat} {q:Program} {loose:List Str} {XP:(Str->Option Value)->Heap->Prop} {YP:World->Heap->Prop} {d:DefRec} {K:Params->Frag} {CX:World->CXT} {sp:World->Sp} {x:Str}
  (hn:l.most=some n) (hn2:n <= sizeLine) (hdf:d.params.defaults=[]) (hr:Room k callerA)
  (hY:∀ (w:World) (h:Heap),YP w h->(K w.params).In h)
  (F:∀ (w:World) (mg:Str->Option Value) (fa:Addr) (h:Heap),(K w.params).In h->h.Ns mainGlobals mg->mg d.name=some (.ref fa) ->
   ∃ fd:FuncData,(∀ (s:Shared) (u:Value),BindsTo s fd ⟨[u],[]⟩ [(x,u)]) /\
    ∀ base:Heap,(K w.params).In base->base.Ns mainGlobals mg->FnOk l.prog w (K w.params) mg base (CX w) k fa fd [x] (sp w))
  (hsp:∀ (w:World) (H:Hp) (a:Addr) (ns:List Int),ns.length <= n->SqE (K w.params) H a (ns.map V.int)->sp w [.ref a] H (fun v _=>v=.bl true) fun _ _ _=>False)
  (hCX:∀ (w:World) (H:Hp) (s:Shared) (e:Value) (s':Shared),CX w [] H s (fun _ _ _=>False) e s'->False) :
  PySem.W.WalkO q loose XP YP l.row.toRowW d [] (fun f vs=>PySem.call f vs):=by
 refine Att.attach_call hn hdf fun w s₀ s₁ mg mb fa o pm cd doc a vs ns G Y ho hd hcd hmg hobj hints hlen hg=>?_;have KX:=hY w _ Y;obtain ⟨fd,hb,hF⟩:=F w mg fa _ KX G.T.g hmg;exact law_call KX G.T.g G.T.b G.T.builtins G.T.nolimit hg hobj hints (le_trans hlen hn2) hr hF hb (fun H hS=>hsp w H a ns hlen hS) fun H e s'=>hCX w H s₁ e s'
def Fn (P:Program) (w:World) (K:Frag) (mg:Str->Option Value) (base:Heap) (k:Nat) (x:Str) (ps:List Str) (sp:Sp):Prop :=
 ∃ f fd,FnOk P w K mg base CX0 k f fd ps sp/\mg x=some (.ref f)/\keepIn K (.ref f)=true/\Binds K fd ps []
section
variable {X:Cx} {k n:Nat} {x:Str} {ps:List Str} {a:Expr} {es:List Expr} {p pos:Pos}
theorem _G {g:List D->Option D} {h:FA} (G:Fn X.prog X.w X.K X.mg X.base k x ps (spD X.K n g)) (hr:Room k X.A) (hg:Gl X x) (ha:DA X (a :: es) h)
  (hdb:(x == ("__debug__":Str))=false:=by decide) (he:starEach (a :: es) X.env=(false,eval a X.env) :: starEach es X.env:=by rfl) (hpl:(backTo pos (starEach es X.env)).any (·.1)=false:=by rfl) :
  DE X (.Call (.Name x p) (a :: es) [] pos) (_A n g h):=by
 obtain ⟨f,fd,F,hm,hk,hb⟩:=G;exact _qne F hr hg hm hk hb ha hdb he hpl
theorem _Ka {g:List D->Option O} {h:FA} (G:Fn X.prog X.w X.K X.mg X.base k x ps (spO X.K n g)) (hr:Room k X.A) (hg:Gl X x) (ha:DA X (a :: es) h)
  (hdb:(x == ("__debug__":Str))=false:=by decide) (he:starEach (a :: es) X.env=(false,eval a X.env) :: starEach es X.env:=by rfl) (hpl:(backTo pos (starEach es X.env)).any (·.1)=false:=by rfl) :
  DO X (.Call (.Name x p) (a :: es) [] pos) (_Xa n g h):=by
 obtain ⟨f,fd,F,hm,hk,hb⟩:=G;exact _qnb F hr hg hm hk hb ha hdb he hpl
end
end DL
namespace DL
open PySem PySem.Spec PyProof.Rows L2
theorem _qpq {α:Type} (xs:List α) (i:Int):atP xs i=atI xs i:=rfl
theorem _qoy {n j:Nat} {i:Int} (h:ixP n i=some j):j < n:=(ixN_seq h).2.1
inductive At (F H:Hp):V->List Stp->V->Prop
 | nil {v:V}:At F H v [] v
 | lst {a:Addr} {vs:List V} {i:Int} {n:Nat} {w v':V} {p:List Stp} (h:H a=some (.lst vs)) (hn:ixP vs.length i=some n) (hv:vs[n]?=some w) (t:At F H w p v'):At F H (.ref a) (.ix i :: p) v'
 | tup {a:Addr} {vs:List V} {i:Int} {n:Nat} {w v':V} {p:List Stp} (h:F a=some (.tup vs)) (hn:ixP vs.length i=some n) (hv:vs[n]?=some w) (t:At F H w p v'):At F H (.ref a) (.ix i :: p) v'
section
variable {K:Frag} {β:Bs} {F F' H H':Hp} {σ:St} {ρ:Cs}
theorem At.mono (sF:Same F F') (sH:Same H H') {v v':V} {p:List Stp} (h:At F H v p v'):At F' H' v p v':=by
 induction h with
 | nil=>exact .nil
 | lst h hn hv _ ih=>exact .lst (sH _ _ h) hn hv ih
 | tup h hn hv _ ih=>exact .tup (sF _ _ h) hn hv ih
theorem At.uniq (s:Same F H) {v v1 v2:V} {p:List Stp} (h:At F H v p v1) (h':At F H v p v2):v1=v2:=by
 induction h with
 | nil=>cases h'; rfl
 | lst h hn hv _ ih =>
  cases h' with
  | lst g gn gv t =>
   rw [h] at g; cases g;rw [hn] at gn; cases gn;rw [hv] at gv; cases gv;exact ih t
  | tup g _ _ _=>have:=s _ _ g; rw [h] at this; cases this
 | tup h hn hv _ ih =>
  cases h' with
  | lst g _ _ _=>have:=s _ _ h; rw [g] at this; cases this
  | tup g gn gv t =>
   rw [h] at g; cases g;rw [hn] at gn; cases gn;rw [hv] at gv; cases gv;exact ih t
def putO (o':O) (p:List Stp) (o:O):Option O:=atO (fun _=>some o') p o
theorem Own.focus:∀ {p:List Stp} {v:V} {c o:O} {A:AS},Own K F H v c A->_qt3 p c=some o ->
  ∃ (v':V) (A1 A2:AS),At F H v p v'/\Own K F H v' o A1/\(∀ b,A b ↔ A1 b \/ A2 b)/\(∀ b,A1 b->¬ A2 b) /\
   ∀ (F' H':Hp) (o':O) (A1':AS),Same F F'->(∀ b,A2 b->H' b=H b)->Own K F' H' v' o' A1'->(∀ b,A1' b->¬ A2 b)->∃ c',putO o' p c=some c'/\Own K F' H' v c' fun b=>A1' b \/ A2 b
 | [],v,c,o,A,h,e=>by
  cases e;exact ⟨v,A,fun _=>False,.nil,h,fun b=>⟨.inl,fun z=>z.elim id False.elim⟩,fun _ _ z=>z,fun F' H' o' A1' _ _ q _=>⟨o',rfl,q.congr fun b=>⟨.inl,fun z=>z.elim id False.elim⟩⟩⟩
 | s :: p,v,c,o,A,h,e=>by
  have ex:∃ n k,plc c s=some n/\(kids c)[n]?=some k/\_qt3 p k=some o:=by
   unfold _qt3 at e;obtain ⟨n,hn,e⟩:=bind_some e;obtain ⟨k,hk,e⟩:=bind_some e;exact ⟨n,k,hn,hk,e⟩
  clear e;obtain ⟨n,k,hn,hk,e⟩:=ex;cases h with
  | sh _ _=>cases s <;> cases hn
  | lst h0 n0 r hA =>
   rename_i a vs os A';cases s with
   | fl x=>cases hn
   | ix i =>
    obtain ⟨w,B1,B2,h1,h2,h3,h4,h5⟩:=r.split (n:=n) (o:=k) hk;obtain ⟨v',A1,A2,g1,g2,g3,g4,g5⟩:=Own.focus (p:=p) h2 e;have hn':ixP vs.length i=some n:=by rw [r.length]; exact hn
    refine ⟨v',A1,fun b=>b=a \/ A2 b \/ B2 b,.lst h0 hn' h1 g1,g2,fun b=>?_,fun b x y=>?_,fun F' H' o' A1' sF kk q dd=>?_⟩
    ·rw [hA b,h3 b,g3 b]
     exact ⟨fun z=>z.elim (fun y=>.inr (.inl y)) fun y=>y.elim (fun x=>x.elim .inl fun w=>.inr (.inr (.inl w))) fun w=>.inr (.inr (.inr w)),fun z=>z.elim (fun y=>.inr (.inl (.inl y))) fun y=>y.elim .inl fun x=>x.elim (fun w=>.inr (.inl (.inr w))) fun w=>.inr (.inr w)⟩
    ·rcases y with rfl | y | y
     ·exact n0 ((h3 b).mpr (.inl ((g3 b).mpr (.inl x))))
     ·exact g4 b x y
     ·exact h4 b ((g3 b).mpr (.inl x)) y
    ·obtain ⟨c',e1,e2⟩:=g5 F' H' o' A1' sF (fun b z=>kk b (.inr (.inl z))) q fun b x y=>dd b x (.inr (.inl y))
     have e3:=h5 F' H' w c' (fun b=>A1' b \/ A2 b) sF (fun b z=>kk b (.inr (.inr z))) e2 fun b x y=>by
      rcases x with x | x
      ·exact dd b x (.inr (.inr y))
      ·exact h4 b ((g3 b).mpr (.inr x)) y
     have ev:vs.set n w=vs:=by
      apply List.ext_getElem? ; intro j
      by_cases hj:j=n
      ·subst hj
       rw [h1,getElem?_set_self (List.getElem?_eq_some_iff.mp h1).1]
      ·rw [getElem?_set_ne (Ne.symm hj)]
     rw [ev] at e3;refine ⟨.lst (os.set n c'),?_,.lst ((kk a (.inl rfl)).trans h0) (A':=fun b=>(A1' b \/ A2 b) \/ B2 b) ?_ e3 fun b=>?_⟩
     ·have:os[n]?=some k:=hk
      unfold putO at e1 ⊢;simp only [atO,hn,this,e1,Option.bind_some,Option.map_some,reset,kids]
     ·rintro ((z | z) | z)
      ·exact dd a z (.inl rfl)
      ·exact n0 ((h3 a).mpr (.inl ((g3 a).mpr (.inr z))))
      ·exact n0 ((h3 a).mpr (.inr z))
     ·exact ⟨fun z=>z.elim (fun y=>.inr (.inl (.inl y))) fun y=>y.elim .inl fun x=>x.elim (fun w=>.inr (.inl (.inr w))) fun w=>.inr (.inr w),fun z=>z.elim (fun y=>.inr (.inl y)) fun y=>y.elim (fun x=>x.elim .inl fun w=>.inr (.inr (.inl w))) fun w=>.inr (.inr (.inr w))⟩
  | tup h0 r =>
   rename_i a vs os;cases s with
   | fl x=>cases hn
   | ix i =>
    obtain ⟨w,B1,B2,h1,h2,h3,h4,h5⟩:=r.split (n:=n) (o:=k) hk;obtain ⟨v',A1,A2,g1,g2,g3,g4,g5⟩:=Own.focus (p:=p) h2 e;have hn':ixP vs.length i=some n:=by rw [r.length]; exact hn
    refine ⟨v',A1,fun b=>A2 b \/ B2 b,.tup h0 hn' h1 g1,g2,fun b=>?_,fun b x y=>?_,fun F' H' o' A1' sF kk q dd=>?_⟩
    ·rw [h3 b,g3 b,or_assoc]
    ·rcases y with y | y
     ·exact g4 b x y
     ·exact h4 b ((g3 b).mpr (.inl x)) y
    ·obtain ⟨c',e1,e2⟩:=g5 F' H' o' A1' sF (fun b z=>kk b (.inl z)) q fun b x y=>dd b x (.inl y)
     have e3:=h5 F' H' w c' (fun b=>A1' b \/ A2 b) sF (fun b z=>kk b (.inr z)) e2 fun b x y=>by
      rcases x with x | x
      ·exact dd b x (.inr y)
      ·exact h4 b ((g3 b).mpr (.inr x)) y
     have ev:vs.set n w=vs:=by
      apply List.ext_getElem? ; intro j
      by_cases hj:j=n
      ·subst hj
       rw [h1,getElem?_set_self (List.getElem?_eq_some_iff.mp h1).1]
      ·rw [getElem?_set_ne (Ne.symm hj)]
     rw [ev] at e3;refine ⟨.tup (os.set n c'),?_,.tup (sF _ _ h0) (e3.congr fun b=>or_assoc)⟩
     have:os[n]?=some k:=hk
     unfold putO at e1 ⊢;simp only [atO,hn,this,e1,Option.bind_some,Option.map_some,reset,kids]
theorem _V8 {g:O->Option O}:∀ {p:List Stp} {c c':O},atO g p c=some c'->∃ o o',_qt3 p c=some o/\g o=some o'/\putO o' p c=some c'
 | [],c,c',h=>⟨c,c',rfl,h,rfl⟩
 | s :: p,c,c',h=>by
  unfold atO at h;obtain ⟨n,hn,h⟩:=bind_some h;obtain ⟨k,hk,h⟩:=bind_some h;obtain ⟨k',h',rfl⟩:=map_some h;obtain ⟨o,o',e1,e2,e3⟩:=_V8 h';refine ⟨o,o',by simp only [_qt3,hn,hk,Option.bind_some,e1],e2,?_⟩;unfold putO at e3 ⊢;simp only [atO,hn,hk,e3,Option.bind_some,Option.map_some]
theorem RT.frame {v:V} {o:O} (r:RT K β F H σ ρ v o):∃ B',RS K ⟨β.F₀,B',β.P,β.σ₀⟩ F H σ ρ/\∀ (F' H':Hp) (σ':St) (ρ':Cs),Same F F'->RS K ⟨β.F₀,B',β.P,β.σ₀⟩ F' H' σ' ρ'->RT K β F' H' σ' ρ' v o:=by
 obtain ⟨A,T,⟨h1,h2,h3⟩,q,n,d⟩:=r.own;have hT:∀ b,T b->∃ u,H b=some u:=fun b z=>by obtain ⟨u,h,_⟩:=q.there b z; exact ⟨u,h⟩
 have e:=r.ext;refine ⟨_qtx β.B H T,⟨⟨e.ff,e.fh,_qfr e.hh,fun b u z=>?_⟩,r.len,r.pin,A,h1,fun i b z=>?_,h3⟩,fun F' H' σ' ρ' sF r'=>⟨⟨r'.ext.ff,r'.ext.fh,fun b u z=>?_,fun b u z=>?_⟩,r'.len,r'.pin,?_⟩⟩
 ·rcases e.nw b u z with y | y
  ·exact .inl y
  ·refine .inr ((_zi fun t=>?_).trans y)
   rw [(n b t).1] at z; cases z
 ·obtain ⟨e1,e2,e3⟩:=h2 i b z
  exact ⟨e1,(_zi (d i b z)).trans e2,e3⟩
 ·refine r'.ext.hh b u ((_zi fun t=>?_).trans z)
  rw [(n b t).2] at z; cases z
 ·rcases r'.ext.nw b u z with y | y
  ·exact .inl y
  ·by_cases t:T b
   ·exact .inr (n b t).2
   ·have y':_qtx β.B H T b=none:=y
    rw [_zi t] at y'; exact .inr y'
 ·obtain ⟨A',g1,g2,g3⟩:=r'.own
  have nB:∀ b,T b->_qtx β.B H T b ≠ none:=fun b t z=>by
   rw [_vz t] at z;obtain ⟨u,hu⟩:=hT b t;rw [hu] at z; cases z
  refine ⟨A',T,⟨g1,fun i b z=>?_,g3⟩,q.stay sF fun b t=>?_,fun b t=>⟨?_,(n b t).2⟩,fun i b x t=>nB b t (g2 i b x).2.1⟩
  ·obtain ⟨e1,e2,e3⟩:=g2 i b z
   refine ⟨e1,?_,e3⟩;have e2':_qtx β.B H T b=none:=e2;rw [_zi fun t=>nB b t e2'] at e2';exact e2'
  ·obtain ⟨u,hu⟩:=hT b t
   rw [hu];exact r'.ext.hh b u ((_vz t).trans hu)
  ·cases z:F' b with
   | none=>rfl
   | some u =>
    exfalso;rcases r'.ext.nw b u z with y | y
    ·have:=e.ff b u y
     rw [(n b t).1] at this; cases this
    ·exact nB b t y
theorem RT.change {v1:V} {o1:O} (r:RT K β F H σ ρ v1 o1) {i:Nat} {c:O} (hc:ρ[i]?=some (some c)) {p:List Stp} {o:O} (ho:_qt3 p c=some o) :
  ∃ (v0 v:V) (A1 T:AS),σ[i]?=some (some v0)/\At F H v0 p v/\Own K F H v o A1/\Own K F H v1 o1 T/\(∀ b,A1 b->¬ T b) /\
   ∀ (x:Addr) (u:HO) (A1':AS) (o' c':O),A1 x->(∀ b,A1' b->A1 b \/ T b)->Own K F (upd H x u) v o' A1'->putO o' p c=some c'->RS K β F (upd H x u) σ (ρ.set i (some c')):=by
 obtain ⟨A,T,⟨h1,h2,h3⟩,qT,hT,hd⟩:=r.own;obtain ⟨v0,e1,q⟩:=h1 i c hc;obtain ⟨v,A1,A2,g1,g2,g3,g4,g5⟩:=q.focus ho;refine ⟨v0,v,A1,T,e1,g1,g2,qT,fun b z=>hd i b ((g3 b).mpr (.inl z)),fun x u A1' o' c' hx hs q' hp=>?_⟩;have xi:A i x:=(g3 x).mpr (.inl hx);have xF:=h2 i x xi;have sH:∀ b w,b ≠ x->H b=some w->upd H x u b=some w:=fun b w ne e=>by rw [upd_ne ne]; exact e
 obtain ⟨c2,f1,f2⟩:=g5 F (upd H x u) o' A1' (Same.refl _) (fun b z=>upd_ne (by rintro rfl; exact g4 b hx z)) q' fun b z y=>by
  rcases hs b z with t | t
  ·exact g4 b t y
  ·exact hd i b ((g3 b).mpr (.inr y)) t
 rw [hp] at f1; cases f1;refine ⟨⟨r.ext.ff,fun b w e=>sH b w (ne_of_none e xF.1) (r.ext.fh b w e),fun b w e=>sH b w (ne_of_none e xF.2.1) (r.ext.hh b w e),r.ext.nw⟩,by simpa using r.len,r.pin,fun j b=>(j ≠ i/\A j b) \/ (j=i/\(A1' b \/ A2 b)),fun j o1 h=>?_,fun j b h=>?_,fun j k b a1 a2=>?_⟩
 ·rcases _qbe h with ⟨rfl,e,_⟩ | ⟨ne,h⟩
  ·cases e
   exact ⟨v0,e1,f2.congr fun b=>⟨fun z=>.inr ⟨rfl,z⟩,fun z=>z.elim (fun y=>absurd rfl y.1) (·.2)⟩⟩
  ·obtain ⟨v',k1,k2⟩:=h1 j o1 h
   refine ⟨v',k1,(k2.stay (Same.refl _) (H':=upd H x u) fun b z=>upd_ne ?_).congr fun b=>⟨fun z=>.inl ⟨ne,z⟩,fun z=>z.elim (·.2) fun y=>absurd y.1 ne⟩⟩;rintro rfl;exact ne (h3 j i b z xi)
 ·rcases h with ⟨ne,h⟩ | ⟨rfl,h⟩
  ·obtain ⟨k1,k2,o1,k3⟩:=h2 j b h
   exact ⟨k1,k2,o1,by rw [getElem?_set_ne (Ne.symm ne)]; exact k3⟩
  ·have hb:F b=none/\β.B b=none:=by
    rcases h with h | h
    ·rcases hs b h with t | t
     ·exact ⟨(h2 j b ((g3 b).mpr (.inl t))).1,(h2 j b ((g3 b).mpr (.inl t))).2.1⟩
     ·exact hT b t
    ·exact ⟨(h2 j b ((g3 b).mpr (.inr h))).1,(h2 j b ((g3 b).mpr (.inr h))).2.1⟩
   exact ⟨hb.1,hb.2,c',getElem?_set_self (List.getElem?_eq_some_iff.mp hc).1⟩
 ·have key:∀ {j b},j ≠ i->A j b->¬ (A1' b \/ A2 b):=fun {j b} ne h z=>by
   rcases z with z | z
   ·rcases hs b z with t | t
    ·exact ne (h3 j i b h ((g3 b).mpr (.inl t)))
    ·exact hd j b h t
   ·exact ne (h3 j i b h ((g3 b).mpr (.inr z)))
  rcases a1 with ⟨n1,a1⟩ | ⟨rfl,a1⟩ <;> rcases a2 with ⟨n2,a2⟩ | ⟨rfl,a2⟩
  ·exact h3 j k b a1 a2
  ·exact absurd a2 (key n1 a1)
  ·exact absurd a1 (key n2 a2)
  ·rfl
end
def tP (K:Frag) (i:Nat) (S:List Bool) (p:FP):TE:=fun σ H Q=>∃ β F ρ q c o,RS K β F H σ ρ/\p (frz S ρ)=some q/\ρ[i]?=some (some c)/\_qt3 q c=some o /\
 ∀ v0 v F' H',σ[i]?=some (some v0)->Same F F'->Same H H'->RS K β F' H' σ ρ->At F' H' v0 q v->Q v H'
def DP (X:Cx) (e:Expr) (i:Nat) (S:List Bool) (p:FP):Prop:=PE X e (tP X.K i S p)
section
variable {X:Cx} {e k:Expr} {pos:Pos} {i:Nat} {S:List Bool} {p:FP}
theorem _Qz {x:Str} (h:PE X (.Name x pos) (tVar i)):DP X (.Name x pos) i S _qsr:=by
 refine PE.imp h fun σ H Q q=>?_;obtain ⟨β,F,ρ,q,c,o,r,hq,hc,ho,k⟩:=q;cases hq;obtain ⟨A,h1,_⟩:=r.own;obtain ⟨v,e1,_⟩:=h1 i c hc;exact ⟨v,e1,k v v F H e1 (Same.refl _) (Same.refl _) r .nil⟩
theorem at_of {K:Frag} {β:Bs} {F H F' H':Hp} {σ:St} {ρ:Cs} {v v1:V} {o1 c o:O} {v0:V} {q:List Stp} (rt:RT K β F' H' σ ρ v1 o1) (hc:ρ[i]?=some (some c)) (ho:_qt3 q c=some o) (e0:σ[i]?=some (some v0)) (sF:Same F F') (sH:Same H H') (h:At F H v0 q v) :
  ∃ (A1 T:AS),Own K F' H' v o A1/\Own K F' H' v1 o1 T/\(∀ b,A1 b->¬ T b)/\∀ (x:Addr) (u:HO) (A1':AS) (o' c':O),A1 x->(∀ b,A1' b->A1 b \/ T b)->Own K F' (upd H' x u) v o' A1'->putO o' q c=some c'->RS K β F' (upd H' x u) σ (ρ.set i (some c')):=by
 obtain ⟨v0',v',A1,T,e1,a1,q1,q2,d,k⟩:=rt.change hc ho;rw [e0] at e1; cases e1
 have:=(h.mono sF sH).uniq rt.ext.fh a1
 subst this;exact ⟨A1,T,q1,q2,d,k⟩
theorem _qam {c:Option (Option O)} {o:O} (h:c.bind id=some o):c=some (some o):=by
 cases c with
 | none=>cases h
 | some c=>cases c with
  | none=>cases h
  | some o'=>cases h; rfl
theorem _qf1 {f:FM} {st:Stmt} (hp:PS X st (tDrop (tBM X.K "list" rAppend (tP X.K i S p) (tCons (tM X.K f) tNil)))):DS X st [] (bMut i S p f _qt5):=by
 refine PS.imp hp fun E σ H z=>?_;obtain ⟨β,F,ρ,o,r,hw,h,k⟩:=z;obtain ⟨q,hq,h⟩:=bind_some h;obtain ⟨c0,hc0,h⟩:=bind_some h;have hc0:=_qam hc0;obtain ⟨m0,ho0',h⟩:=bind_some h;split at h
 ·rename_i hm0
  obtain ⟨os0,rfl⟩:∃ os0,m0=.lst os0:=by cases m0 <;> first | exact ⟨_,rfl⟩ | cases hm0
  have ho0:=ho0';obtain ⟨rr,hf,h⟩:=bind_some h;obtain ⟨c1,hc1,h⟩:=bind_some h;obtain ⟨c',hc',rfl⟩:=map_some h;obtain ⟨m,m',g1,g2,g3⟩:=_V8 hc';have hc1:=_qam hc1;refine ⟨β,F,ρ,q,c0,.lst os0,r,hq,hc0,ho0,fun v0 v F1 H1 e0 s1 s2 r1 at1=>⟨?_,β,F1,ρ,rr,r1,hf,fun w F2 H2 sF sH rt=>?_⟩⟩
  ·obtain ⟨A,h1,_⟩:=r1.own
   obtain ⟨v0',e0',qq⟩:=h1 i c0 hc0;rw [e0] at e0'; cases e0';obtain ⟨v',Aa,Ab,a1,a2,a3⟩:=qq.focus ho0
   have:=at1.uniq r1.ext.fh a1
   subst this;cases a2 with
   | lst h0 _ _ _=>exact .inl ⟨rfl,_,SqL.of h0⟩
  ·obtain ⟨A1,T,q1,q2,d,fin⟩:=at_of rt hc1 g1 e0 sF sH at1
   unfold _qt5 at g2;split at g2
   ·rename_i os
    split at g2
    ·rename_i hlen
     cases g2;cases q1 with
     | lst h0 n0 rv hA =>
      rename_i a vs A';have nT:¬ T a:=d a ((hA a).mpr (.inl rfl));refine ⟨a,vs,w,rfl,rfl,h0,by rw [rv.length]; exact lt_of_lt_of_le hlen (_vb (le_refl _)),?_⟩;refine k F2 _ σ (fin a _ (fun b=>b=a \/ (A' b \/ T b)) _ c' ((hA a).mpr (.inl rfl)) (fun b z=>?_) (.lst upd_same (A':=fun b=>A' b \/ T b) (fun z=>z.elim n0 nT) ?_ fun _=>Iff.rfl) g3)
      ·rcases z with z | z | z
       ·exact .inl ((hA b).mpr (.inl z))
       ·exact .inl ((hA b).mpr (.inr z))
       ·exact .inr z
      ·refine (rv.stay (Same.refl _) (H':=upd H2 a (.lst (vs++[w]))) fun b z=>upd_ne (by rintro rfl; exact n0 z)).append (.cons (q2.stay (Same.refl _) (H':=upd H2 a (.lst (vs++[w]))) fun b z=>upd_ne (by rintro rfl; exact nT z)) (.nil (A:=fun _=>False) fun _ z=>z) (fun _ _ z=>z) fun b=>⟨.inl,fun z=>z.elim id False.elim⟩) fun b z y=>?_
       exact d b ((hA b).mpr (.inr z)) y
    ·cases g2
   ·cases g2
 ·cases h
theorem _qpd {kx:FE} {f:FM} {st:Stmt} (hp:PS X st (tAsg (tM X.K f) (gSub (tP X.K i S p) (tD X.K kx) rSetL))):DS X st [] (bPut i S p kx f):=by
 refine PS.imp hp fun E σ H z=>?_;obtain ⟨β,F,ρ,o,r,hw,h,k⟩:=z;obtain ⟨rr,hf,ha⟩:=bind_some h;obtain ⟨q,hq,hb⟩:=bind_some ha;obtain ⟨dk,hdk,hc⟩:=bind_some hb;obtain ⟨c0,hc0',hd⟩:=bind_some hc;have hc0:=_qam hc0';clear h ha hb hc hc0';have h:=hd;clear hd;split at h
 ·rename_i j
  obtain ⟨c',hc',rfl⟩:=map_some h;obtain ⟨m,m',g1,g2,g3⟩:=_V8 hc';refine ⟨β,F,ρ,rr,r,hf,fun w F1 H1 _ _ rt=>?_⟩;obtain ⟨B',rs,back⟩:=rt.frame;refine ⟨_,F1,rr.2,q,c0,m,rs,hq,hc0,g1,fun v0 v F2 H2 e0 s1 s2 r2 at2=>?_⟩;obtain ⟨G,l,re,rz⟩:=r2.look S;refine ⟨G,frz S rr.2,_,l.gh,re,hdk,fun y F3 H3 e3 q3=>?_⟩;cases q3;have r3:=r2.back l e3;have rt3:=back _ H3 σ rr.2 (s1.trans _xt) r3;obtain ⟨A1,T,q1,q2,d,fin⟩:=at_of rt3 hc0 g1 e0 (_xt (F:=F2) (H:=H2) (F':=F3)) e3.hh at2;unfold gSetI at g2;split at g2
  ·rename_i os
   obtain ⟨n,hn,rfl⟩:=map_some g2;cases q1 with
   | lst h0 n0 rv hA =>
    rename_i a vs A';have nT:¬ T a:=d a ((hA a).mpr (.inl rfl));have hn':ixP vs.length j=some n:=by rw [rv.length]; exact hn
    have hlt:n < os.length:=_qoy hn;obtain ⟨w0,B1,B2,b1,b2,b3,b4,b5⟩:=rv.split (n:=n) (o:=os[n]) (getElem?_eq_getElem hlt);refine ⟨a,vs,j,n,rfl,rfl,h0,hn',?_⟩;have own':=b5 (_wq F2 H2 F3) (upd H3 a (.lst (vs.set n w))) w rr.1 T (Same.refl _) (fun b z=>upd_ne (by rintro rfl; exact n0 ((b3 b).mpr (.inr z)))) (q2.stay (Same.refl _) fun b z=>upd_ne (by rintro rfl; exact nT z)) fun b z y=>d b ((hA b).mpr (.inr ((b3 b).mpr (.inr y)))) z;refine k (_wq F2 H2 F3) _ σ (fin a _ (fun b=>b=a \/ (T b \/ B2 b)) _ c' ((hA a).mpr (.inl rfl)) (fun b z=>?_) (.lst upd_same (A':=fun b=>T b \/ B2 b) ?_ own' fun _=>Iff.rfl) g3)
    ·rcases z with z | z | z
     ·exact .inl ((hA b).mpr (.inl z))
     ·exact .inr z
     ·exact .inl ((hA b).mpr (.inr ((b3 b).mpr (.inr z))))
    ·rintro (z | z)
     ·exact nT z
     ·exact n0 ((b3 a).mpr (.inr z))
  ·cases g2
 ·cases h
end
end DL
namespace DL
open PySem PySem.Spec PyProof.Rows L2 PySem.SeqAt
theorem _qnh {g:Int->Int->Int} {x y d:D} (h:dI g x y=some d):∃ i j,x=.int i/\y=.int j/\d=.int (g i j):=by
 unfold dI at h;split at h
 ·cases h; exact ⟨_,_,rfl,rfl,rfl⟩
 ·cases h
theorem _qni {g:Int->Int->Bool} {x y d:D} (h:dB g x y=some d):∃ i j,x=.int i/\y=.int j/\d=.bl (g i j):=by
 unfold dB at h;split at h
 ·cases h; exact ⟨_,_,rfl,rfl,rfl⟩
 ·cases h
section
variable {K:Frag} {X:Cx}
theorem _qom {g:Int->Int->Int}:OpD K (rI0 fun i j=>.int (g i j)) (dI g):=by
 intro x y d F H v u Q h s rx ry k;obtain ⟨i,j,rfl,rfl,rfl⟩:=_qnh h;cases rx; cases ry;exact ⟨i,j,rfl,rfl,k _ F H (Ext.refl s) (.int _)⟩
theorem _qjg {g:Int->Int->Bool}:OpD K (rI0 fun i j=>.bl (g i j)) (dB g):=by
 intro x y d F H v u Q h s rx ry k;obtain ⟨i,j,rfl,rfl,rfl⟩:=_qni h;cases rx; cases ry;exact ⟨i,j,rfl,rfl,k _ F H (Ext.refl s) (.bl _)⟩
def rAddD:R2:=fun x y H Q=>(∃ i j,x=.int i/\y=.int j/\Q (.int (i + j)) H) \/ ∃ i j,x=.str i/\y=.str j/\i.length + j.length <= sizeLine/\Q (.str (i++j)) H
theorem _vj:OpR X (binaryOp .Add) rAddD:=OpR.or op_add op_add_str
theorem _vh:OpD K rAddD _qtl:=by
 intro x y d F H v u Q h s rx ry k;unfold _qtl at h;split at h
 ·cases h; cases rx; cases ry
  exact .inl ⟨_,_,rfl,rfl,k _ F H (Ext.refl s) (.int _)⟩
 ·split at h
  ·rename_i hl
   cases h; cases rx; cases ry;exact .inr ⟨_,_,rfl,rfl,_vb hl,k _ F H (Ext.refl s) (.str _)⟩
  ·cases h
 ·cases h
theorem _Zr:OpD K (rI0 fun i j=>.int (i - j)) dSub:=_qom
theorem _qe1:OpD K (rI0 fun i j=>.bl (decide (i < j))) dLt:=_qjg
theorem _qje:OpD K (rI0 fun i j=>.bl (decide (i <= j))) dLe:=_qjg
theorem _Ya:OpD K (rI0 fun i j=>.bl (decide (j <= i))) dGe:=_qjg
theorem _qig {i:Int} (h:i.natAbs < BIG):Builtin.Int.intBits i <= 1000001:=by
 unfold BIG at h;exact Nat.le_succ_of_le (intBits_le_iff.mpr h)
theorem _Wb {i:Int} (h:i.natAbs < SHORT):Builtin.Int.intBits i <= 64:=by
 unfold SHORT at h;exact Nat.le_succ_of_le (intBits_le_iff.mpr h)
theorem _qjt {i j:Int} (h:_qi0 i j):IntMulOk i j:=by
 rcases h with h | h | h
 ·exact IntMulOk.of_le (_qig h.1) (_qig h.2) (by decide)
 ·exact IntMulOk.of_left (_Wb h)
 ·exact IntMulOk.of_right (_Wb h)
theorem _M:OpR X (binaryOp .Mult) (rI _qi0 fun i j=>.int (i * j)) :=
 opI fun i j _ _ _ _ _ hc q=>mul_int q (_qjt hc)
theorem _vi:OpR X (binaryOp .FloorDiv) (rI (fun i j=>j ≠ 0/\j.natAbs < BIGD) fun i j=>.int (i.fdiv j)) :=
 opI fun i j _ _ _ _ _ hc q=>floordiv_int hc.1 q (.inl (PyProof.noPylong_of_log2 (by
  have h:=hc.2;unfold BIGD at h
  by_cases hz:j.natAbs=0
  ·rw [hz]; decide
  ·exact (Nat.log2_lt hz).mpr h)))
theorem _L:OpD K (rI _qi0 fun i j=>.int (i * j)) _qte:=by
 intro x y d F H v u Q h s rx ry k;unfold _qte at h;split at h
 ·split at h
  ·rename_i hc
   cases h; cases rx; cases ry;exact ⟨_,_,rfl,rfl,hc,k _ F H (Ext.refl s) (.int _)⟩
  ·cases h
 ·cases h
theorem _vg:OpD K (rI (fun i j=>j ≠ 0/\j.natAbs < BIGD) fun i j=>.int (i.fdiv j)) _qti:=by
 intro x y d F H v u Q h s rx ry k;unfold _qti at h;split at h
 ·split at h
  ·rename_i hc
   cases h; cases rx; cases ry;exact ⟨_,_,rfl,rfl,hc,k _ F H (Ext.refl s) (.int _)⟩
  ·cases h
 ·cases h
theorem _x0:OpD K (rI (fun _ j=>j ≠ 0) fun i j=>.int (i.fmod j)) _qtf:=by
 intro x y d F H v u Q h s rx ry k;unfold _qtf at h;split at h
 ·split at h
  ·rename_i hc
   cases h; cases rx; cases ry;exact ⟨_,_,rfl,rfl,hc,k _ F H (Ext.refl s) (.int _)⟩
  ·cases h
 ·cases h
theorem _qe0:OpD K (rI CPow fun i j=>.int (i ^ j.toNat)) dPow:=by
 intro x y d F H v u Q h s rx ry k;unfold dPow at h;split at h
 ·split at h
  ·rename_i hc
   cases h; cases rx; cases ry;exact ⟨_,_,rfl,rfl,⟨hc.1,by omega,by omega⟩,k _ F H (Ext.refl s) (.int _)⟩
  ·cases h
 ·cases h
theorem _qhl:UnD K (rU fun i=>.int (-i)) dNeg:=by
 intro x d F H v Q h s rx k;unfold dNeg at h;split at h
 ·cases h; cases rx
  exact ⟨_,rfl,k _ F H (Ext.refl s) (.int _)⟩
 ·cases h
mutual
def toP:D->PyData
 | .non=>.none
 | .bl b=>.bool b
 | .int i=>.int i
 | .str x=>.str x
 | .lst ds=>.list (_qsd ds)
 | .tup ds=>.tuple (_qsd ds)
def _qsd:List D->List PyData
 | []=>[]
 | d :: ds=>toP d :: _qsd ds
end
mutual
theorem _qi5:∀ {n:Nat} {d:D},shp n d=true->(toP d).canLay0=true/\(toP d).depth <= n
 | n,.non,_=>by simp [toP,PyData.canLay0,PyData.depth]
 | n,.bl _,_=>by simp [toP,PyData.canLay0,PyData.depth]
 | n,.int _,_=>by simp [toP,PyData.canLay0,PyData.depth]
 | n,.str x,h=>by
  refine ⟨?_,by simp [toP,PyData.depth]⟩;unfold shp at h;simpa [toP,PyData.canLay0,PyData.strOk] using h
 | 0,.lst _,h=>by simp [shp] at h
 | n + 1,.lst xs,h=>by
  obtain ⟨h1,h2⟩:=_kw (n:=n) (ds:=xs) (by simpa [shp] using h);exact ⟨by simpa [toP,PyData.canLay0] using h1,by simpa [toP,PyData.depth] using h2⟩
 | 0,.tup _,h=>by simp [shp] at h
 | n + 1,.tup xs,h=>by
  obtain ⟨h1,h2⟩:=_kw (n:=n) (ds:=xs) (by simpa [shp] using h);exact ⟨by simpa [toP,PyData.canLay0] using h1,by simpa [toP,PyData.depth] using h2⟩
theorem _kw:∀ {n:Nat} {ds:List D},_qsg n ds=true->PyData.canLayAll0 (_qsd ds)=true/\PyData.depthAll (_qsd ds) <= n
 | n,[],_=>by simp [_qsd,PyData.canLayAll0,PyData.depthAll]
 | n,d :: ds,h=>by
  have h':shp n d=true/\_qsg n ds=true:=by simpa [_qsg] using h
  obtain ⟨a1,a2⟩:=_qi5 h'.1;obtain ⟨b1,b2⟩:=_kw h'.2;exact ⟨by simp [_qsd,PyData.canLayAll0,a1,b1],by simp [_qsd,PyData.depthAll]; omega⟩
end
theorem _qz {d:D} (h:shp 20 d=true):SeqAt.shaped (toP d)=true:=by
 obtain ⟨h1,h2⟩:=_qi5 h;unfold SeqAt.shaped;simp [h1]; omega
mutual
theorem _qbh:∀ {n m:Nat} {x y:D},shp n x=true->shp m y=true->PyData.eqv (toP x) (toP y)=eqD x y
 | n,m,x,y,hx,hy=>by
  cases x with
  | lst xs =>
   cases y with
   | lst ys =>
    cases n with
    | zero=>simp [shp] at hx
    | succ n=>cases m with
     | zero=>simp [shp] at hy
     | succ m =>
      simp only [toP,PyData.eqv,eqD];exact _Y3 (n:=n) (m:=m) (by simpa [shp] using hx) (by simpa [shp] using hy)
   | _=>simp [toP,PyData.eqv,eqD]
  | tup xs =>
   cases y with
   | tup ys =>
    cases n with
    | zero=>simp [shp] at hx
    | succ n=>cases m with
     | zero=>simp [shp] at hy
     | succ m =>
      simp only [toP,PyData.eqv,eqD];exact _Y3 (n:=n) (m:=m) (by simpa [shp] using hx) (by simpa [shp] using hy)
   | _=>simp [toP,PyData.eqv,eqD]
  | _ =>
   cases y with
   | _=>simp [toP,PyData.eqv,eqD]
theorem _Y3:∀ {n m:Nat} {xs ys:List D},_qsg n xs=true->_qsg m ys=true->PyData.eqvAll (_qsd xs) (_qsd ys)=_qtb xs ys
 | n,m,[],[],_,_=>by simp [_qsd,PyData.eqvAll,_qtb]
 | n,m,[],_ :: _,_,_=>by simp [_qsd,PyData.eqvAll,_qtb]
 | n,m,_ :: _,[],_,_=>by simp [_qsd,PyData.eqvAll,_qtb]
 | n,m,x :: xs,y :: ys,hx,hy=>by
  have hx':shp n x=true/\_qsg n xs=true:=by simpa [_qsg] using hx
  have hy':shp m y=true/\_qsg m ys=true:=by simpa [_qsg] using hy
  simp only [_qsd,PyData.eqvAll,_qtb];rw [_qbh hx'.1 hy'.1,_Y3 hx'.2 hy'.2]
end
def rEqD (K:Frag) (neg:Bool):R2:=fun x y H Q=>∃ F dx dy,Same F H/\Rep K F x dx/\Rep K F y dy/\shp 20 dx=true/\shp 20 dy=true/\Q (.bl (if neg=true then !eqD dx dy else eqD dx dy)) H
variable {pins:List (Addr × Obj)} {σ:L2.St} {H F:Hp} {s:Shared}
theorem _qas (I:Inv X pins σ H s) (e:Same F H):(∀ {v:V} {d:D},Rep X.K F v d->∀ {n:Nat},shp n d=true->∀ {u:Value},RelV v u->∃ as,Reads s.heap u (toP d) as)/\∀ {vs:List V} {ds:List D},Reps X.K F vs ds->∀ {n:Nat},_qsg n ds=true->∀ {us:List Value},Vals vs us->∃ as,ReadsAll s.heap us (_qsd ds) as:=by
 refine ⟨@Rep.rec X.K F (fun v d _=>∀ {n:Nat},shp n d=true->∀ {u:Value},RelV v u->∃ as,Reads s.heap u (toP d) as) (fun v d _=>∀ {n:Nat},_qsg n d=true->∀ {us:List Value},Vals v us->∃ as,ReadsAll s.heap us (_qsd d) as) ?n ?b ?i ?s ?l ?t ?m ?c,@Reps.rec X.K F (fun v d _=>∀ {n:Nat},shp n d=true->∀ {u:Value},RelV v u->∃ as,Reads s.heap u (toP d) as) (fun v d _=>∀ {n:Nat},_qsg n d=true->∀ {us:List Value},Vals v us->∃ as,ReadsAll s.heap us (_qsd d) as) ?n ?b ?i ?s ?l ?t ?m ?c⟩
 case n=>intro n _ u r; cases r; exact ⟨_,.none⟩
 case b=>intro b n _ u r; cases r; exact ⟨_,.bool b⟩
 case i=>intro i n _ u r; obtain ⟨t,rfl⟩:=r; exact ⟨_,.int i t⟩
 case s=>intro x n _ u r; obtain ⟨t,rfl⟩:=r; exact ⟨_,.str x t⟩
 case l =>
  intro a vs ds h q ih n hs u r;cases n with
  | zero=>simp [shp] at hs
  | succ n =>
   cases r;obtain ⟨its,_,rv,h1,_⟩:=Inv.listE I (_qsh e h);obtain ⟨as,z⟩:=ih (n:=n) (by simpa [shp] using hs) rv;exact ⟨_,.list h1 rfl rfl (by simpa using z)⟩
 case t =>
  intro a vs ds h q ih n hs u r;cases n with
  | zero=>simp [shp] at hs
  | succ n =>
   cases r;obtain ⟨its,rv,⟨o,h1,h2,_,h3⟩,_⟩:=I.tuple (seqT e h);obtain ⟨as,z⟩:=ih (n:=n) (by simpa [shp] using hs) rv;exact ⟨_,.tuple h1 h2 h3 (by simpa using z)⟩
 case m=>intro n _ us r; cases r; exact ⟨_,.nil⟩
 case c =>
  intro v d vs ds h q ih it n hs us r;cases r with
  | cons r1 r2 =>
   have hs':shp n d=true/\_qsg n ds=true:=by simpa [_qsg] using hs
   obtain ⟨as,z⟩:=ih hs'.1 r1;obtain ⟨bs,z2⟩:=it hs'.2 r2;exact ⟨_,.cons z z2⟩
theorem Rep.reads (I:Inv X pins σ H s) (e:Same F H) {v:V} {d:D} {n:Nat} (h:Rep X.K F v d) (hs:shp n d=true) {u:Value} (r:RelV v u):∃ as,Reads s.heap u (toP d) as:=(_qas I e).1 h hs r
theorem Reps.reads (I:Inv X pins σ H s) (e:Same F H) {vs:List V} {ds:List D} {n:Nat} (h:Reps X.K F vs ds) (hs:_qsg n ds=true) {us:List Value} (r:Vals vs us):∃ as,ReadsAll s.heap us (_qsd ds) as:=(_qas I e).2 h hs r
theorem _kg (hu:X.A.units + 64 < cLine):OpR X (compareOp .Eq) (rEqD X.K false):=by
 intro pins s σ H x y v u Q I rx ry h;obtain ⟨F,dx,dy,e,r1,r2,h1,h2,q⟩:=h;obtain ⟨as,z1⟩:=r1.reads I e h1 rx;obtain ⟨bs,z2⟩:=r2.reads I e h2 ry;exact eq_dataH z1 z2 (_qz h1) (_qz h2) hu (by rw [_qbh h1 h2]; exact ⟨.bl _,H,I,rfl,q⟩)
theorem _qgh (hu:X.A.units + 64 < cLine):OpR X (compareOp .NotEq) (rEqD X.K true):=by
 intro pins s σ H x y v u Q I rx ry h;obtain ⟨F,dx,dy,e,r1,r2,h1,h2,q⟩:=h;obtain ⟨as,z1⟩:=r1.reads I e h1 rx;obtain ⟨bs,z2⟩:=r2.reads I e h2 ry;exact ne_dataH z1 z2 (_qz h1) (_qz h2) hu (by rw [_qbh h1 h2]; exact ⟨.bl _,H,I,rfl,q⟩)
theorem _kf:OpD K (rEqD K false) dEq:=by
 intro x y d F H v u Q h s rx ry k;unfold dEq at h;split at h
 ·rename_i hc
  cases h;exact ⟨F,x,y,s,rx,ry,hc.1,hc.2,k _ F H (Ext.refl s) (.bl _)⟩
 ·cases h
theorem _qgg:OpD K (rEqD K true) dNe:=by
 intro x y d F H v u Q h s rx ry k;unfold dNe at h;split at h
 ·rename_i hc
  cases h;exact ⟨F,x,y,s,rx,ry,hc.1,hc.2,k _ F H (Ext.refl s) (.bl _)⟩
 ·cases h
theorem _X1 {n m:Nat} {x:D} (hx:shp n x=true):∀ {ds:List D},_qsg m ds=true->(_qsd ds).any (fun y=>PyData.eqv y (toP x))=ds.any fun y=>eqD y x
 | [],_=>by simp [_qsd]
 | d :: ds,h=>by
  have h':shp m d=true/\_qsg m ds=true:=by simpa [_qsg] using h
  simp only [_qsd,List.any_cons];rw [_qbh h'.1 hx,_X1 hx h'.2]
def rInD (K:Frag) (neg:Bool):R2:=fun x y H Q=>∃ F dx ds b,Same F H/\Rep K F x dx/\Rep K F y (if b=true then .tup ds else .lst ds)/\shp 20 dx=true/\shp 20 (if b=true then D.tup ds else .lst ds)=true/\Q (.bl (if neg=true then !(ds.any fun y=>eqD y dx) else ds.any fun y=>eqD y dx)) H
theorem _Yb (hu:X.A.units + 64 + 1 < cLine):OpR X (compareOp .In) (rInD X.K false):=by
 intro pins s σ H x y v u Q I rx ry h;obtain ⟨F,dx,ds,b,e,r1,r2,h1,h2,q⟩:=h;obtain ⟨as,z1⟩:=r1.reads I e h1 rx;obtain ⟨bs,z2⟩:=r2.reads I e h2 ry;cases b with
 | false =>
  have h2':_qsg 19 ds=true:=by simpa [shp] using h2
  have z2':Reads s.heap u (.list (_qsd ds)) bs:=by simpa [toP] using z2
  exact in_list_reads z2' z1 (_kw h2').1 (SeqAt.canLay_of_shaped (_qz h1)) (room_in_shaped (_qz h1) (by omega)) (by rw [_X1 h1 h2']; exact ⟨.bl _,H,I,rfl,q⟩)
 | true =>
  have h2':_qsg 19 ds=true:=by simpa [shp] using h2
  have z2':Reads s.heap u (.tuple (_qsd ds)) bs:=by simpa [toP] using z2
  exact in_tuple_reads z2' z1 (_kw h2').1 (SeqAt.canLay_of_shaped (_qz h1)) (room_in_shaped (_qz h1) (by omega)) (by rw [_X1 h1 h2']; exact ⟨.bl _,H,I,rfl,q⟩)
theorem _Jf (hu:X.A.units + 64 + 1 < cLine):OpR X (compareOp .NotIn) (rInD X.K true):=by
 intro pins s σ H x y v u Q I rx ry h;obtain ⟨F,dx,ds,b,e,r1,r2,h1,h2,q⟩:=h;obtain ⟨as,z1⟩:=r1.reads I e h1 rx;obtain ⟨bs,z2⟩:=r2.reads I e h2 ry;cases b with
 | false =>
  have h2':_qsg 19 ds=true:=by simpa [shp] using h2
  have z2':Reads s.heap u (.list (_qsd ds)) bs:=by simpa [toP] using z2
  exact notIn_list_reads z2' z1 (_kw h2').1 (SeqAt.canLay_of_shaped (_qz h1)) (room_in_shaped (_qz h1) (by omega)) (by rw [_X1 h1 h2']; exact ⟨.bl _,H,I,rfl,q⟩)
 | true =>
  have h2':_qsg 19 ds=true:=by simpa [shp] using h2
  have z2':Reads s.heap u (.tuple (_qsd ds)) bs:=by simpa [toP] using z2
  exact notIn_tuple_reads z2' z1 (_kw h2').1 (SeqAt.canLay_of_shaped (_qz h1)) (room_in_shaped (_qz h1) (by omega)) (by rw [_X1 h1 h2']; exact ⟨.bl _,H,I,rfl,q⟩)
theorem _W9:OpD K (rInD K false) dIn:=by
 intro x y d F H v u Q h s rx ry k;unfold dIn at h;split at h
 ·split at h
  ·rename_i hc
   cases h;exact ⟨F,_,_,false,s,rx,ry,hc.1,hc.2,k _ F H (Ext.refl s) (.bl _)⟩
  ·cases h
 ·split at h
  ·rename_i hc
   cases h;exact ⟨F,_,_,true,s,rx,ry,hc.1,hc.2,k _ F H (Ext.refl s) (.bl _)⟩
  ·cases h
 ·cases h
theorem _Je:OpD K (rInD K true) _Q8:=by
 intro x y d F H v u Q h s rx ry k;unfold _Q8 at h;split at h
 ·split at h
  ·rename_i hc
   cases h;exact ⟨F,_,_,false,s,rx,ry,hc.1,hc.2,k _ F H (Ext.refl s) (.bl _)⟩
  ·cases h
 ·split at h
  ·rename_i hc
   cases h;exact ⟨F,_,_,true,s,rx,ry,hc.1,hc.2,k _ F H (Ext.refl s) (.bl _)⟩
  ·cases h
 ·cases h
def rIsB:R2:=fun x y H Q=>(∃ a b,x=.bl a/\y=.bl b/\Q (.bl (a == b)) H) \/ (y=.non/\Q (.bl (decide (x=.non))) H)
def rIsNB:R2:=fun x y H Q=>(∃ a b,x=.bl a/\y=.bl b/\Q (.bl (a != b)) H) \/ (y=.non/\Q (.bl (!decide (x=.non))) H)
theorem _qjh:OpR X (compareOp .Is) rIsB:=by
 intro pins s σ H x y v u Q I rx ry h;rcases h with ⟨a,b,rfl,rfl,q⟩ | h
 ·cases rx; cases ry
  exact is_bool ⟨.bl _,H,I,rfl,q⟩
 ·exact op_isN pins s σ H x y v u Q I rx ry h
theorem _Qv:OpR X (compareOp .IsNot) rIsNB:=by
 intro pins s σ H x y v u Q I rx ry h;rcases h with ⟨a,b,rfl,rfl,q⟩ | h
 ·cases rx; cases ry
  exact isnot_bool ⟨.bl _,H,I,rfl,q⟩
 ·exact op_notN pins s σ H x y v u Q I rx ry h
theorem _qhr {v:V} {d:D} (r:Rep K F v d):decide (v=.non)=(match d with | .non=>true | _=>false):=by
 cases r <;> simp
theorem _qjf:OpD K rIsB dIs:=by
 intro x y d F H v u Q h s rx ry k;unfold dIs at h;split at h
 ·cases h; cases rx; cases ry
  exact .inl ⟨_,_,rfl,rfl,k _ F H (Ext.refl s) (.bl _)⟩
 ·cases ry
  refine .inr ⟨rfl,?_⟩;rw [_qhr rx];split at h
  ·cases h; exact k _ F H (Ext.refl s) (.bl _)
  ·rename_i hx
   cases h;cases x with
   | non=>exact absurd rfl hx
   | _=>exact k _ F H (Ext.refl s) (.bl _)
 ·cases h
theorem _Qu:OpD K rIsNB _qth:=by
 intro x y d F H v u Q h s rx ry k;unfold _qth at h;split at h
 ·cases h; cases rx; cases ry
  exact .inl ⟨_,_,rfl,rfl,k _ F H (Ext.refl s) (.bl _)⟩
 ·cases ry
  refine .inr ⟨rfl,?_⟩;rw [_qhr rx];split at h
  ·cases h; exact k _ F H (Ext.refl s) (.bl _)
  ·rename_i hx
   cases h;cases x with
   | non=>exact absurd rfl hx
   | _=>exact k _ F H (Ext.refl s) (.bl _)
 ·cases h
def rIxD (K:Frag):R2:=fun x y H Q=>rIxL K x y H Q \/ rIxT K x y H Q
theorem ix_D:IxR X (rIxD X.K):=ix_list.or ix_tup
theorem _qij {vs:List V} {ds:List D} {i:Int} {d:D} (r:Reps K F vs ds) (h:atP ds i=some d):∃ v,atI vs i=some v/\Rep K F v d:=by
 rw [_qpq] at h;unfold atI at h ⊢;rw [r.length];obtain ⟨j,h1,h2⟩:=bind_some h;obtain ⟨v,h3,h4⟩:=r.getD h2;exact ⟨v,by rw [h1]; exact h3,h4⟩
theorem _qol:OpD K (rIxD K) dIx:=by
 intro x y d F H v u Q h s rx ry k;unfold dIx at h;split at h
 ·cases rx with
  | lst q r =>
   cases ry;obtain ⟨w,h1,h2⟩:=_qij r h;exact .inl ⟨_,_,_,w,rfl,rfl,(_qsh s q).l,h1,k w F H (Ext.refl s) h2⟩
 ·cases rx with
  | tup q r =>
   cases ry;obtain ⟨w,h1,h2⟩:=_qij r h;exact .inr ⟨_,_,_,w,rfl,rfl,seqT s q,h1,k w F H (Ext.refl s) h2⟩
 ·cases h
theorem _qw {a b:Expr} {pos:Pos} {fa fb:FE} (ha:DE X a fa) (hb:DE X b fb) (hs:PlainIx b):DE X (.Subscript a b pos) (f2 dIx fa fb) :=
 PE.imp (pe_ix ix_D ha hb hs) fun _ _ _ q=>d_op _qol q
section
variable {a b c:Expr} {pos:Pos} {op op':CmpOp} {r r':R2} {g g':D->D->Option D} {fa fb fc:FE}
end
theorem _H:_qlg K (fun xs H Q=>∃ p ys,xs=[.ref p]/\(SqL K H p ys \/ SqT K H p ys)/\Q (.int ys.length) H) _qtg:=by
 intro ds d F H vs Q h s r k;unfold _qtg at h;split at h
 ·cases h
  cases r with | cons r r' =>
  cases r';cases r with | lst q t=>exact ⟨_,_,rfl,.inl (_qsh s q).l,k _ F H (Ext.refl s) (by rw [t.length]; exact .int _)⟩
 ·cases h
  cases r with | cons r r' =>
  cases r';cases r with | tup q t=>exact ⟨_,_,rfl,.inr (seqT s q),k _ F H (Ext.refl s) (by rw [t.length]; exact .int _)⟩
 ·cases h
theorem _qbt:_qlg K (fun xs H Q=>∃ i,xs=[.int i]/\Q (.int (if i < 0 then -i else i)) H) dAbs:=by
 intro ds d F H vs Q h s r k;unfold dAbs at h;split at h
 ·cases h
  cases r with | cons r r' =>
  cases r'; cases r;exact ⟨_,rfl,k _ F H (Ext.refl s) (.int _)⟩
 ·cases h
theorem _qf8:_qlg K (fun xs H Q=>∃ i j,xs=[.int i,.int j]/\Q (.int (if j < i then j else i)) H) _qng:=by
 intro ds d F H vs Q h s r k;unfold _qng at h;split at h
 ·cases h
  cases r with | cons r r' =>
  cases r' with | cons r2 r' =>
  cases r'; cases r; cases r2;exact ⟨_,_,rfl,k _ F H (Ext.refl s) (.int _)⟩
 ·cases h
theorem _jb:CallO K (fun xs H Q=>∃ p ys,xs=[.ref p]/\(SqL K H p ys \/ SqT K H p ys)/\∀ l,H l=none->Q (.ref l) (upd H l (.lst ys))) _Zd:=by
 intro ds es F H vs Q h s r k;unfold _Zd at h;split at h
 ·cases h
  cases r with | cons r r' =>
  cases r';cases r with | lst q t=>exact ⟨_,_,rfl,.inl (_qsh s q).l,fun l hl=>k l _ F _ (Ext.laidH s hl) upd_same (s.free hl) hl t⟩
 ·cases h
  cases r with | cons r r' =>
  cases r';cases r with | tup q t=>exact ⟨_,_,rfl,.inr (seqT s q),fun l hl=>k l _ F _ (Ext.laidH s hl) upd_same (s.free hl) hl t⟩
 ·cases h
def rCatE (K:Frag):R2:=fun x y H Q=>∃ l b xs zs,x=.ref l/\y=.ref b/\SqE K H l xs/\SqE K H b zs/\xs.length + zs.length <= sizeLine/\∀ p,H p=none->Q (.ref p) (upd H p (.lst (xs++zs)))
theorem _qb0:OpR X (binaryOp .Add) (rCatE X.K):=by
 intro pins s σ H x y v u Q I rx ry h;obtain ⟨l,b,xs,zs,rfl,rfl,hH,hB,hz,q⟩:=h;cases rx;cases ry;obtain ⟨its,n,r,e,z⟩:=Inv.listE I hH;obtain ⟨its2,n2,r2,e2,z2⟩:=Inv.listE I hB;have hl:=r.length;have hl2:=r2.length;refine PySem.P.add_list e e2 ?_ (by rw [size_toArray,size_toArray]; omega);have ea:its.toArray++its2.toArray=(its++its2).toArray:=by simp
 rw [ea];exact ⟨.ref _,_,I.lnew (t':=s.toks) (r.append r2) (by rw [length_append]; omega),rfl,q _ I.fresh⟩
theorem _qaz:OpO K (rCatE K) _qtj:=by
 intro x y es F H v u Q h s rx ry k;unfold _qtj at h;split at h
 ·split at h
  ·rename_i hl
   cases h;cases rx with
   | lst q1 t1 =>
    cases ry with
    | lst q2 t2=>exact ⟨_,_,_,_,rfl,rfl,_qsh s q1,_qsh s q2,by rw [t1.length,t2.length]; exact _vb hl,fun p hp=>k p _ F _ (Ext.laidH s hp) upd_same (s.free hp) hp (t1.append t2)⟩
  ·cases h
 ·cases h
theorem _qls (n d:Nat) (o:Option Int):slI n d o=HT.sIx n d o:=by
 cases o <;> rfl
theorem _qph (vs:List V) (lo hi:Option Int):cutV vs lo hi=_qtm vs lo hi:=by
 unfold cutV _qtm;rw [_qls,_qls]
theorem Reps.cut {vs:List V} {ds:List D} (r:Reps K F vs ds) (lo hi:Option Int):Reps K F (_qtm vs lo hi) (_qtm ds lo hi):=by
 unfold _qtm;rw [r.length];exact (r.drop _).take _
def tPt (K:Frag) (f:FPt):TO:=fun σ H Q=>∃ F ρ o,Same F H/\RE K F σ ρ/\f ρ=some o/\∀ F' H',Ext F H F' H'->Q o H'
def DPt (X:Cx) (e:Option Expr) (f:FPt):Prop:=PO X e (tPt X.K f)
theorem PO.imp {e:Option Expr} {t t':TO} (h:PO X e t) (i:∀ σ H Q,t' σ H Q->t σ H Q):PO X e t':=fun pins s σ H Q I q=>h pins s σ H Q I (i σ H Q q)
theorem _Vx:DPt X none ptN:=by
 refine PO.imp po_none fun σ H Q q=>?_;obtain ⟨F,ρ,o,s,re,hf,k⟩:=q;cases hf;exact k F H (Ext.refl s)
theorem _Qg {e:Expr} {f:FE} (h:DE X e f):DPt X (some e) (ptE f):=by
 refine PO.imp (po_some h) fun σ H Q q=>?_;obtain ⟨F,ρ,o,s,re,hf,k⟩:=q;obtain ⟨d,hd,hf⟩:=bind_some hf;refine ⟨F,ρ,d,s,re,hd,fun v F' H' e r=>?_⟩;split at hf
 ·cases hf
  cases r;exact ⟨_,rfl,k F' H' e⟩
 ·cases hf
theorem _qna {e:Expr} {lo hi:Option Expr} {f:FE} {l h:FPt} {p2 pos:Pos} (he:DE X e f) (hl:DPt X lo l) (hh:DPt X hi h):DO X (.Subscript e (.Slice lo hi none p2) pos) (oSl f l h):=by
 refine PE.imp (pe_slice sl_list he hl hh) fun σ H Q q=>?_;obtain ⟨F,ρ,o,s,re,hf,k⟩:=q;obtain ⟨d,hd,hf⟩:=bind_some hf;obtain ⟨lo',hlo,hf⟩:=bind_some hf;obtain ⟨hi',hhi,hf⟩:=bind_some hf;refine ⟨F,ρ,d,s,re,hd,fun v F1 H1 e1 r1=>⟨F1,ρ,lo',e1.fh,re.mono e1.ff,hlo,fun F2 H2 e2=>⟨F2,ρ,hi',e2.fh,re.mono (e1.trans e2).ff,hhi,fun F3 H3 e3=>?_⟩⟩⟩;rw [_V2] at hf;split at hf
 ·cases hf
  have e13:=(e1.trans e2).trans e3;cases r1.mono (e2.trans e3).ff with
  | lst q t=>exact ⟨_,_,rfl,(_qsh e3.fh q).l,fun p hp=>k (.ref p) F3 _ _ (e13.trans (Ext.laidH e3.fh hp)) (_W7 (by rw [upd_same,_qph]) (t.cut lo' hi')) fun b z=>by subst z; exact ⟨e3.fh.free hp,e13.hh.free hp⟩⟩
 ·cases hf
def kitB (T:String):Prop:=∀ (K:Frag) (d:D),PySem.W.kitOne K (.type (tyD d)) (.type T)=some (isT d T)
theorem _ql1 {T:String} (hT:kitB T):CallR X (.builtin "isinstance") (fun xs H Q=>∃ v d F,xs=[v,.ty T]/\Same F H/\Rep X.K F v d/\Q (.bl (isT d T)) H):=by
 intro pins s σ H xs us Q I r h;obtain ⟨v,d,F,rfl,sm,rp,q⟩:=h;cases r with
 | cons r1 r =>
  cases r with
  | cons r2 r =>
   cases r;obtain rfl:=(show _=Value.type T from r2);have fin:∀ tk,EP X pins σ Q (.bool (isT d T)) { s with toks:=tk }:=fun tk=>⟨.bl _,H,I.tok tk,rfl,q⟩;have e:=hT X.K d;cases rp with
   | non=>cases r1; exact PySem.W.kia_one PySem.W.kitx_none I.kIn True.intro e (fun z=>nomatch z) fin
   | bl b=>cases r1; exact PySem.W.kia_one PySem.W.kitx_bool I.kIn True.intro e (fun z=>nomatch z) fin
   | int i=>obtain ⟨t,rfl⟩:=r1; exact PySem.W.kia_one PySem.W.kitx_int I.kIn True.intro e (fun z=>nomatch z) fin
   | str x=>obtain ⟨t,rfl⟩:=r1; exact PySem.W.kia_one PySem.W.kitx_str I.kIn True.intro e (fun z=>nomatch z) fin
   | lst h t =>
    cases r1;obtain ⟨its,n,rv,h1,_⟩:=Inv.listE I (_qsh sm h);exact PySem.W.kia_one PySem.W.kitx_list I.kIn ⟨_,h1,rfl⟩ e (fun z=>nomatch z) fin
   | tup h t =>
    cases r1;obtain ⟨its,rv,⟨o,h1,h2,n,h3⟩,_⟩:=I.tuple (seqT sm h);exact PySem.W.kia_one PySem.W.kitx_tuple I.kIn ⟨o,h1,h2⟩ e (fun z=>nomatch z) fin
theorem _qcm {T:String} {x:Str} {a:Expr} {f:FE} {p p2 pos:Pos} (hT:kitB T) (hg:Gl X "isinstance") (hm:X.mg "isinstance"=none) (hg2:Gl X x) (hm2:X.mg x=none) (hv:bootBuiltins x=some (.type T)) (ha:DE X a f)
  (hn2:x ≠ "__name__":=by decide) (hd2:(x == ("__debug__":Str))=false:=by decide)
  (hs:starEach [a,.Name x p2] X.env=(false,eval a X.env) :: starEach [.Name x p2] X.env:=by rfl) (hs2:starEach [.Name x p2] X.env=(false,eval (.Name x p2) X.env) :: starEach [] X.env:=by rfl)
  (hpl:(backTo pos (starEach [.Name x p2] X.env)).any (·.1)=false:=by rfl) :
  DE X (.Call (.Name "isinstance" p) [a,.Name x p2] [] pos) (fIsi T f):=by
 have h2:PE X (.Name x p2) (tC (.ty T)):=pe_bltn hg2 hm2 hv rfl hn2 hd2;refine PE.imp (pe_callB (_ql1 hT) hg hm (by decide +kernel) (pa_cons ha (pa_cons h2 pa_nil hs2) hs) (by decide) (by decide) hs hpl) fun σ H Q q=>?_;obtain ⟨F,ρ,d,s,re,hf,k⟩:=q;obtain ⟨d',hd,hf⟩:=bind_some hf;refine ⟨F,ρ,d',s,re,hd,fun v F1 H1 e1 r1=>⟨v,d',F1,rfl,e1.fh,r1,?_⟩⟩
 ·have:d=.bl (isT d' T):=by cases hf; rfl
  subst this;exact k _ F1 H1 e1 (.bl _)
end
theorem _qmv:kitB "int":=fun K d=>by cases d <;> exact rfl
theorem _qk4:kitB "bool":=fun K d=>by cases d <;> exact rfl
theorem _qef:kitB "list":=fun K d=>by cases d <;> exact rfl
theorem _qb7:kitB "tuple":=fun K d=>by cases d <;> exact rfl
end DL
set_option maxHeartbeats 2000000
namespace DL
open PySem PySem.Spec PyProof.Rows L2
theorem _qa1 {prog:Program} {w:World} {A:Around} {R:Result->Shared->Prop} {s:Shared} {elt target iter:Expr} {ifs:List Expr} {scope:Scope} {pos:Pos} {it acc:Value} {env:Env} (I:Nat->Shared->Prop)
  (turn:∀ n s,I n s->wpAny (model prog w) A (pyNext it) (fun r s₁=>match r with
   | none=>R (.ok .next) s₁
   | some v=>wpAny (model prog w) A (letOwnedTupleGo target it v) (fun _ s₀=>wpAny (model prog w) A (assign target env v) (fun _ s₂ =>
     wpAny (model prog w) A (forIn ifs true fun c r=>if r=true then do let ok <- isTrue c env (eval c env); pure (ForInStep.yield ok) else pure (ForInStep.yield r)) (fun ok s₃ =>
      if ok=true then wpAny (model prog w) A (eval elt env) (fun x s₄ =>
       wpAny (model prog w) A (call (.builtin "list.append") [acc,x]) (fun _ s₅=>∃ m,m < n/\I m s₅) (fun _ _=>False) s₄) (fun _ _=>False) s₃
      else ∃ m,m < n/\I m s₃) (fun _ _=>False) s₂) (fun _ _=>False) s₀) (fun _ _=>False) s₁) (fun _ _=>False) s)
  (n:Nat) (h:I n s) :
  codeAny (model prog w) A (.compLoop (.ListComp elt [⟨target,iter,ifs,0⟩] scope pos) 0 it acc env) R s:=by
 refine codeAny_loop rfl I (fun n s hI=>?_) n h;show wpAny _ A ((compTurn (.ListComp elt [⟨target,iter,ifs,0⟩] scope pos) 0 it acc env).onRaise (fun x=>do noteFrame x env; theTreesLotGoes x)) _ _ s;refine wpAny_noted (wpAny_mono (E:=fun _ _=>False) ?_ (fun _ _ q=>q) fun _ _ z=>z.elim);rw [compTurn_list];refine wpAny_bind (wpAny_standAt (wpAny_bind (wpAny_mono (turn n s hI) (fun r s₁ h₁=>?_) fun _ _ h'=>h')));cases r with
 | none=>exact wpAny_pure h₁
 | some v =>
  refine wpAny_bind (wpAny_mono h₁ (fun _ s₀ h₀=>?_) fun _ _ h'=>h');refine wpAny_bind (wpAny_mono h₀ (fun _ s₂ h₂=>wpAny_bind (wpAny_mono h₂ (fun ok s₃ h₃=>?_) fun _ _ h'=>h')) fun _ _ h'=>h');cases ok with
  | false=>exact wpAny_pure ⟨rfl,h₃⟩
  | true =>
   exact wpAny_bind (wpAny_bind (wpAny_mono h₃ (fun x s₄ h₄=>wpAny_bind (wpAny_mono h₄ (fun _ s₅ h₅=>wpAny_pure (wpAny_pure ⟨rfl,h₅⟩)) fun _ _ h'=>h')) fun _ _ h'=>h'))
def _jh (X:Cx) (N':List Str) (scope:Scope) (cl:List (Str × Addr)) (C:Addr) (s₀:Shared) (H₀:Hp) (ex:List Addr) (pn:List (Addr × Obj)):Cx :=
 { X with N:=N',s₀:=s₀,H₀:=H₀,env:=compEnvC scope cl C X.env,outer:=X.stack,stack:=X.stack,ex:=ex,fn:=fun _=>false,pn:=pn,xe:=fun _ _=>False }
def _k7 (X:Cx) (scope:Scope) (cl:List (Str × Addr)):List (Option Nat)->List Str->Prop
 | [],[]=>True
 | none :: js,_ :: N=>_k7 X scope cl js N
 | some j :: js,x :: N=>(X.N[j]?=some x/\(X.env.kindOf x=some .cell \/ X.env.kindOf x=some .free)/\cl.lookup x=X.env.cells.lookup x/\((relabel scope X.env).names.lookup x=some .cell \/ (relabel scope X.env).names.lookup x=some .free))/\_k7 X scope cl js N
 | _,_=>False
def mkS {α:Type} (js:List (Option Nat)) (σ:List (Option α)):List (Option α):=js.map fun o=>o.bind fun j=>(σ[j]?).bind id
theorem _k7.len {X:Cx} {scope:Scope} {cl:List (Str × Addr)}:∀ {js:List (Option Nat)} {N:List Str},_k7 X scope cl js N->js.length=N.length
 | [],[],_=>rfl
 | none :: js,_ :: N,h=>by simp [_k7.len (js:=js) (N:=N) h]
 | some j :: js,x :: N,h=>by simp [_k7.len h.2]
 | [],_ :: _,h=>h.elim
 | none :: _,[],h=>h.elim
 | some _ :: _,[],h=>h.elim
theorem _k7.get {X:Cx} {scope:Scope} {cl:List (Str × Addr)}:∀ {js:List (Option Nat)} {N:List Str} {i j:Nat} {x:Str},_k7 X scope cl js N->js[i]?=some (some j)->N[i]?=some x ->
  X.N[j]?=some x/\(X.env.kindOf x=some .cell \/ X.env.kindOf x=some .free)/\cl.lookup x=X.env.cells.lookup x/\((relabel scope X.env).names.lookup x=some .cell \/ (relabel scope X.env).names.lookup x=some .free)
 | [],_,_,_,_,_,h,_=>by simp at h
 | none :: js,_ :: N,0,_,_,_,h,_=>by simp at h
 | none :: js,_ :: N,i + 1,_,_,f,h,h'=>_k7.get (js:=js) (N:=N) (i:=i) f (by simpa using h) (by simpa using h')
 | some j :: js,x :: N,0,_,_,f,h,h'=>by simp at h h'; subst h h'; exact f.1
 | some j :: js,x :: N,i + 1,_,_,f,h,h'=>_k7.get (js:=js) (N:=N) (i:=i) f.2 (by simpa using h) (by simpa using h')
 | none :: _,[],_,_,_,f,_,_=>f.elim
 | some _ :: _,[],_,_,_,f,_,_=>f.elim
def _qiu (wi:TI) (g:TG) (tc:TT) (te:TE) (js:List (Option Nat)):TE:=fun σ H Q=>wi σ H fun J H1=>∀ l,H1 l=none->∃ W:Nat->Nat->St->Hp->Prop,(∃ m,W 0 m (mkS js σ) (upd H1 l (.lst [])))/\∀ i m σ H,W i m σ H ->
 (J.stop i H/\Q (.ref l) H) \/ (J.go i H/\∀ x H',J.yld i H x H'->g x σ H' fun σ2 H2=>tc σ2 H2 fun b H3 =>
  if b=true then te σ2 H3 fun y H4=>∃ acc,H4 l=some (.lst acc)/\acc.length < sizeLine/\∃ m',m' < m/\W (i + 1) m' σ2 (upd H4 l (.lst (acc++[y]))) else ∃ m',m' < m/\W (i + 1) m' σ2 H3)
def PIfs (X:Cx) (ifs:List Expr) (t:TT):Prop:=(ifs=[]/\∀ σ H Q,t σ H Q->Q true H) \/ ∃ c,ifs=[c]/\PT X c t
theorem _K5 {X:Cx} {pins:List (Addr × Obj)} {σ:St} {H2:Hp} {s2:Shared} {E:Value->Shared->Prop} {elt target iter:Expr} {ifs:List Expr} {scope:Scope} {pos:Pos} {cl:List (Str × Addr)} {N':List Str} {js:List (Option Nat)}
  {g:TG} {tc:TT} {te:TE} {it:Addr} {fp:List Addr} {tn:Nat->Heap->Prop} {J:It} {RR:Value->Addr->Result->Shared->Prop} {Q:VK}
  (hc:X.calm=true) (hfr:_k7 X scope cl js N') (hcl:∀ x c,cl.lookup x=some c->X.env.cells.lookup x=some c)
  (hhas:∀ x,((relabel scope X.env).names.lookup x=some .cell \/ (relabel scope X.env).names.lookup x=some .free)->∃ c,cl.lookup x=some c)
  (hcell:∀ y∈scope.names,y.2 ≠ .cell) (hkind:scope.kind=.function)
  (hg:∀ C s₀ H₀ ex pn,PG (_jh X N' scope cl C s₀ H₀ ex pn) target g) (ht:∀ C s₀ H₀ ex pn,PIfs (_jh X N' scope cl C s₀ H₀ ex pn) ifs tc) (he:∀ C s₀ H₀ ex pn,PE (_jh X N' scope cl C s₀ H₀ ex pn) elt te)
  (I2:Inv X pins σ H2 s2) (T:Turn X.prog X.w X.K target J fp it tn) (st2:tn 0 s2.heap) (f2:∀ b∈fp,FpOk X pins H2 b)
  (h:∀ l,H2 l=none->∃ W:Nat->Nat->St->Hp->Prop,(∃ m,W 0 m (mkS js σ) (upd H2 l (.lst [])))/\∀ i m σ H,W i m σ H ->
   (J.stop i H/\Q (.ref l) H) \/ (J.go i H/\∀ x H',J.yld i H x H'->g x σ H' fun σ2 H2=>tc σ2 H2 fun b H3 =>
    if b=true then te σ2 H3 fun y H4=>∃ acc,H4 l=some (.lst acc)/\acc.length < sizeLine/\∃ m',m' < m/\W (i + 1) m' σ2 (upd H4 l (.lst (acc++[y]))) else ∃ m',m' < m/\W (i + 1) m' σ2 H3))
  (hRR:∀ D C s' H' m',Inv X pins σ H' s'->s'.heap.Ns C m'->H' C=none->s2.heap.objs.size <= C->Q (.ref D) H'->RR (.ref D) C (.ok .next) s') :
  wpAny (model X.prog X.w) X.A (newList []) (fun acc s₃=>wpAny (model X.prog X.w) X.A (newFunctionEnv scope X.env.globals cl [] X.env.qual none .none (some X.env)) (fun cenv s₄ =>
   codeAny (model X.prog X.w) X.A (.compStart (.ListComp elt [⟨target,iter,ifs,0⟩] scope pos) 0 (.ref it) acc { cenv with scope:=relabel scope X.env }) (RR acc cenv.locals) s₄) E s₃) E s2:=by
 refine wpAny_newObj_type (wpAny_newFunctionEnv hcell (by intro y hy; simp at hy) (fun h₁ hns₁ hsb₁=>?_) hkind);dsimp only at hns₁ hsb₁ ⊢;generalize hS3:({ s2 with heap:=s2.heap.push { cls:=.type "list",dict:=none,data:=.seq ([]:List Value).toArray } }:Shared)=s3;have hH3:s3.heap=s2.heap.push { cls:=.type "list",dict:=none,data:=.seq ([]:List Value).toArray }:=by rw [<- hS3]
 rw [<- hH3] at hns₁ hsb₁ ⊢;have hC:s3.heap.objs.size=s2.heap.objs.size + 1:=by rw [hH3,Heap.size_push]
 have hDn:H2 s2.heap.objs.size=none:=I2.hok.fresh (le_refl _);obtain ⟨W,⟨m0,w0⟩,turn⟩:=h s2.heap.objs.size hDn;have old3:∀ b o,s3.heap.get? b=some o->h₁.get? b=some o:=fun b o e=>hsb₁.extBut b o (ne_of_lt (Heap.lt_size e)) (Heap.get?_push_of_some _ e);have old2:∀ b o,s2.heap.get? b=some o->s3.heap.get? b=some o:=fun b o e=>by rw [hH3]; exact Heap.get?_push_of_some _ e
 have I3:Inv X pins σ (upd H2 s2.heap.objs.size (.lst [])) s3:=by rw [<- hS3]; exact I2.lnew (its:=[]) (ys:=[]) (t':=s2.toks) .nil (zero_le _)
 have blk:∀ tk,Inv (_jh X N' scope cl s3.heap.objs.size s3 (upd H2 s2.heap.objs.size (.lst [])) fp (X.pn++pins)) [] (mkS js σ) (upd H2 s2.heap.objs.size (.lst [])) { s3 with heap:=h₁,toks:=tk }:=fun tk=>by
  have hCn:(upd H2 s2.heap.objs.size (.lst [])) s3.heap.objs.size=none:=I3.hok.fresh (le_refl _);have cellOld:∀ x c,cl.lookup x=some c->∃ v,s3.heap.IsCell c v:=fun x c e=>I3.cell x c (hcl x c e);have fsSub:∀ b∈frs X.stack,b ≠ s3.heap.objs.size:=fun b hb e=>by
   rcases List.mem_cons.mp (I3.stkSub b hb) with z | z
   ·exact absurd I3.lt (by rw [<- z,e]; exact lt_irrefl _)
   ·exact I3.nofs (le_refl _) (e ▸ z)
  refine ⟨⟨I3.ok.mod,hkind,I3.ok.glob,I3.ok.blt,le_refl _,fun x y c h1 h2=>I3.ok.inj x y c (hcl x c h1) (hcl y c h2),fun x hx=>hhas x hx,fun x c hf _=>absurd hf (by simp [_jh]),I3.ok.hd,I3.ok.frames,.inl rfl,fun b hb=>⟨?_,fun x c e z=>?_⟩,
   I3.bs,le_trans I3.ok.bsz I3.sz,fun b o e hb=>?_,fun b hb hb2=>?_,I3.stack,I3.stkFree⟩,rfl,I3.bare,Un.kept old3,⟨_,hns₁,fun i x v h1 h2 h3=>?_⟩,fun x c e=>?_,hCn,fun x c e=>?_,fun p hp=>?_,I3.hok.kept old3,?_⟩
  ·
   obtain ⟨o,ho,_⟩:=T.obj 0 _ st2 b hb;intro z;exact absurd (Heap.lt_size (old2 b o ho)) (by rw [z]; exact lt_irrefl _)
  ·obtain ⟨_,_,_,_,f5,_⟩:=f2 b hb
   exact f5 x c (hcl x c e) z
  ·
   have q:=(I2.bs b o e);obtain ⟨_,_,_,f4,_,_⟩:=f2 b hb;rcases f4 with z | z
   ·exact I2.ok.noex b o e z
   ·exact absurd (lt_of_lt_of_le (Heap.lt_size (I2.ok.bs b o e).1) z) (lt_irrefl _)
  ·obtain ⟨_,f1,f3,_⟩:=f2 b hb
   rcases List.mem_cons.mp (I3.stkSub b hb2) with z | z
   ·exact f1 z
   ·exact f3 z
  ·
   have hj:∃ j,js[i]?=some (some j)/\σ[j]?=some (some v):=by
    unfold mkS at h2;rw [getElem?_map] at h2;cases q:js[i]? with
    | none=>rw [q] at h2; cases h2
    | some oj =>
     rw [q] at h2;cases oj with
     | none=>simp at h2
     | some j =>
      refine ⟨j,rfl,?_⟩;cases z:σ[j]? with
      | none=>simp [z] at h2
      | some ov=>simp [z] at h2; rw [h2]
   obtain ⟨j,hj,hv⟩:=hj;obtain ⟨g1,g2,g3,g4⟩:=hfr.get hj (show N'[i]?=some x from h1);obtain ⟨m,hn,hl⟩:=I3.loc;have vis:Vis X.env.scope x:=by
    rcases g2 with z | z
    ·exact .inr (.inl z)
    ·exact .inr (.inr z)
   obtain ⟨u,r,lk⟩:=hl j x v g1 hv vis;refine ⟨u,r,?_⟩;rcases lk with ⟨kl,_⟩ | ⟨_,c,e,z⟩
   ·rcases g2 with z | z
    ·rw [z] at kl; cases kl
    ·rw [z] at kl; cases kl
   ·obtain ⟨o,ho,hd⟩:=z
    exact .inr ⟨g4,c,g3.trans e,o,old3 c o ho,hd⟩
  ·obtain ⟨v,o,ho,hd⟩:=cellOld x c e
   exact ⟨v,o,old3 c o ho,hd⟩
  ·exact I3.freeC x c (hcl x c e)
  ·have hp':p∈X.pn++pins:=by
    have:p∈(X.pn++pins)++[]:=hp
    simpa using this
   obtain ⟨e,n,ne,nf,d⟩:=I3.pin p hp';refine ⟨old3 _ _ e,n,ne_of_lt (Heap.lt_size e),fun hb=>?_,d⟩;rcases List.mem_cons.mp (I3.stkSub _ hb) with z | z
   ·exact ne z
   ·exact nf z
  ·show (mkS js σ).length=N'.length
   rw [<- hfr.len]; simp [mkS]
 have fpX:∀ {H':Hp} {ps:List (Addr × Obj)},(∀ b∈fp,H' b=none)->(∀ p∈ps,∀ b∈fp,p.1 ≠ b)->∀ b∈fp,FpOk (_jh X N' scope cl s3.heap.objs.size s3 (upd H2 s2.heap.objs.size (.lst [])) fp (X.pn++pins)) ps H' b:=fun {H' ps} hn hps b hb=>by
  obtain ⟨_,f1,f3,f4,f5,f6⟩:=f2 b hb;obtain ⟨o,ho,_⟩:=T.obj 0 _ st2 b hb;refine ⟨hn b hb,fun z=>absurd (Heap.lt_size (old2 b o ho)) (by rw [z]; exact lt_irrefl _),fun hb2=>?_,.inl hb,fun x c e=>f5 x c (hcl x c e),fun p hp=>?_⟩
  ·rcases List.mem_cons.mp (I3.stkSub b hb2) with z | z
   ·exact f1 z
   ·exact f3 z
  ·have hp':p∈(X.pn++pins)++ps:=hp
   rcases List.mem_append.mp hp' with z | z
   ·exact f6 p z
   ·exact hps p z b hb
 have st4:tn 0 h₁:=T.keep 0 _ _ st2 fun b _ o e=>old3 b o (old2 b o e);have fr4:∀ b∈fp,(upd H2 s2.heap.objs.size (.lst [])) b=none:=fun b hb=>by
  obtain ⟨o,ho,_⟩:=T.obj 0 _ st2 b hb;rw [upd_ne (ne_of_lt (Heap.lt_size ho))];exact (f2 b hb).1
 have loop:∀ s4:Shared,s4.heap=h₁->Inv (_jh X N' scope cl s3.heap.objs.size s3 (upd H2 s2.heap.objs.size (.lst [])) fp (X.pn++pins)) [] (mkS js σ) (upd H2 s2.heap.objs.size (.lst [])) s4 ->
   codeAny (model X.prog X.w) X.A (.compLoop (.ListComp elt [⟨target,iter,ifs,0⟩] scope pos) 0 (.ref it) (.ref s2.heap.objs.size) (compEnvC scope cl s3.heap.objs.size X.env)) (RR (.ref s2.heap.objs.size) s3.heap.objs.size) s4:=by
  intro s4 e4 I4;refine _qa1 (fun n s'=>∃ i σ' H',Inv (_jh X N' scope cl s3.heap.objs.size s3 (upd H2 s2.heap.objs.size (.lst [])) fp (X.pn++pins)) [] σ' H' s'/\tn i s'.heap/\(∀ b∈fp,H' b=none)/\W i n σ' H') ?_ m0
   ⟨0,_,_,I4,by rw [e4]; exact st4,fr4,w0⟩
  rintro n s5 ⟨i,σ5,H5,I5,st5,fr5,w5⟩;rcases turn i n σ5 H5 w5 with ⟨stop,q⟩ | ⟨go,step⟩
  ·refine thn (T.done (_jh X N' scope cl s3.heap.objs.size s3 (upd H2 s2.heap.objs.size (.lst [])) fp (X.pn++pins)) rfl rfl rfl hc i [] s5 _ H5 _ I5 (fpX fr5 (by simp)) st5 stop) fun r s6 hQ=>?_
   obtain ⟨hr,I6⟩:=hQ;subst hr;have un:Un (frs X.stack) fp H2 H5 s2.heap s6.heap:=by
    have u:=I6.base;refine ⟨fun b o e n hb hx=>u.keep b o (old2 b o e) (by show upd H2 _ _ b=none; rw [upd_ne (ne_of_lt (Heap.lt_size e))]; exact n) hb hx,fun b o e n hb hx=>u.slot b o (old2 b o e) (by show upd H2 _ _ b=none; rw [upd_ne (ne_of_lt (Heap.lt_size e))]; exact n) hb hx,
     fun b o e n hx=>u.free b o (old2 b o e) (by show upd H2 _ _ b=none; rw [upd_ne (ne_of_lt (Heap.lt_size e))]; exact n) hx,fun b o e hx=>u.there b o (old2 b o e) hx,fun b xs e=>u.tups b xs (by show upd H2 _ _ b=_; rw [upd_ne (ne_of_none e hDn)]; exact e),
     fun b o u' e=>u.frzs b o u' (by show upd H2 _ _ b=_; rw [upd_ne (ne_of_none e hDn)]; exact e),fun b ps e=>u.tbls b ps (by show upd H2 _ _ b=_; rw [upd_ne (ne_of_none e hDn)]; exact e)⟩
   have os:s6.os=s2.os:=by rw [I6.os]; show s3.os=s2.os; rw [<- hS3]
   have Iout:Inv X pins σ H5 s6:=I2.call' (ch:=fp) os un I6.hok I6.bare fun b hb=>by
    obtain ⟨_,f1,_,f4,f5,f6⟩:=f2 b hb;exact ⟨f4,f1,f5,f6⟩
   obtain ⟨m',hn',_⟩:=I6.loc;exact hRR _ _ s6 H5 m' Iout hn' I6.free (by rw [hC]; exact le_succ _) q
  ·refine thn (T.item (_jh X N' scope cl s3.heap.objs.size s3 (upd H2 s2.heap.objs.size (.lst [])) fp (X.pn++pins)) rfl rfl rfl hc i [] s5 _ H5 _ I5 (fpX fr5 (by simp)) st5 go) fun r s6 hQ=>?_
   obtain ⟨u,hr,h6⟩:=hQ;subst hr;refine thn h6 fun _ s7 hQ=>?_;obtain ⟨x,H7,I7,r7,y7,st7,fr7⟩:=hQ;have I7':=I7.pinned (fpX fr7 (by simp)) (T.obj _ _ st7);have keepT:∀ {σ':St} {H':Hp} {s':Shared},Inv (_jh X N' scope cl s3.heap.objs.size s3 (upd H2 s2.heap.objs.size (.lst [])) fp (X.pn++pins)) ([]++pinsAt fp s7.heap) σ' H' s'->tn (i + 1) s'.heap/\∀ b∈fp,H' b=none:=fun {σ' H' s'} I'=>by
    refine ⟨T.keep _ _ _ st7 fun b hb o e=>(I'.pin (b,o) (mem_append_right _ (mem_append_right _ (mem_pinsAt hb e)))).1,fun b hb=>?_⟩;obtain ⟨o,e,d⟩:=T.obj _ _ st7 b hb;exact (I'.pin (b,o) (mem_append_right _ (mem_append_right _ (mem_pinsAt hb e)))).2.1
   have again:∀ {σ':St} {H':Hp} {s':Shared},Inv (_jh X N' scope cl s3.heap.objs.size s3 (upd H2 s2.heap.objs.size (.lst [])) fp (X.pn++pins)) ([]++pinsAt fp s7.heap) σ' H' s'->(∃ m',m' < n/\W (i + 1) m' σ' H') ->
     ∃ m,m < n/\∃ i σ' H',Inv (_jh X N' scope cl s3.heap.objs.size s3 (upd H2 s2.heap.objs.size (.lst [])) fp (X.pn++pins)) [] σ' H' s'/\tn i s'.heap/\(∀ b∈fp,H' b=none)/\W i m σ' H':=fun {σ' H' s'} I' ⟨m',hm,w'⟩=>by
    obtain ⟨k1,k2⟩:=keepT I';exact ⟨m',hm,i + 1,σ',H',I'.unpinned,k1,k2,w'⟩
   refine thn (hg _ _ _ _ _ _ s7 σ5 H7 x u _ I7' r7 (step x H7 y7)) fun _ s8 hQ=>?_;obtain ⟨σ8,H8,I8,q8⟩:=hQ;have test:wpAny (model X.prog X.w) X.A (forIn ifs true fun c r=>if r=true then do let ok <- isTrue c (compEnvC scope cl s3.heap.objs.size X.env) (eval c (compEnvC scope cl s3.heap.objs.size X.env)); pure (ForInStep.yield ok) else pure (ForInStep.yield r))
     (fun ok s9=>∃ H9,Inv (_jh X N' scope cl s3.heap.objs.size s3 (upd H2 s2.heap.objs.size (.lst [])) fp (X.pn++pins)) ([]++pinsAt fp s7.heap) σ8 H9 s9/\(if ok=true then te σ8 H9 fun y H4=>∃ acc,H4 s2.heap.objs.size=some (.lst acc)/\acc.length < sizeLine/\∃ m',m' < n/\W (i + 1) m' σ8 (upd H4 s2.heap.objs.size (.lst (acc++[y]))) else ∃ m',m' < n/\W (i + 1) m' σ8 H9)) (fun _ _=>False) s8:=by
    rcases ht s3.heap.objs.size s3 (upd H2 s2.heap.objs.size (.lst [])) fp (X.pn++pins) with ⟨e1,e2⟩ | ⟨c,e1,e2⟩
    ·subst e1
     exact wpAny_tests_nil ⟨H8,I8,e2 _ _ _ q8⟩
    ·subst e1
     exact wpAny_tests_one (e2 _ s8 σ8 H8 _ I8 q8)
   refine thn test fun ok s9 hQ=>?_;obtain ⟨H9,I9,q9⟩:=hQ;cases ok with
   | false =>
    rw [if_neg Bool.false_ne_true] at q9 ⊢;exact again I9 q9
   | true =>
    rw [if_pos rfl] at q9 ⊢;refine thn (he _ _ _ _ _ _ s9 σ8 H9 _ I9 q9) fun y s10 hQ=>?_;obtain ⟨yv,H10,I10,r10,acc,a1,a2,a3⟩:=hQ;refine thn (mt_append (X:=_jh X N' scope cl s3.heap.objs.size s3 (upd H2 s2.heap.objs.size (.lst [])) fp (X.pn++pins)) _ s10 σ8 H10 (.ref s2.heap.objs.size) [yv] (.ref s2.heap.objs.size) [y] (fun _ H'=>∃ m',m' < n/\W (i + 1) m' σ8 H') I10 rfl (.cons r10 .nil) ⟨_,acc,yv,rfl,rfl,a1,a2,a3⟩) fun _ s11 hQ=>?_;obtain ⟨_,H11,I11,_,q11⟩:=hQ;exact again I11 q11
 have e4:∀ tk,({ s2 with heap:=h₁,toks:=tk }:Shared)={ s3 with heap:=h₁,toks:=tk }:=fun tk=>by rw [<- hS3]
 exact codeAny_compStart_list (loop _ rfl (by rw [e4]; exact blk _)) (T.self _ 0 _ _ _ st4 (loop _ rfl (by rw [e4]; exact blk _)))
theorem Inv.letgo {X:Cx} {pins:List (Addr × Obj)} {σ:St} {H2 H':Hp} {s2 s':Shared} {C:Addr} {h':Heap} (I2:Inv X pins σ H2 s2) {σ':St} (I:Inv X pins σ' H' s') (hn:H' C=none) (hC:s2.heap.objs.size <= C) (hs:Heap.SameBut C s'.heap h'):Inv X pins σ' H' { s' with heap:=h' } :=
 I.turned (t':=s'.toks) (fun b o hb e=>hs.extBut b o hb e) hn (ne_of_gt (lt_of_lt_of_le I2.lt hC)) (.inr (le_trans I2.sz hC)) (fun x c e z=>by
  obtain ⟨v,q⟩:=I2.cell x c e;exact absurd (lt_of_lt_of_le q.lt (by rw [z]; exact hC)) (lt_irrefl _)) (fun p hp z=>absurd (lt_of_lt_of_le (Heap.lt_size (I2.pin p hp).1) (by rw [z]; exact hC)) (lt_irrefl _))
section
variable {X:Cx} {elt target iter:Expr} {ifs:List Expr} {scope:Scope} {pos:Pos} {cl:List (Str × Addr)} {N':List Str} {js:List (Option Nat)} {wi:TI} {g:TG} {tc:TT} {te:TE}
theorem _qma (hc:X.calm=true) (hi:PI X target iter wi) (hclos:closureFor scope X.env=pure cl) (hfr:_k7 X scope cl js N') (hcl:∀ x c,cl.lookup x=some c->X.env.cells.lookup x=some c)
  (hhas:∀ x,((relabel scope X.env).names.lookup x=some .cell \/ (relabel scope X.env).names.lookup x=some .free)->∃ c,cl.lookup x=some c)
  (hcell:∀ y∈scope.names,y.2 ≠ .cell) (hkind:scope.kind=.function) (hnames:∀ x∈scope.names,x.2=.local->scope.names.lookup x.1=some .local)
  (hg:∀ C s₀ H₀ ex pn,PG (_jh X N' scope cl C s₀ H₀ ex pn) target g) (ht:∀ C s₀ H₀ ex pn,PIfs (_jh X N' scope cl C s₀ H₀ ex pn) ifs tc) (he:∀ C s₀ H₀ ex pn,PE (_jh X N' scope cl C s₀ H₀ ex pn) elt te)
  (hs:∀ x,foldedSetIterable iter X.env x=pure x:=by intro _; rfl) :
  PE X (.ListComp elt [⟨target,iter,ifs,0⟩] scope pos) (_qiu wi g tc te js):=by
 intro pins s σ H Q I h;rw [eval_ListComp];refine wpAny_comprehension_free (use:=none) rfl hs hclos hkind hnames (thn (hi pins s σ H _ I h) fun v s1 h1=>thn h1 fun itv s2 h2=>?_);obtain ⟨it,fp,tn,J,H2,rfl,I2,T,st2,f2,q⟩:=h2;refine _K5 (RR:=fun acc C=>compPost (model X.prog X.w) X.A X.xe none (EP X pins σ Q) acc C) hc hfr hcl hhas hcell hkind hg ht he I2 T st2 f2 q ?_;intro D C s' H' m' I' hn hC hle q';exact ⟨m',hn,fun h' hs'=>⟨.ref D,H',Inv.letgo I2 I' hC hle hs',rfl,q'⟩⟩
theorem _qm6 {i:Nat} {y:Str} {py spos:Pos} (hN:X.N.Nodup) (hi':X.N[i]?=some y) (hy:X.env.scope.names.lookup y=some .local)
  (hsw:swapsWith (.ListComp elt [⟨target,iter,ifs,0⟩] scope pos) (some (.Name y py)) spos.line X.env=pure true)
  (hc:X.calm=true) (hi:PI X target iter wi) (hclos:closureFor scope X.env=pure cl) (hfr:_k7 X scope cl js N') (hcl:∀ x c,cl.lookup x=some c->X.env.cells.lookup x=some c)
  (hhas:∀ x,((relabel scope X.env).names.lookup x=some .cell \/ (relabel scope X.env).names.lookup x=some .free)->∃ c,cl.lookup x=some c)
  (hcell:∀ y∈scope.names,y.2 ≠ .cell) (hkind:scope.kind=.function) (hnames:∀ x∈scope.names,x.2=.local->scope.names.lookup x.1=some .local)
  (hg:∀ C s₀ H₀ ex pn,PG (_jh X N' scope cl C s₀ H₀ ex pn) target g) (ht:∀ C s₀ H₀ ex pn,PIfs (_jh X N' scope cl C s₀ H₀ ex pn) ifs tc) (he:∀ C s₀ H₀ ex pn,PE (_jh X N' scope cl C s₀ H₀ ex pn) elt te)
  (hs:∀ x,foldedSetIterable iter X.env x=pure x:=by intro _; rfl) :
  PS X (.Assign [.Name y py] (.ListComp elt [⟨target,iter,ifs,0⟩] scope pos) spos) (tAsg (_qiu wi g tc te js) (gName i)):=by
 intro pins s σ H E I h;rw [exec_Assign_Name_used _ _ _ _ hsw];refine wpAny_bind (wpAny_standAt (wpAny_bind ?_));show wpAny _ X.A (do let _ <- comprehension (.ListComp elt [⟨target,iter,ifs,0⟩] scope pos) scope X.env _ (newList []) false (eval iter X.env) (some (assign (.Name y py) X.env))) _ _ s;refine wpAny_bind (wpAny_mono (wpAny_comprehension_free (use:=some (assign (.Name y py) X.env)) (Q:=fun _ s'=>SP X pins E .next s') rfl hs hclos hkind hnames
  (thn (hi pins s σ H _ I h) fun v s1 h1=>thn h1 fun itv s2 h2=>?_)) (fun _ s' hq=>wpAny_pure (wpAny_pure hq)) fun _ _ e=>e)
 obtain ⟨it,fp,tn,J,H2,rfl,I2,T,st2,f2,q⟩:=h2;refine _K5 (RR:=fun acc C=>compPost (model X.prog X.w) X.A X.xe (some (assign (.Name y py) X.env)) (fun _ s'=>SP X pins E .next s') acc C) (Q:=fun x H1=>gName i x σ H1 E.nx) hc hfr hcl hhas hcell hkind hg ht he I2 T st2 f2 q ?_;intro D C s' H' m' I' hn hC hle q';show wpAny _ X.A (assign (.Name y py) X.env (.ref D)) _ _ _;refine wpAny_assign_Name (store_ok2 I' hN hi' (.inl hy) (v:=.ref D) rfl (fun s'' I'' hQ=>?_) (.inr hy));obtain ⟨a,hsb,ha⟩:=hQ;have hCa:C ≠ a:=by
  rintro rfl;rcases ha with z | z
  ·exact absurd (lt_of_lt_of_le I2.lt (by rw [<- z]; exact hle)) (lt_irrefl _)
  ·obtain ⟨v,q⟩:=I2.cell _ _ z
   exact absurd (lt_of_lt_of_le q.lt hle) (lt_irrefl _)
 exact ⟨m',hn.sameBut hsb hCa,fun h' hs'=>⟨_,H',Inv.letgo I2 I'' hC hle hs',q'⟩⟩
end
def tGE (K:Frag) (g:GE):TG:=fun v σ H Q=>∃ F ρ d ρ',Same F H/\RE K F σ ρ/\ρ.length=σ.length/\Rep K F v d/\g d ρ=some ρ'/\∀ σ',RE K F σ' ρ'->ρ'.length=σ'.length->Q σ' H
def tGEs (K:Frag) (g:List D->_qu7->Option _qu7):TGs:=fun vs σ H Q=>∃ F ρ ds ρ',Same F H/\RE K F σ ρ/\ρ.length=σ.length/\Reps K F vs ds/\g ds ρ=some ρ'/\∀ σ',RE K F σ' ρ'->ρ'.length=σ'.length->Q σ' H
def DGE (X:Cx) (tg:Expr) (g:GE):Prop:=PG X tg (tGE X.K g)
def DGEs (X:Cx) (ts:List Expr) (gs:List GE):Prop:=PGs X ts (tGEs X.K (geT gs))
section
variable {X:Cx} {pos:Pos}
theorem _m (i:Nat) {tg:Expr} (h:PG X tg (gName i)):DGE X tg (geN i):=by
 refine PG.imp h fun v σ H Q q=>?_;obtain ⟨F,ρ,d,ρ',s,re,hl,q,h,k⟩:=q;cases h;refine k _ (fun j d' h=>?_) (by simpa using hl);rcases _qbe h with ⟨rfl,e,hl'⟩ | ⟨ne,h⟩
 ·cases e
  exact ⟨v,getElem?_set_self (by rw [<- hl]; exact hl'),q⟩
 ·rw [getElem?_set_ne (Ne.symm ne)]
  exact re j d' h
theorem _qi8:∀ {gs:List GE} {ds:List D} {ρ ρ':_qu7},geT gs ds ρ=some ρ'->ds.length=gs.length
 | [],[],_,_,_=>rfl
 | g :: gs,d :: ds,ρ,ρ',h=>by
  obtain ⟨r1,_,h2⟩:=bind_some h;simp [_qi8 h2]
 | [],_ :: _,_,_,h=>by simp [geT] at h
 | _ :: _,[],_,_,h=>by simp [geT] at h
theorem _ky:DGEs X [] []:=by
 intro pins s σ H vs us Q I rv q;refine pgs_nil pins s σ H vs us Q I rv ?_;obtain ⟨F,ρ,ds,ρ',s,re,hl,q,h,k⟩:=q;cases q with
 | nil=>cases h; exact ⟨rfl,k _ re hl⟩
 | cons=>cases h
theorem _qk {t:Expr} {ts:List Expr} {g:GE} {gs:List GE} (h1:DGE X t g) (h2:DGEs X ts gs)
  (hs:(assignEach (t :: ts) X.env).map (·.2)=assign t X.env :: (assignEach ts X.env).map (·.2):=by rfl):DGEs X (t :: ts) (g :: gs):=by
 intro pins s σ H vs us Q I rv q;refine pgs_cons h1 h2 hs pins s σ H vs us Q I rv ?_;obtain ⟨F,ρ,ds,ρ',s,re,hl,q,h,k⟩:=q;cases q with
 | nil=>cases h
 | cons q1 q2 =>
  obtain ⟨ρ1,h1,h2⟩:=bind_some h;exact ⟨_,_,rfl,F,ρ,_,ρ1,s,re,hl,q1,h1,fun σ' re' hl'=>⟨F,ρ1,_,ρ',s,re',hl',q2,h2,k⟩⟩
theorem _Xn {ts:List Expr} {gs:List GE} {kk:Nat} (hc:X.calm=true) (h:DGEs X ts gs) (hn:(assignEach ts X.env).length=gs.length:=by rfl) (hst:(assignEach ts X.env).findIdx? (·.1)=none:=by rfl):DGE X (.Tuple ts kk pos) (_qt4 gs):=by
 refine PG.imp (pg_tup hc h hn hst) fun v σ H Q q=>?_;obtain ⟨F,ρ,d,ρ',s,re,hl,q,h,k⟩:=q;unfold _qt4 at h;split at h
 ·rename_i ds
  cases q with
  | tup q t=>exact ⟨_,_,rfl,seqT s q,by rw [t.length]; exact _qi8 h,F,ρ,ds,ρ',s,re,hl,t,h,k⟩
 ·cases h
end
theorem re_mk {K:Frag} {F F1:Hp} {σ:L2.St} {ρ:_qu7} {js:List (Option Nat)} (re:RE K F σ ρ) (e1:Same F F1):RE K F1 (mkS js σ) (mkD js ρ):=fun i d h=>by
 unfold mkD at h;rw [getElem?_map] at h;cases q:js[i]? with
 | none=>rw [q] at h; cases h
 | some oj =>
  rw [q] at h;cases oj with
  | none=>simp at h
  | some j =>
   have hj:ρ[j]?=some (some d):=by
    cases z:ρ[j]? with
    | none=>simp [z] at h
    | some od=>cases od with
     | none=>simp [z] at h
     | some d'=>simp [z] at h; rw [h]
   obtain ⟨v,h1,h2⟩:=re j d hj;refine ⟨v,?_,h2.mono e1⟩;unfold mkS;rw [getElem?_map,q];simp [h1]
structure CI (K:Frag) (F1 H1 F H:Hp) (σ:L2.St) (ρ:_qu7) (l:Addr) (done:List O):Prop where
 ext:Ext F1 H1 F H
 re:RE K F σ ρ
 len:ρ.length=σ.length
 fl:F l=none
 hl:∃ acc A,H l=some (.lst acc)/\Owns K F H acc done A/\∀ b,A b->F b=none/\H1 b=none/\b ≠ l
theorem CI.more {K:Frag} {F1 H1 F H F' H':Hp} {σ:L2.St} {ρ:_qu7} {l:Addr} {done:List O} (c:CI K F1 H1 F H σ ρ l done) (e:Ext F H F' H'):CI K F1 H1 F' H' σ ρ l done:=by
 obtain ⟨acc,A,h1,h2,h3⟩:=c.hl;have keep:∀ b,F b=none->(∃ u,H b=some u)->F' b=none:=fun b hf ⟨u,hu⟩=>by
  cases z:F' b with
  | none=>rfl
  | some o =>
   rcases e.nw b o z with y | y
   ·rw [hf] at y; cases y
   ·rw [hu] at y; cases y
 refine ⟨c.ext.trans e,c.re.mono e.ff,c.len,keep l c.fl ⟨_,h1⟩,acc,A,e.hh _ _ h1,h2.ext e.ff e.hh,fun b z=>?_⟩;obtain ⟨g1,g2,g3⟩:=h3 b z;obtain ⟨u,hu,_⟩:=h2.there b z;exact ⟨keep b g1 ⟨u,hu⟩,g2,g3⟩
theorem _Jj {K:Frag} {F1 H1 F H:Hp} {σ:L2.St} {ρ:_qu7} {g:GE} {c:FT} {e:FO} {d:D} {rest:List D} {done ys:List O} {x:V} {l:Addr} {N:L2.St->Hp->Prop}
  (ci:CI K F1 H1 F H σ ρ l done) (hB:H1 l=none) (q:Rep K F x d) (hz:done.length < sizeLine)
  (h:_ji g c e (d :: rest) ρ=some ys)
  (hN:∀ F' H' σ' ρ' new ys',Same F F'->CI K F1 H1 F' H' σ' ρ' l (done++new)->new.length <= 1->_ji g c e rest ρ'=some ys'->ys=new++ys'->N σ' H') :
  tGE K g x σ H fun σ2 H2=>tDT K c σ2 H2 fun b H3=>if b=true then tO K e σ2 H3 fun y H4=>∃ acc,H4 l=some (.lst acc)/\acc.length < sizeLine/\N σ2 (upd H4 l (.lst (acc++[y]))) else N σ2 H3:=by
 obtain ⟨ρ1,h1,h⟩:=bind_some h;obtain ⟨b,hb,h⟩:=bind_some h;refine ⟨F,ρ,d,ρ1,ci.ext.fh,ci.re,ci.len,q,h1,fun σ2 re2 hl2=>?_⟩;have ci2:CI K F1 H1 F H σ2 ρ1 l done:=⟨ci.ext,re2,hl2,ci.fl,ci.hl⟩;refine ⟨F,ρ1,b,ci.ext.fh,re2,hb,fun F3 H3 e3=>?_⟩;have ci3:=ci2.more e3;cases b with
 | false =>
  rw [if_neg Bool.false_ne_true] at h;exact iteF (hN F3 H3 σ2 ρ1 [] ys e3.ff (by simpa using ci3) (by simp) h (by simp))
 | true =>
  rw [if_pos rfl] at h;refine iteT ?_;obtain ⟨y,hy,h⟩:=bind_some h;obtain ⟨ys',hys,rfl⟩:=map_some h;refine ⟨F3,ρ1,y,e3.fh,ci3.re,hy,fun v F4 H4 A4 e4 r4 n4=>?_⟩;have ci4:=ci3.more e4;obtain ⟨acc3,A3,k1,k2,k3⟩:=ci3.hl;have t4:H4 l=some (.lst acc3):=e4.hh _ _ k1;have k2':=k2.ext e4.ff e4.hh;refine ⟨acc3,t4,by rw [k2.length]; exact hz,?_⟩;have nl:¬ A4 l:=fun z=>by have:=(n4 l z).2; rw [k1] at this; cases this
  have h1l:∀ b u,H1 b=some u->b ≠ l:=fun b u hb=>ne_of_none hb hB;refine hN F4 _ σ2 ρ1 [y] ys' (e3.ff.trans e4.ff) ⟨⟨ci4.ext.ff,fun b u hb=>by rw [upd_ne (ne_of_none hb ci4.fl)]; exact ci4.ext.fh _ _ hb,fun b u hb=>by rw [upd_ne (h1l b u hb)]; exact ci4.ext.hh _ _ hb,ci4.ext.nw⟩,ci4.re,ci4.len,ci4.fl,acc3++[v],fun b=>A3 b \/ A4 b,upd_same,?_,fun b z=>?_⟩ (by simp) hys (by simp)
  ·refine (k2'.stay (Same.refl _) (H':=upd H4 l (.lst (acc3++[v]))) fun b z=>upd_ne (k3 b z).2.2).append (.cons (r4.stay (Same.refl _) (H':=upd H4 l (.lst (acc3++[v]))) fun b z=>upd_ne (by rintro rfl; exact nl z)) (.nil (A:=fun _=>False) fun _ z=>z) (fun _ _ z=>z) fun b=>⟨.inl,fun z=>z.elim id False.elim⟩) fun b z y=>?_
   obtain ⟨u,hu,_⟩:=k2.there b z;rw [(n4 b y).2] at hu; cases hu
  ·rcases z with z | z
   ·obtain ⟨g1,g2,g3⟩:=k3 b z
    obtain ⟨u,hu,_⟩:=k2.there b z;refine ⟨?_,g2,g3⟩;cases w:F4 b with
    | none=>rfl
    | some o =>
     rcases e4.nw b o w with y | y
     ·rw [g1] at y; cases y
     ·rw [hu] at y; cases y
   ·exact ⟨(n4 b z).1,ci3.ext.hh.free (n4 b z).2,by rintro rfl; exact nl z⟩
theorem CI.own {K:Frag} {F1 H1 F H:Hp} {σ:L2.St} {ρ:_qu7} {l:Addr} {done:List O} (c:CI K F1 H1 F H σ ρ l done) (hB:H1 l=none):∃ A,Own K F H (.ref l) (.lst done) A/\∀ b,A b->F b=none/\H1 b=none:=by
 obtain ⟨acc,A,h1,h2,h3⟩:=c.hl;refine ⟨_,_qdy h1 (fun z=>(h3 l z).2.2 rfl) h2,fun b z=>?_⟩;rcases z with rfl | z
 ·exact ⟨c.fl,hB⟩
 ·exact ⟨(h3 b z).1,(h3 b z).2.1⟩
theorem _Vz {K:Frag} {F H F1 H1:Hp} {σ:L2.St} {ρ:_qu7} {js:List (Option Nat)} {l:Addr} (re:RE K F σ ρ) (e1:Ext F H F1 H1) (hl:H1 l=none):CI K F1 H1 F1 (upd H1 l (.lst [])) (mkS js σ) (mkD js ρ) l [] :=
 ⟨Ext.laidH e1.fh hl,re_mk re e1.ff,by simp [mkD,mkS],e1.fh.free hl,[],fun _=>False,upd_same,.nil fun _ z=>z,fun _ z=>z.elim⟩
section
variable {X:Cx} {js:List (Option Nat)} {g:GE} {c:FT} {e:FO}
theorem _o {K:Frag} {f:FE} {σ:L2.St} {H:Hp} {Q:VK} (h:tO K (_qa js f g c e) σ H Q):_qiu (iList K (tD K f)) (tGE K g) (tDT K c) (tO K e) js σ H Q:=by
 obtain ⟨F,ρ,total,s,re,hf,k⟩:=h;obtain ⟨d,hd,hf⟩:=bind_some hf;rw [_V2] at hf;split at hf
 ·rename_i xs
  split at hf
  ·rename_i hlen
   obtain ⟨total,hf2,rfl⟩:=map_some hf;have hf:=hf2;clear hf2;refine ⟨F,ρ,.lst xs,s,re,hd,fun v F1 H1 e1 r1=>?_⟩;cases r1 with
   | lst q t =>
    rename_i a vs;refine ⟨a,rfl,⟨vs,(_qsh e1.fh q).l⟩,fun l hl=>⟨fun i m σ' H'=>∃ F' ρ' done ys,CI K F1 H1 F' H' σ' ρ' l done/\SqE K F' a vs/\Reps K F' vs xs/\i <= xs.length/\m=xs.length - i/\done.length <= i/\_ji g c e (xs.drop i) ρ'=some ys/\total=done++ys,
     ⟨_,F1,mkD js ρ,[],total,_Vz re e1 hl,q,t,zero_le _,rfl,le_refl _,hf,rfl⟩,?_⟩⟩
    rintro i m σ' H' ⟨F',ρ',done,ys,ci,q',t',hi,rfl,hdn,hc,ht⟩
    by_cases hlt:i < xs.length
    ·have hv:i < vs.length:=by rw [t'.length]; exact hlt
     refine .inr ⟨⟨vs,vs[i],(_qsh ci.ext.fh q').l,by simp [hv]⟩,fun x H2 y=>?_⟩;obtain ⟨rfl,y⟩:=y;obtain ⟨d,hd1,hd2⟩:=t'.get (y vs (_qsh ci.ext.fh q').l);have ed:xs[i]=d:=by rw [getElem?_eq_getElem hlt] at hd1; exact Option.some.inj hd1
     rw [_kb hlt,ed] at hc;refine _Jj (N:=fun σ2 H2=>∃ m',m' < xs.length - i/\_) ci hl hd2 (lt_of_lt_of_le (lt_of_le_of_lt hdn hlt) (_vb hlen)) hc fun F2 H2 σ2 ρ2 new ys' s2 ci2 hn2 hc2 he2=>?_;exact ⟨_,by omega,F2,ρ2,done++new,ys',ci2,_qsh s2 q',t'.mono s2,hlt,rfl,by simp; omega,hc2,by rw [ht,he2]; simp⟩
    ·refine .inl ⟨⟨vs,(_qsh ci.ext.fh q').l,by rw [t'.length]; omega⟩,?_⟩
     rw [drop_of_length_le (by omega)] at hc;cases hc
     have:total=done:=by simpa using ht
     subst this;obtain ⟨A,o1,o2⟩:=ci.own hl;exact k (.ref l) F' H' A (e1.trans ci.ext) o1 fun b z=>⟨(o2 b z).1,e1.hh.free (o2 b z).2⟩
  ·cases hf
 ·cases hf
theorem _qm0 {lo:Int} {n i:Nat} (h:i < n):(_qsm lo n)[i]'(by simpa [_qsm] using h)=D.int (lo + (i:Int)):=by simp [_qsm]
theorem _qhq {lo:Int} {n:Nat}:(_qsm lo n).length=n:=by simp [_qsm]
theorem _qpi {K:Frag} {F H F1 H1:Hp} {σ:L2.St} {ρ:_qu7} {Q:VK} {lo:Int} {n:Nat} {total:List O} (re:RE K F σ ρ) (e1:Ext F H F1 H1) (hf:_ji g c e (_qsm lo n) (mkD js ρ)=some total) (hn:n <= _qu4)
  (k:∀ v F' H' A,Ext F H F' H'->Own K F' H' v (.lst total) A->(∀ b,A b->F' b=none/\H b=none)->Q v H'):∀ l,H1 l=none->∃ W:Nat->Nat->L2.St->Hp->Prop,(∃ m,W 0 m (mkS js σ) (upd H1 l (.lst [])))/\∀ i m σ H,W i m σ H ->
 ((Itr lo n).stop i H/\Q (.ref l) H) \/ ((Itr lo n).go i H/\∀ x H',(Itr lo n).yld i H x H'->tGE K g x σ H' fun σ2 H2=>tDT K c σ2 H2 fun b H3 =>
   if b=true then tO K e σ2 H3 fun y H4=>∃ acc,H4 l=some (.lst acc)/\acc.length < sizeLine/\∃ m',m' < m/\W (i + 1) m' σ2 (upd H4 l (.lst (acc++[y]))) else ∃ m',m' < m/\W (i + 1) m' σ2 H3):=by
 intro l hl;refine ⟨fun i m σ' H'=>∃ F' ρ' done ys,CI K F1 H1 F' H' σ' ρ' l done/\i <= n/\m=n - i/\done.length <= i/\_ji g c e ((_qsm lo n).drop i) ρ'=some ys/\total=done++ys,
  ⟨_,F1,mkD js ρ,[],total,_Vz re e1 hl,zero_le _,rfl,le_refl _,hf,rfl⟩,?_⟩
 rintro i m σ' H' ⟨F',ρ',done,ys,ci,hi,rfl,hdn,hc,ht⟩
 by_cases hlt:i < n
 ·refine .inr ⟨hlt,fun x H2 y=>?_⟩
  obtain ⟨rfl,rfl⟩:=y;rw [_kb (by rw [_qhq]; exact hlt),_qm0 hlt] at hc;refine _Jj (N:=fun σ2 H2=>∃ m',m' < n - i/\_) ci hl (.int _) (lt_of_lt_of_le (lt_of_le_of_lt hdn hlt) (_vb hn)) hc fun F2 H2 σ2 ρ2 new ys' s2 ci2 hn2 hc2 he2=>?_;exact ⟨_,by omega,F2,ρ2,done++new,ys',ci2,hlt,rfl,by simp; omega,hc2,by rw [ht,he2]; simp⟩
 ·refine .inl ⟨by show n <= i; omega,?_⟩
  rw [drop_of_length_le (by rw [_qhq]; omega)] at hc;cases hc
  have:total=done:=by simpa using ht
  subst this;obtain ⟨A,o1,o2⟩:=ci.own hl;exact k (.ref l) F' H' A (e1.trans ci.ext) o1 fun b z=>⟨(o2 b z).1,e1.hh.free (o2 b z).2⟩
theorem _qf6 {K:Frag} {f:FA} {σ:L2.St} {H:Hp} {Q:VK} (h:tO K (_qe6 js f g c e) σ H Q):_qiu (iRng1 (tDA K f)) (tGE K g) (tDT K c) (tO K e) js σ H Q:=by
 obtain ⟨F,ρ,total,s,re,hf,k⟩:=h;obtain ⟨d,hd,hf⟩:=bind_some hf;split at hf
 ·rename_i j
  split at hf
  ·rename_i hlen
   obtain ⟨total,hf2,rfl⟩:=map_some hf;have hf:=hf2;clear hf2;refine ⟨F,ρ,_,s,re,hd,fun vs F1 H1 e1 r1=>?_⟩;cases r1 with
   | cons q1 q =>
    cases q1;cases q;refine ⟨j,rfl,by omega,?_,_qpi re e1 hf (by omega) k⟩
    have:=hlen.2; unfold _qu4 at this; omega
  ·cases hf
 ·cases hf
end
def DIfs (X:Cx) (ifs:List Expr) (c:FT):Prop:=PIfs X ifs (tDT X.K c)
theorem _q8 {X:Cx} {e:Expr} {c:FT} (h:DT X e c):DIfs X [e] c:=.inr ⟨e,rfl,h⟩
theorem _C {X:Cx}:DIfs X [] qT:=.inl ⟨rfl,fun σ H Q q=>by
 obtain ⟨F,ρ,b,s,re,hf,k⟩:=q;cases hf;exact k F H (Ext.refl s)⟩
def clo (env:Env):List (Str × NameKind)->List (Str × Addr)->Option (List (Str × Addr))
 | [],cs=>some cs
 | (n,k) :: r,cs=>if (k == .free)=true then (env.cells.lookup n).bind fun c=>clo env r ((n,c) :: cs) else clo env r cs
theorem _qf7 {env:Env}:∀ {ns:List (Str × NameKind)} {cs cl:List (Str × Addr)},clo env ns cs=some cl->(forIn (m:=Sem) ns cs fun (x:Str × NameKind) cs=>if (x.2 == .free)=true then do let c <- cellOf env x.1; pure (ForInStep.yield ((x.1,c) :: cs)) else pure (ForInStep.yield cs))=pure cl
 | [],cs,cl,h=>by cases h; rfl
 | (n,k) :: r,cs,cl,h=>by
  unfold clo at h;rw [forIn_cons]
  by_cases hk:(k == .free)=true
  ·rw [if_pos hk] at h
   obtain ⟨c,hc,h⟩:=bind_some h;have e:cellOf env n=pure c:=by unfold cellOf; rw [hc]
   simp only [hk,if_true,e,pure_bind];exact _qf7 h
  ·rw [if_neg hk] at h
   simp only [hk,if_false,pure_bind];exact _qf7 h
theorem _Zz {scope:Scope} {env:Env} {cl:List (Str × Addr)} (h:clo env scope.names []=some cl):closureFor scope env=pure cl:=by
 have:=_qf7 h
 simp only [closureFor];rw [this];rfl
theorem _qbp {env:Env}:∀ {ns:List (Str × NameKind)} {cs cl:List (Str × Addr)},clo env ns cs=some cl->∀ x c,(x,c)∈cl->(x,c)∈cs \/ env.cells.lookup x=some c
 | [],cs,cl,h,x,c,hx=>by cases h; exact .inl hx
 | (n,k) :: r,cs,cl,h,x,c,hx=>by
  unfold clo at h
  by_cases hk:(k == .free)=true
  ·rw [if_pos hk] at h
   obtain ⟨a,ha,h⟩:=bind_some h;rcases _qbp h x c hx with z | z
   ·rcases List.mem_cons.mp z with y | y
    ·cases y; exact .inr ha
    ·exact .inl y
   ·exact .inr z
  ·rw [if_neg hk] at h
   exact _qbp h x c hx
theorem _qbq {env:Env}:∀ {ns:List (Str × NameKind)} {cs cl:List (Str × Addr)},clo env ns cs=some cl->(∀ x c,(x,c)∈cs->(x,c)∈cl)/\∀ x,(x,NameKind.free)∈ns->∃ c,(x,c)∈cl
 | [],cs,cl,h=>by cases h; exact ⟨fun _ _ z=>z,fun x z=>by simp at z⟩
 | (n,k) :: r,cs,cl,h=>by
  unfold clo at h
  by_cases hk:(k == .free)=true
  ·rw [if_pos hk] at h
   obtain ⟨a,ha,h⟩:=bind_some h;obtain ⟨h1,h2⟩:=_qbq h;refine ⟨fun x c z=>h1 x c (mem_cons_of_mem _ z),fun x z=>?_⟩;rcases List.mem_cons.mp z with y | y
   ·cases y; exact ⟨a,h1 _ _ mem_cons_self⟩
   ·exact h2 x y
  ·rw [if_neg hk] at h
   obtain ⟨h1,h2⟩:=_qbq h;refine ⟨h1,fun x z=>?_⟩;rcases List.mem_cons.mp z with y | y
   ·cases y; exact absurd rfl hk
   ·exact h2 x y
theorem _xp {α:Type}:∀ {l:List (Str × α)} {x:Str} {c:α},l.lookup x=some c->(x,c)∈l
 | [],_,_,h=>by cases h
 | (y,d) :: l,x,c,h=>by
  unfold List.lookup at h;split at h
  ·rename_i e
   cases h;rw [beq_iff_eq] at e;subst e;exact mem_cons_self
  ·exact mem_cons_of_mem _ (_xp h)
theorem _Xe {α:Type}:∀ {l:List (Str × α)} {x:Str} {c:α},(x,c)∈l->∃ d,l.lookup x=some d
 | (y,d) :: l,x,c,h=>by
  by_cases e:(x == y)=true
  ·exact ⟨d,by unfold List.lookup; rw [e]⟩
  ·rcases List.mem_cons.mp h with z | z
   ·cases z; simp at e
   ·obtain ⟨d',hd⟩:=_Xe z
    refine ⟨d',?_⟩;unfold List.lookup;cases q:x == y with
    | true=>exact absurd q e
    | false=>exact hd
theorem _W1 {scope:Scope} {env:Env} (hcell:∀ y∈scope.names,y.2 ≠ .cell) {x:Str} (h:(relabel scope env).names.lookup x=some .cell \/ (relabel scope env).names.lookup x=some .free):(x,NameKind.free)∈scope.names:=by
 have h':∃ k,(x,k)∈(relabel scope env).names/\(k=.cell \/ k=.free):=by
  rcases h with h | h
  ·exact ⟨_,_xp h,.inl rfl⟩
  ·exact ⟨_,_xp h,.inr rfl⟩
 obtain ⟨k,hk,hkk⟩:=h';unfold relabel at hk;obtain ⟨⟨n,k'⟩,hm,he⟩:=List.mem_map.mp hk;dsimp only at he;split at he
 ·rename_i hc
  cases he;simp only [Bool.and_eq_true,beq_iff_eq] at hc;rw [<- hc.1.1]; exact hm
 ·cases he
  rcases hkk with rfl | rfl
  ·exact absurd rfl (hcell _ hm)
  ·exact hm
section
variable {X:Cx} {elt target iter:Expr} {ifs:List Expr} {scope:Scope} {pos:Pos} {cl:List (Str × Addr)} {N':List Str} {js:List (Option Nat)} {g:GE} {c:FT} {e:FO}
structure CompOk (X:Cx) (scope:Scope) (cl:List (Str × Addr)) (N':List Str) (js:List (Option Nat)):Prop where
 calm:X.calm=true
 clo:clo X.env scope.names []=some cl
 free:_k7 X scope cl js N'
 cell:∀ y∈scope.names,y.2 ≠ .cell
 kind:scope.kind=.function
 names:∀ x∈scope.names,x.2=.local->scope.names.lookup x.1=some .local
theorem CompOk.hcl (k:CompOk X scope cl N' js):∀ x c,cl.lookup x=some c->X.env.cells.lookup x=some c:=fun x c h=>by
 rcases _qbp k.clo x c (_xp h) with z | z
 ·simp at z
 ·exact z
theorem CompOk.hhas (k:CompOk X scope cl N' js):∀ x,((relabel scope X.env).names.lookup x=some .cell \/ (relabel scope X.env).names.lookup x=some .free)->∃ c,cl.lookup x=some c:=fun x h=>by
 obtain ⟨c,hc⟩:=(_qbq k.clo).2 x (_W1 k.cell h);exact _Xe hc
theorem _qow {K:Frag} {S:List Bool} {f:FO} {σ:L2.St} {H:Hp} {Q:VK} (q:tM K (mO S f) σ H Q):tO K f σ H Q:=by
 obtain ⟨β,F,ρ,p,r,hf,k⟩:=q;obtain ⟨o,ho,rfl⟩:=map_some hf;obtain ⟨G,l,re,rz⟩:=r.look S;refine ⟨G,frz S ρ,o,l.gh,re,ho,fun v F' H' A e q n=>?_⟩
 by_cases hi:oim o=true
 ·rw [if_pos hi] at k
  exact k v _ H' _xt e.hh (r.push (l.ext e r.ext.fh) (l.own e r.ext.fh hi q) fun b z=>⟨(_Vt r.ext.fh (n b z).2).trans (n b z).1,(n b z).2⟩)
 ·rw [if_neg hi] at k
  exact k v F' H' (l.fg.trans e.ff) e.hh (rz.push e q n)
section
variable {wi:TI} {f:FO} (k:CompOk X scope cl N' js) (hi:PI X target iter wi) (hw:∀ σ H Q,tO X.K f σ H Q->_qiu wi (tGE X.K g) (tDT X.K c) (tO X.K e) js σ H Q)
 (hg:∀ C s₀ H₀ ex pn,DGE (_jh X N' scope cl C s₀ H₀ ex pn) target g) (ht:∀ C s₀ H₀ ex pn,DIfs (_jh X N' scope cl C s₀ H₀ ex pn) ifs c) (he:∀ C s₀ H₀ ex pn,DO (_jh X N' scope cl C s₀ H₀ ex pn) elt e)
include k hi hw hg ht he
theorem _s (hs:∀ x,foldedSetIterable iter X.env x=pure x:=by intro _; rfl):DO X (.ListComp elt [⟨target,iter,ifs,0⟩] scope pos) f :=
 PE.imp (_qma (g:=tGE X.K g) (tc:=tDT X.K c) (te:=tO X.K e) k.calm hi (_Zz k.clo) k.free k.hcl k.hhas k.cell k.kind k.names hg ht he hs) hw
theorem _vv {i:Nat} {S:List Bool} {y:Str} {py spos:Pos} (hN:X.N.Nodup) (hi':X.N[i]?=some y) (hy:X.env.scope.names.lookup y=some .local)
  (hsw:swapsWith (.ListComp elt [⟨target,iter,ifs,0⟩] scope pos) (some (.Name y py)) spos.line X.env=pure true) (hs:∀ x,foldedSetIterable iter X.env x=pure x:=by intro _; rfl) :
  DS X (.Assign [.Name y py] (.ListComp elt [⟨target,iter,ifs,0⟩] scope pos) spos) [i] (_qtq i (mO S f)) :=
 _r i (PS.imp (_qm6 (g:=tGE X.K g) (tc:=tDT X.K c) (te:=tO X.K e) hN hi' hy hsw k.calm hi (_Zz k.clo) k.free k.hcl k.hhas k.cell k.kind k.names hg ht he hs) fun E σ H q=>hw _ _ _ (_qow q))
end
end
end DL
set_option maxHeartbeats 1000000
namespace DL
open PySem PySem.Spec PyProof.Rows L2
theorem _qem {k:Nat} {A:Around} (r:Room k A):A.units + 64 + 1 < cLine:=by have:=r.un; omega
section
variable {X:Cx} {K:Frag} {F:Hp}
theorem _V1 (hc:X.calm=true):CallR X (.builtin "sum") (fun xs H Q=>∃ (p:Addr) (ns:List Int),xs=[.ref p]/\SqL X.K H p (ns.map V.int)/\Q (.int ns.sum) H):=by
 intro pins s σ H xs us Q I r h;obtain ⟨p,ns,rfl,hq,q⟩:=h;cases r with
 | cons r1 r =>
  cases r;cases r1;obtain ⟨its,rv,ht,hz⟩:=I.list hq;have ia:=intsAre_of rv;have hall:=ia.allInts;obtain ⟨ys,hys⟩:=hall.items;have hl:=ht.isList;rw [hys] at hl;refine sum_intListG (I.ok.hd hc) hl fun h' tk t' hk=>?_;have en:(ys.toList.map (·.1))=ns:=by rw [<- nums_intItems,<- hys]; simpa using ia.numsOf
  rw [preSum_eq,take_of_length_le (by simp),en];exact ⟨.int _,H,I.kept (t':=tk) hk,⟨_,rfl⟩,q⟩
theorem _qln (ns:List Int) (a:Int):sumD (ns.map D.int) a=some (a + ns.sum):=by
 induction ns generalizing a with
 | nil=>simp [sumD]
 | cons n ns ih=>simp [sumD,ih,Int.add_assoc]
theorem _qak:∀ {ds:List D} {a b:Int},sumD ds a=some b->∃ ns:List Int,ds=ns.map D.int
 | [],_,_,_=>⟨[],rfl⟩
 | d :: ds,a,b,h=>by
  cases d with
  | int i =>
   obtain ⟨ns,e⟩:=_qak (ds:=ds) (a:=a + i) (b:=b) h;exact ⟨i :: ns,by rw [e]; rfl⟩
  | _=>simp [sumD] at h
theorem _jn:∀ {vs:List V} {ns:List Int},Reps K F vs (ns.map D.int)->vs=ns.map V.int
 | [],[],_=>rfl
 | [],_ :: _,r=>by cases r
 | _ :: _,[],r=>by cases r
 | v :: vs,n :: ns,r=>by
  cases r with
  | cons h t=>cases h; rw [_jn t]; rfl
theorem _V0:_qlg K (fun xs H Q=>∃ (p:Addr) (ns:List Int),xs=[.ref p]/\SqL K H p (ns.map V.int)/\Q (.int ns.sum) H) dSum:=by
 intro ds d F H vs Q h s r k;unfold dSum at h;split at h
 ·obtain ⟨n,hn,rfl⟩:=map_some h
  obtain ⟨ns,rfl⟩:=_qak hn;rw [_qln] at hn;cases hn;cases r with | cons r r' =>
  cases r';cases r with | lst q t =>
  have:=_jn t
  subst this;exact ⟨_,ns,rfl,(_qsh s q).l,k _ F H (Ext.refl s) (by rw [Int.zero_add]; exact .int _)⟩
 ·cases h
theorem blVals:∀ {bs:List Bool} {us:List Value},Vals (bs.map V.bl) us->us=bs.map Value.bool
 | [],_,r=>by cases r; rfl
 | b :: bs,_,r=>by
  cases r with
  | cons h t=>cases h; rw [blVals t]; rfl
theorem _qk6 {A:Around} {E:Value->Shared->Prop} {s:Shared} {l:Addr} {its:Array Value} {Q:Value->Shared->Prop} {prog:Program} {w:World} (hl:s.heap.IsList l its)
  (h:∀ s₂:Shared,(∀ b o,s.heap.get? b=some o->s₂.heap.get? b=some o)->s₂.toks=s.toks->s₂.os=s.os->s₂.gens=s.gens->s₂={ s with heap:=s₂.heap }->(s₂.heap.IsListIter s.heap.objs.size l 0/\s₂.heap.IsList l its)->l ≠ s.heap.objs.size->Q (.ref s.heap.objs.size) s₂) :
  wpAny (model prog w) A (pyIter (.ref l)) Q E s:=by
 have hlt:l < s.heap.objs.size:=by obtain ⟨_,e,_⟩:=hl; exact Heap.lt_size e
 exact wpAny_pyIter_list hl (h _ (fun b o e=>Heap.get?_push_of_some _ e) rfl rfl rfl rfl ⟨⟨_,Heap.get?_push_size _ rfl,rfl,rfl⟩,hl.push _⟩ (ne_of_lt hlt))
theorem _qc2 {prog:Program} {w:World} {A:Around} (bs:List Bool):TruthOf prog w A (fun i v=>(bs.map Value.bool).toArray[i]?=some v) fun i=>bs.getD i false:=by
 intro i v s Q E hP hQ;rw [List.getElem?_toArray,getElem?_map] at hP;obtain ⟨b,hb,rfl⟩:=map_some hP
 have:bs.getD i false=b:=by simp [List.getD,hb]
 exact wpAny_truthy_bool (by rw [<- this]; exact hQ)
theorem _qgb (bs:List Bool):((List.range bs.length).all fun i=>bs.getD i false)=bs.all id:=by
 rw [Bool.eq_iff_iff]; simp only [all_eq_true,List.mem_range];constructor
 ·intro h b hb
  obtain ⟨i,hi,rfl⟩:=List.mem_iff_getElem.mp hb;simpa [hi] using h i hi
 ·intro h i hi
  have:=h bs[i] (getElem_mem hi)
  simpa [hi] using this
theorem _x4 (hc:X.calm=true):CallR X (.builtin "all") (fun xs H Q=>∃ (p:Addr) (bs:List Bool),xs=[.ref p]/\SqL X.K H p (bs.map V.bl)/\Q (.bl (bs.all id)) H):=by
 intro pins s σ H xs us Q I r h;obtain ⟨p,bs,rfl,hq,q⟩:=h;cases r with
 | cons r1 r =>
  cases r;cases r1;obtain ⟨its,rv,ht,hz⟩:=I.list hq;obtain rfl:=blVals rv;refine call_all_walk (_qk6 ht.isList fun s₂ ks et eo eg es st ne=>?_);refine ⟨_,_,_,_,_,_,fun i=>bs.getD i false,rfl,Walks.list (A:=X.A.in1) (I.ok.hd hc) _ p ne (bs.map Value.bool).toArray,st,_qc2 bs,fun h' tk hk=>?_⟩;have e:(bs.map Value.bool).toArray.size=bs.length:=by simp
  rw [e,_qgb];rw [es];refine ⟨.bl _,H,I.kept (t':=tk) (h':=h') fun b o eb=>hk b o ?_ (ks b o eb),rfl,q⟩;intro hb;simp at hb;subst hb;exact absurd (Heap.lt_size eb) (lt_irrefl _)
theorem _Wa:∀ {ds:List D} {bs:List Bool},_qcr ds=some bs->ds=bs.map D.bl
 | [],_,h=>by cases h; rfl
 | d :: ds,bs,h=>by
  cases d with
  | bl b =>
   obtain ⟨r,hr,rfl⟩:=map_some (show (_qcr ds).map (fun r=>b :: r)=some bs from h);rw [_Wa hr]; rfl
  | _=>simp [_qcr] at h
theorem _Zn:∀ {vs:List V} {ns:List Bool},Reps K F vs (ns.map D.bl)->vs=ns.map V.bl
 | [],[],_=>rfl
 | [],_ :: _,r=>by cases r
 | _ :: _,[],r=>by cases r
 | v :: vs,n :: ns,r=>by
  cases r with
  | cons h t=>cases h; rw [_Zn t]; rfl
theorem _x3:_qlg K (fun xs H Q=>∃ (p:Addr) (bs:List Bool),xs=[.ref p]/\SqL K H p (bs.map V.bl)/\Q (.bl (bs.all id)) H) _qtk:=by
 intro ds d F H vs Q h s r k;unfold _qtk at h;split at h
 ·obtain ⟨bs,hb,rfl⟩:=map_some h
  have e:=_Wa hb;subst e;cases r with | cons r r' =>
  cases r';cases r with | lst q t =>
  have:=_Zn t
  subst this;exact ⟨_,bs,rfl,(_qsh s q).l,k _ F H (Ext.refl s) (.bl _)⟩
 ·cases h
end
end DL
namespace DL
open PySem PySem.Spec PyProof.Rows L2
theorem Inv.turnedT {X:Cx} {pins:List (Addr × Obj)} {σ:L2.St} {H:Hp} {s:Shared} {h':Heap} {t':Nat} {fp:List Addr} {T:Addr} {o:HO} (I:Inv X pins σ H s) (k:∀ b u,b ∉ fp->s.heap.get? b=some u->h'.get? b=some u) (hf:∀ b∈fp,FpOk X pins H b)
  (hT:s.heap.objs.size <= T) (new:ObjOk X.prog X.w (upd H T o) h' T o):Inv X pins σ (upd H T o) { s with heap:=h',toks:=t' }:=by
 have hn:H T=none:=I.hok.fresh hT;have lt:∀ b u,s.heap.get? b=some u->b ≠ T:=fun b u e z=>absurd (Heap.lt_size e) (by rw [z]; exact Nat.not_lt.mpr hT);have nfp:∀ b u,H b=some u->b ∉ fp:=fun b u e z=>by rw [(hf b z).1] at e; cases e
 refine I.step (g':=s.gens) (d':=s.drawn) (ch:=fp) (fun b hb=>?_) (fun b u _ _ hc e _=>k b u hc e) (fun b u _ _ hc e _=>⟨u.slots,k b u hc e⟩) (fun b u _ e n=>by rw [upd_ne (lt b u e)]; exact n)
  (fun b u hc e=>⟨u,k b u hc e⟩) (fun b xs e=>by rw [upd_ne (ne_of_none e hn)]; exact e) (fun b u w e=>by rw [upd_ne (ne_of_none e hn)]; exact e) (fun b ps e=>⟨#[],by rw [upd_ne (ne_of_none e hn),e]; simp⟩) (fun m hm=>?_) (fun b u e=>?_) I.bare
 ·obtain ⟨f0,f1,f2,f3,f4,f5⟩:=hf b hb
  exact ⟨f3,f1,f4,f5⟩
 ·obtain ⟨u,es,ep,ho,r⟩:=hm
  refine ⟨u,es,ep,k _ u (fun z=>(hf _ z).2.1 rfl) ho,r⟩
 ·by_cases hb:b=T
  ·subst hb; rw [upd_same] at e; cases e; exact new
  ·rw [upd_ne hb] at e
   refine (I.hok b u e).stay (fun c v hc q=>k c v ?_ q) (fun c q=>by rw [upd_ne (ne_of_none q hn)]; exact q) fun c xs q=>by rw [upd_ne (ne_of_none q hn)]; exact q
   rcases hc with z | z
   ·rw [z]; exact nfp b u e
   ·exact nfp c _ z
theorem Inv.turnedL {X:Cx} {pins:List (Addr × Obj)} {σ:L2.St} {H:Hp} {s:Shared} {h':Heap} {t':Nat} {fp:List Addr} (I:Inv X pins σ H s) (k:∀ b u,b ∉ fp->s.heap.get? b=some u->h'.get? b=some u) (hf:∀ b∈fp,FpOk X pins H b):Inv X pins σ H { s with heap:=h',toks:=t' }:=by
 have nfp:∀ b u,H b=some u->b ∉ fp:=fun b u e z=>by rw [(hf b z).1] at e; cases e
 refine I.step (g':=s.gens) (d':=s.drawn) (ch:=fp) (fun b hb=>?_) (fun b u _ _ hc e _=>k b u hc e) (fun b u _ _ hc e _=>⟨u.slots,k b u hc e⟩) (fun b u _ e n=>n)
  (fun b u hc e=>⟨u,k b u hc e⟩) (fun b xs e=>e) (fun b u w e=>e) (fun b ps e=>⟨#[],by rw [e]; simp⟩) (fun m hm=>?_) (fun b u e=>?_) I.bare
 ·obtain ⟨f0,f1,f2,f3,f4,f5⟩:=hf b hb
  exact ⟨f3,f1,f4,f5⟩
 ·obtain ⟨u,es,ep,ho,r⟩:=hm
  refine ⟨u,es,ep,k _ u (fun z=>(hf _ z).2.1 rfl) ho,r⟩
 ·refine (I.hok b u e).stay (fun c v hc q=>k c v ?_ q) (fun c q=>q) fun c xs q=>q
  rcases hc with z | z
  ·rw [z]; exact nfp b u e
  ·exact nfp c _ z
def Ite (K:Frag) (a:Addr):It :=
 ⟨fun i H=>∃ xs x,SqL K H a xs/\xs[i]?=some x,fun i H x H'=>∃ T v,x=.ref T/\H T=none/\H'=upd H T (.tup [.int (i:Int),v])/\∀ xs,SqL K H a xs->xs[i]?=some v,fun i H=>∃ xs,SqL K H a xs/\xs.length=i⟩
theorem _qfv {P:Program} {w:World} {K:Frag} {elts:List Expr} {kk:Nat} {tp:Pos} (a e it:Addr) (hei:e ≠ it) (hae:a ≠ e) (hai:a ≠ it):Turn P w K (.Tuple elts kk tp) (Ite K a) [e,it] e (fun i h=>(∃ old,IsEnum h e it i old)/\h.IsListIter it a i) where
 mem:=by simp
 obj:=fun i h st b hb=>by
  obtain ⟨⟨old,he⟩,⟨o,eo,c,d⟩⟩:=st;have hb':b=e \/ b=it:=by simpa using hb
  rcases hb' with rfl | rfl
  ·exact ⟨_,he,fun v z=>by cases z⟩
  ·exact ⟨o,eo,fun v z=>by rw [d] at z; cases z⟩
 keep:=fun i h h' st k=>by
  obtain ⟨⟨old,he⟩,hi⟩:=st;exact ⟨⟨old,k e (by simp) _ he⟩,hi.at fun o q=>k it (by simp) o q⟩
 item:=by
  intro X hP hw hK hc i pins s σ H E I hf st hg;subst hP hw hK;obtain ⟨xs,x,hq,hx⟩:=hg;obtain ⟨its,rv,p,hz⟩:=I.list hq;obtain ⟨u,hu,ru⟩:=rv.get hx;have W:=WalksT.enumerateD (prog:=X.prog) (w:=X.w) (A:=X.A) (Draws.list (A:=X.A.in1) (I.ok.hd hc) it a hai its.toArray) e hei (by simp; exact ⟨hei,Ne.symm hae⟩) (by simp);have hlt:i < its.toArray.size:=by simp; exact (List.getElem?_eq_some_iff.mp hu).1
  refine W.item i s _ E hlt ⟨st.1,st.2,p.isList⟩ fun T vals h' tk hP hT htup hmid hk=>⟨.ref T,rfl,?_⟩;refine W.go elts kk tp i T _ _ E hmid fun h'' hst'' hk''=>?_;obtain ⟨t,x',hx',rfl⟩:=hP;have ex:x'=u:=by
   have h1:its[i]?=some x':=by simpa using hx'
   rw [hu] at h1; cases h1; rfl
  subst ex;have nT:T ∉ [e,it]:=W.apart i T h' hmid;obtain ⟨oT,hoT,hcT,nT2,hdT⟩:=id htup;have kall:∀ b u,b ∉ [e,it]->s.heap.get? b=some u->h''.get? b=some u:=fun b u hb e=>hk'' b u hb (hk b u hb e);have new:ObjOk X.prog X.w (upd H T (.tup [.int (i:Int),x])) h'' T (.tup [.int (i:Int),x]):=by
   refine ⟨by simp [sizeLine_eq],[.int (i:Int) t,x'],.cons ⟨_,rfl⟩ (.cons ru .nil),?_⟩;exact ⟨oT,hk'' T oT nT hoT,hcT,nT2,hdT⟩
  have I2:=DL.Inv.turnedT I (h':=h'') (t':=tk) kall hf hT new;refine ⟨.ref T,_,I2,rfl,⟨T,x,rfl,I.hok.fresh hT,rfl,fun ys hy=>by rw [I.list_inj hy hq]; exact hx⟩,⟨hst''.1,hst''.2.1⟩,fun b hb=>?_⟩;rw [upd_ne (by rintro rfl; exact nT hb)];exact (hf b hb).1
 done:=by
  intro X hP hw hK hc i pins s σ H E I hf st hg;subst hP hw hK;obtain ⟨xs,hq,hx⟩:=hg;obtain ⟨its,rv,p,hz⟩:=I.list hq;have W:=WalksT.enumerateD (prog:=X.prog) (w:=X.w) (A:=X.A) (Draws.list (A:=X.A.in1) (I.ok.hd hc) it a hai its.toArray) e hei (by simp; exact ⟨hei,Ne.symm hae⟩) (by simp);have hl:its.toArray.size=i:=by rw [<- hx,rv.length]; simp
  refine W.done s _ E (by rw [hl]; exact ⟨st.1,st.2,p.isList⟩) fun h' tk hk=>⟨rfl,DL.Inv.turnedL I (fp:=[e,it]) hk hf⟩
 self:=fun _ _ _ _ _ st h=>by
  obtain ⟨⟨old,he⟩,_⟩:=st;exact wpAny_pyIter_enum he h
section
variable {X:Cx} {elts:List Expr} {kk:Nat} {tp p pos:Pos} {a b:Expr}
theorem _qlp {pins:List (Addr × Obj)} {σ:L2.St} {H:Hp} {s:Shared} {l:Addr} {xs:List V} (I:Inv X pins σ H s) (h:SqL X.K H l xs):l < s.heap.objs.size:=by
 obtain ⟨its,rv,p,hz⟩:=I.list h;obtain ⟨o,e,_⟩:=p.isList;exact Heap.lt_size e
def iEnum (K:Frag) (tl:TE):TI:=fun σ H R=>tl σ H fun x H1=>∃ a,x=.ref a/\(∃ xs,SqL K H1 a xs)/\R (Ite K a) H1
theorem _qht {tl:TE} (hg:Gl X "enumerate") (hm:X.mg "enumerate"=none) (hl:PE X a tl) (hs:starEach [a] X.env=[(false,eval a X.env)]:=by rfl):PI X (.Tuple elts kk tp) (.Call (.Name "enumerate" p) [a] [] pos) (iEnum X.K tl):=by
 intro pins s σ H R I h;refine Call_ (ld_blt I hg hm _qa5 (PyProof.Rows.callWith_type1 (thn ((pa_cons hl pa_nil (by rw [hs]; rfl)) pos pins s σ H (fun vs H1=>∃ x,vs=[x]/\∃ a,x=.ref a/\(∃ xs,SqL X.K H1 a xs)/\R (Ite X.K a) H1) I (by
  show tl σ H fun x H1=>_;exact (show (fun x H1=>∃ a,x=V.ref a/\(∃ xs,SqL X.K H1 a xs)/\R (Ite X.K a) H1)=(fun x H1=>∃ x',[x]=[x']/\∃ a,x'=V.ref a/\(∃ xs,SqL X.K H1 a xs)/\R (Ite X.K a) H1) from by
   funext x H1
   apply propext;exact ⟨fun z=>⟨x,rfl,z⟩,fun ⟨x',e,z⟩=>by cases e; exact z⟩) ▸ h)) fun us s1 ⟨vs,H1,I1,r1,q1⟩=>?_) hs rfl))
 obtain ⟨x,rfl,l,rfl,⟨xs,hq⟩,q⟩:=q1;cases r1 with
 | cons r rr =>
  cases rr;cases r;obtain ⟨its,rv,pl,hz⟩:=I1.list hq;refine call_enumerate_list pl.isList fun h' he hit hsz hk=>?_;have hlt:=_qlp I1 hq;refine wpAny_pyIter_enum he ?_;have I2:Inv X pins σ H1 { s1 with heap:=h' }:=I1.kept (t':=s1.toks) hk;refine ⟨s1.heap.objs.size + 1,[s1.heap.objs.size + 1,s1.heap.objs.size],_,_,H1,rfl,I2,_qfv l _ _ (Nat.succ_ne_self _) (ne_of_lt (lt_succ_of_lt hlt)) (ne_of_lt hlt),⟨⟨_,by simpa using he⟩,hit⟩,fun b hb=>?_,q⟩;have hb':b=s1.heap.objs.size + 1 \/ b=s1.heap.objs.size:=by simpa using hb
  rcases hb' with rfl | rfl
  ·exact I1.fpOk (le_succ _) (I1.hok.fresh (le_succ _))
  ·exact I1.fpOk (le_refl _) (I1.hok.fresh (le_refl _))
theorem _Y4 {ds:List D}:(_qez ds).length=ds.length:=by simp [_qez]
theorem _qkn {ds:List D} {i:Nat} (h:i < ds.length):(_qez ds)[i]'(by rw [_Y4]; exact h)=.tup [.int (i:Int),ds[i]]:=by simp [_qez]
variable {js:List (Option Nat)} {g:GE} {c:FT} {e:FO}
theorem _qbo {K:Frag} {f:FE} {σ:L2.St} {H:Hp} {Q:VK} (h:tO K (_qe7 js f g c e) σ H Q):_qiu (iEnum K (tD K f)) (tGE K g) (tDT K c) (tO K e) js σ H Q:=by
 obtain ⟨F,ρ,total,s,re,hf,k⟩:=h;obtain ⟨d,hd,hf⟩:=bind_some hf;rw [_V2] at hf;split at hf
 ·rename_i xs
  split at hf
  ·rename_i hlen
   obtain ⟨total,hf2,rfl⟩:=map_some hf;have hf:=hf2;clear hf2;refine ⟨F,ρ,.lst xs,s,re,hd,fun v F1 H1 e1 r1=>?_⟩;cases r1 with
   | lst q t =>
    rename_i a vs;refine ⟨a,rfl,⟨vs,(_qsh e1.fh q).l⟩,fun l hl=>⟨fun i m σ' H'=>∃ F' ρ' done ys,CI K F1 H1 F' H' σ' ρ' l done/\SqE K F' a vs/\Reps K F' vs xs/\i <= xs.length/\m=xs.length - i/\done.length <= i/\_ji g c e ((_qez xs).drop i) ρ'=some ys/\total=done++ys,
     ⟨_,F1,mkD js ρ,[],total,_Vz re e1 hl,q,t,zero_le _,rfl,le_refl _,hf,rfl⟩,?_⟩⟩
    rintro i m σ' H' ⟨F',ρ',done,ys,ci,q',t',hi,rfl,hdn,hc,ht⟩
    by_cases hlt:i < xs.length
    ·have hv:i < vs.length:=by rw [t'.length]; exact hlt
     refine .inr ⟨⟨vs,vs[i],(_qsh ci.ext.fh q').l,by simp [hv]⟩,fun x H2 y=>?_⟩;obtain ⟨T,v',rfl,hT,rfl,y⟩:=y;obtain ⟨d,hd1,hd2⟩:=t'.get (y vs (_qsh ci.ext.fh q').l);have ed:xs[i]=d:=by rw [getElem?_eq_getElem hlt] at hd1; exact Option.some.inj hd1
     rw [_kb (by rw [_Y4]; exact hlt),_qkn hlt,ed] at hc;have hFT:=ci.ext.fh.free hT;have eT:=Ext.laid (o:=.tup [.int (i:Int),v']) ci.ext.fh hT;refine _Jj (N:=fun σ2 H2=>∃ m',m' < xs.length - i/\_) (ci.more eT) hl (.tup (.inl (.inl upd_same)) (.cons (.int _) (.cons (hd2.mono (_j4 hFT)) .nil))) (lt_of_lt_of_le (lt_of_le_of_lt hdn hlt) (_vb hlen)) hc fun F2 H2 σ2 ρ2 new ys' s2 ci2 hn2 hc2 he2=>?_;exact ⟨_,by omega,F2,ρ2,done++new,ys',ci2,_qsh (eT.ff.trans s2) q',t'.mono (eT.ff.trans s2),hlt,rfl,by simp; omega,hc2,by rw [ht,he2]; simp⟩
    ·refine .inl ⟨⟨vs,(_qsh ci.ext.fh q').l,by rw [t'.length]; omega⟩,?_⟩
     rw [drop_of_length_le (by rw [_Y4]; omega)] at hc;cases hc
     have:total=done:=by simpa using ht
     subst this;obtain ⟨A,o1,o2⟩:=ci.own hl;exact k (.ref l) F' H' A (e1.trans ci.ext) o1 fun b z=>⟨(o2 b z).1,e1.hh.free (o2 b z).2⟩
  ·cases hf
 ·cases hf
end
def Itz (K:Frag) (a b:Addr):It :=
 ⟨fun i H=>∃ xs ys x y,SqL K H a xs/\SqL K H b ys/\xs[i]?=some x/\ys[i]?=some y,
  fun i H x H'=>∃ T v u,x=.ref T/\H T=none/\H'=upd H T (.tup [v,u])/\(∀ xs,SqL K H a xs->xs[i]?=some v)/\∀ ys,SqL K H b ys->ys[i]?=some u,
  fun i H=>∃ xs ys,SqL K H a xs/\SqL K H b ys/\min xs.length ys.length=i⟩
theorem _qiq {P:Program} {w:World} {K:Frag} {elts:List Expr} {kk:Nat} {tp:Pos} (a b z TI TO i1 i2:Addr) (D:ZipApart z TI TO i1 i2 a b):Turn P w K (.Tuple elts kk tp) (Itz K a b) [z,TI,TO,i1,i2] z
  (fun i h=>IsZip h z TI TO .none/\IsPair h TI (.ref i1) (.ref i2)/\(∃ a b,IsPair h TO a b)/\h.IsListIter i1 a i/\h.IsListIter i2 b i) where
 mem:=by simp
 obj:=fun i h st c hc=>by
  obtain ⟨h1,h2,⟨x,y,h3⟩,⟨o4,e4,c4,d4⟩,⟨o5,e5,c5,d5⟩⟩:=st;have hc':c=z \/ c=TI \/ c=TO \/ c=i1 \/ c=i2:=by simpa using hc
  rcases hc' with rfl | rfl | rfl | rfl | rfl
  ·exact ⟨_,h1,fun v q=>by cases q⟩
  ·exact ⟨_,h2,fun v q=>by cases q⟩
  ·exact ⟨_,h3,fun v q=>by cases q⟩
  ·exact ⟨o4,e4,fun v q=>by rw [d4] at q; cases q⟩
  ·exact ⟨o5,e5,fun v q=>by rw [d5] at q; cases q⟩
 keep:=fun i h h' st k=>by
  obtain ⟨h1,h2,⟨x,y,h3⟩,h4,h5⟩:=st;exact ⟨k z (by simp) _ h1,k TI (by simp) _ h2,⟨x,y,k TO (by simp) _ h3⟩,h4.at fun o q=>k i1 (by simp) o q,h5.at fun o q=>k i2 (by simp) o q⟩
 item:=by
  intro X hP hw hK hc i pins s σ H E I hf st hg;subst hP hw hK;obtain ⟨xs,ys,x,y,hq1,hq2,hx,hy⟩:=hg;obtain ⟨its1,rv1,p1,hz1⟩:=I.list hq1;obtain ⟨its2,rv2,p2,hz2⟩:=I.list hq2;obtain ⟨u1,hu1,ru1⟩:=rv1.get hx;obtain ⟨u2,hu2,ru2⟩:=rv2.get hy;have W:=WalksT.zip2 (prog:=X.prog) (w:=X.w) (A:=X.A) (I.ok.hd hc) z TI TO i1 i2 a b D its1.toArray its2.toArray;have hlt:i < min its1.toArray.size its2.toArray.size:=by
   have h1:=(List.getElem?_eq_some_iff.mp hu1).1;have h2:=(List.getElem?_eq_some_iff.mp hu2).1
   simp; omega
  refine W.item i s _ E hlt ⟨st.1,st.2.1,st.2.2.1,st.2.2.2.1,st.2.2.2.2,p1.isList,p2.isList⟩ fun T vals h' tk hP hT htup hmid hk=>⟨.ref T,rfl,?_⟩;refine W.go elts kk tp i T _ _ E hmid fun h'' hst'' hk''=>?_;obtain ⟨x',y',hx',hy',rfl⟩:=hP;have ex:x'=u1:=by
   have h1:its1[i]?=some x':=by simpa using hx'
   rw [hu1] at h1; cases h1; rfl
  have ey:y'=u2:=by
   have h1:its2[i]?=some y':=by simpa using hy'
   rw [hu2] at h1; cases h1; rfl
  subst ex ey;have nT:T ∉ [z,TO,i1,i2]:=W.apart i T h' hmid;obtain ⟨oT,hoT,hcT,nT2,hdT⟩:=id htup;have kall:∀ b u,b ∉ [z,TO,i1,i2]->s.heap.get? b=some u->h''.get? b=some u:=fun b u hb e=>hk'' b u hb (hk b u hb e);have new:ObjOk X.prog X.w (upd H T (.tup [x,y])) h'' T (.tup [x,y]):=by
   refine ⟨by simp [sizeLine_eq],[x',y'],.cons ru1 (.cons ru2 .nil),?_⟩;exact ⟨oT,hk'' T oT nT hoT,hcT,nT2,hdT⟩
  have hf':∀ b∈[z,TO,i1,i2],FpOk X pins H b:=fun b hb=>hf b (by simp at hb ⊢; rcases hb with h | h | h | h <;> simp [h]);have I2:=DL.Inv.turnedT I (h':=h'') (t':=tk) kall hf' hT new;refine ⟨.ref T,_,I2,rfl,⟨T,x,y,rfl,I.hok.fresh hT,rfl,fun zs hy'=>by rw [I.list_inj hy' hq1]; exact hx,fun zs hy'=>by rw [I.list_inj hy' hq2]; exact hy⟩,⟨hst''.1,hst''.2.1,hst''.2.2.1,hst''.2.2.2.1,hst''.2.2.2.2.1⟩,fun b hb=>?_⟩;rw [upd_ne ?_]
  ·exact (hf b hb).1
  ·rintro rfl
   obtain ⟨o,eo,_⟩:∃ o,s.heap.get? b=some o/\True:=by
    obtain ⟨h1,h2,⟨x,y,h3⟩,⟨o4,e4,c4,d4⟩,⟨o5,e5,c5,d5⟩⟩:=st;have hc':b=z \/ b=TI \/ b=TO \/ b=i1 \/ b=i2:=by simpa using hb
    rcases hc' with h | h | h | h | h <;> subst h
    ·exact ⟨_,h1,trivial⟩
    ·exact ⟨_,h2,trivial⟩
    ·exact ⟨_,h3,trivial⟩
    ·exact ⟨_,e4,trivial⟩
    ·exact ⟨_,e5,trivial⟩
   exact absurd (Heap.lt_size eo) (Nat.not_lt.mpr hT)
 done:=by
  intro X hP hw hK hc i pins s σ H E I hf st hg;subst hP hw hK;obtain ⟨xs,ys,hq1,hq2,hx⟩:=hg;obtain ⟨its1,rv1,p1,hz1⟩:=I.list hq1;obtain ⟨its2,rv2,p2,hz2⟩:=I.list hq2;have W:=WalksT.zip2 (prog:=X.prog) (w:=X.w) (A:=X.A) (I.ok.hd hc) z TI TO i1 i2 a b D its1.toArray its2.toArray;have hl:min its1.toArray.size its2.toArray.size=i:=by rw [<- hx,rv1.length,rv2.length]; simp
  have hf':∀ b∈[z,TO,i1,i2],FpOk X pins H b:=fun b hb=>hf b (by simp at hb ⊢; rcases hb with h | h | h | h <;> simp [h]);refine W.done s _ E (by rw [hl]; exact ⟨st.1,st.2.1,st.2.2.1,st.2.2.2.1,st.2.2.2.2,p1.isList,p2.isList⟩) fun h' tk hk=>⟨rfl,DL.Inv.turnedL I (fp:=[z,TO,i1,i2]) hk hf'⟩
 self:=fun _ _ _ _ _ st h=>wpAny_pyIter_zip st.1 h
section
variable {X:Cx} {elts:List Expr} {kk:Nat} {tp p pos:Pos} {a b:Expr}
theorem _qlj (n l1 l2:Nat) (h1:l1 < n) (h2:l2 < n):ZipApart (n + 4) (n + 2) (n + 3) n (n + 1) l1 l2:=by
 constructor <;> (show (_:Nat) ≠ _; omega)
def iZip (K:Frag) (ta:TA):TI:=fun σ H R=>ta σ H fun vs H1=>∃ a b,vs=[.ref a,.ref b]/\(∃ xs,SqL K H1 a xs)/\(∃ ys,SqL K H1 b ys)/\R (Itz K a b) H1
theorem _qhs {ta:TA} (hg:Gl X "zip") (hm:X.mg "zip"=none) (ha:PA X [a,b] ta) (hs:starEach [a,b] X.env=[(false,eval a X.env),(false,eval b X.env)]:=by rfl) (hs2:starEach [b] X.env=[(false,eval b X.env)]:=by rfl):PI X (.Tuple elts kk tp) (.Call (.Name "zip" p) [a,b] [] pos) (iZip X.K ta):=by
 intro pins s σ H R I h;refine Call_ (ld_blt I hg hm _qnl (PyProof.Rows.callWith_type1 (thn (ha pos pins s σ H _ I h) fun us s1 hQ=>?_) (by rw [hs,hs2]) (by rw [hs2]; rfl)));obtain ⟨vs,H1,I1,r1,q1⟩:=hQ;obtain ⟨l1,l2,rfl,⟨xs,hq1⟩,⟨ys,hq2⟩,q⟩:=q1;cases r1 with
 | cons r rr =>
  cases rr with
  | cons r' rr =>
   cases rr;cases r;cases r';obtain ⟨its1,rv1,p1,hz1⟩:=I1.list hq1;obtain ⟨its2,rv2,p2,hz2⟩:=I1.list hq2;have lt1:=_qlp I1 hq1;have lt2:=_qlp I1 hq2;refine call_zip_2 p1.isList p2.isList fun h' hz hTI hTO hi1 hi2 hsz hk=>?_;refine wpAny_pyIter_zip hz ?_;have I2:Inv X pins σ H1 { s1 with heap:=h' }:=I1.kept (t':=s1.toks) hk;have ap:=_qlj s1.heap.objs.size l1 l2 lt1 lt2;refine ⟨s1.heap.objs.size + 4,[s1.heap.objs.size + 4,s1.heap.objs.size + 2,s1.heap.objs.size + 3,s1.heap.objs.size,s1.heap.objs.size + 1],_,_,H1,rfl,I2,_qiq l1 l2 _ _ _ _ _ ap,⟨hz,hTI,⟨_,_,hTO⟩,hi1,hi2⟩,fun c hc=>?_,q⟩;have hle:s1.heap.objs.size <= c:=by
    have hc':c=s1.heap.objs.size + 4 \/ c=s1.heap.objs.size + 2 \/ c=s1.heap.objs.size + 3 \/ c=s1.heap.objs.size \/ c=s1.heap.objs.size + 1:=by simpa using hc
    rcases hc' with h | h | h | h | h <;> (rw [h]; omega)
   exact I1.fpOk hle (I1.hok.fresh hle)
theorem _qcv {xs ys:List D}:(_qs7 xs ys).length=min xs.length ys.length:=by simp [_qs7]
theorem _qlh {xs ys:List D} {i:Nat} (h1:i < xs.length) (h2:i < ys.length):(_qs7 xs ys)[i]'(by rw [_qcv]; omega)=.tup [xs[i],ys[i]]:=by simp [_qs7]
variable {js:List (Option Nat)} {g:GE} {c:FT} {e:FO}
theorem _qf5 {K:Frag} {f h':FE} {σ:L2.St} {H:Hp} {Q:VK} (h:tO K (_qcg js f h' g c e) σ H Q):_qiu (iZip K (tDA K (_d f (_d h' _qty)))) (tGE K g) (tDT K c) (tO K e) js σ H Q:=by
 obtain ⟨F,ρ,total,s,re,hf,k⟩:=h;obtain ⟨d,hd,hf1⟩:=bind_some hf;obtain ⟨d',hd',hf0⟩:=bind_some hf1;clear hf hf1;have hf:=hf0;clear hf0;rw [_qhd] at hf;split at hf
 ·rename_i xs ys
  split at hf
  ·rename_i hlen
   obtain ⟨total,hf2,rfl⟩:=map_some hf;have hf:=hf2;clear hf2;refine ⟨F,ρ,[.lst xs,.lst ys],s,re,by simp [_d,_qty,hd,hd'],fun v F1 H1 e1 r1=>?_⟩;cases r1 with
   | cons ra r1 =>
    cases r1 with
    | cons rb r1 =>
     cases r1;cases ra with
     | lst q t =>
      rename_i a vs;cases rb with
      | lst qb tb =>
       rename_i b us;refine ⟨a,b,rfl,⟨vs,(_qsh e1.fh q).l⟩,⟨us,(_qsh e1.fh qb).l⟩,fun l hl=>⟨fun i m σ' H'=>∃ F' ρ' done zs,CI K F1 H1 F' H' σ' ρ' l done/\SqE K F' a vs/\Reps K F' vs xs/\SqE K F' b us/\Reps K F' us ys/\i <= min xs.length ys.length/\m=min xs.length ys.length - i/\done.length <= i/\_ji g c e ((_qs7 xs ys).drop i) ρ'=some zs/\total=done++zs,
        ⟨_,F1,mkD js ρ,[],total,_Vz re e1 hl,q,t,qb,tb,zero_le _,rfl,le_refl _,hf,rfl⟩,?_⟩⟩
       rintro i m σ' H' ⟨F',ρ',done,zs,ci,q',t',qb',tb',hi,rfl,hdn,hc,ht⟩
       by_cases hlt:i < min xs.length ys.length
       ·have hx:i < xs.length:=by omega
        have hy:i < ys.length:=by omega
        have hv:i < vs.length:=by rw [t'.length]; exact hx
        have hu:i < us.length:=by rw [tb'.length]; exact hy
        refine .inr ⟨⟨vs,us,vs[i],us[i],(_qsh ci.ext.fh q').l,(_qsh ci.ext.fh qb').l,by simp [hv],by simp [hu]⟩,fun x H2 y=>?_⟩;obtain ⟨T,v',u',rfl,hT,rfl,y1,y2⟩:=y;obtain ⟨d1,hd1,hr1⟩:=t'.get (y1 vs (_qsh ci.ext.fh q').l);obtain ⟨d2,hd2,hr2⟩:=tb'.get (y2 us (_qsh ci.ext.fh qb').l);have ed1:xs[i]=d1:=by rw [getElem?_eq_getElem hx] at hd1; exact Option.some.inj hd1
        have ed2:ys[i]=d2:=by rw [getElem?_eq_getElem hy] at hd2; exact Option.some.inj hd2
        rw [_kb (by rw [_qcv]; exact hlt),_qlh hx hy,ed1,ed2] at hc;have hFT:=ci.ext.fh.free hT;have eT:=Ext.laid (o:=.tup [v',u']) ci.ext.fh hT;refine _Jj (N:=fun σ2 H2=>∃ m',m' < min xs.length ys.length - i/\_) (ci.more eT) hl (.tup (.inl (.inl upd_same)) (.cons (hr1.mono (_j4 hFT)) (.cons (hr2.mono (_j4 hFT)) .nil))) (lt_of_lt_of_le (lt_of_le_of_lt hdn hx) (_vb hlen.1)) hc fun F2 H2 σ2 ρ2 new ys' s2 ci2 hn2 hc2 he2=>?_;exact ⟨_,by omega,F2,ρ2,done++new,ys',ci2,_qsh (eT.ff.trans s2) q',t'.mono (eT.ff.trans s2),_qsh (eT.ff.trans s2) qb',tb'.mono (eT.ff.trans s2),hlt,rfl,by simp; omega,hc2,by rw [ht,he2]; simp⟩
       ·refine .inl ⟨⟨vs,us,(_qsh ci.ext.fh q').l,(_qsh ci.ext.fh qb').l,by rw [t'.length,tb'.length]; omega⟩,?_⟩
        rw [drop_of_length_le (by rw [_qcv]; omega)] at hc;cases hc
        have:total=done:=by simpa using ht
        subst this;obtain ⟨A,o1,o2⟩:=ci.own hl;exact k (.ref l) F' H' A (e1.trans ci.ext) o1 fun b z=>⟨(o2 b z).1,e1.hh.free (o2 b z).2⟩
  ·cases hf
 ·cases hf
end
end DL
namespace DL
open PySem
def _qcu:List D->Option (List Int)
 | []=>some []
 | .int n :: ds=>(_qcu ds).map (n :: ·)
 | _=>none
theorem _vt:∀ {ds:List D} {ns:List Int},_qcu ds=some ns->ds=ns.map D.int
 | [],_,h=>by cases h; rfl
 | d :: ds,ns,h=>by
  cases d with
  | int i =>
   simp only [_qcu] at h;cases q:_qcu ds with
   | none=>rw [q] at h; cases h
   | some ms=>rw [q] at h; cases h; rw [_vt q]; rfl
  | _=>cases h
@[simp] theorem _Ji:∀ (ns:List Int),_qcu (ns.map D.int)=some ns
 | []=>rfl
 | n :: ns=>by simp [_qcu,_Ji ns]
def insU (x:Int):List Int->List Int
 | []=>[x]
 | y :: ys=>if x < y then x :: y :: ys else if x=y then y :: ys else y :: insU x ys
def _qi (ns:List Int):List Int:=ns.foldr insU []
theorem _Ym (x z:Int):∀ l:List Int,z∈insU x l ↔ z=x \/ z∈l
 | []=>by simp [insU]
 | y :: ys=>by
  unfold insU;split
  ·simp
  ·split
   ·rename_i e; subst e; simp
   ·simp [_Ym x z ys]
    constructor
    ·rintro (h | h | h)
     ·exact .inr (.inl h)
     ·exact .inl h
     ·exact .inr (.inr h)
    ·rintro (h | h | h)
     ·exact .inr (.inl h)
     ·exact .inl h
     ·exact .inr (.inr h)
theorem _Ki (x:Int):∀ l:List Int,l.Pairwise (· < ·)->(insU x l).Pairwise (· < ·)
 | [],_=>by simp [insU]
 | y :: ys,h=>by
  rw [pairwise_cons] at h;unfold insU;split
  ·rename_i hx
   rw [pairwise_cons];refine ⟨fun z hz=>?_,List.pairwise_cons.mpr h⟩;rcases List.mem_cons.mp hz with rfl | hz
   ·exact hx
   ·exact Int.lt_trans hx (h.1 z hz)
  ·split
   ·exact List.pairwise_cons.mpr h
   ·rename_i h1 h2
    rw [pairwise_cons];refine ⟨fun z hz=>?_,_Ki x ys h.2⟩;rcases (_Ym x z ys).mp hz with rfl | hz
    ·omega
    ·exact h.1 z hz
theorem _v7 (z:Int):∀ ns:List Int,z∈_qi ns ↔ z∈ns
 | []=>by simp [_qi]
 | n :: ns=>by
  have:=_v7 z ns
  simp only [_qi] at this;simp only [_qi,List.foldr_cons,_Ym,mem_cons,this]
theorem _xz:∀ ns:List Int,(_qi ns).Pairwise (· < ·)
 | []=>by simp [_qi]
 | n :: ns=>by
  have:=_xz ns
  simp only [_qi] at this ⊢;exact _Ki n _ this
theorem _Qf:∀ {l m:List Int},l.Pairwise (· < ·)->m.Pairwise (· < ·)->(∀ x,x∈l ↔ x∈m)->l=m
 | [],[],_,_,_=>rfl
 | [],y :: ys,_,_,h=>absurd ((h y).mpr (by simp)) (by simp)
 | x :: xs,[],_,_,h=>absurd ((h x).mp (by simp)) (by simp)
 | x :: xs,y :: ys,h1,h2,h=>by
  rw [pairwise_cons] at h1 h2;have e:x=y:=by
   rcases List.mem_cons.mp ((h x).mp (by simp)) with e | e
   ·exact e
   ·rcases List.mem_cons.mp ((h y).mpr (by simp)) with e' | e'
    ·exact e'.symm
    ·have a1:=h2.1 x e
     have a2:=h1.1 y e';omega
  subst e;rw [_Qf h1.2 h2.2 fun z=>?_];constructor
  ·intro hz
   rcases List.mem_cons.mp ((h z).mp (mem_cons_of_mem _ hz)) with e | e
   ·subst e; exact absurd (h1.1 z hz) (Int.lt_irrefl _)
   ·exact e
  ·intro hz
   rcases List.mem_cons.mp ((h z).mpr (mem_cons_of_mem _ hz)) with e | e
   ·subst e; exact absurd (h2.1 z hz) (Int.lt_irrefl _)
   ·exact e
def _Vs:List D->Option (List D)
 | [.lst xs]=>(_qcu xs).bind fun ns=>if ns.length < 4000/\(_qi ns).length < 64 then some ((_qi ns).map .int) else none
 | _=>none
def insL (x:Int):List Int->List Int
 | []=>[x]
 | y :: ys=>if x <= y then x :: y :: ys else y :: insL x ys
def _wa (ns:List Int):List Int:=ns.foldr insL []
theorem _Vj (x:Int):∀ l:List Int,(insL x l).Perm (x :: l)
 | []=>.refl _
 | y :: ys=>by
  unfold insL;split
  ·exact .refl _
  ·exact ((_Vj x ys).cons y).trans (List.Perm.swap _ _ _)
theorem _qm:∀ ns:List Int,(_wa ns).Perm ns
 | []=>.refl _
 | n :: ns=>(_Vj n _).trans ((_qm ns).cons n)
theorem _Kk (x:Int):∀ l:List Int,l.Pairwise (· <= ·)->(insL x l).Pairwise (· <= ·)
 | [],_=>by simp [insL]
 | y :: ys,h=>by
  rw [pairwise_cons] at h;unfold insL;split
  ·rename_i hx
   rw [pairwise_cons];refine ⟨fun z hz=>?_,List.pairwise_cons.mpr h⟩;rcases List.mem_cons.mp hz with rfl | hz
   ·exact hx
   ·exact Int.le_trans hx (h.1 z hz)
  ·rename_i hx
   rw [pairwise_cons];refine ⟨fun z hz=>?_,_Kk x ys h.2⟩;rcases List.mem_cons.mp ((_Vj x ys).mem_iff.mp hz) with rfl | hz
   ·omega
   ·exact h.1 z hz
theorem _Qa:∀ ns:List Int,(_wa ns).Pairwise (· <= ·)
 | []=>.nil
 | n :: ns=>_Kk n _ (_Qa ns)
theorem _qkl {ns ns':List Int} (hp:ns'.Perm ns) (hs:ns'.Pairwise (· <= ·)):ns'=_wa ns :=
 List.Perm.eq_of_pairwise (fun _ _ _ _ a b=>Int.le_antisymm a b) hs (_Qa ns) (hp.trans (_qm ns).symm)
def _qi7:List D->Option (List D)
 | [.lst xs]=>(_qcu xs).bind fun ns=>if ns.length < 64 then some ((_wa ns).map .int) else none
 | _=>none
end DL
namespace SetW
open PySem
def Ris (xs:Array Nat):Prop:=∀ (i k:Nat),i < k->∀ (a b:Nat),xs[i]?=some a->xs[k]?=some b->a < b
theorem _qbf {xs:Array Nat} {i d a:Nat} (h:xs[i]?=some a):xs.getD i d=a:=by
 rw [Array.getD_eq_getD_getElem?,h]; rfl
theorem _Xz {xs:Array Nat} {i:Nat} (h:i < xs.size):∃ a,xs[i]?=some a:=⟨xs[i],by rw [Array.getElem?_eq_getElem h]⟩
theorem _qa6 {xs:Array Nat} {j:Nat} (hx:Ris xs):∀ (fuel lo hi:Nat),hi - lo <= fuel->lo <= hi->hi <= xs.size->(∀ i a,i < lo->xs[i]?=some a->a < j)->(∀ i a,hi <= i->xs[i]?=some a->j <= a) ->
  SetTable.below.go xs j fuel lo hi <= xs.size/\(∀ i a,i < SetTable.below.go xs j fuel lo hi->xs[i]?=some a->a < j)/\(∀ i a,SetTable.below.go xs j fuel lo hi <= i->xs[i]?=some a->j <= a)
 | 0,lo,hi,h1,h2,h3,h4,h5=>by
  have:lo=hi:=by omega
  subst this;exact ⟨h3,h4,h5⟩
 | fuel + 1,lo,hi,h1,h2,h3,h4,h5=>by
  unfold SetTable.below.go
  by_cases hl:lo < hi
  ·rw [if_pos hl]
   obtain ⟨m,hm⟩:∃ m,xs[(lo + hi) / 2]?=some m:=_Xz (by omega);dsimp only;rw [_qbf hm]
   by_cases hj:m < j
   ·rw [if_pos hj]
    refine _qa6 hx fuel _ hi (by omega) (by omega) h3 (fun i a hi' ha=>?_) h5
    by_cases e:i=(lo + hi) / 2
    ·subst e; rw [hm] at ha; cases ha; exact hj
    ·exact lt_trans (hx i _ (by omega) a m ha hm) hj
   ·rw [if_neg hj]
    refine _qa6 hx fuel lo _ (by omega) (by omega) (by omega) h4 (fun i a hi' ha=>?_)
    by_cases e:i=(lo + hi) / 2
    ·subst e; rw [hm] at ha; cases ha; omega
    ·have:=hx _ i (by omega) m a hm ha; omega
  ·rw [if_neg hl]
   have:lo=hi:=by omega
   subst this;exact ⟨h3,h4,h5⟩
theorem _Xs {xs:Array Nat} (hx:Ris xs) (j:Nat):SetTable.below xs j <= xs.size/\(∀ i a,i < SetTable.below xs j->xs[i]?=some a->a < j)/\(∀ i a,SetTable.below xs j <= i->xs[i]?=some a->j <= a) :=
 _qa6 hx xs.size 0 xs.size (by omega) (by omega) (le_refl _) (fun i a h=>absurd h (Nat.not_lt_zero _)) fun i a h ha=>by
  rw [Array.getElem?_eq_none h] at ha; cases ha
theorem _qff {xs:Array Nat} (hx:Ris xs) {i a:Nat} (h:xs[i]?=some a):SetTable.below xs (a + 1)=i + 1:=by
 obtain ⟨h1,h2,h3⟩:=_Xs hx (a + 1);have hi:i < xs.size:=by
  by_cases c:i < xs.size
  ·exact c
  ·rw [Array.getElem?_eq_none (by omega)] at h; cases h
 generalize SetTable.below xs (a + 1)=r at h1 h2 h3;have g1:i < r:=by
  by_cases c:i < r
  ·exact c
  ·have:=h3 i a (by omega) h; omega
 by_cases g2:i + 1 < r
 ·obtain ⟨b,hb⟩:=_Xz (xs:=xs) (i:=i + 1) (by omega)
  have c1:=h2 (i + 1) b g2 hb;have c2:=hx i (i + 1) (by omega) a b h hb;omega
 ·omega
theorem _qfd {xs:Array Nat} (hx:Ris xs):SetTable.below xs 0=0:=by
 obtain ⟨h1,h2,h3⟩:=_Xs hx 0;generalize SetTable.below xs 0=r at h1 h2 h3;cases r with
 | zero=>rfl
 | succ r =>
  obtain ⟨a,ha⟩:=_Xz (xs:=xs) (i:=0) (by omega)
  have:=h2 0 a (by omega) ha
  omega
theorem _qg8 {xs:Array Nat}:Ris xs ↔ xs.toList.Pairwise (· < ·):=by
 rw [List.pairwise_iff_getElem];constructor
 ·intro h i j hi hj hij
  exact h i j hij _ _ (by rw [<- getElem?_toList]; exact getElem?_eq_getElem hi) (by rw [<- getElem?_toList]; exact getElem?_eq_getElem hj)
 ·intro h i k hik a b ha hb
  rw [<- getElem?_toList] at ha hb;obtain ⟨hi,rfl⟩:=List.getElem?_eq_some_iff.mp ha;obtain ⟨hk,rfl⟩:=List.getElem?_eq_some_iff.mp hb;exact h i k hi hk hik
theorem _qm2:Ris #[]:=by intro i k _ a b h; simp at h
theorem _qg7 (n:Nat):Ris (Array.range n):=by
 rw [_qg8,Array.toList_range]; exact List.pairwise_lt_range
theorem _qm1 {xs:Array Nat} (hx:Ris xs) {j:Nat} (hj:xs[SetTable.below xs j]? ≠ some j):Ris (SetTable.insertAt xs (SetTable.below xs j) j):=by
 obtain ⟨h1,h2,h3⟩:=_Xs hx j;generalize SetTable.below xs j=r at h1 h2 h3 hj;have hp:=_qg8.mp hx;rw [_qg8,SetTable.toList_insertAt,List.pairwise_append,pairwise_cons];have hd:∀ b∈xs.toList.drop r,j < b:=by
  intro b hb;obtain ⟨k,hk⟩:=List.getElem?_of_mem hb;rw [List.getElem?_drop,getElem?_toList] at hk;have c1:=h3 (r + k) b (by omega) hk;cases k with
  | zero =>
   have:b ≠ j:=by rintro rfl; exact hj hk
   omega
  | succ k =>
   have hlt:r + (k + 1) < xs.size:=by
    by_cases c:r + (k + 1) < xs.size
    ·exact c
    ·rw [Array.getElem?_eq_none (by omega)] at hk; cases hk
   obtain ⟨m,hm⟩:=_Xz (xs:=xs) (i:=r) (by omega);have c2:=h3 r m (le_refl _) hm;have c3:=hx r (r + (k + 1)) (by omega) m b hm hk;omega
 have ht:∀ a∈xs.toList.take r,a < j:=by
  intro a ha;obtain ⟨k,hk⟩:=List.getElem?_of_mem ha;have hkr:k < r:=by
   by_cases c:k < r
   ·exact c
   ·rw [List.getElem?_take,if_neg c] at hk; cases hk
  rw [List.getElem?_take,if_pos hkr,getElem?_toList] at hk;exact h2 k a hkr hk
 refine ⟨hp.sublist (take_sublist _ _),⟨hd,hp.sublist (List.drop_sublist _ _)⟩,fun a ha b hb=>?_⟩;rcases List.mem_cons.mp hb with rfl | hb
 ·exact ht a ha
 ·exact lt_trans (ht a ha) (hd b hb)
theorem _qfy {t:SetTable} {j:Nat} (h:∀ i,t.slot j ≠ .live i):t.place[SetTable.below t.place j]? ≠ some j:=by
 intro e;refine h (SetTable.below t.place j) ?_;simp [SetTable.slot,e]
theorem _J0 {t:SetTable} {f:Nat->Int} {h:Int}:∀ (fuel:Nat) (p:SetTable.Probe),(∀ d,p.dummy=some d->∀ i,t.slot d ≠ .live i)->∀ j d,SetTable.probe.go t f h fuel p=some (.empty j d)->∀ i,t.slot (d.getD j) ≠ .live i
 | 0,p,_,j,d,e=>by cases e
 | fuel + 1,p,hp,j,d,e=>by
  have had:∀ q:SetTable.Probe,(t.advance q).dummy=q.dummy:=by
   intro q; unfold SetTable.advance; split <;> rfl
  unfold SetTable.probe.go at e;split at e
  ·rename_i hs
   cases e;cases hd:p.dummy with
   | none=>intro i; rw [getD_none,hs]; exact SetTable.Slot.noConfusion
   | some d=>rw [getD_some]; exact hp d hd
  ·rename_i hs
   refine _J0 fuel _ (fun d hd=>?_) j d e;rw [had] at hd;cases hd;intro i; rw [hs]; exact SetTable.Slot.noConfusion
  ·split at e
   ·cases e
   ·exact _J0 fuel _ (fun d hd=>hp d (by rw [had] at hd; exact hd)) j d e
def _Zg (led:Bool) (t:SetTable):Prop:=Ris t.place/\t.led=led
theorem _Zg.standIn {led:Bool} {t:SetTable} (h:_Zg led t) (n:Nat):_Zg led (t.standIn n):=⟨_qg7 n,h.2⟩
theorem _Zg.plainOff {led:Bool} {t:SetTable} (h:_Zg led t):_Zg led { t with plain:=false }:=h
theorem _Zg.lay {led:Bool} {t:SetTable} (h:_Zg led t) (es:Array (Int × Value)) (n:Int) (x:Value):_Zg led (layNew t es n x).2.1:=by
 unfold layNew;split
 ·rename_i slot wd hf
  have hs:t.place[SetTable.below t.place slot]? ≠ some slot:=by
   unfold SetTable.freeSlot at hf;split at hf
   ·rename_i j d hq
    cases hf;exact _qfy (_J0 _ _ (fun d e=>by cases e) _ _ hq)
   ·cases hf
  have hput:_Zg led (t.put slot).1:=⟨_qm1 h.1 hs,h.2⟩;dsimp only;unfold SetTable.orStandIn;split
  ·exact hput
  ·exact hput.standIn _
 ·exact h.standIn _
theorem fm_pw {f:Nat->Option (Nat × Nat)} (hf:∀ j q,f j=some q->q.1=j):∀ (l:List Nat),l.Pairwise (· < ·)->((l.filterMap f).map (·.1)).Pairwise (· < ·)
 | [],_=>.nil
 | a :: l,h=>by
  rw [pairwise_cons] at h;rw [filterMap_cons];split
  ·exact fm_pw hf l h.2
  ·rename_i q hq
   rw [map_cons,pairwise_cons];refine ⟨fun b hb=>?_,fm_pw hf l h.2⟩;obtain ⟨z,hz,rfl⟩:=List.mem_map.mp hb;obtain ⟨k,hk,hz'⟩:=List.mem_filterMap.mp hz;rw [hf _ _ hq,hf _ _ hz'];exact h.1 k hk
theorem _Zg.relay {led:Bool} {t:SetTable} (h:_Zg led t) (es:Array (Int × Value)) (n:Nat):_Zg led (relayAll t es n).2.1:=by
 unfold relayAll;split
 ·rename_i t' order hr
  dsimp only;split
  ·unfold SetTable.relaid SetTable.laid at hr
   cases ho:SetTable.layClean (SetTable.sizeAbove n - 1) (es.map (·.1)) with
   | none=>rw [ho] at hr; cases hr
   | some owner =>
    rw [ho] at hr;have hr':=Option.some.inj hr;have e:=congrArg Prod.fst hr';dsimp only at e;rw [<- e];refine ⟨?_,h.2⟩;rw [_qg8,List.toList_toArray];refine fm_pw (fun j q hq=>?_) _ List.pairwise_lt_range;obtain ⟨z,_,rfl⟩:=Option.map_eq_some_iff.mp hq;rfl
  ·exact h.standIn _
 ·exact h.standIn _
theorem _Zg.fresh (led:Bool):_Zg led (.fresh 0 0 led):=⟨_qm2,rfl⟩
end SetW
namespace SetW
open PySem PySem.Spec PyProof.Rows
def _qto (w:World):Bool:=w.params.followText "set-order"
section
variable {prog:Program} {w:World} {A:Around} {E:Value->Shared->Prop} {s:Shared}
def _V9 (prog:Program) (w:World) (h:Heap) (a:Addr) (S:Int->Bool) (n:Nat):Prop :=
 ∃ o es ep t,h.get? a=some o/\o.ExactSet/\o.data=.set es ep t/\ElemsOf (intKind prog w) es.toList/\(∀ k,S k=true ↔ ∃ e∈es.toList,(intKind prog w).is k e.2=true)
 /\es.size < scanBound/\t.fits es.size=true/\es.size=n/\_Zg (!_qto w) t
theorem _V9.congr {h:Heap} {a:Addr} {S S':Int->Bool} {n n':Nat} (hS:_V9 prog w h a S n) (e:∀ k,S k=S' k) (en:n=n'):_V9 prog w h a S' n':=by
 have:S=S':=funext e
 subst this; subst en; exact hS
theorem _V9.at {h h':Heap} {a:Addr} {S:Int->Bool} {n:Nat} (hS:_V9 prog w h a S n) (e:∀ o,h.get? a=some o->h'.get? a=some o):_V9 prog w h' a S n:=by
 obtain ⟨o,es,ep,t,ho,r⟩:=hS;exact ⟨o,es,ep,t,e o ho,r⟩
theorem _V9.store {h:Heap} {a:Addr} {o:Obj} {es:Array (Int × Value)} {ep:Nat} {t:SetTable} (ho:h.get? a=some o) (hex:o.ExactSet) (hd:o.data=.set es ep t)
  {es':Array (Int × Value)} {t':SetTable} {S':Int->Bool} (hel:ElemsOf (intKind prog w) es'.toList) (hmem:∀ k,S' k=true ↔ ∃ e∈es'.toList,(intKind prog w).is k e.2=true) (hb:es'.size < scanBound) (hf:t'.fits es'.size=true) (ht:_Zg (!_qto w) t') :
  (h.update a (Obj.putSet es' t')).get? a=some { o with data:=.set es' (ep + 1) t' }/\_V9 prog w (h.update a (Obj.putSet es' t')) a S' es'.size:=by
 have q:=(SetOf_store (knd:=intKind prog w) ho hex hd hel hmem hb hf).1;exact ⟨q,_,es',ep + 1,t',q,hex,rfl,hel,hmem,hb,hf,rfl,ht⟩
theorem _qg0 {a:Addr} {S:Int->Bool} {n:Nat} {k:Int} {x:Value} {Q:Bool->Shared->Prop} (hkey:(intKind prog w).is k x=true) (hsc:x.scannable=true) (hS:_V9 prog w s.heap a S n)
  (hroom:n + 1 < scanBound)
  (h:∀ h',Heap.SameBut a s.heap h'->_V9 prog w h' a (fun k'=>S k' || decide (k'=k)) (if S k then n else n + 1)->Q (!S k) { s with heap:=h' }) :
  wpAny (model prog w) A (setAddHashed a x ((intKind prog w).hash k)) Q E s:=by
 obtain ⟨o,es,ep,t,ho,hex,hd,hel,hmem,hb,hf,hn,ht⟩:=hS;unfold setAddHashed setAddHashedIn;refine wpAny_holding (wpAny_bind (wpAny_setState_of ho hd hf ?_));dsimp only;rw [byScan_of hsc hb hel];simp only [↓reduceIte];unfold setAddByScan;refine wpAny_bind (wpAny_bind (wpAny_rule (wpAny_bind (wpAny_setScan_of hkey ho hd hf hel ?_))));cases hr:List.findIdx? (fun e=>(intKind prog w).is k e.2) es.toList with
 | some j =>
  dsimp only;obtain ⟨hj,hpj,_⟩:=List.findIdx?_eq_some_iff_getElem.mp hr;have hSk:S k=true:=(hmem k).mpr ⟨es.toList[j],getElem_mem hj,hpj⟩;refine wpAny_pure (wpAny_pure ?_)
  have:=h s.heap (Heap.SameBut.refl a s.heap) ⟨o,es,ep,t,ho,hex,hd,hel,fun k'=>by
   rw [Bool.or_eq_true,decide_eq_true_eq,<- hmem k'];exact ⟨fun hk=>hk.elim id (fun e=>e ▸ hSk),.inl⟩,hb,hf,by rw [hSk]; exact hn,ht⟩
  rw [hSk] at this;exact this
 | none =>
  dsimp only;have hSk:S k=false:=by
   cases hk:S k with
   | false=>rfl
   | true=>obtain ⟨e,he,hp⟩:=(hmem k).mp hk; have:=List.findIdx?_eq_none_iff.mp hr e he; rw [hp] at this; exact Bool.noConfusion this
  have hperm:=layNew_perm t es ((intKind prog w).hash k) x;have hfits:=layNew_fits t es ((intKind prog w).hash k) x;have hok:=ht.lay es ((intKind prog w).hash k) x;generalize hL:layNew t es ((intKind prog w).hash k) x=L at hperm hfits hok ⊢;obtain ⟨es1,t1,wasDummy,gave⟩:=L;dsimp only at hperm hfits hok ⊢;rw [Array.toList_push] at hperm;have hel1:ElemsOf (intKind prog w) es1.toList:=(hel.push hkey hsc).perm hperm;have hmem1:∀ k',(S k' || decide (k'=k))=true ↔ ∃ e∈es1.toList,(intKind prog w).is k' e.2=true:=mem_push_iff hkey hmem hperm;have hsz1:es1.size=n + 1:=by rw [<- length_toList,hperm.length_eq,length_append,length_toList,hn]; rfl
  have hb1:es1.size < scanBound:=by rw [hsz1]; exact hroom
  have hgw:∀ (b:Bool) {s₁:Shared} {Q':Unit->Shared->Prop},Q' () s₁->wpAny (model prog w) A (match b with | true=>rule "set.scan.the-table-gave-way" | false=>pure ()) Q' E s₁ :=
   fun b s₁ Q' hq=>by cases b <;> first | exact wpAny_pure hq | exact wpAny_rule hq
  have hend:∀ h',Heap.SameBut a s.heap h'->_V9 prog w h' a (fun k'=>S k' || decide (k'=k)) es1.size->Q true { s with heap:=h' }:=by
   intro h' hsb hS'
   have:=h h' hsb
   rw [hSk] at this;rw [hsz1] at hS';exact this hS'
  refine wpAny_bind (hgw _ ?_);have fin:∀ t2:SetTable,t2.fits es1.size=true->_Zg (!_qto w) t2->∀ (g:Bool->Sem Unit),(∀ (b:Bool) (s₁:Shared) (Q':Unit->Shared->Prop),Q' () s₁->wpAny (model prog w) A (g b) Q' E s₁) ->
    wpAny (model prog w) A (do
     storeSet a es1 t2
     if (!wasDummy && t2.tooFull) = true then do
         g (relayAll t2 es1 (SetTable.grown es1.size)).2.2
         storeSet a (relayAll t2 es1 (SetTable.grown es1.size)).1 (relayAll t2 es1 (SetTable.grown es1.size)).2.1
         pure (some true)
      else pure (some true)) (fun r s'=>wpAny (model prog w) A (match r with | some added=>pure added | none=>setAddHashedIn a x ((intKind prog w).hash k) 99999) Q E s') E s:=by
   intro t2 f2 k2 g hg;refine wpAny_bind (wpAny_storeSet_of ho hd ?_ (fits_of_scanBound hb1));obtain ⟨ho1,hS1⟩:=_V9.store (prog:=prog) ho hex hd hel1 hmem1 hb1 f2 k2;have hsb1:=Heap.SameBut.update s.heap a (Obj.putSet es1 t2);split
   ·have hp:=relayAll_perm t2 es1 (SetTable.grown es1.size)
    have hfr:=relayAll_fits t2 es1 (SetTable.grown es1.size);have hkr:=k2.relay es1 (SetTable.grown es1.size);generalize hRl:relayAll t2 es1 (SetTable.grown es1.size)=Rl at hp hfr hkr ⊢;obtain ⟨es2,t3,gave2⟩:=Rl;dsimp only at hp hfr hkr ⊢;have hel2:ElemsOf (intKind prog w) es2.toList:=hel1.perm hp;have hmem2:∀ k',(S k' || decide (k'=k))=true ↔ ∃ e∈es2.toList,(intKind prog w).is k' e.2=true:=fun k'=>(hmem1 k').trans ⟨fun ⟨e,he,q⟩=>⟨e,hp.mem_iff.mpr he,q⟩,fun ⟨e,he,q⟩=>⟨e,hp.mem_iff.mp he,q⟩⟩;have hsz:es2.size=es1.size:=by rw [<- length_toList,hp.length_eq,length_toList]
    have hb2:es2.size < scanBound:=by rw [hsz]; exact hb1
    refine wpAny_bind (hg _ _ _ ?_);refine wpAny_bind (wpAny_storeSet_of ho1 rfl ?_ (fits_of_scanBound hb2));obtain ⟨_,hS2⟩:=_V9.store (prog:=prog) ho1 hex rfl hel2 hmem2 hb2 hfr hkr;rw [hsz] at hS2;exact wpAny_pure (wpAny_pure (hend _ (hsb1.trans (Heap.SameBut.update _ a _)) hS2))
   ·exact wpAny_pure (wpAny_pure (hend _ hsb1 hS1))
  split
  ·refine wpAny_bind ?_
   rw [hashByValue_scannable 8 hsc];refine wpAny_pure ?_;refine fin _ ?_ ?_ _ ?_
   ·split
    ·exact hfits
    ·exact SetTable.fits_plain_off hfits
   ·split
    ·exact hok
    ·exact hok.plainOff
   ·intro b s₁ Q' hq; cases b <;> first | exact wpAny_pure hq | exact wpAny_rule hq
  ·refine wpAny_bind (wpAny_pure ?_)
   simp only [↓reduceIte];refine fin _ hfits hok _ ?_;intro b s₁ Q' hq; cases b <;> first | exact wpAny_pure hq | exact wpAny_rule hq
theorem _qfu {R:Result->Shared->Prop} {I:Addr} {fp wr:List Addr} {G:Array GenState->Array GenState->Prop} {n:Nat} {P:Nat->Value->Prop} {St:Nat->Shared->Prop} (W:WalksS prog w A.in1 I fp wr G n P St) (S:Addr) (hSf:S ∉ fp)
  (val:Nat->Int) (hval:∀ i v,P i v->∃ t,v=.int (val i) t) (hb:n + 1 < scanBound) :
  ∀ (k i:Nat) (s:Shared),n - i=k->i <= n->St i s->_V9 prog w s.heap S (fun k'=>(firstMet val i).any (· == k')) (firstMet val i).length ->
   (∀ s',Moved (S :: wr) G s s'->_V9 prog w s'.heap S (fun k'=>(firstMet val n).any (· == k')) (firstMet val n).length->R (.ok (.ret .none)) s') ->
   codeAny (model prog w) A (.builtin "set.update.loop" ⟨[.ref S,.ref I],[]⟩) R s:=by
 have hSw:S ∉ wr:=fun h=>hSf (W.sub _ h);have hsub:∀ b∈wr,b∈S :: wr:=fun b hb=>mem_cons_of_mem _ hb;intro k
 induction k with
 | zero =>
  intro i s hk hi hst hS hR;have hin:i=n:=by omega
  subst hin;refine codeAny_builtin F.entry_set_update_loop ?_;rw [Around.under_plainId F.plain_set_update_loop _];show wpAny _ A.in1 (pyNext (.ref I) >>= _) _ _ s;refine wpAny_bind (W.done s _ _ hst fun s' hm=>?_);show wpAny _ A.in1 (ret Value.none) _ _ s';exact wpAny_pure (hR s' (hm.mono hsub) (hS.at fun o e=>hm.heap S _ hSw e))
 | succ k ih =>
  intro i s hk hi hst hS hR;have hlt:i < n:=by omega
  refine codeAny_builtin F.entry_set_update_loop ?_;rw [Around.under_plainId F.plain_set_update_loop _];show wpAny _ A.in1 (pyNext (.ref I) >>= _) _ _ s;refine wpAny_bind (W.item i s _ _ hlt hst fun v s' hP hst' hm=>?_);obtain ⟨t,rfl⟩:=hval i v hP;have hS':=hS.at (h':=s'.heap) fun o e=>hm.heap S _ hSw e;show wpAny _ A.in1 (holding [Value.int (val i) t] (setAdd S (.int (val i) t)) >>= _) _ _ s';refine wpAny_bind (wpAny_holding ?_);unfold setAdd;refine wpAny_holding ?_;refine wpAny_bind ((intKind prog w).pyHash (k:=val i) (intKind_is _ _ _ _) ?_);have hroom:(firstMet val i).length + 1 < scanBound:=by have:=firstMet_length_le val i; omega
  refine _qg0 (s:={ s' with toks:=s'.toks + 1 }) (intKind_is _ _ _ _) rfl hS' hroom fun h' hsb hS2=>?_;have hSi:_V9 prog w h' S (fun k'=>(firstMet val (i + 1)).any (· == k')) (firstMet val (i + 1)).length :=
   hS2.congr (fun k'=>by rw [firstMet_succ,step_any]) (by rw [firstMet_succ,step_length])
  refine wpAny_pure ⟨plainId_quiet F.plain_set_update_loop _,ih (i + 1) _ (by omega) hlt (W.frame _ s' _ _ hst' (le_succ _) fun b hb o e=>?_) hSi fun s'' hm'' hS''=>?_⟩
  ·rw [hsb.2 b (fun h:b=S=>hSf (by rw [<- h]; exact hb))]; exact e
  ·refine hR s'' (Moved.trans W.gtrans ((hm.mono hsub).then_heap (le_succ _) fun b o hb e=>?_) hm'') hS''
   rw [hsb.2 b (fun h:b=S=>hb (by rw [h]; exact mem_cons_self))]; exact e
end
end SetW
namespace SetW
open PySem PySem.Spec PyProof.Rows
section
variable {prog:Program} {w:World} {A:Around} {E:Value->Shared->Prop} {s:Shared}
theorem _qdb (a:Value) {Q₁:Value->Shared->Prop}
  (h:Q₁ (.ref s.heap.objs.size) { s with heap:=s.heap.push { cls:=.type "set",dict:=none,data:=.set #[] 0 (.fresh 0 0 (!_qto w)) } }) :
  codeAny (model prog w) A (.call (.builtin "set.__new__") ⟨[.type "set",a],[]⟩) (wants Q₁ E) s:=by
 refine codeAny_of_tree ?_;show wpAny _ A.in1 (do checkBuiltinCall "set.__new__" ⟨[.type "set",a],[]⟩; again (.builtin "set.__new__" ⟨[.type "set",a],[]⟩)) _ _ s;refine wpAny_bind (wpAny_of_eq (F.newCall_set_1 a) (wpAny_pure ⟨plainId_quiet F.plain_set_new _,codeAny_builtin F.entry_set_new ?_⟩));rw [Around.under_plainId F.plain_set_new _];unfold Builtin.«set.__new__» Builtin.Frozenset.newClass;have hsub:=sub_set_self;obtain ⟨hp,g,d,tk,os⟩:=s;dsimp only
 wp_walk
 refine wpAny_askSetting (wpAny_pure ?_);dsimp only;simp only [newObj];refine wpAny_bind (wpAny_alloc (wpAny_pure ?_));exact wpAny_pure h
set_option maxHeartbeats 3200000 in
theorem _qcq {l:Addr} {items:Array Value} {ns:List Int} {Q:Value->Shared->Prop}
  (hh:A.handled=none) (hl:s.heap.IsList l items) (hi:PyProof.Rows.IntsAre items.toList ns) (hb:items.size + 1 < scanBound)
  (h:∀ (h':Heap) (tk:Nat),_V9 prog w h' s.heap.objs.size (fun k'=>(PyProof.Rows.firstMet (fun i=>ns.getD i 0) items.size).any (· == k')) (PyProof.Rows.firstMet (fun i=>ns.getD i 0) items.size).length ->
   (∀ b o,b < s.heap.objs.size->s.heap.get? b=some o->h'.get? b=some o)->Q (.ref s.heap.objs.size) { s with heap:=h',toks:=tk }) :
  wpAny (model prog w) A (call (.type "set") [.ref l]) Q E s:=by
 obtain ⟨c,tl,hmro⟩:=F.called_set.mro;have hmade:=F.called_set.made;have hsub:=F.called_set.sub;refine wpAny_call (codeAny_of_tree ?_);show wpAny _ _ (callAny (.type "set") _) _ _ _;refine wpAny_pure ⟨Code.quiet_builtin _ (by decide +kernel),codeAny_builtin F.entry_type_call ?_⟩;rw [Around.under_plain (weight_type_call_type "set" [.ref l] []) rfl];have h1:=F.called_set.notType;have h2:=F.called_set.canCreate;have hct:=F.typeCall_set_1 (.ref l)
 repeat (any_goals (first | assumption | wp_step))
 refine codeAny_mono (_qdb (.ref l) (E:=E) (Q₁:=fun obj s₁=>obj=.ref s.heap.objs.size/\s₁={ s with heap:=s.heap.push { cls:=.type "set",dict:=none,data:=.set #[] 0 (.fresh 0 0 (!_qto w)) } }) ⟨rfl,rfl⟩) fun r s₁ hr=>?_;cases r with
 | error e=>exact hr
 | ok fl =>
  cases fl with
  | ret obj =>
   obtain ⟨rfl,rfl⟩:=hr;have hS:(s.heap.push { cls:=.type "set",dict:=none,data:=.set #[] 0 (.fresh 0 0 (!_qto w)) }).get? s.heap.objs.size=some { cls:=.type "set",dict:=none,data:=.set #[] 0 (.fresh 0 0 (!_qto w)) }:=Heap.get?_push_size _ rfl;have hT:Shared.TypeIs { s with heap:=s.heap.push { cls:=.type "set",dict:=none,data:=.set #[] 0 (.fresh 0 0 (!_qto w)) } } (.ref s.heap.objs.size) "set":=⟨_,hS,rfl⟩;have hli:=F.called_set.init.lookup;have hbi:=F.called_set.init.bind (.ref s.heap.objs.size)
   repeat (any_goals (first | assumption | wp_step))
   refine codeAny_mono (codeAny_call_builtin (R:=wants (fun r s₂=>r=.none/\∃ h' tk,s₂={ s with heap:=h',toks:=tk } /\
     _V9 prog w h' s.heap.objs.size (fun k'=>(PyProof.Rows.firstMet (fun i=>ns.getD i 0) items.size).any (· == k')) (PyProof.Rows.firstMet (fun i=>ns.getD i 0) items.size).length /\
     (∀ b o,b < s.heap.objs.size->s.heap.get? b=some o->h'.get? b=some o)) E) F.called_set.init.plain F.entry_set_init (check_set_init_1 hT ?_)) fun r₂ s₂ hr₂=>?_
   ·obtain ⟨ol,hol,hcl,nl,hdl⟩:=hl
    obtain ⟨ocls,odict,odata,oslots⟩:=ol;simp only at hcl hdl;subst hcl; subst hdl;have hol':(s.heap.push { cls:=.type "set",dict:=none,data:=.set #[] 0 (.fresh 0 0 (!_qto w)) }).get? l=some { cls:=.type "list",dict:=odict,data:=.seq items nl,slots:=oslots }:=Heap.get?_push_of_some _ hol;have hsls:=F.sub_list_set;have hslf:=F.sub_list_frozenset;have hne:(Value.type "list" == Value.type "dict")=false:=by decide
    have hl1:(s.heap.push { cls:=.type "set",dict:=none,data:=.set #[] 0 (.fresh 0 0 (!_qto w)) }).IsList l items:=⟨_,hol',rfl,nl,rfl⟩;unfold Builtin.«set.__init__» noKeywords Builtin.Frozenset.updateFrom;generalize hPI:pyIter=PI
    wp_walk
    subst hPI;refine wpAny_pyIter_list hl1 ?_;refine wpAny_bind (wpAny_runValue ?_);have hlS:l < s.heap.objs.size:=Heap.lt_size hol;have hh3:A.in1.in1.in1.handled=none:=by simp [hh]
    have hneI:l ≠ (s.heap.push { cls:=.type "set",dict:=none,data:=.set #[] 0 (.fresh 0 0 (!_qto w)) }).objs.size:=by
     rw [Heap.size_push]; exact ne_of_lt (lt_succ_of_lt hlS)
    have hSf:s.heap.objs.size ∉ [(s.heap.push { cls:=.type "set",dict:=none,data:=.set #[] 0 (.fresh 0 0 (!_qto w)) }).objs.size,l]:=by
     rw [Heap.size_push]; simp only [mem_cons,List.mem_singleton,not_mem_nil,or_false,not_or];exact ⟨ne_of_lt (lt_succ_self _),ne_of_gt hlS⟩
    have hval:∀ (i:Nat) (v:Value),items[i]?=some v->∃ t,v=.int ((fun i=>ns.getD i 0) i) t:=fun i v hv =>
     PyProof.Rows.IntsAre.int_at hi i v (by rw [getElem?_toList]; exact hv)
    refine _qfu ((Walks.list hh3 _ l hneI items).toS) s.heap.objs.size
     hSf (fun i=>ns.getD i 0) hval hb (items.size - 0) 0 _ (by omega) (zero_le _)
     ⟨⟨_,Heap.get?_push_size _ rfl,rfl,rfl⟩,(hl1.push _)⟩ ?hS0 ?hR
    case hS0 =>
     have hget:((s.heap.push { cls:=.type "set",dict:=none,data:=.set #[] 0 (.fresh 0 0 (!_qto w)) }).push { cls:=.type "list_iterator",data:=.fields #[.ref l,.int 0 0] }).get? s.heap.objs.size
      =some { cls:=.type "set",dict:=none,data:=.set #[] 0 (.fresh 0 0 (!_qto w)) }:=Heap.get?_push_of_some _ hS
     exact ⟨_,#[],0,_,hget,⟨rfl,rfl,rfl⟩,rfl,fun e he=>by simp at he,fun k=>by simp [PyProof.Rows.firstMet],by unfold scanBound; decide,by rfl,rfl,_Zg.fresh _⟩
    case hR =>
     intro s' hm hS';obtain ⟨h',g',d',tk',os'⟩:=s';have eg:g'=s.gens:=hm.gens;have ed:d'=s.drawn:=hm.drawn;have eo:os'=s.os:=hm.os;subst eg; subst ed; subst eo;show wpAny _ _ _ _ _ _;refine wpAny_pure ?_;show wpAny _ _ (ret Value.none) _ _ _;refine wpAny_pure ⟨rfl,h',tk',rfl,hS',fun b o hb e=>?_⟩;have hb1:b ≠ s.heap.objs.size:=ne_of_lt hb;have hb2:b ≠ (s.heap.push { cls:=.type "set",dict:=none,data:=.set #[] 0 (.fresh 0 0 (!_qto w)) }).objs.size:=by
      rw [Heap.size_push]; exact ne_of_lt (lt_succ_of_lt hb)
     exact hm.heap b o (by simp only [mem_cons,List.mem_singleton,not_mem_nil,or_false,not_or]; exact ⟨hb1,hb2⟩) (Heap.get?_push_of_some _ (Heap.get?_push_of_some _ e))
   ·cases r₂ with
    | error e=>exact hr₂
    | ok fl₂ =>
     cases fl₂ with
     | ret r =>
      obtain ⟨rfl,h',tk,rfl,hS',hk'⟩:=hr₂
      repeat (any_goals (first | assumption | wp_step))
      exact h _ _ hS' hk'
     | next=>exact False.elim hr₂
     | brk=>exact False.elim hr₂
     | cont=>exact False.elim hr₂
  | next=>exact False.elim hr
  | brk=>exact False.elim hr
  | cont=>exact False.elim hr
end
end SetW
namespace SetW
open PySem PySem.Spec PyProof.Rows
theorem _Xo {α:Type}:∀ {l:List α} {i:Nat} (h:i < l.length),(l[i] :: l.eraseIdx i).Perm l
 | a :: l,0,h=>.refl _
 | a :: l,i + 1,h=>by
  have:=_Xo (l:=l) (i:=i) (by simpa using h)
  simp only [List.getElem_cons_succ,List.eraseIdx_cons_succ];exact (List.Perm.swap _ _ _).trans (this.cons a)
theorem _J2 {α:Type} (next:Nat->Nat):∀ (fuel k:Nat) (left:List α) (out:Array α),left.length=fuel->(pickOrder.go next fuel k left out).toList.Perm (out.toList++left)
 | 0,k,left,out,h=>by
  have:left=[]:=List.length_eq_zero_iff.mp h
  subst this;simp [pickOrder.go]
 | fuel + 1,k,left,out,h=>by
  unfold pickOrder.go;have hlt:next k % left.length < left.length:=mod_lt _ (by omega);rw [getElem?_eq_getElem hlt];dsimp only;refine (_J2 next fuel (k + 1) _ _ (by rw [List.length_eraseIdx_of_lt hlt]; omega)).trans ?_;rw [Array.toList_push,List.append_assoc];exact List.Perm.append_left _ (_Xo hlt)
theorem _Vh {α:Type} (next:Nat->Nat) (xs:Array α):(pickOrder next xs).toList.Perm xs.toList:=by
 have:=_J2 next xs.size 0 xs.toList #[] (by simp)
 simpa [pickOrder] using this
section
variable {prog:Program} {w:World} {A:Around} {E:Value->Shared->Prop} {s:Shared}
theorem _We {src:Source} {n:Nat} {Q:Nat->Shared->Prop} (hn:n ≠ 0) (h:∀ i,i < n->Q i { s with drawn:=s.drawn.bump src }):wpAny (model prog w) A (choose src n) Q E s:=by
 intro Γ p hΓ;unfold choose;rw [Sem.wp_choose];exact ⟨hn,h _ (mod_lt _ (Nat.pos_of_ne_zero hn))⟩
theorem _Qy {α:Type}:∀ (n:Nat) (xs:List α) (s:Shared) (Q:List α->Shared->Prop),xs.length=n->(∀ ys d,ys.Perm xs->Q ys { s with drawn:=d })->wpAny (model prog w) A (drawOrder n xs) Q E s
 | 0,xs,s,Q,hl,h=>by
  have:xs=[]:=List.length_eq_zero_iff.mp hl
  subst this;exact wpAny_pure (h [] s.drawn (.refl _))
 | n + 1,[],s,Q,hl,h=>by cases hl
 | n + 1,x :: xs,s,Q,hl,h=>by
  show wpAny _ _ (choose .order (x :: xs).length >>= _) _ _ s;refine wpAny_bind (_We (by simp) fun i hi=>?_);rw [getElem?_eq_getElem hi];dsimp only;refine wpAny_bind (_Qy n _ _ _ (by rw [List.length_eraseIdx_of_lt hi]; omega) fun ys d hp=>wpAny_pure ?_);exact h _ d ((hp.cons _).trans (_Xo hi))
def _qah (h:Heap) (a:Addr) (es:Array (Int × Value)) (ep:Nat) (t:SetTable):Prop:=∃ o,h.get? a=some o/\o.ExactSet/\o.data=.set es ep t/\t.fits es.size=true
def _qu5 (h:Heap) (I a:Addr) (first:Value) (i n ep:Nat):Prop:=∃ o,h.get? I=some o/\o.cls=.type "set_iterator"/\o.data=.fields #[first,.int i 0,.ref a,.int n 0,.int ep 0]
variable {es:Array (Int × Value)} {ep:Nat} {t:SetTable} {a I:Addr} {first:Value} {i n:Nat}
theorem _qah.at {h h':Heap} (x:_qah h a es ep t) (e:∀ o,h.get? a=some o->h'.get? a=some o):_qah h' a es ep t:=let ⟨o,ho,r⟩:=x; ⟨o,e o ho,r⟩
theorem _qu5.at {h h':Heap} (x:_qu5 h I a first i n ep) (e:∀ o,h.get? I=some o->h'.get? I=some o):_qu5 h' I a first i n ep:=let ⟨o,ho,r⟩:=x; ⟨o,e o ho,r⟩
theorem _qu5.typeIs (x:_qu5 s.heap I a first i n ep):s.TypeIs (.ref I) "set_iterator":=let ⟨o,ho,hc,_⟩:=x; ⟨o,ho,hc⟩
theorem _qah.typeIs (x:_qah s.heap a es ep t):s.TypeIs (.ref a) "set":=let ⟨o,ho,hc,_⟩:=x; ⟨o,ho,hc.1⟩
theorem _J:Slot "set_iterator" "__next__" "set_iterator.__next__" :=
 .of (owner:="set_iterator") (n:="__next__") (by rw [typeLookup_type,builtinLookup_eq_fast]; kernel_rfl) (by decide +kernel) (by decide +kernel) (by decide +kernel)
  (by first | exact .inl (by decide +kernel) | exact .inr (by decide +kernel)) (by rw [isSubtype_type]; kernel_rfl)
theorem _x1:entryFor table "set_iterator.__next__"=some Builtin.«set_iterator.__next__»:=entryFor_of_tree (by kernel_rfl)
theorem _qdw:Manifest.owners.lookup (String.ofList ['r','o','t','a','r','e','t','i','_','t','e','s'].reverse)=some Manifest.sig_set_iterator:=by kernel_rfl
theorem _va (a:Value):argsOk "set_iterator.__next__" ⟨[a],[]⟩:=by
 unfold argsOk; rw [signature?_of (id:="set_iterator.__next__") (n:=['_','_','t','x','e','n','_','_']) (o:=['r','o','t','a','r','e','t','i','_','t','e','s']) (by kernel_rfl) _qdw]; kernel_rfl
theorem _Jq:Slot "set_iterator" "__iter__" "set_iterator.__iter__" :=
 .of (owner:="set_iterator") (n:="__iter__") (by rw [typeLookup_type,builtinLookup_eq_fast]; kernel_rfl) (by decide +kernel) (by decide +kernel) (by decide +kernel)
  (by first | exact .inl (by decide +kernel) | exact .inr (by decide +kernel)) (by rw [isSubtype_type]; kernel_rfl)
theorem _K3:entryFor table "set_iterator.__iter__"=some Builtin.«dict_keyiterator.__iter__» :=
 entryFor_alias (id':="dict_keyiterator.__iter__") (by kernel_rfl) rfl (by decide +kernel) (by kernel_rfl)
theorem _qaf (a:Value):argsOk "set_iterator.__iter__" ⟨[a],[]⟩:=by
 unfold argsOk; rw [signature?_of (id:="set_iterator.__iter__") (n:=['_','_','r','e','t','i','_','_']) (o:=['r','o','t','a','r','e','t','i','_','t','e','s']) (by kernel_rfl) _qdw]; kernel_rfl
theorem _Ze:entryFor table "set.__iter__"=some Builtin.«frozenset.__iter__» :=
 entryFor_alias (id':="frozenset.__iter__") (by kernel_rfl) rfl (by decide +kernel) (by kernel_rfl)
theorem _qb9 {Q:Value->Shared->Prop} (x:_qu5 s.heap I a first i n ep) (h:Q (.ref I) s):wpAny (model prog w) A (pyIter (.ref I)) Q E s:=by
 refine wpAny_pyIter_slot x.typeIs _Jq (wpAny_call_entry _Jq x.typeIs _K3 ?_ (_qaf _));show wpAny _ _ (ret (.ref I)) _ _ s;exact wpAny_pure ⟨_,rfl,"set_iterator",_,x.typeIs,_J.lookup,h⟩
def _qu0 (w:World) (a:Addr) (es:Array (Int × Value)) (ep:Nat):List (Int × Value):=if _qto w=true then (pickOrder (w.params.setOrder a ep) es).toList else es.toList
def At (w:World) (t:SetTable) (i sl:Nat):Prop:=_qto w=true \/ SetTable.below t.place sl=i
def Plain (w:World) (es:Array (Int × Value)) (t:SetTable):Prop:=_qto w=true \/ (¬ (!t.plain && decide (es.size > 1))=true/\Ris t.place/\t.led=true)
theorem _qh3 (h:t.fits es.size=true):t.place.size=es.size:=by
 simp [SetTable.fits] at h; exact h.1
theorem _qms (p3:t.led=true) {Q:Unit->Shared->Prop} (h:Q () s):wpAny (model prog w) A (if (!t.led && !es.isEmpty)=true then unsupported "set:maker-not-led" else pure ()) Q E s:=by
 rw [p3];exact wpAny_pure h
theorem _qgp (S:_qah s.heap a es ep t) (pl:Plain w es t) {sl:Nat} (g:At w t i sl) {e:Int × Value} (he:(_qu0 w a es ep)[i]?=some e) {Q:Option (Value × Nat)->Shared->Prop}
  (h:∀ sl',At w t (i + 1) sl'->Q (some (e.2,sl')) s):wpAny (model prog w) A (setNext a sl i ep) Q E s:=by
 obtain ⟨o,ho,hex,hd,hf⟩:=S;unfold setNext;refine wpAny_bind (wpAny_setState_of ho hd hf ?_);refine wpAny_bind ?_;unfold setsByText;refine wpAny_bind (wpAny_askSetting (wpAny_pure ?_));dsimp only;unfold _qu0 at he
 by_cases hb:_qto w=true
 ·rw [if_pos hb] at he
  rw [if_pos (show (model prog w).w.params.followText "set-order"=true from hb)];refine wpAny_ite_split (fun hab=>absurd hab (by simp)) fun _=>?_;unfold setWalk;refine wpAny_bind (wpAny_bind (wpAny_setState_of ho hd hf ?_));refine wpAny_bind ?_;unfold setsByText;refine wpAny_bind (wpAny_askSetting (wpAny_pure ?_));dsimp only;rw [if_pos (show (model prog w).w.params.followText "set-order"=true from hb)];refine wpAny_bind (wpAny_askSetting (wpAny_pure ?_));refine wpAny_pure ?_;rw [<- getElem?_toList]
  have:(pickOrder ((model prog w).w.params.setOrder a ep) es).toList[i]?=some e:=he
  rw [this];exact h sl (.inl hb)
 ·rw [if_neg hb] at he
  rw [if_neg (show ¬ (model prog w).w.params.followText "set-order"=true from hb)];obtain ⟨p1,p2,p3⟩:=pl.resolve_left hb;have g':=g.resolve_left hb;refine wpAny_ite_split (fun hab=>absurd hab p1) fun _=>?_;refine wpAny_bind (_qms p3 ?_);have hlt:i < es.size:=by
   by_cases c:i < es.size
   ·exact c
   ·rw [List.getElem?_eq_none (by simpa using c)] at he; cases he
  obtain ⟨j,hj⟩:=_Xz (xs:=t.place) (i:=i) (by rw [_qh3 hf]; exact hlt);rw [getElem?_toList] at he;rw [g',he,hj];exact wpAny_pure (h (j + 1) (.inr (_qff p2 hj)))
theorem _qgq (S:_qah s.heap a es ep t) (pl:Plain w es t) {sl:Nat} (g:At w t i sl) (he:(_qu0 w a es ep)[i]?=none) {Q:Option (Value × Nat)->Shared->Prop}
  (h:Q none s):wpAny (model prog w) A (setNext a sl i ep) Q E s:=by
 obtain ⟨o,ho,hex,hd,hf⟩:=S;unfold setNext;refine wpAny_bind (wpAny_setState_of ho hd hf ?_);refine wpAny_bind ?_;unfold setsByText;refine wpAny_bind (wpAny_askSetting (wpAny_pure ?_));dsimp only;unfold _qu0 at he
 by_cases hb:_qto w=true
 ·rw [if_pos hb] at he
  rw [if_pos (show (model prog w).w.params.followText "set-order"=true from hb)];refine wpAny_ite_split (fun hab=>absurd hab (by simp)) fun _=>?_;unfold setWalk;refine wpAny_bind (wpAny_bind (wpAny_setState_of ho hd hf ?_));refine wpAny_bind ?_;unfold setsByText;refine wpAny_bind (wpAny_askSetting (wpAny_pure ?_));dsimp only;rw [if_pos (show (model prog w).w.params.followText "set-order"=true from hb)];refine wpAny_bind (wpAny_askSetting (wpAny_pure ?_));refine wpAny_pure ?_;rw [<- getElem?_toList]
  have:(pickOrder ((model prog w).w.params.setOrder a ep) es).toList[i]?=none:=he
  rw [this];exact h
 ·rw [if_neg hb] at he
  rw [if_neg (show ¬ (model prog w).w.params.followText "set-order"=true from hb)];obtain ⟨p1,p2,p3⟩:=pl.resolve_left hb;have g':=g.resolve_left hb;refine wpAny_ite_split (fun hab=>absurd hab p1) fun _=>?_;refine wpAny_bind (_qms p3 ?_);rw [getElem?_toList] at he;rw [g',he];exact wpAny_pure h
end
end SetW
namespace SetW
open PySem PySem.Spec PyProof.Rows
section
variable {prog:Program} {w:World} {A:Around} {E:Value->Shared->Prop} {s:Shared}
variable {es:Array (Int × Value)} {ep:Nat} {t:SetTable} {a I:Addr} {first:Value} {i n:Nat}
theorem _qu5.set {h:Heap} (x:_qu5 h I a first i n ep) {k:Nat} {v first':Value} {i':Nat} (e:(#[first,.int i 0,.ref a,.int n 0,.int ep 0]:Array Value).setIfInBounds k v=#[first',.int i' 0,.ref a,.int n 0,.int ep 0]):_qu5 (h.update I (Obj.mapFields (·.setIfInBounds k v))) I a first' i' n ep:=by
 obtain ⟨o,ho,hc,hd⟩:=x;exact ⟨_,Heap.get?_update_self _ ho (Obj.isFreed_of_fields (Obj.data_mapFields hd _)),(Obj.cls_mapFields ..).trans hc,by rw [Obj.data_mapFields hd,e]⟩
theorem _qd7 (hh:A.handled=none) {h':Heap} {Q:Option Value->Shared->Prop} (hQ:∀ h'',(∀ b o,h'.get? b=some o->h''.get? b=some o)->Q none { s with heap:=h'' }) (P:Fin->Shared->Prop) :
  wpAny (model prog w) A.in1 (newExc (.type "StopIteration") [] >>= fun e=>(raiseNew e:Sem Fin)) P
   (fun e s'=>wpAny (model prog w) A (do let b <- isInstance e (.type "StopIteration"); if b=true then pure none else throw e) Q E s') { s with heap:=h' }:=by
 refine wpAny_bind ?_;simp only [newExc,newTuple];refine wpAny_bind (wpAny_newObj_type ?_ (by size_fits));refine wpAny_bind (m:=firstArgMember _ _) (wpAny_of_eq (a:=Value.none) (by first | rfl | (simp only [firstArgMember]; rfl)) ?_);refine wpAny_newObj_type ?_ (by size_fits);simp only [raiseNew];refine wpAny_bind (wpAny_handled ?_);rw [show A.in1.handled=none from hh];refine wpAny_bind (wpAny_pure (wpAny_throw ?_));refine wpAny_bind (wpAny_isInstance (T:="StopIteration") (b:=true) ⟨_,Heap.get?_push_size _ rfl,rfl⟩ isSubtype_stop ?_);exact wpAny_pure (hQ _ fun b o e=>Heap.get?_push_of_some _ (Heap.get?_push_of_some _ e))
theorem _qcy (hh:A.handled=none) (hne:a ≠ I) (pl:Plain w es t) (hs:(_qu0 w a es ep).length=es.size) :
  Walks prog w A I [I,a] [I] (_qu0 w a es ep).length (fun i v=>∃ e,(_qu0 w a es ep)[i]?=some e/\v=e.2) (fun i h=>∃ sl:Nat,_qu5 h I a (.int sl 0) i es.size ep/\_qah h a es ep t/\At w t i sl) where
 sub:=fun b hb=>by simp at hb; simp [hb]
 frame:=fun _ _ _ ⟨sl,x,y,g⟩ hk=>⟨sl,x.at fun o e=>hk I (by simp) o e,y.at fun o e=>hk a (by simp) o e,g⟩
 item:=fun i s Q E hi ⟨sl,x,y,g⟩ hQ=>by
  obtain ⟨e,he⟩:∃ e,(_qu0 w a es ep)[i]?=some e:=⟨_,getElem?_eq_getElem hi⟩;obtain ⟨o,ho,hc,hd⟩:=id x;obtain ⟨oS,hoS,hex,hdS,hf⟩:=id y;unfold pyNext;refine wpAny_bind (wpAny_attempt (wpAny_callSpecial?_slot (name:=Str.ofString "__next__") x.typeIs _J (wpAny_call_entry _J x.typeIs _x1 ?_ (_va _))));unfold Builtin.«set_iterator.__next__»;refine wpAny_bind (wpAny_pure ?_);refine wpAny_bind (wpAny_fieldsOf ho hd ?_);refine wpAny_bind (wpAny_setEntries_of hoS hdS hf ?_);dsimp only;refine wpAny_ite_split (fun hab=>absurd hab (by simp)) fun _=>?_;rw [Int.toNat_natCast,Int.toNat_natCast,Int.toNat_natCast];refine wpAny_bind (_qgp y pl g he fun sl' g'=>?_);dsimp only;refine wpAny_bind (wpAny_setField ho hd (by simp) ?_);have x1:=x.set (k:=0) (v:=rawInt (sl':Int)) (first':=.int sl' 0) (i':=i) (by simp [rawInt]);obtain ⟨o1,ho1,hc1,hd1⟩:=id x1;refine wpAny_bind (wpAny_setField (s:={ s with heap:=s.heap.update I (Obj.mapFields (·.setIfInBounds 0 (rawInt (sl':Int)))) }) ho1 hd1 (by simp) ?_);have x2:=x1.set (k:=1) (v:=rawInt ((i:Int) + 1)) (first':=.int sl' 0) (i':=i + 1) (by simp [rawInt]);have hk:∀ b o,b ∉ [I]->s.heap.get? b=some o->((s.heap.update I (Obj.mapFields (·.setIfInBounds 0 (rawInt (sl':Int))))).update I (Obj.mapFields (·.setIfInBounds 1 (rawInt ((i:Int) + 1))))).get? b=some o:=fun b o hb e =>
   (Heap.get?_update_other _ _ (fun h=>hb (by simp [h]))).trans ((Heap.get?_update_other _ _ (fun h=>hb (by simp [h]))).trans e)
  refine wpAny_pure ⟨_,rfl,wpAny_pure (hQ _ _ s.toks ⟨e,he,rfl⟩ ⟨sl',x2,y.at fun o e=>hk a o (by simp [hne]) e,g'⟩ hk)⟩
 done:=fun s Q E ⟨sl,x,y,g⟩ hQ=>by
  have he:(_qu0 w a es ep)[(_qu0 w a es ep).length]?=none:=by simp
  obtain ⟨o,ho,hc,hd⟩:=id x;obtain ⟨oS,hoS,hex,hdS,hf⟩:=id y;unfold pyNext;refine wpAny_bind (wpAny_attempt (wpAny_callSpecial?_slot (name:=Str.ofString "__next__") x.typeIs _J (wpAny_call_entry _J x.typeIs _x1 ?_ (_va _))));unfold Builtin.«set_iterator.__next__»;refine wpAny_bind (wpAny_pure ?_);refine wpAny_bind (wpAny_fieldsOf ho hd ?_);refine wpAny_bind (wpAny_setEntries_of hoS hdS hf ?_);dsimp only;refine wpAny_ite_split (fun hab=>absurd hab (by simp)) fun _=>?_;rw [Int.toNat_natCast,Int.toNat_natCast,Int.toNat_natCast];refine wpAny_bind (_qgq y pl g he ?_);dsimp only;refine wpAny_bind (wpAny_setField ho hd (by simp) ?_);exact _qd7 hh (fun h'' k=>hQ h'' s.toks fun b o hb e=>k b o ((Heap.get?_update_other _ _ (fun h=>hb (by simp [h]))).trans e)) _
 self:=fun _ _ _ _ ⟨sl,x,y,g⟩ hQ=>_qb9 x hQ
def Drw (es:Array (Int × Value)) (p:List Nat):List (Int × Value):=p.map fun k=>es.getD k (0,.none)
def TuAt (h:Heap) (T:Addr) (p:List Nat):Prop:=∃ o,h.get? T=some o/\o.data=.seq (p.map fun (i:Nat)=>rawInt i).toArray 0
theorem _qf2 (y:_qah s.heap a es ep t) {k:Nat} {e:Int × Value} (he:es[k]?=some e) {Q:Value->Shared->Prop} (h:Q e.2 s):wpAny (model prog w) A (setNextDrawn a k ep) Q E s:=by
 obtain ⟨oS,hoS,hex,hdS,hf⟩:=y;unfold setNextDrawn;refine wpAny_bind (wpAny_setState_of hoS hdS hf ?_);dsimp only;refine wpAny_ite_split (fun hab=>absurd hab (by simp)) fun _=>?_;rw [he];exact wpAny_pure h
theorem _qcz (hh:A.handled=none) {T:Addr} (hne:a ≠ I) (hT:T ≠ I) {p:List Nat} (hp:∀ k∈p,k < es.size) :
  Walks prog w A I [I,a,T] [I] (Drw es p).length (fun i v=>∃ e,(Drw es p)[i]?=some e/\v=e.2) (fun i h=>_qu5 h I a (.ref T) i es.size ep/\_qah h a es ep t/\TuAt h T p) where
 sub:=fun b hb=>by simp at hb; simp [hb]
 frame:=fun _ _ _ ⟨x,y,z⟩ hk=>⟨x.at fun o e=>hk I (by simp) o e,y.at fun o e=>hk a (by simp) o e,let ⟨o,ho,r⟩:=z; ⟨o,hk T (by simp) o ho,r⟩⟩
 item:=fun i s Q E hi ⟨x,y,z⟩ hQ=>by
  have hi':i < p.length:=by simpa [Drw] using hi
  obtain ⟨k,hk⟩:∃ k,p[i]?=some k:=⟨_,getElem?_eq_getElem hi'⟩;have hkl:=hp k (mem_of_getElem? hk);obtain ⟨e,he⟩:∃ e,es[k]?=some e:=⟨es[k],by rw [Array.getElem?_eq_getElem hkl]⟩;have hD:(Drw es p)[i]?=some e:=by simp [Drw,hk,Array.getD_eq_getD_getElem?,he]
  obtain ⟨o,ho,hc,hd⟩:=id x;obtain ⟨oS,hoS,hex,hdS,hf⟩:=id y;obtain ⟨oT,hoT,hdT⟩:=id z;unfold pyNext;refine wpAny_bind (wpAny_attempt (wpAny_callSpecial?_slot (name:=Str.ofString "__next__") x.typeIs _J (wpAny_call_entry _J x.typeIs _x1 ?_ (_va _))));unfold Builtin.«set_iterator.__next__»;refine wpAny_bind (wpAny_pure ?_);refine wpAny_bind (wpAny_fieldsOf ho hd ?_);refine wpAny_bind (wpAny_setEntries_of hoS hdS hf ?_);dsimp only;refine wpAny_ite_split (fun hab=>absurd hab (by simp)) fun _=>?_;refine wpAny_bind ?_;unfold seqItems?;refine wpAny_bind (wpAny_load hoT ?_);rw [hdT];refine wpAny_pure ?_;dsimp only;have hpl:(p.map fun (i:Nat)=>rawInt i).toArray[((i:Nat):Int).toNat]?=some (rawInt k):=by simp [hk]
  rw [hpl];dsimp only [rawInt];rw [Int.toNat_natCast,Int.toNat_natCast];refine wpAny_bind (_qf2 y he ?_);refine wpAny_bind (wpAny_setField ho hd (by simp) ?_);have x2:=x.set (k:=1) (v:=rawInt ((i:Int) + 1)) (first':=.ref T) (i':=i + 1) (by simp [rawInt]);have hkp:∀ b o,b ∉ [I]->s.heap.get? b=some o->(s.heap.update I (Obj.mapFields (·.setIfInBounds 1 (rawInt ((i:Int) + 1))))).get? b=some o:=fun b o hb e =>
   (Heap.get?_update_other _ _ (fun h=>hb (by simp [h]))).trans e
  exact wpAny_pure ⟨_,rfl,wpAny_pure (hQ _ _ s.toks ⟨e,hD,rfl⟩ ⟨x2,y.at fun o e=>hkp a o (by simp [hne]) e,oT,hkp T oT (by simp [hT]) hoT,hdT⟩ hkp)⟩
 done:=fun s Q E ⟨x,y,z⟩ hQ=>by
  obtain ⟨o,ho,hc,hd⟩:=id x;obtain ⟨oS,hoS,hex,hdS,hf⟩:=id y;obtain ⟨oT,hoT,hdT⟩:=id z;unfold pyNext;refine wpAny_bind (wpAny_attempt (wpAny_callSpecial?_slot (name:=Str.ofString "__next__") x.typeIs _J (wpAny_call_entry _J x.typeIs _x1 ?_ (_va _))));unfold Builtin.«set_iterator.__next__»;refine wpAny_bind (wpAny_pure ?_);refine wpAny_bind (wpAny_fieldsOf ho hd ?_);refine wpAny_bind (wpAny_setEntries_of hoS hdS hf ?_);dsimp only;refine wpAny_ite_split (fun hab=>absurd hab (by simp)) fun _=>?_;refine wpAny_bind ?_;unfold seqItems?;refine wpAny_bind (wpAny_load hoT ?_);rw [hdT];refine wpAny_pure ?_;dsimp only;have hpl:(p.map fun (i:Nat)=>rawInt i).toArray[(((Drw es p).length:Nat):Int).toNat]?=none:=by simp [Drw]
  rw [hpl];dsimp only;refine wpAny_bind (wpAny_setField ho hd (by simp) ?_);have hd1:=Obj.data_mapFields hd (·.setIfInBounds 0 (rawInt 0));have ho1:=Heap.get?_update_self (Obj.mapFields (·.setIfInBounds 0 (rawInt 0))) ho (Obj.isFreed_of_fields hd1);refine wpAny_bind (wpAny_setField (s:={ s with heap:=s.heap.update I (Obj.mapFields (·.setIfInBounds 0 (rawInt 0))) }) ho1 hd1 (by simp) ?_);exact _qd7 hh (fun h'' k=>hQ h'' s.toks fun b o hb e=>k b o ((Heap.get?_update_other _ _ (fun h=>hb (by simp [h]))).trans ((Heap.get?_update_other _ _ (fun h=>hb (by simp [h]))).trans e))) _
 self:=fun _ _ _ _ ⟨x,y,z⟩ hQ=>_qb9 x hQ
theorem _qkr {p:List Nat} (hp:p.Perm (List.range es.size)):(Drw es p).Perm es.toList:=by
 have e:(List.range es.size).map (fun k=>es.getD k (0,.none))=es.toList:=by
  apply ext_getElem
  ·simp
  ·intro i h1 h2
   simp at h1;simp [Array.getD_eq_getD_getElem?,h1]
 rw [<- e];exact hp.map _
theorem _qk5 (hh:A.handled=none) (y:_qah s.heap a es ep t) (ok:_Zg (!_qto w) t) (hz:es.size <= sizeLine) {Q:Value->Shared->Prop}
  (h:∀ (I:Addr) (fp:List Addr) (St:Nat->Heap->Prop) (order:List (Int × Value)) (s':Shared),order.Perm es.toList->Walks prog w A I fp [I] order.length (fun i v=>∃ e,order[i]?=some e/\v=e.2) St->St 0 s'.heap ->
   (∀ b o,s.heap.get? b=some o->s'.heap.get? b=some o)->s.heap.objs.size <= I->(∀ b∈fp,b=a \/ s.heap.objs.size <= b)->(∃ h' d',s'={ s with heap:=h',drawn:=d' })->Q (.ref I) s') :
  wpAny (model prog w) A (pyIter (.ref a)) Q E s:=by
 obtain ⟨oS,hoS,hex,hdS,hf⟩:=id y;have hlt:a < s.heap.objs.size:=Heap.lt_size hoS;refine wpAny_pyIter_slot y.typeIs F.slot_set_iter (wpAny_call_entry F.slot_set_iter y.typeIs _Ze ?_ (F.args_set_iter_1 _));unfold Builtin.«frozenset.__iter__»;refine wpAny_bind (wpAny_pure ?_);refine wpAny_bind ?_;unfold Builtin.Frozenset.sizeOf;refine wpAny_bind (wpAny_setEntries_of hoS hdS hf (wpAny_pure ?_));refine wpAny_bind ?_;unfold setDrawn;refine wpAny_bind (wpAny_setState_of hoS hdS hf ?_);dsimp only;refine wpAny_bind ?_;unfold setsByText;refine wpAny_bind (wpAny_askSetting (wpAny_pure ?_));refine wpAny_pure ?_;refine wpAny_ite_split (fun hab=>?_) fun hab=>?_
 ·refine wpAny_bind (_Qy _ _ _ _ (by simp) fun p d hp=>?_)
  refine wpAny_bind (wpAny_newTuple ?_ (by rw [length_map,hp.length_eq,List.length_range]; exact hz));have hoS1:=Heap.get?_push_of_some { cls:=.type "tuple",data:=.seq (p.map fun (i:Nat)=>rawInt i).toArray } hoS;refine wpAny_bind ?_;unfold setEpoch;refine wpAny_bind (wpAny_setState_of hoS1 hdS hf (wpAny_pure ?_));refine wpAny_bind ?_;unfold newFields;refine wpAny_newObj_type (wpAny_pure ⟨_,rfl,"set_iterator",_,⟨_,Heap.get?_push_size _ rfl,rfl⟩,_J.lookup,?_⟩);have hI:s.heap.objs.size < (s.heap.push { cls:=.type "tuple",data:=.seq (p.map fun (i:Nat)=>rawInt i).toArray }).objs.size:=by rw [Heap.size_push]; exact lt_succ_self _
  refine h _ _ _ (Drw es p) _ (_qkr hp) (_qcz (t:=t) (ep:=ep) hh (T:=s.heap.objs.size) (ne_of_lt (lt_trans hlt hI)) (ne_of_lt hI) fun k hk=>by
   have:=hp.mem_iff.mp hk
   simpa using this) ?_ (fun b o e=>Heap.get?_push_of_some _ (Heap.get?_push_of_some _ e)) (le_of_lt hI) (fun b hb=>?_) ⟨_,_,rfl⟩
  ·exact ⟨⟨_,Heap.get?_push_size _ rfl,rfl,by simp [rawInt]⟩,⟨_,Heap.get?_push_of_some _ hoS1,hex,hdS,hf⟩,_,Heap.get?_push_of_some _ (Heap.get?_push_size _ rfl),rfl⟩
  ·simp only [mem_cons,not_mem_nil,or_false] at hb
   rcases hb with rfl | rfl | rfl
   ·exact .inr (le_of_lt hI)
   ·exact .inl rfl
   ·exact .inr (le_refl _)
 ·refine wpAny_bind (wpAny_pure ?_)
  refine wpAny_bind ?_;unfold setEpoch;refine wpAny_bind (wpAny_setState_of hoS hdS hf (wpAny_pure ?_));refine wpAny_bind ?_;unfold newFields;refine wpAny_newObj_type (wpAny_pure ⟨_,rfl,"set_iterator",_,⟨_,Heap.get?_push_size _ rfl,rfl⟩,_J.lookup,?_⟩);have pl:Plain w es t:=by
   by_cases hb:_qto w=true
   ·exact .inl hb
   ·have hb':_qto w=false:=by simpa using hb
    refine .inr ⟨fun hd=>hab ?_,ok.1,by rw [ok.2,hb']; rfl⟩;show (!_qto w && (!t.plain && decide (es.size > 1)))=true;rw [hb',hd]; rfl
  have hord:(_qu0 w a es ep).Perm es.toList:=by
   unfold _qu0;split
   ·exact _Vh _ _
   ·exact .refl _
  refine h _ _ _ (_qu0 w a es ep) _ hord (_qcy (t:=t) (ep:=ep) hh (ne_of_lt hlt) pl (by rw [hord.length_eq,length_toList])) ?_ (fun b o e=>Heap.get?_push_of_some _ e) (le_refl _) (fun b hb=>?_) ⟨_,_,rfl⟩
  ·refine ⟨0,⟨_,Heap.get?_push_size _ rfl,rfl,by simp [rawInt]⟩,⟨_,Heap.get?_push_of_some _ hoS,hex,hdS,hf⟩,?_⟩
   by_cases hb:_qto w=true
   ·exact .inl hb
   ·exact .inr (_qfd ok.1)
  ·simp only [mem_cons,not_mem_nil,or_false] at hb
   rcases hb with rfl | rfl
   ·exact .inr (le_refl _)
   ·exact .inl rfl
theorem _qkb {Q:Bool->Shared->Prop} (hT:s.TypeIs (.ref a) "set") (h:Q false s):wpAny (model prog w) A (Builtin.List.listLengthHint (.ref a)) Q E s:=by
 unfold Builtin.List.listLengthHint;refine wpAny_bind (wpAny_specialOf hT PySem.F.slot_set_len.lookup ?_);generalize hid:("set.__len__":String)=id0
 wp_delta
 rw [show splitId id0=some ("set","__len__") from by subst hid; decide +kernel];subst hid;refine wpAny_bind (wpAny_isInstance (T:="set") (b:=true) hT (by rw [isSubtype_type]; kernel_rfl) ?_);refine wpAny_ite_split (fun hab=>absurd hab (by decide)) (fun _=>?_);refine wpAny_ite_split (fun _=>?_) (fun hab=>absurd (by decide +kernel) hab);refine wpAny_bind (wpAny_typeOf hT ?_);exact wpAny_pure h
theorem _qcp (hh:A.handled=none) (y:_qah s.heap a es ep t) (ok:_Zg (!_qto w) t) (hz:es.size <= sizeLine) {Q:List Value->Shared->Prop}
  (h:∀ (order:List (Int × Value)) (s':Shared) ,order.Perm es.toList->(∀ b o,s.heap.get? b=some o->s'.heap.get? b=some o)->s.heap.objs.size < s'.heap.objs.size->(∃ h' d' tk,s'={ s with heap:=h',drawn:=d',toks:=tk })->Q (order.map (·.2)) s') :
  wpAny (model prog w) A (collect (.ref a)) Q E s:=by
 have hlt:a < s.heap.objs.size:=let ⟨o,ho,_⟩:=y; Heap.lt_size ho;unfold collect;refine wpAny_bind (wpAny_runValue (codeAny_builtin entry_proto_collect' ?_));rw [Around.under_plainId PySem.F.plain_proto_collect _];show wpAny _ A.in1 (newList [] >>= fun l=>again (.builtin "list.__iadd__" ⟨[l,.ref a],[]⟩)) _ _ s;refine wpAny_bind (wpAny_newObj_type ?_);refine wpAny_pure ⟨plainId_quiet PySem.F.plain_list_iadd _,codeAny_builtin entry_list_iadd' ?_⟩;rw [Around.under_plainId PySem.F.plain_list_iadd _];have hS₁:(s.heap.push { cls:=.type "list",data:=.seq ([]:List Value).toArray }).get? s.heap.objs.size=some { cls:=.type "list",data:=.seq #[] }:=Heap.get?_push_size _ rfl;show wpAny _ A.in1 (Builtin.List.listExtendWith (.ref s.heap.objs.size) (.ref a) (.ref s.heap.objs.size)) _ _ _;have y1:_qah (s.heap.push { cls:=.type "list",data:=.seq ([]:List Value).toArray }) a es ep t:=y.at fun o e=>Heap.get?_push_of_some _ e;unfold Builtin.List.listExtendWith;refine wpAny_bind (wpAny_typeOf (T:="set") (_qah.typeIs (s:={ s with heap:=s.heap.push { cls:=.type "list",data:=.seq ([]:List Value).toArray } }) y1) ?_);have h1:Builtin.List.listSameRef (.ref s.heap.objs.size) (.ref a)=false:=by simp [Builtin.List.listSameRef]; exact ne_of_gt hlt
 simp only [h1,show (Value.type "set" == Value.type "list")=false from by decide,show (Value.type "set" == Value.type "tuple")=false from by decide,Bool.or_false,Bool.false_eq_true,if_false];refine wpAny_bind (_qk5 (A:=A.in1) (s:={ s with heap:=s.heap.push { cls:=.type "list",data:=.seq ([]:List Value).toArray } }) hh y1 ok hz fun I fp St order s1 hord W st hk hI hfp hs1=>?_);obtain ⟨h1',d1',rfl⟩:=hs1;have hsz1:(s.heap.push { cls:=.type "list",data:=.seq ([]:List Value).toArray }).objs.size=s.heap.objs.size + 1:=Heap.size_push ..;have hSf:s.heap.objs.size ∉ fp:=fun hm=>by
  rcases hfp _ hm with e | e
  ·exact absurd hlt (by rw [e]; exact lt_irrefl _)
  ·exact absurd (show s.heap.objs.size + 1 <= s.heap.objs.size from hsz1 ▸ e) (Nat.not_succ_le_self _)
 have hbI:∀ b o,s.heap.get? b=some o->b ∉ s.heap.objs.size :: [I]:=fun b o e hm=>by
  have hb:=Heap.lt_size e;rcases List.mem_cons.mp hm with e' | hm
  ·exact absurd hb (by rw [e']; exact lt_irrefl _)
  ·have e2:b=I:=List.mem_singleton.mp hm
   have:s.heap.objs.size + 1 <= I:=hsz1 ▸ hI
   rw [e2] at hb;exact absurd (lt_trans hb (Nat.lt_of_succ_le this)) (lt_irrefl _)
 have hno:order.length <= sizeLine:=by rw [hord.length_eq,length_toList]; exact hz
 have key:∀ (s1:Shared) (c₁:Nat),(∃ h d tk,s1={ s with heap:=h,drawn:=d,toks:=tk })->St 0 s1.heap->(∀ b o,s.heap.get? b=some o->s1.heap.get? b=some o) ->
   s1.heap.get? s.heap.objs.size=some { cls:=.type "list",data:=.seq #[] c₁ } ->
   codeAny (model prog w) A (.builtin "list.extend.loop" ⟨[.ref s.heap.objs.size,.ref I,.ref s.heap.objs.size],[]⟩)
    (fun q s'=>∃ acc' c',q=.ok (.ret (.ref s.heap.objs.size))/\(∃ h' d' tk,s'={ s with heap:=h',drawn:=d',toks:=tk })/\(∀ b o,s.heap.get? b=some o->s'.heap.get? b=some o) /\
     s'.heap.get? s.heap.objs.size=some { cls:=.type "list",dict:=none,data:=.seq acc' c',slots:=#[] }/\acc'.toList=order.map (·.2)) s1:=by
  intro s1 c₁ hs1 hst hk1 hS1;refine codeAny_extend_loopS W.toS hno s.heap.objs.size hSf (.ref s.heap.objs.size) order.length 0 _ #[] c₁ rfl (zero_le _) hst hS1 (ItemsOf.nil _) fun s' acc' c' hm hS' hacc=>?_;refine ⟨acc',c',rfl,?_,fun b o e=>hm.heap b o (hbI b o e) (hk1 b o e),hS',?_⟩
  ·obtain ⟨h,d,tk,rfl⟩:=hs1
   rw [Moved.eq_with hm];exact ⟨_,_,_,rfl⟩
  ·apply ext_getElem
   ·rw [length_toList,length_map]; exact hacc.1
   ·intro j h1 h2
    obtain ⟨e,he,hv⟩:=hacc.2 j acc'.toList[j] (by rw [<- getElem?_toList,getElem?_eq_getElem h1]);rw [hv];rw [length_map] at h2;rw [getElem?_eq_getElem h2] at he;cases he
    simp
 refine wpAny_bind (wpAny_holding (_qkb (_qah.typeIs (y1.at fun o e=>hk a o e)) ?_));have fin:∀ (s1:Shared) (c₁:Nat),(∃ h d tk,s1={ s with heap:=h,drawn:=d,toks:=tk })->St 0 s1.heap->(∀ b o,s.heap.get? b=some o->s1.heap.get? b=some o) ->
   s1.heap.get? s.heap.objs.size=some { cls:=.type "list",data:=.seq #[] c₁ } ->
   codeAny (model prog w) A (.builtin "list.extend.loop" ⟨[.ref s.heap.objs.size,.ref I,.ref s.heap.objs.size],[]⟩)
    (fun q s'=>match q with
     | .ok (.ret v)=>wpAny (model prog w) A (match v with
      | .ref a=>do
       let o <- load a
       match o.data with
       | .seq xs _=>pure xs.toList
       | _=>unsupported "internal:collect"
      | _=>unsupported "internal:collect") Q E s'
     | .ok _=>False
     | .error e=>E e s') s1:=by
  intro s1 c₁ a1 a2 a3 a4;refine codeAny_mono (key s1 c₁ a1 a2 a3 a4) fun q s' hQ=>?_;obtain ⟨acc',c',hq,hs',hk',hS',hacc⟩:=hQ;subst hq;show wpAny _ A (load s.heap.objs.size >>= _) _ _ _;refine wpAny_bind (wpAny_load hS' ?_);show wpAny _ A (pure acc'.toList) _ _ _;rw [hacc];exact wpAny_pure (h order s' hord hk' (Heap.lt_size hS') hs')
 have hS2:=hk _ _ hS₁;refine wpAny_ite_split (fun _=>?_) (fun _=>wpAny_pure ⟨plainId_quiet PySem.F.plain_extend_loop _,?_⟩)
 ·refine wpAny_bind (wpAny_rule ?_)
  refine wpAny_bind ?_;show wpAny _ _ (updateSeq s.heap.objs.size (·.push .none) >>= fun _=>updateSeq s.heap.objs.size (·.pop)) _ _ _;refine wpAny_bind (wpAny_updateSeq hS2 rfl ?_);have hS₂:=Heap.get?_update_self (Obj.mapSeq (·.push Value.none)) hS2 rfl;refine wpAny_updateSeq (hz:=by seq_fits) hS₂ rfl ?_;have hS₃:=Heap.get?_update_self (Obj.mapSeq (·.pop)) hS₂ rfl;have oth:∀ b o,b ≠ s.heap.objs.size->h1'.get? b=some o->((h1'.update s.heap.objs.size (Obj.mapSeq (·.push Value.none))).update s.heap.objs.size (Obj.mapSeq (·.pop))).get? b=some o:=fun b o hb e =>
   (Heap.get?_update_other _ _ (Ne.symm hb)).trans ((Heap.get?_update_other _ _ (Ne.symm hb)).trans e)
  refine wpAny_pure ⟨plainId_quiet PySem.F.plain_extend_loop _,?_⟩;refine codeAny_mono (fin _ _ ⟨_,_,_,rfl⟩ ?_ (fun b o e=>oth b o (ne_of_lt (Heap.lt_size e)) (hk b o (Heap.get?_push_of_some _ e))) hS₃) fun q s' x=>x;exact W.frame 0 _ _ st fun b hb o e=>oth b o (fun h=>hSf (h ▸ hb)) e
 ·exact codeAny_mono (fin _ _ ⟨_,_,_,rfl⟩ st (fun b o e=>hk b o (Heap.get?_push_of_some _ e)) hS2) fun q s' x=>x
end
end SetW
namespace DL
open PySem PySem.Spec PyProof.Rows L2
section
variable {X:Cx} {K:Frag} {F:Hp}
def _qdu (K:Frag):V->List V->Hp->VK->Prop:=fun x vs H Q=>∃ l b xs zs,x=.ref l/\vs=[.ref b]/\H l=some (.lst xs)/\SqE K H b zs/\xs.length + zs.length <= sizeLine/\Q .non (upd H l (.lst (xs++zs)))
theorem _Ks:MtM X "list.extend" (_qdu X.K):=by
 intro pins s σ H x vs v us Q I rx rv h;obtain ⟨l,b,xs,zs,rfl,rfl,hH,hB,hz,q⟩:=h;cases rx;obtain ⟨u,rfl,ru⟩:=rv.one;cases ru;obtain ⟨z,its,n,r,hl,e⟩:=I.lstM hH;obtain ⟨its2,n2,r2,e2,z2⟩:=Inv.listE I hB;have hl2:=r2.length;have hsz:its.toArray.size + its2.toArray.size <= sizeLine:=by rw [size_toArray,size_toArray]; omega
 have hlong:¬ (!its.toArray.isEmpty && Builtin.List.listTooLong (its.toArray.size + its2.toArray.size))=true:=by
  rw [notLongL hsz,Bool.and_false];exact Bool.false_ne_true
 refine call_meets F.slot_list_extend ⟨_,e,rfl⟩ F.entry_list_extend (F.args_list_extend_2 _ _)
  (AutoSeq1.list_extend_list_list_0 l its.toArray n b its2.toArray n2 hlong (by rw [size_toArray]; omega) (by omega)) ⟨e,e2,?_⟩
 refine ⟨.non,_,I.lset (its':=its++its2) hH e (by simp) (r.append r2) ?_,rfl,q⟩;rw [length_append];omega
theorem _qn9 {i:Nat} {S:List Bool} {p:FP} {f:FE} {st:Stmt} (hp:PS X st (tDrop (tBM X.K "list" (_qdu X.K) (tP X.K i S p) (tCons (tD X.K f) tNil)))):DS X st [] (bExt i S p f):=by
 refine PS.imp hp fun E σ H z=>?_;obtain ⟨β,F,ρ,o,r,hw,h,k⟩:=z;obtain ⟨q,hq,h⟩:=bind_some h;obtain ⟨d,hd,h⟩:=bind_some h;obtain ⟨c,hc,h⟩:=bind_some h;have hc:=_qam hc;split at h
 ·rename_i ds
  split at h
  ·rename_i hi
   obtain ⟨c',hc',rfl⟩:=map_some h;obtain ⟨m,m',g1,g2,g3⟩:=_V8 hc';unfold gExt at g2;split at g2
   ·rename_i os
    split at g2
    ·rename_i hlen
     cases g2;refine ⟨β,F,ρ,q,c,.lst os,r,hq,hc,g1,fun v0 v F1 H1 e0 s1 s2 r1 at1=>⟨?_,?_⟩⟩
     ·obtain ⟨A,h1,_⟩:=r1.own
      obtain ⟨v0',e0',qq⟩:=h1 i c hc;rw [e0] at e0'; cases e0';obtain ⟨v',Aa,Ab,a1,a2,a3⟩:=qq.focus g1
      have:=at1.uniq r1.ext.fh a1
      subst this;cases a2 with
      | lst h0 _ _ _=>exact .inl ⟨rfl,_,SqL.of h0⟩
     ·obtain ⟨G,l,re,rz⟩:=r1.look S
      refine ⟨G,frz S ρ,_,l.gh,re,hd,fun y F2 H2 e2 q2=>?_⟩;have r2:=r1.back l e2;have at2:=at1.mono (_xt (F:=F1) (H:=H1) (F':=F2)) e2.hh;obtain ⟨A1,T,q1,qn,dj,fin⟩:=at_of (r2.sh .non) hc g1 e0 (Same.refl _) (Same.refl _) at2;cases q2 with
      | lst hq2 t =>
       have t2:=l.reps e2 r1.ext.fh hi t;cases q1 with
       | lst h0 n0 rv hA =>
        rename_i b zs a vs A';refine ⟨a,b,vs,zs,rfl,rfl,h0,_qsh e2.fh hq2,by rw [rv.length,t.length]; exact _vb hlen,?_⟩;refine k _ _ σ (fin a _ (fun b=>b=a \/ A' b) _ c' ((hA a).mpr (.inl rfl)) (fun b z=>.inl ((hA b).mpr z)) (.lst upd_same (A':=A') n0 ?_ fun _=>Iff.rfl) g3);have o1:=rv.stay (Same.refl _) (H':=upd H2 a (.lst (vs++zs))) fun b z=>upd_ne (by rintro rfl; exact n0 z);exact (o1.append (_qhv t2) fun _ _ z=>z).congr fun b=>⟨fun z=>z.elim id False.elim,.inl⟩
    ·cases g2
   ·cases g2
  ·cases h
 ·cases h
end
theorem Inv.drawn {pins:List (Addr × Obj)} {σ:St} {H:Hp} {s:Shared} {d':Drawn} {X:Cx} (I:Inv X pins σ H s):Inv X pins σ H { s with drawn:=d' } :=
 ⟨I.ok,I.os,I.bare,I.base,I.loc,I.cell,I.free,I.freeC,I.pin,I.hok,I.len⟩
theorem _qd8 {σ:List Int} {v:Int} (h:σ.Nodup):(step_dedup σ v).Nodup:=by
 unfold step_dedup;split
 ·exact h
 ·rename_i hn
  refine List.nodup_append.mpr ⟨h,by simp,fun a ha b hb=>?_⟩;have e:b=v:=by simpa using hb
  rintro rfl;exact hn (by rw [any_eq_true]; exact ⟨a,ha,by simp [e]⟩)
theorem _z2 (val:Nat->Int):∀ i,(firstMet val i).Nodup
 | 0=>by rw [firstMet_zero]; exact List.nodup_nil
 | i + 1=>by rw [firstMet_succ]; exact _qd8 (_z2 val i)
theorem _Zo:∀ {σ l:List Int},σ.Nodup->(∀ x∈σ,x∈l)->l.length=σ.length->l.Perm σ
 | [],l,_,_,h=>by
  have:l=[]:=List.length_eq_zero_iff.mp (by simpa using h)
  subst this; exact .refl _
 | x :: σ,l,hn,hs,h=>by
  rw [nodup_cons] at hn;have hx:=hs x (by simp);have p:=List.perm_cons_erase hx;refine p.trans ((_Zo hn.2 (fun y hy=>?_) ?_).cons x)
  ·exact (List.mem_erase_of_ne (by rintro rfl; exact hn.1 hy)).mpr (hs y (mem_cons_of_mem _ hy))
  ·have:=p.length_eq
   simp at this h ⊢;omega
theorem _Zp:∀ {l σ:List Int},l.Nodup->σ.Nodup->(∀ x,x∈l ↔ x∈σ)->l.Perm σ
 | l,[],_,_,h=>by
  have:l=[]:=List.eq_nil_iff_forall_not_mem.mpr fun x hx=>absurd ((h x).mp hx) (by simp)
  subst this; exact .refl _
 | l,x :: σ,hl,hn,h=>by
  rw [nodup_cons] at hn;have p:=List.perm_cons_erase ((h x).mpr (by simp));refine p.trans ((_Zp (hl.erase x) hn.2 fun y=>?_).cons x);rw [hl.mem_erase_iff,h y];constructor
  ·rintro ⟨a,b⟩
   exact (List.mem_cons.mp b).resolve_left a
  ·intro hy
   exact ⟨by rintro rfl; exact hn.1 hy,mem_cons_of_mem _ hy⟩
theorem _Xi {prog:Program} {w:World}:∀ {l:List (Int × Value)},ElemsOf (intKind prog w) l->∃ ks:List Int,IntsAre (l.map (·.2)) ks/\∀ k,(∃ e∈l,(intKind prog w).is k e.2=true) ↔ k∈ks
 | [],_=>⟨[],.nil,fun k=>by simp⟩
 | e :: l,h=>by
  obtain ⟨ks,h1,h2⟩:=_Xi h.tail;obtain ⟨⟨k,hk,_⟩,_⟩:=h.head;obtain ⟨t,ht⟩:=Value.isInt_shape hk;refine ⟨k :: ks,by rw [map_cons,ht]; exact .cons k t h1,fun j=>?_⟩;rw [mem_cons,<- h2 j];constructor
  ·rintro ⟨e',he',hj⟩
   rcases List.mem_cons.mp he' with rfl | he'
   ·exact .inl ((intKind prog w).inj _ _ _ hj hk)
   ·exact .inr ⟨e',he',hj⟩
  ·rintro (rfl | ⟨e',he',hj⟩)
   ·exact ⟨e,by simp,hk⟩
   ·exact ⟨e',mem_cons_of_mem _ he',hj⟩
theorem _qbb {vs:List Value} {ns:List Int} (h:IntsAre vs ns):vs.map (fun v=>match v with | .int k _=>k | _=>0)=ns:=by
 induction h with
 | nil=>rfl
 | cons n t hr ih=>rw [map_cons,ih]
theorem _kn:∀ {us:List Value} {ns:List Int},IntsAre us ns->Vals (ns.map V.int) us
 | _,_,.nil=>.nil
 | _,_,.cons n t hr=>.cons ⟨t,rfl⟩ (_kn hr)
theorem _Z5 {prog:Program} {w:World} {A:Around} {E:Value->Shared->Prop} {s:Shared} {a:Addr} {ns:List Int} (hh:A.handled=none)
  (hS:SetW._V9 prog w s.heap a (fun k'=>(firstMet (fun i=>ns.getD i 0) ns.length).any (· == k')) (firstMet (fun i=>ns.getD i 0) ns.length).length) (h64:(_qi ns).length < 64) {Q:Value->Shared->Prop}
  (h:∀ (D:Addr) (out:List Value) (n:Nat) (s':Shared),IntsAre out (_qi ns)->s.heap.objs.size <= D->s'.heap.get? D=some { cls:=.type "list",data:=.seq out.toArray n }->(∀ b o,s.heap.get? b=some o->s'.heap.get? b=some o) ->
   (∃ h' d' tk,s'={ s with heap:=h',drawn:=d',toks:=tk })->Q (.ref D) s') :
  wpAny (model prog w) A (call (.builtin "sorted") [.ref a]) Q E s:=by
 obtain ⟨o,es,ep,t,ho,hex,hd,hel,hmem,hb,hf,hn,ht⟩:=hS;obtain ⟨ks,hI,hks⟩:=_Xi hel;have hmet:∀ k,k∈firstMet (fun i=>ns.getD i 0) ns.length ↔ k∈ns:=by
  intro k;have e:=firstMet_any (fun i=>ns.getD i 0) ns.length k;have e2:(List.range ns.length).map (fun i=>ns.getD i 0)=ns:=by
   apply ext_getElem
   ·simp
   ·intro i h1 h2; simp at h1; simp [h1]
  rw [e2] at e
  have:=Bool.eq_iff_iff.mp e
  simpa [any_eq_true] using this
 have hk2:∀ k,k∈ks ↔ k∈firstMet (fun i=>ns.getD i 0) ns.length:=by
  intro k;rw [<- hks k,<- hmem k];simp [any_eq_true]
 have hlen:ks.length=(firstMet (fun i=>ns.getD i 0) ns.length).length:=by
  rw [<- hI.length,length_map,length_toList,hn]
 have hkp:ks.Perm (firstMet (fun i=>ns.getD i 0) ns.length):=_Zo (_z2 _ _) (fun x hx=>(hk2 x).mpr hx) hlen;have hkn:ks.Nodup:=hkp.symm.nodup (_z2 _ _);have fin:∀ ns':List Int,ns'.Perm ks->ns'.Pairwise (· <= ·)->ns'=_qi ns:=by
  intro ns' hp hs;refine _Qf ?_ (_xz ns) fun x=>?_
  ·have hnd:ns'.Nodup:=hp.symm.nodup hkn
   have:=List.Pairwise.and hs hnd
   exact this.imp fun ⟨a,b⟩=>by omega
  ·rw [hp.mem_iff,hk2,hmet,_v7]
 have hsize:es.size=(_qi ns).length:=by
  have:(_qi ns).Perm ks:=_Zp ((_xz ns).imp fun h=>Int.ne_of_lt h) hkn fun x=>by rw [_v7,hk2,hmet]
  rw [this.length_eq,hlen,hn]
 refine Calls.call_function_entry kind_sorted plain_sorted entry_sorted (args_sorted1 _) ?_;unfold Builtin.«sorted»;refine wpAny_bind (m:=checkCount "sorted" 1 1 _) (wpAny_pure ?_);refine wpAny_bind (SetW._qcp (A:=A.in1) hh ⟨o,ho,hex,hd,hf⟩ ht (by rw [hsize,sizeLine_eq]; omega) fun order s1 hord hk1 hsz1 hs1=>?_);obtain ⟨h1,d1,tk1,rfl⟩:=hs1;have hio:∃ ks',IntsAre (order.map (·.2)) ks'/\ks'.Perm ks:=by
  obtain ⟨ks',g1,g2⟩:=_Xi (hel.perm hord);refine ⟨ks',g1,?_⟩;have e1:=_qbb g1;have e2:=_qbb hI;rw [<- e1,<- e2];exact (hord.map _).map _
 obtain ⟨ks',g1,g2⟩:=hio;have hol:(order.map (·.2)).length < 64:=by rw [length_map,hord.length_eq,length_toList,hsize]; exact h64
 refine wpAny_bind (wpAny_newList ?_ (by rw [sizeLine_eq]; omega));have hoL:(h1.push (seqObj "list" (order.map (·.2)).toArray 0)).get? h1.objs.size=some (seqObj "list" (order.map (·.2)).toArray 0):=Heap.get?_push_size _ rfl;refine wpAny_bind (wpAny_holding (wpAny_call_entry slot_list_sort ⟨_,hoL,rfl⟩ entry_list_sort (list_sort_tree hoL g1 hol fun out ns' a1 a2 a3=>⟨_,rfl,?_⟩) (args_list_sort _)));refine wpAny_pure ⟨_,rfl,?_⟩;obtain ⟨e,he⟩:=sortedHeap_at (out:=out) hoL;have hsz:s.heap.objs.size <= h1.objs.size:=le_of_lt hsz1;refine h _ out.toList e _ (by rw [<- fin ns' (a2.trans g2) a3]; exact a1) hsz (by simpa [seqObj] using he) (fun b o' hb'=>?_) ⟨_,_,_,rfl⟩;have hb1:=hk1 b o' hb';have hlt:=Heap.lt_size hb1;rw [sortedHeap_old (ne_of_lt hlt) (by rw [size_push']; exact lt_succ_of_lt hlt)];exact Heap.get?_push_of_some _ hb1
theorem _W6 {X:Cx} {e:Expr} {te:TE} {p p2 p3 pos:Pos} (hc:X.calm=true) (hg1:Gl X "sorted") (hg2:Gl X "set") (hm1:X.mg "sorted"=none) (hm2:X.mg "set"=none) (he:PE X e te) (hs:starEach [e] X.env=(false,eval e X.env) :: starEach [] X.env:=by rfl) :
  PE X (.Call (.Name "sorted" p) [.Call (.Name "set" p2) [e] [] p3] [] pos) (fun σ H Q=>te σ H fun x H1=>∃ (a:Addr) (ns:List Int),x=.ref a/\SqL X.K H1 a (ns.map V.int)/\ns.length < 4000/\(_qi ns).length < 64 /\
   ∀ l,H1 l=none->Q (.ref l) (upd H1 l (.lst ((_qi ns).map V.int)))):=by
 intro pins s σ H Q I h;refine wpAny_Call_Name_kw (ld_blt I hg1 hm1 _kd ?_ (by decide) (by decide));refine callWith_builtin1 ?_ rfl rfl;show wpAny _ _ (spliced ((false,eval (.Call (.Name "set" p2) [e] [] p3) X.env) :: backTo pos (starEach [] X.env))) _ _ s;refine Calls.spliced_cons ?_;refine wpAny_Call_Name_kw (ld_blt I hg2 hm2 _qpk ?_ (by decide) (by decide));have ha:=(pa_cons he pa_nil hs) p3 pins s σ H (fun xs H1=>∃ (a:Addr) (ns:List Int),xs=[.ref a]/\SqL X.K H1 a (ns.map V.int)/\ns.length < 4000/\(_qi ns).length < 64 /\
   ∀ l,H1 l=none->Q (.ref l) (upd H1 l (.lst ((_qi ns).map V.int)))) I (by
  refine (?_:te σ H _);refine cast (congrArg (te σ H) (funext fun x=>funext fun H1=>?_)) h;simp [tNil])
 refine PyProof.Rows.callWith_type1 (thn ha fun us s1 hQ=>?_) hs rfl;obtain ⟨vs,H1,I1,r1,a,ns,ev,hq,hl4,h64,q⟩:=hQ;subst ev;obtain ⟨u,rfl,ru⟩:=r1.one;cases ru;obtain ⟨its,rv,ht,hz⟩:=I1.list hq;have ia:=intsAre_of rv;have hil:its.length=ns.length:=ia.length;refine SetW._qcq (items:=its.toArray) (ns:=ns) (I1.ok.hd hc) ht.isList (by simpa using ia) (by rw [size_toArray,hil]; unfold scanBound; omega) fun h' tk hS hk=>?_;refine Calls.spliced_nil ?_;have hk':∀ b o,s1.heap.get? b=some o->h'.get? b=some o:=fun b o e=>hk b o (Heap.lt_size e) e;have hsz0:s1.heap.objs.size < h'.objs.size:=let ⟨o,_,_,_,ho,_⟩:=hS; Heap.lt_size ho;rw [show its.toArray.size=ns.length by rw [size_toArray,hil]] at hS;refine _Z5 (s:={ s1 with heap:=h',toks:=tk }) (I1.ok.hd hc) hS h64 fun D out n s' hout hD hget hk2 hs'=>?_;obtain ⟨h2,d2,tk2,rfl⟩:=hs';have hDs:s1.heap.objs.size <= D:=le_trans (le_of_lt hsz0) hD;have I2:=Inv.drawn (d':=d2) (I1.laid (h':=h2) (t':=tk2) (a:=D) (o:=.lst ((_qi ns).map V.int)) (fun b u e=>hk2 b u (hk' b u e)) hDs ⟨by rw [length_map,sizeLine_eq]; omega,out,n,_kn hout,hget⟩);exact ⟨.ref D,_,I2,rfl,q D (I1.hok.fresh hDs)⟩
theorem _Y8 {X:Cx} {e:Expr} {f:FE} {p p2 p3 pos:Pos} (hc:X.calm=true) (hg1:Gl X "sorted") (hg2:Gl X "set") (hm1:X.mg "sorted"=none) (hm2:X.mg "set"=none) (he:DE X e f) (hs:starEach [e] X.env=(false,eval e X.env) :: starEach [] X.env:=by rfl) :
  DO X (.Call (.Name "sorted" p) [.Call (.Name "set" p2) [e] [] p3] [] pos) (_qsw _Vs (_d f _qty)):=by
 refine PE.imp (_W6 hc hg1 hg2 hm1 hm2 he hs) fun σ H Q q=>?_;obtain ⟨F,ρ,o,s,re,hf,kk⟩:=q;obtain ⟨zs,hf2,rfl⟩:=map_some hf;obtain ⟨ds,hd,hf⟩:=bind_some hf2;obtain ⟨d,hd1,hd⟩:=bind_some hd;obtain ⟨ds',hd2,rfl⟩:=map_some hd;cases hd2;refine ⟨F,ρ,d,s,re,hd1,fun v F1 H1 e1 r1=>?_⟩;unfold _Vs at hf;split at hf
 ·rename_i xs heq
  cases heq;obtain ⟨ns,hns,hf⟩:=bind_some hf;split at hf
  ·rename_i hcnd
   cases hf
   have:=_vt hns
   subst this;cases r1 with
   | lst q t =>
    have hv:=_jn t;subst hv;refine ⟨_,ns,rfl,(_qsh e1.fh q).l,hcnd.1,hcnd.2,fun l hl=>kk (.ref l) F1 _ _ (e1.trans (Ext.laidH e1.fh hl)) (_W7 upd_same ?_) fun b z=>by subst z; exact ⟨e1.fh.free hl,e1.hh.free hl⟩⟩;exact _Vf _
  ·cases hf
 ·cases hf
end DL
namespace DL
open PySem PySem.Spec PyProof.Rows L2
section
variable {X:Cx} {K:Frag} {F:Hp}
theorem _z4:CallR X (.builtin "sorted") (fun xs H Q=>∃ (p:Addr) (ns:List Int),xs=[.ref p]/\SqL X.K H p (ns.map V.int)/\ns.length < 64/\∀ l,H l=none->Q (.ref l) (upd H l (.lst ((_wa ns).map V.int)))):=by
 intro pins s σ H xs us Q I r h;obtain ⟨p,ns,rfl,hq,h64,q⟩:=h;cases r with
 | cons r1 r =>
  cases r;cases r1;obtain ⟨its,rv,ht,hz⟩:=I.list hq;have ia:=intsAre_of rv;have hil:its.length=ns.length:=ia.length;refine sorted_ints ht.isList ia (by rw [hil]; exact h64) fun out ns' a1 a2 a3=>?_;obtain ⟨e,he⟩:=sortedAll_at s.heap its out;have e':=_qkl a2 a3;subst e';have hlen:(_wa ns).length=ns.length:=(_qm ns).length_eq;exact ⟨.ref _,_,I.laid (t':=s.toks) (o:=.lst ((_wa ns).map V.int)) (fun b u e=>sortedAll_old e) (le_succ _) ⟨by rw [length_map,hlen,sizeLine_eq]; omega,out.toList,e,_kn a1,by simpa [seqObj] using he⟩,rfl,q _ (I.hok.fresh (le_succ _))⟩
theorem _z3:CallO K (fun xs H Q=>∃ (p:Addr) (ns:List Int),xs=[.ref p]/\SqL K H p (ns.map V.int)/\ns.length < 64/\∀ l,H l=none->Q (.ref l) (upd H l (.lst ((_wa ns).map V.int)))) _qi7:=by
 intro ds es F H vs Q h s r k;unfold _qi7 at h;split at h
 ·obtain ⟨ns,hns,h⟩:=bind_some h
  split at h
  ·rename_i h64
   cases h
   have:=_vt hns
   subst this;cases r with
   | cons r r' =>
    cases r';cases r with
    | lst q t =>
     have hv:=_jn t;subst hv;exact ⟨_,ns,rfl,(_qsh s q).l,h64,fun l hl=>k l _ F _ (Ext.laidH s hl) upd_same (s.free hl) hl (_Vf _)⟩
  ·cases h
 ·cases h
end
end DL
namespace DL
open PySem PySem.Spec PyProof.Rows L2
section
variable {X:Cx} {K:Frag} {F:Hp}
end
end DL
namespace DL
open PySem PySem.Spec PyProof.Rows L2
section
variable {prog:Program} {w:World} {A:Around} {E:Value->Shared->Prop} {s:Shared}
end
section
variable {X:Cx} {K:Frag} {F:Hp}
end
end DL
namespace DL
open PySem PySem.Spec PyProof.Rows L2
section
variable {X:Cx} {K:Frag} {F:Hp}
end
end DL
namespace DL
open PySem
def _qlf (ns:List Int):FA:=ns.foldr (fun n g=>_d (fC (.int n)) g) _qty
theorem _qfs (ns:List Int) (ρ:_qu7):_qlf ns ρ=some (ns.map .int):=by
 induction ns with
 | nil=>rfl
 | cons n ns ih =>
  show _d (fC (.int n)) (_qlf ns) ρ=_;simp [ih]
end DL
namespace DL
open PySem PySem.Spec PyProof.Rows L2
def intOf:Expr->Option Int
 | .Constant (.int i) _ _=>some i
 | _=>none
variable {X:Cx}
theorem _qf3:∀ {es:List Expr} {ns:List Int},es.map intOf=ns.map some->DA X es (_qlf ns)
 | [],[],_=>_e
 | [],_ :: _,h=>by simp at h
 | _ :: _,[],h=>by simp at h
 | e :: es,n :: ns,h=>by
  have h1:intOf e=some n:=(List.cons.inj h).1;have h2:es.map intOf=ns.map some:=(List.cons.inj h).2;unfold intOf at h1;split at h1
  ·cases h1
   exact _a _h (_qf3 h2) rfl
  ·cases h1
theorem _qnd {x:Str} {i:Int} {pos:Pos} (hg:Gl X x) (hm:∃ t,X.mg x=some (.int i t)) (hd:(x == ("__debug__":Str))=false:=by decide):DE X (.Name x pos) (fC (.int i)):=by
 obtain ⟨t,hm⟩:=hm;exact de_c (pe_glob (v:=V.int i) hg hm ⟨t,rfl⟩ hd) fun _=>.int i
end DL
namespace DL
open PySem
end DL
namespace DL
end DL
namespace DL
open PySem
def lexP (p q:Int × Int):Bool:=if p.1=q.1 then decide (p.2 < q.2) else decide (p.1 < q.1)
theorem _Vp {p q:Int × Int}:lexP p q=true ↔ p.1 < q.1 \/ p.1=q.1/\p.2 < q.2:=by
 unfold lexP;split <;> simp <;> omega
def insP (x:Int × Int):List (Int × Int)->List (Int × Int)
 | []=>[x]
 | y :: ys=>if lexP x y=true then x :: y :: ys else y :: insP x ys
def _Jp (ps:List (Int × Int)):List (Int × Int):=ps.foldr insP []
theorem _Vi (x:Int × Int):∀ l:List (Int × Int),(insP x l).Perm (x :: l)
 | []=>.refl _
 | y :: ys=>by
  unfold insP;split
  ·exact .refl _
  ·exact ((_Vi x ys).cons y).trans (List.Perm.swap _ _ _)
theorem _zn:∀ ps:List (Int × Int),(_Jp ps).Perm ps
 | []=>.refl _
 | n :: ns=>(_Vi n _).trans ((_zn ns).cons n)
theorem _Kj (x:Int × Int):∀ l:List (Int × Int),l.Pairwise (fun a b=>lexP a b=true)->x ∉ l->(insP x l).Pairwise (fun a b=>lexP a b=true)
 | [],_,_=>by simp [insP]
 | y :: ys,h,hn=>by
  rw [pairwise_cons] at h;unfold insP;split
  ·rename_i hx
   rw [pairwise_cons];refine ⟨fun z hz=>?_,List.pairwise_cons.mpr h⟩;rcases List.mem_cons.mp hz with rfl | hz
   ·exact hx
   ·have h2:=h.1 z hz
    rw [_Vp] at *;omega
  ·rename_i hx
   rw [pairwise_cons];refine ⟨fun z hz=>?_,_Kj x ys h.2 (fun m=>hn (by simp [m]))⟩;rcases List.mem_cons.mp ((_Vi x ys).mem_iff.mp hz) with rfl | hz
   ·have hne:z ≠ y:=fun e=>hn (by simp [e])
    rw [_Vp] at *
    have:¬ (z.1=y.1/\z.2=y.2):=fun e=>hne (Prod.ext e.1 e.2)
    omega
   ·exact h.1 z hz
theorem _w9:∀ ps:List (Int × Int),ps.Nodup->(_Jp ps).Pairwise (fun a b=>lexP a b=true)
 | [],_=>.nil
 | n :: ns,h=>by
  rw [nodup_cons] at h;exact _Kj n _ (_w9 ns h.2) fun m=>h.1 ((_zn ns).mem_iff.mp m)
theorem _qkk {ps ps':List (Int × Int)} (hn:ps.Nodup) (hp:ps'.Perm ps) (hs:ps'.Pairwise (fun a b=>lexP a b=true)):ps'=_Jp ps :=
 List.Perm.eq_of_pairwise (fun a b _ _ h1 h2=>by rw [_Vp] at h1 h2; omega) hs (_w9 ps hn) (hp.trans (_zn ps).symm)
def _qgd (p:Int × Int):D:=.tup [.int p.1,.int p.2]
def _Vr:List D->Option (List D)
 | [.lst xs,.lst ys]=>(_qcu xs).bind fun ns=>(_qcu ys).bind fun ms=>if ns.length=ms.length/\1 <= ns.length/\ns.length < 64/\(ns.zip ms).Nodup then some ((_Jp (ns.zip ms)).map _qgd) else none
 | _=>none
end DL
namespace DL
open PySem PySem.Spec PyProof.Rows L2
variable {X:Cx} {tg:Expr}
end DL
namespace DL
open PySem PySem.Spec PyProof.Rows L2
variable {X:Cx}
end DL
namespace DL
end DL
namespace DL
open PySem PySem.Spec PyProof.Rows L2
section
variable {K:Frag} {β:Bs} {F H:Hp} {σ:St} {ρ:Cs}
end
section
variable {X:Cx} {pos:Pos} {W2:List Nat}
end
end DL
set_option maxHeartbeats 2000000
namespace DL
open PySem PySem.Spec PyProof.Rows L2
section
variable {X:Cx} {elt target iter:Expr} {ifs:List Expr} {scope:Scope} {pos:Pos} {cl:List (Str × Addr)} {kx:Str} {N':List Str} {js:List (Option Nat)}
structure CompOk2 (X:Cx) (scope:Scope) (kx:Str) (cl:List (Str × Addr)) (N':List Str) (js:List (Option Nat)):Prop where
 calm:X.calm=true
 clo:clo X.env scope.names []=some cl
 free:_k7 X scope cl js N'
 cf:∀ (n:Nat) (acc:List (Str × Addr)),cellsFrom n scope.names acc=(kx,n) :: acc
 pc:∀ h:Heap,pushCells h scope.names=h.push { cls:=.type "cell",data:=.cell none }
 kN:∀ p∈js.zip N',p.1=none \/ p.2 ≠ kx
 cell:∀ y∈scope.names,y.2=.cell->y.1=kx
 kind:scope.kind=.function
 names:∀ x∈scope.names,x.2=.local->scope.names.lookup x.1=some .local
theorem CompOk2.hcl (k:CompOk2 X scope kx cl N' js):∀ x c,cl.lookup x=some c->X.env.cells.lookup x=some c:=fun x c h=>by
 rcases _qbp k.clo x c (_xp h) with z | z
 ·simp at z
 ·exact z
theorem CompOk2.hhas (k:CompOk2 X scope kx cl N' js):∀ x,((relabel scope X.env).names.lookup x=some .cell \/ (relabel scope X.env).names.lookup x=some .free)->x=kx \/ ∃ c,cl.lookup x=some c:=fun x h=>by
 have h':∃ k,(x,k)∈(relabel scope X.env).names/\(k=.cell \/ k=.free):=by
  rcases h with h | h
  ·exact ⟨_,_xp h,.inl rfl⟩
  ·exact ⟨_,_xp h,.inr rfl⟩
 obtain ⟨kk,hk,hkk⟩:=h';unfold relabel at hk;obtain ⟨⟨n,k'⟩,hm,he⟩:=List.mem_map.mp hk;dsimp only at he;have fin:(x,NameKind.free)∈scope.names->x=kx \/ ∃ c,cl.lookup x=some c:=fun z=>by
  obtain ⟨c,hc⟩:=(_qbq k.clo).2 x z;exact .inr (_Xe hc)
 split at he
 ·rename_i hc
  cases he;simp only [Bool.and_eq_true,beq_iff_eq] at hc;rw [hc.1.1] at hm;exact fin hm
 ·cases he
  rcases hkk with rfl | rfl
  ·exact .inl (k.cell _ hm rfl)
  ·exact fin hm
end
end DL
namespace DL
open PySem PySem.Spec PyProof.Rows L2
section
variable {env:Env} {es:List Expr} {p:Pos}
end
section
variable {X:Cx} {a:Expr} {es:List Expr} {pos:Pos} {x1:Nat} {f:FE} {g:FA} {o:FO} {u:FAO}
end
section
variable {X:Cx} {a e:Expr} {pos pos':Pos} {o:FO}
end
section
variable {P:Program} {w:World} {K:Frag} {mg:Str->Option Value} {base:Heap}
end
end DL
set_option maxHeartbeats 1000000
namespace SortW
open PySem PySem.W PyProof.Rows
def _qsj {α:Type} (lt:Nat->Nat->Bool):KasT α->α
 | .ret a=>a
 | .ask i j k=>_qsj lt (k (lt i j))
theorem _v5 {α β:Type} (lt:Nat->Nat->Bool):∀ (t:KasT α) (f:α->KasT β),_qsj lt (t.bind f)=_qsj lt (f (_qsj lt t))
 | .ret a,f=>by simp [KasT.bind,_qsj]
 | .ask i j k,f=>by
  rw [KasT.bind];show _qsj lt ((k (lt i j)).bind f)=_;rw [_v5 lt (k (lt i j)) f];rfl
def at0 (p:Array Nat) (i:Nat):Nat:=p.getD i 0
theorem _X0 (p:Array Nat) (i:Nat):at0 p i=(p[i]?).getD 0:=by simp [at0]
structure Ord (n:Nat) (lt:Nat->Nat->Bool):Prop where
 trans:∀ a b c,lt a b=true->lt b c=true->lt a c=true
 asym:∀ a b,lt a b=true->lt b a=false
 total:∀ a b,a < n->b < n->a ≠ b->lt a b=false->lt b a=true
def SP (lt:Nat->Nat->Bool) (p:Array Nat) (k:Nat):Prop:=∀ i j,i < j->j < k->lt (at0 p i) (at0 p j)=true
section
variable {n:Nat} {lt:Nat->Nat->Bool} (O:Ord n lt)
def PA (n:Nat) (p:Array Nat):Prop:=p.Perm (List.range n).toArray
theorem PA.size {p:Array Nat} (h:PA n p):p.size=n:=by
 have:=h.size_eq
 simpa using this
theorem PA.bd {p:Array Nat} (h:PA n p) {i:Nat} (hi:i < n):at0 p i < n:=by
 have hs:i < p.size:=by rw [h.size]; exact hi
 have:p[i]∈(List.range n).toArray:=(Array.Perm.mem_iff h).mp (Array.getElem_mem hs)
 have e:at0 p i=p[i]:=by simp [at0,hs]
 rw [e];simpa using this
theorem PA.ne {p:Array Nat} (h:PA n p) {i j:Nat} (hi:i < n) (hj:j < n) (hij:i ≠ j):at0 p i ≠ at0 p j:=by
 have hl:p.toList.Perm (List.range n):=by simpa using h.toList
 have hn:p.toList.Nodup:=hl.nodup_iff.mpr List.nodup_range;have hsi:i < p.toList.length:=by rw [length_toList,h.size]; exact hi
 have hsj:j < p.toList.length:=by rw [length_toList,h.size]; exact hj
 have ei:at0 p i=p.toList[i]:=by simp [at0,show i < p.size by simpa using hsi]
 have ej:at0 p j=p.toList[j]:=by simp [at0,show j < p.size by simpa using hsj]
 rw [ei,ej];exact fun e=>hij ((List.getElem_inj hn).mp e)
include O
theorem flip {p:Array Nat} (h:PA n p) {i j:Nat} (hi:i < n) (hj:j < n) (hij:i ≠ j) (hf:lt (at0 p i) (at0 p j)=false):lt (at0 p j) (at0 p i)=true:=O.total _ _ (h.bd hi) (h.bd hj) (h.ne hi hj hij) hf
theorem SP.succ {p:Array Nat} {k:Nat} (hs:SP lt p k) (h1:1 <= k) (hl:lt (at0 p (k - 1)) (at0 p k)=true):SP lt p (k + 1):=by
 intro i j hij hj
 by_cases e:j=k
 ·subst e
  by_cases e2:i=j - 1
  ·subst e2; exact hl
  ·exact O.trans _ _ _ (hs i (j - 1) (by omega) (by omega)) hl
 ·exact hs i j hij (by omega)
theorem _ql7 {p:Array Nat} (h:PA n p):∀ (f x:Nat),1 <= x->x + f <= n->SP lt p x->x <= _qsj lt (kas_asc p f x)/\_qsj lt (kas_asc p f x) <= x + f/\SP lt p (_qsj lt (kas_asc p f x))/\(_qsj lt (kas_asc p f x) < x + f->lt (at0 p (_qsj lt (kas_asc p f x))) (at0 p (_qsj lt (kas_asc p f x) - 1))=true)
 | 0,x,h1,h2,hs=>by
  rw [kas_asc];exact ⟨le_refl _,le_refl _,hs,fun z=>by simp [_qsj] at z⟩
 | f + 1,x,h1,h2,hs=>by
  rw [kas_asc];show _ <= _qsj lt (if lt (at0 p x) (at0 p (x - 1))=true then KasT.ret x else kas_asc p f (x + 1))/\_qsj lt (if lt (at0 p x) (at0 p (x - 1))=true then KasT.ret x else kas_asc p f (x + 1)) <= _/\SP lt p (_qsj lt (if lt (at0 p x) (at0 p (x - 1))=true then KasT.ret x else kas_asc p f (x + 1)))/\(_qsj lt (if lt (at0 p x) (at0 p (x - 1))=true then KasT.ret x else kas_asc p f (x + 1)) < _->lt (at0 p (_qsj lt (if lt (at0 p x) (at0 p (x - 1))=true then KasT.ret x else kas_asc p f (x + 1)))) (at0 p (_qsj lt (if lt (at0 p x) (at0 p (x - 1))=true then KasT.ret x else kas_asc p f (x + 1)) - 1))=true);cases hc:lt (at0 p x) (at0 p (x - 1)) with
  | true =>
   simp only [if_true,_qsj];exact ⟨le_refl _,by omega,hs,fun _=>hc⟩
  | false =>
   simp only [Bool.false_eq_true,if_false];have hl:=flip O h (i:=x) (j:=x - 1) (by omega) (by omega) (by omega) hc;obtain ⟨a,b,c,d⟩:=_ql7 h f (x + 1) (by omega) (by omega) (SP.succ O hs h1 hl);exact ⟨by omega,by omega,c,fun z=>d (by omega)⟩
def DP (lt:Nat->Nat->Bool) (p:Array Nat) (k:Nat):Prop:=∀ i j,i < j->j < k->lt (at0 p j) (at0 p i)=true
theorem _qic {p:Array Nat} (h:PA n p):∀ (f k:Nat),1 <= k->k + f <= n->DP lt p k->∃ m,_qsj lt (kas_desc f p k 0)=(p,m,0)/\k <= m/\m <= k + f/\DP lt p m
 | 0,k,h1,h2,hd=>⟨k,by rw [kas_desc]; rfl,le_refl _,le_refl _,hd⟩
 | f + 1,k,h1,h2,hd=>by
  rw [kas_desc];show ∃ m,_qsj lt (if lt (at0 p k) (at0 p (k - 1))=true then if 0 > 0 then _ else kas_desc f p (k + 1) 0 else KasT.ask (at0 p (k - 1)) (at0 p k) fun d=>if d=true then KasT.ret (p,k,0) else kas_desc f p (k + 1) (0 + 1))=_/\_;cases hc:lt (at0 p k) (at0 p (k - 1)) with
  | true =>
   simp only [if_true,lt_irrefl,gt_iff_lt,if_false];have hd':DP lt p (k + 1):=by
    intro i j hij hj
    by_cases e:j=k
    ·subst e
     by_cases e2:i=j - 1
     ·subst e2; exact hc
     ·exact O.trans _ _ _ hc (hd i (j - 1) (by omega) (by omega))
    ·exact hd i j hij (by omega)
   obtain ⟨m,m1,m2,m3,m4⟩:=_qic h f (k + 1) (by omega) (by omega) hd';exact ⟨m,m1,by omega,by omega,m4⟩
  | false =>
   simp only [Bool.false_eq_true,if_false];have hl:=flip O h (i:=k) (j:=k - 1) (by omega) (by omega) (by omega) hc;refine ⟨k,?_,le_refl _,by omega,hd⟩;show _qsj lt (if lt (at0 p (k - 1)) (at0 p k)=true then KasT.ret (p,k,0) else kas_desc f p (k + 1) (0 + 1))=_;rw [hl];rfl
omit O in
theorem _qm3 {p:Array Nat} {m:Nat} (hm:m <= p.size) (k:Nat):at0 (kas_rev p 0 m) k=if k < m then at0 p (m - 1 - k) else at0 p k:=by
 rw [_X0,_X0,_X0];unfold kas_rev;rw [getElem?_mirror_all hm];simp only [zero_le,true_and,Nat.zero_add];split <;> rfl
theorem _qlm {p:Array Nat} (h:PA n p) {m:Nat} (h1:1 <= m) (hm:m <= n) (hd:DP lt p m):∃ c q,_qsj lt (kas_tail3 m n p)=(c,q)/\PA n q/\1 <= c/\c <= n/\SP lt q c:=by
 have hq:PA n (kas_rev p 0 m):=(mirror_perm _ _ _ _).trans h;have hs:SP lt (kas_rev p 0 m) m:=by
  intro i j hij hj;have hz:m <= p.size:=by rw [h.size]; exact hm
  rw [_qm3 hz,_qm3 hz,if_pos (by omega),if_pos hj];exact hd _ _ (by omega) (by omega)
 obtain ⟨a,b,c,_⟩:=_ql7 O hq (n - m) m h1 (by omega) hs;refine ⟨_,_,?_,hq,?_,?_,c⟩
 ·unfold kas_tail3
  rw [_v5];rfl
 ·omega
 ·omega
theorem _qkx {p:Array Nat} (h:PA n p) (h1:1 <= n):∃ c q,_qsj lt (kas_count n p)=(c,q)/\PA n q/\1 <= c/\c <= n/\SP lt q c:=by
 have hs1:SP lt p 1:=fun i j hij hj=>by omega
 obtain ⟨a,b,c,d⟩:=_ql7 O h (n - 1) 1 (le_refl _) (by omega) hs1;unfold kas_count;rw [_v5];generalize _qsj lt (kas_asc p (n - 1) 1)=m at *
 by_cases e:m=n
 ·rw [if_pos (by simpa using e)]
  exact ⟨m,p,rfl,h,a,by omega,c⟩
 ·rw [if_neg (by simpa using e)]
  by_cases e2:m > 1
  ·rw [if_pos e2]
   have hl:=c 0 (m - 1) (by omega) (by omega);refine ⟨m,p,?_,h,a,by omega,c⟩;show _qsj lt (if lt (at0 p 0) (at0 p (m - 1))=true then _ else _)=_;rw [hl];rfl
  ·rw [if_neg e2]
   have em:m=1:=by omega
   subst em;have hl:=d (by omega);have hd:DP lt p 2:=fun i j hij hj=>by
    have:i=0/\j=1:=by omega
    obtain ⟨rfl,rfl⟩:=this;exact hl
   obtain ⟨m,m1,m2,m3,m4⟩:=_qic O h (n - (1 + 1)) (1 + 1) (by omega) (by omega) hd;unfold kas_descPart;rw [_v5,m1];simp only [gt_iff_lt,lt_irrefl,if_false];exact _qlm O h (by omega) (by omega) m4
theorem _W3 {p:Array Nat} (h:PA n p) {k:Nat} (hk:k < n) (hs:SP lt p k):∀ (f lo hi:Nat),lo <= hi->hi <= k->hi - lo <= f->(∀ i,i < lo->lt (at0 p i) (at0 p k)=true)->(∀ i,hi <= i->i < k->lt (at0 p k) (at0 p i)=true) ->
  _qsj lt (kas_place p k f lo hi) <= k/\(∀ i,i < _qsj lt (kas_place p k f lo hi)->lt (at0 p i) (at0 p k)=true)/\(∀ i,_qsj lt (kas_place p k f lo hi) <= i->i < k->lt (at0 p k) (at0 p i)=true)
 | 0,lo,hi,h1,h2,h3,ha,hb=>by
  rw [kas_place]
  have:lo=hi:=by omega
  subst this;exact ⟨h2,ha,hb⟩
 | f + 1,lo,hi,h1,h2,h3,ha,hb=>by
  rw [kas_place]
  by_cases e:lo ≥ hi
  ·rw [if_pos e]
   have:lo=hi:=by omega
   subst this;exact ⟨h2,ha,hb⟩
  ·rw [if_neg e]
   have hmid:(lo + hi) / 2 < hi/\lo <= (lo + hi) / 2:=by omega
   show _qsj lt (if lt (at0 p k) (at0 p ((lo + hi) / 2))=true then _ else _) <= _/\_;simp only [_qsj];have eqd:lt (p.getD k 0) (p.getD ((lo + hi) / 2) 0)=lt (at0 p k) (at0 p ((lo + hi) / 2)):=rfl;rw [eqd];cases hc:lt (at0 p k) (at0 p ((lo + hi) / 2)) with
   | true =>
    simp only [if_true];refine _W3 h hk hs f lo ((lo + hi) / 2) hmid.2 (by omega) (by omega) ha fun i hi1 hi2=>?_
    by_cases e2:i=(lo + hi) / 2
    ·subst e2; exact hc
    ·exact O.trans _ _ _ hc (hs _ _ (by omega) hi2)
   | false =>
    simp only [Bool.false_eq_true,if_false];have hl:=flip O h (i:=k) (j:=(lo + hi) / 2) hk (by omega) (by omega) hc;refine _W3 h hk hs f ((lo + hi) / 2 + 1) hi (by omega) h2 (by omega) (fun i hi1=>?_) hb
    by_cases e2:i=(lo + hi) / 2
    ·subst e2; exact hl
    ·exact O.trans _ _ _ (hs i ((lo + hi) / 2) (by omega) (by omega)) hl
theorem _qno:∀ (f:Nat) (p:Array Nat) (x:Nat),PA n p->x + f=n->SP lt p x->PA n (_qsj lt (kas_bin f p x))/\SP lt (_qsj lt (kas_bin f p x)) n
 | 0,p,x,h,hx,hs=>by
  rw [kas_bin]
  have:x=n:=by omega
  subst this;exact ⟨h,hs⟩
 | f + 1,p,x,h,hx,hs=>by
  rw [kas_bin,_v5];obtain ⟨l1,l2,l3⟩:=_W3 O h (k:=x) (by omega) hs x 0 x (by omega) (le_refl _) (by omega) (fun i hi=>by omega) (fun i h1 h2=>by omega);generalize _qsj lt (kas_place p x x 0 x)=l at *;have hsz:x < p.size:=by rw [h.size]; omega
  have hat:∀ k,at0 (bubble p x (x - l)) k=if k=l then at0 p x else if l < k/\k <= x then at0 p (k - 1) else at0 p k:=by
   intro k;rw [_X0,_X0,_X0,_X0,getElem?_bubble hsz (x - l) (by omega),show x - (x - l)=l by omega];split
   ·rfl
   ·split <;> rfl
  refine _qno f (bubble p x (x - l)) (x + 1) ((bubble_perm _ _ _).trans h) (by omega) fun i j hij hj=>?_;rw [hat,hat]
  by_cases ei:i=l
  ·rw [if_pos ei,if_neg (by omega),if_pos (by omega)]
   exact l3 _ (by omega) (by omega)
  ·rw [if_neg ei]
   by_cases ej:j=l
   ·rw [if_pos ej,if_neg (by omega)]
    exact l2 i (by omega)
   ·rw [if_neg ej]
    by_cases ci:l < i/\i <= x
    ·rw [if_pos ci,if_pos (by omega)]
     exact hs _ _ (by omega) (by omega)
    ·rw [if_neg ci]
     by_cases cj:l < j/\j <= x
     ·rw [if_pos cj]
      exact hs _ _ (by omega) (by omega)
     ·rw [if_neg cj]
      exact hs _ _ hij (by omega)
theorem _qlq (h1:1 <= n):PA n (_qsj lt (kas_sort n))/\SP lt (_qsj lt (kas_sort n)) n:=by
 have h0:PA n (List.range n).toArray:=Array.Perm.refl _;obtain ⟨c,q,e,hq,c1,c2,hs⟩:=_qkx O h0 h1;unfold kas_sort;rw [_v5,e];dsimp only
 by_cases hc:c < n
 ·rw [if_pos hc,show max c 1=c by omega]
  exact _qno O (n - c) q c hq (by omega) hs
 ·rw [if_neg hc]
  have:c=n:=by omega
  subst this;exact ⟨hq,hs⟩
end
end SortW
namespace SortW
open PySem PySem.W PyProof.Rows
section
variable {prog:Program} {w:World} {A:Around} {E:Value->Shared->Prop} {s:Shared}
theorem _Kx {a:Addr} {vs:List Value} {n:Nat} {P:PySem.Fin->Shared->Prop} (ho:s.heap.get? a=some (seqObj "list" vs.toArray n)) (h64:vs.length < 64) (h2:2 <= vs.length)
  (h:wpAny (model prog w) A (keyKind' vs.toArray) (fun κ s'=>KasT.kasWp (kas_ask prog w A κ vs) (kas_sort vs.length) (fun p s''=>s''=s'/\s'={ s with heap:=((s.heap.update a (Obj.mapSeq fun _=>#[])).push (seqObj "tuple" vs.toArray 0)).push (seqObj "list" #[] 0) }/\P (.done (.ret .none)) { s with heap:=sortedHeap s.heap a vs ((p.toList.map fun i=>vs.getD i .none).toArray) }) s') (fun _ _=>False) { s with heap:=((s.heap.update a (Obj.mapSeq fun _=>#[])).push (seqObj "tuple" vs.toArray 0)).push (seqObj "list" #[] 0) }) :
  wpAny (model prog w) A (Builtin.«list.sort» { pos:=[Value.ref a] }) P E s:=by
 rw [list_sort_plain a];have ha:=Heap.lt_size ho;refine wpAny_bind (listItems_at ho rfl (wpAny_bind (listUpdate_at ho rfl ?_)));obtain ⟨e1,ho1⟩:∃ e1,(s.heap.update a (Obj.mapSeq fun _=>#[])).get? a=some (seqObj "list" #[] e1):=⟨_,get?_update_seq ho fun _=>#[]⟩;refine wpAny_bind (seqEpoch_at ho1 rfl (wpAny_bind (wpAny_newTuple (wpAny_bind (wpAny_newList (wpAny_holding ?_))))));have ho6:(((s.heap.update a (Obj.mapSeq fun _=>#[])).push (seqObj "tuple" vs.toArray 0)).push (seqObj "list" #[] 0)).get? a=some (seqObj "list" #[] e1):=by
  rw [Heap.get?_push_ne _ _ _ (by rw [size_push',Heap.size_update]; exact ne_of_lt (lt_succ_of_lt ha)),Heap.get?_push_ne _ _ _ (by rw [Heap.size_update]; exact ne_of_lt ha)];exact ho1
 have hsz:¬ vs.toArray.size < 2:=by simp; omega
 refine (?_:wpAny (model prog w) A (if vs.toArray.size < 2 then _ else _) P E { s with heap:=((s.heap.update a (Obj.mapSeq fun _=>#[])).push (seqObj "tuple" vs.toArray 0)).push (seqObj "list" #[] 0) });rw [if_neg hsz];refine wpAny_bind (wpAny_mono h (fun κ s' hk=>?_) (fun _ _ z=>z.elim));rw [if_neg hsz];refine wpAny_bind (wpAny_mono (kat_run (ks:=vs) (vs:=vs) (E:=E) (Q:=fun st' s''=>∃ p:Array Nat,p.size=vs.length/\arrOf st'=Array.map (kas_item (vs.toArray.zip vs.toArray)) p/\failedOf st'=none/\_) rfl h2 h64 (fun p st' s'' hp harr hfail hG=>⟨p,hp,harr,hfail,hG⟩) hk) (fun r s'' hQ=>?_) (fun _ _ z=>z));obtain ⟨p,hps,harr,hfail,rfl,rfl,hP⟩:=hQ;have hs:=kat_snds (vs:=vs) (ks:=vs) rfl harr;obtain ⟨u,st'⟩:=r;dsimp only at hs harr hfail ⊢;refine wpAny_bind (seqEpoch_at ho6 rfl ?_);have hz1:(Array.map (fun x=>x.snd) (arrOf st')).size <= sizeLine + 1:=by rw [hs]; simp [hps,sizeLine_eq]; omega
 refine wpAny_bind (listUpdate_at ho6 rfl ?_ (by simp) hz1);simp only [hfail,bne_self_eq_false,Bool.false_eq_true,if_false];refine wpAny_pure ?_;rw [hs];exact hP
end
end SortW
namespace SortW
open PySem PySem.W PyProof.Rows
def inR {α:Type} (n:Nat) (G:α->Prop):KasT α->Prop
 | .ret a=>G a
 | .ask i j k=>i < n/\j < n/\∀ b,inR n G (k b)
theorem _Qc {α β:Type} {n:Nat} {G:α->Prop} {G':β->Prop}:∀ (t:KasT α) (f:α->KasT β),inR n G t->(∀ a,G a->inR n G' (f a))->inR n G' (t.bind f)
 | .ret a,f,h,k=>by rw [KasT.bind]; exact k a h
 | .ask i j g,f,h,k=>by
  rw [KasT.bind];exact ⟨h.1,h.2.1,fun b=>_Qc (g b) f (h.2.2 b) k⟩
theorem PA.all {n:Nat} {p:Array Nat} (h:PA n p) (hn:1 <= n) (i:Nat):p.getD i 0 < n:=by
 by_cases hi:i < n
 ·exact h.bd hi
 ·have:p.getD i 0=0:=by
   have hs:=h.size;simp [Array.getD,show ¬ i < p.size by omega]
  rw [this]; omega
section
variable {n:Nat} (hn:1 <= n)
include hn
theorem _ql8 {p:Array Nat} (h:PA n p):∀ (f x:Nat),inR n (fun _=>True) (kas_asc p f x)
 | 0,x=>by rw [kas_asc]; trivial
 | f + 1,x=>by
  rw [kas_asc];refine ⟨h.all hn _,h.all hn _,fun b=>?_⟩;cases b
  ·simpa using _ql8 h f (x + 1)
  ·trivial
theorem _qdp {p:Array Nat} (h:PA n p) (i j:Nat):PA n (kas_rev p i j):=(mirror_perm _ _ _ _).trans h
theorem _qbm:∀ (f:Nat) (p:Array Nat) (k e:Nat),PA n p->inR n (fun r=>PA n r.1) (kas_desc f p k e)
 | 0,p,k,e,h=>by rw [kas_desc]; exact h
 | f + 1,p,k,e,h=>by
  rw [kas_desc];refine ⟨h.all hn _,h.all hn _,fun b=>?_⟩;cases b
  ·refine ⟨h.all hn _,h.all hn _,fun d=>?_⟩
   cases d
   ·simpa using _qbm f p (k + 1) (e + 1) h
   ·exact h
  ·by_cases c:e > 0
   ·simp only [if_true,if_pos c]
    exact _qbm f _ _ _ (_qdp hn h _ _)
   ·simp only [if_true,if_neg c]
    exact _qbm f _ _ _ h
theorem _qhm {p:Array Nat} (h:PA n p) (m nrem:Nat):inR n (fun r=>PA n r.2) (kas_tail3 m nrem p):=by
 unfold kas_tail3;exact _Qc _ _ (_ql8 hn (_qdp hn h _ _) _ _) fun a _=>_qdp hn h _ _
theorem _Zx {p:Array Nat} (h:PA n p) (m nrem:Nat):inR n (fun r=>PA n r.2) (kas_descPart m nrem p):=by
 unfold kas_descPart;refine _Qc _ _ (_qbm hn _ _ _ _ h) fun r hr=>?_;split
 ·exact _qhm hn (_qdp hn hr _ _) _ _
 ·exact _qhm hn hr _ _
theorem _qky {p:Array Nat} (h:PA n p) (nrem:Nat):inR n (fun r=>PA n r.2) (kas_count nrem p):=by
 unfold kas_count;refine _Qc _ _ (_ql8 hn h _ _) fun m _=>?_;split
 ·exact h
 ·split
  ·refine ⟨h.all hn _,h.all hn _,fun b=>?_⟩
   cases b
   ·simpa using _Zx hn (_qdp hn h _ _) _ _
   ·exact h
  ·exact _Zx hn h _ _
theorem _W4 {p:Array Nat} (h:PA n p) (k:Nat):∀ (f lo hi:Nat),inR n (fun _=>True) (kas_place p k f lo hi)
 | 0,lo,hi=>by rw [kas_place]; trivial
 | f + 1,lo,hi=>by
  rw [kas_place];split
  ·trivial
  ·refine ⟨h.all hn _,h.all hn _,fun b=>?_⟩
   cases b
   ·simpa using _W4 h k f ((lo + hi) / 2 + 1) hi
   ·simpa using _W4 h k f lo ((lo + hi) / 2)
theorem _qnp:∀ (f:Nat) (p:Array Nat) (x:Nat),PA n p->inR n (fun r=>PA n r) (kas_bin f p x)
 | 0,p,x,h=>by rw [kas_bin]; exact h
 | f + 1,p,x,h=>by
  rw [kas_bin];exact _Qc _ _ (_W4 hn h _ _ _ _) fun l _=>_qnp f _ _ ((bubble_perm _ _ _).trans h)
theorem _qlr:inR n (fun r=>PA n r) (kas_sort n):=by
 have h0:PA n (List.range n).toArray:=Array.Perm.refl _;unfold kas_sort;refine _Qc _ _ (_qky hn h0 _) fun r hr=>?_;split
 ·exact _qnp hn _ _ _ hr
 ·exact hr
end
theorem _qeh {α:Type} {n:Nat} {lt:Nat->Nat->Bool} {cmp:Nat->Nat->(Bool->Shared->Prop)->Shared->Prop} {s:Shared} (hc:∀ i j C,i < n->j < n->C (lt i j) s->cmp i j C s) {G':α->Prop} {G:α->Shared->Prop}:∀ (t:KasT α),inR n G' t->G (_qsj lt t) s->KasT.kasWp cmp t G s
 | .ret a,_,h=>by rw [KasT.kasWp]; exact h
 | .ask i j k,hi,h=>by
  rw [KasT.kasWp];exact hc i j _ hi.1 hi.2.1 (_qeh hc (k (lt i j)) (hi.2.2 _) h)
end SortW
namespace SortW
open PySem PySem.W PyProof.Rows
def lexB (p q:Int × Int):Bool:=if p.1=q.1 then decide (p.2 < q.2) else decide (p.1 < q.1)
section
variable {prog:Program} {w:World} {A:Around} {E:Value->Shared->Prop} {s:Shared}
theorem _qmd {x y:Addr} {ox oy:Obj} {n k:Nat} {a b c d:Int} {t1 t2 t3 t4:Tok} {C:Bool->Shared->Prop} (hx:s.heap.get? x=some ox) (dx:ox.data=.seq #[.int a t1,.int b t2] n) (hy:s.heap.get? y=some oy) (dy:oy.data=.seq #[.int c t3,.int d t4] k) (h:C (lexB (a,b) (c,d)) s) :
  wpAny (model prog w) A (keyLt' (tuples' true) (.ref x) (.ref y)) C E s:=by
 refine kat_lt hx dx hy dy ?_;show KatLex prog w A true _ C [(Value.int a t1,Value.int c t3),(Value.int b t2,Value.int d t4)] 0 s;rw [KatLex];refine wpAny_eqBool_int ?_;unfold lexB at h
 by_cases e1:a=c
 ·rw [if_pos (by simpa using e1),KatLex]
  simp only [e1,if_true] at h;refine wpAny_eqBool_int ?_
  by_cases e2:b=d
  ·rw [if_pos (by simpa using e2),KatLex]
   subst e2;simpa using h
  ·rw [if_neg (by simpa using e2)]
   refine kat_one _ _ ?_;exact PyProof.Rows.lt_int h
 ·rw [if_neg (by simpa using e1)]
  simp only [e1,if_false] at h;exact oneLt_int h
def _qct (h:Heap) (v:Value) (p:Int × Int):Prop:=∃ (x:Addr) (o:Obj) (n:Nat) (t1 t2:Tok),v=.ref x/\h.get? x=some o/\o.cls=.type "tuple"/\o.data=.seq #[.int p.1 t1,.int p.2 t2] n
theorem _qk1 {n:Nat} {key:Nat->Int × Int} (hinj:∀ i j,i < n->j < n->key i=key j->i=j):Ord n fun i j=>lexB (key i) (key j) where
 trans:=by
  intro a b c h1 h2;unfold lexB at *;generalize key a=x at *;generalize key b=y at *;generalize key c=z at *;split at h1 <;> split at h2 <;> split <;> simp at * <;> omega
 asym:=by
  intro a b h1;unfold lexB at *;generalize key a=x at *;generalize key b=y at *;split at h1 <;> split <;> simp at * <;> omega
 total:=by
  intro a b ha hb hab h1;have hne:key a ≠ key b:=fun e=>hab (hinj a b ha hb e);unfold lexB at *;generalize key a=x at *;generalize key b=y at *;obtain ⟨x1,x2⟩:=x;obtain ⟨y1,y2⟩:=y;simp at hne;split at h1 <;> split <;> simp at * <;> omega
theorem _qhh {vs:List Value} {ps:List (Int × Int)} (hl:ps.length=vs.length) (hp:∀ i,i < vs.length->_qct s.heap (vs.getD i .none) (ps.getD i (0,0))) (i j:Nat) (C:Bool->Shared->Prop) (hi:i < vs.length) (hj:j < vs.length) (h:C (lexB (ps.getD i (0,0)) (ps.getD j (0,0))) s):kas_ask prog w A (tuples' true) vs i j C s:=by
 unfold kas_ask;obtain ⟨x,ox,n,t1,t2,e1,e2,_,e3⟩:=hp i hi;obtain ⟨y,oy,m,t3,t4,f1,f2,_,f3⟩:=hp j hj;rw [e1,f1];exact _qmd e2 e3 f2 f3 h
end
end SortW
namespace SortW
open PySem PySem.W PyProof.Rows
section
variable {prog:Program} {w:World} {A:Around} {E:Value->Shared->Prop} {s:Shared}
def _qtz (h:Heap) (z TI TO:Addr) (T:Nat) (b:Bool):Prop:=h.get? z=some { cls:=.type "zip",data:=.fields #[rawInt (T:Int),.bool b,.bool false,.ref TI,.ref TO] }
theorem _qin {M:Model} {a:Addr} {Q:Option Obj->Shared->Prop} (h:Q (s.heap.get? a) s):wpAny M A (loadIfAlive a) Q E s:=fun Γ p i=>by
 unfold loadIfAlive;rw [Sem.wp_loadIfAlive];exact (wpAny_pure (M:=M) (A:=A) (E:=E) h) Γ p i
theorem _qtz.flag {h:Heap} {z TI TO:Addr} {T:Nat} {b:Bool} (hz:_qtz h z TI TO T b):_qtz (h.update z (Obj.mapFields fun f=>f.setIfInBounds 1 (.bool true))) z TI TO T true:=by
 unfold _qtz at *;rw [Heap.get?_update_self _ hz rfl];rfl
theorem _qe8 {z TI TO T:Addr} {fb:Bool} {oT:Obj} {Q:Bool->Shared->Prop} (hz:_qtz s.heap z TI TO T fb) (hT:s.heap.get? T=some oT)
  (hQ:∀ h':Heap,_qtz h' z TI TO T true->h'.objs.size=s.heap.objs.size->(∀ c,c ≠ z->h'.get? c=s.heap.get? c)->Q false { s with heap:=h' }):wpAny (model prog w) A (Builtin.SmallTypes.ownedTupleIsFree (.ref z)) Q E s:=by
 unfold Builtin.SmallTypes.ownedTupleIsFree;refine wpAny_bind (wpAny_field hz rfl rfl ?_);refine (?_:wpAny (model prog w) A (loadIfAlive ((T:Int).toNat) >>= _) Q E s);refine wpAny_bind (_qin ?_);rw [Int.toNat_natCast,hT];refine wpAny_ite_split (fun h=>by simp at h) fun _=>?_;refine wpAny_bind (wpAny_field hz rfl rfl ?_);refine wpAny_ite_split (fun _=>?_) (fun h=>?_)
 ·refine wpAny_bind (wpAny_setField hz rfl (by simp) ?_)
  exact wpAny_pure (hQ _ hz.flag (by rw [Heap.size_update]) fun c hc=>Heap.get?_update_other _ _ (Ne.symm hc))
 ·refine wpAny_pure ?_
  have e:fb=true:=by
   cases fb with
   | true=>rfl
   | false=>exact absurd rfl h
  subst e;exact hQ s.heap hz rfl fun _ _=>rfl
theorem _qim {z TI TO i1 i2 l1 l2 T:Addr} {fb:Bool} {oT:Obj} {k1 k2:Nat} {xs ys:Array Value} {x y:Value} {Q:Value->Shared->Prop} (ap:ZipApart z TI TO i1 i2 l1 l2) (hz:_qtz s.heap z TI TO T fb) (hT:s.heap.get? T=some oT)
  (hTI:IsPair s.heap TI (.ref i1) (.ref i2)) (h1:s.heap.IsListIter i1 l1 k1) (h2:s.heap.IsListIter i2 l2 k2) (hl1:s.heap.IsList l1 xs) (hl2:s.heap.IsList l2 ys) (hx:xs[k1]?=some x) (hy:ys[k2]?=some y)
  (hQ:∀ h':Heap,_qtz h' z TI TO T true->h'.IsListIter i1 l1 (k1 + 1)->h'.IsListIter i2 l2 (k2 + 1)->IsPair h' s.heap.objs.size x y->h'.objs.size=s.heap.objs.size + 1->(∀ c o,c ≠ z->c ≠ i1->c ≠ i2->s.heap.get? c=some o->h'.get? c=some o) ->
   Q (.ref s.heap.objs.size) { s with heap:=h' }) :
  wpAny (model prog w) A (Builtin.«zip.__next__» { pos:=[.ref z] }) (fun fin s'=>∃ v,fin=.done (.ret v)/\Q v s') E s:=by
 unfold Builtin.«zip.__next__»;refine wpAny_bind (wpAny_pure ?_);dsimp only;refine wpAny_bind (wpAny_field hz rfl rfl ?_);refine wpAny_bind (wpAny_field hz rfl rfl ?_);refine wpAny_bind (wpAny_seqItems hTI rfl ?_);refine wpAny_ite_split (fun h=>absurd h (by simp)) fun _=>?_;refine wpAny_bind (_qe8 hz hT fun h0 hz0 hsz0 hk0=>?_);refine wpAny_ite_split (fun h=>absurd h (by simp)) fun _=>?_;have h10:h0.IsListIter i1 l1 k1:=h1.at fun o e=>by rw [hk0 _ ap.i1z]; exact e
 have h20:h0.IsListIter i2 l2 k2:=h2.at fun o e=>by rw [hk0 _ ap.i2z]; exact e
 have hl10:h0.IsList l1 xs:=hl1.at fun o e=>by rw [hk0 _ ap.l1z]; exact e
 have hl20:h0.IsList l2 ys:=hl2.at fun o e=>by rw [hk0 _ ap.l2z]; exact e
 refine wpAny_bind ?_;rw [<- Array.forIn_toList];show wpAny _ _ (forIn [Value.ref i1,Value.ref i2] _ _) _ _ _;rw [forIn_cons];refine wpAny_bind (wpAny_bind (wpAny_holding ?_));change wpAny _ _ (if _=true then _ else (Builtin.SmallTypes.nextOf (.ref i1) >>= fun v=>pure (some v))) _ _ _;refine wpAny_ite_split (fun h=>(Bool.false_ne_true h).elim) fun _=>?_;refine wpAny_bind (wpAny_nextOf_list_item (s:={ s with heap:=h0 }) h10 hl10 hx fun hA itA sbA=>wpAny_pure ?_);refine wpAny_pure ?_;show wpAny _ _ (forIn [Value.ref i2] _ _) _ _ _;rw [forIn_cons];have hkA:∀ c,c ≠ i1->hA.get? c=h0.get? c:=fun c hc=>sbA.2 c hc;have h2A:hA.IsListIter i2 l2 k2:=h20.at fun o e=>by rw [hkA _ ap.i12.symm]; exact e
 have hl2A:hA.IsList l2 ys:=hl20.at fun o e=>by rw [hkA _ ap.l2i1]; exact e
 refine wpAny_bind (wpAny_bind (wpAny_holding ?_));change wpAny _ _ (if _=true then _ else (Builtin.SmallTypes.nextOf (.ref i2) >>= fun v=>pure (some v))) _ _ _;refine wpAny_ite_split (fun h=>(Bool.false_ne_true h).elim) fun _=>?_;refine wpAny_bind (wpAny_nextOf_list_item (s:={ s with heap:=hA }) h2A hl2A hy fun hB itB sbB=>wpAny_pure ?_);refine wpAny_pure ?_;show wpAny _ _ (forIn ([]:List Value) _ _) _ _ _;rw [List.forIn_nil];refine wpAny_pure ?_;have hkB:∀ c,c ≠ i2->hB.get? c=hA.get? c:=fun c hc=>sbB.2 c hc;refine wpAny_bind (wpAny_newTuple ?_ (by simp [sizeLine_eq]));refine wpAny_pure ⟨_,rfl,?_⟩;have hsz:hB.objs.size=s.heap.objs.size:=by
  have a1:=sbA.1;have a2:=sbB.1;rw [a2,a1]; exact hsz0
 rw [hsz];have all:∀ c,c ≠ z->c ≠ i1->c ≠ i2->hB.get? c=s.heap.get? c:=fun c c1 c2 c3=>by rw [hkB c c3,hkA c c2,hk0 c c1]
 have ltz:z < s.heap.objs.size:=Heap.lt_size hz;have lt1:i1 < s.heap.objs.size:=let ⟨o,ho,_⟩:=h1; Heap.lt_size ho;have lt2:i2 < s.heap.objs.size:=let ⟨o,ho,_⟩:=h2; Heap.lt_size ho;have np:∀ c,c < s.heap.objs.size->∀ o,(hB.push o).get? c=hB.get? c:=fun c hc o=>Heap.get?_push_ne _ _ _ (by rw [hsz]; exact ne_of_lt hc);refine hQ _ ?_ ?_ ?_ ?_ ?_ ?_
 ·unfold _qtz
  rw [np z ltz,hkB z ap.i2z.symm,hkA z ap.i1z.symm];exact hz0
 ·exact itA.at fun o e=>by
   rw [np i1 lt1,hkB i1 ap.i12]; exact e
 ·exact itB.at fun o e=>by rw [np i2 lt2]; exact e
 ·rw [<- hsz]
  exact Heap.get?_push_size _ rfl
 ·rw [Heap.size_push,hsz]
 ·intro c o c1 c2 c3 e
  rw [np c (Heap.lt_size e),all c c1 c2 c3];exact e
end
end SortW
namespace SortW
open PySem PySem.W PyProof.Rows
section
variable {prog:Program} {w:World} {A:Around} {E:Value->Shared->Prop} {s:Shared}
theorem _Wd {z TI TO i1 i2 l1 l2 T:Addr} {fb:Bool} {oT:Obj} {k1:Nat} {xs:Array Value} {Q:PySem.Fin->Shared->Prop} (hh:A.handled=none) (ap:ZipApart z TI TO i1 i2 l1 l2) (hz:_qtz s.heap z TI TO T fb) (hT:s.heap.get? T=some oT)
  (hTI:IsPair s.heap TI (.ref i1) (.ref i2)) (h1:s.heap.IsListIter i1 l1 k1) (hl1:s.heap.IsList l1 xs) (hx:xs[k1]?=none)
  (hE:∀ (h':Heap) (e:Addr),(∀ c o,c ≠ z->c ≠ i1->s.heap.get? c=some o->h'.get? c=some o)->(∃ o,h'.get? e=some o/\o.cls=.type "StopIteration")->E (.ref e) { s with heap:=h' }) :
  wpAny (model prog w) A (Builtin.«zip.__next__» { pos:=[.ref z] }) Q E s:=by
 unfold Builtin.«zip.__next__»;refine wpAny_bind (wpAny_pure ?_);dsimp only;refine wpAny_bind (wpAny_field hz rfl rfl ?_);refine wpAny_bind (wpAny_field hz rfl rfl ?_);refine wpAny_bind (wpAny_seqItems hTI rfl ?_);refine wpAny_ite_split (fun h=>absurd h (by simp)) fun _=>?_;refine wpAny_bind (_qe8 hz hT fun h0 hz0 hsz0 hk0=>?_);refine wpAny_ite_split (fun h=>absurd h (by simp)) fun _=>?_;have h10:h0.IsListIter i1 l1 k1:=h1.at fun o e=>by rw [hk0 _ ap.i1z]; exact e
 have hl10:h0.IsList l1 xs:=hl1.at fun o e=>by rw [hk0 _ ap.l1z]; exact e
 refine wpAny_bind ?_;rw [<- Array.forIn_toList];show wpAny _ _ (forIn [Value.ref i1,Value.ref i2] _ _) _ _ _;rw [forIn_cons];refine wpAny_bind (wpAny_bind (wpAny_holding ?_));change wpAny _ _ (if _=true then _ else (Builtin.SmallTypes.nextOf (.ref i1) >>= fun v=>pure (some v))) _ _ _;refine wpAny_ite_split (fun h=>(Bool.false_ne_true h).elim) fun _=>?_;refine wpAny_bind (wpAny_nextOf_list_end (s:={ s with heap:=h0 }) hh h10 hl10 hx fun hA e ex st=>?_);exact hE hA e (fun c o c1 c2 q=>ex c o c2 (by rw [hk0 c c1]; exact q)) st
theorem _qek:isSubtype (.type "StopIteration") (.type "StopIteration")=pure true:=by rw [isSubtype_type]; kernel_rfl
theorem _Zt {z:Addr} {Q:Option Value->Shared->Prop} (ht:s.TypeIs (.ref z) "zip")
  (h:wpAny (model prog w) A.in1 (Builtin.«zip.__next__» { pos:=[.ref z] }) (fun fin s'=>∃ v,fin=.done (.ret v)/\Q (some v) s') (fun e s'=>s'.TypeIs e "StopIteration"/\Q none s') s) :
  wpAny (model prog w) A (pyNext (.ref z)) Q E s:=by
 unfold pyNext;refine wpAny_bind (wpAny_attempt (wpAny_callSpecial?_slot (name:=Str.ofString "__next__") ht F.slot_zip_next (wpAny_call_entry F.slot_zip_next ht F.entry_zip_next ?_ (F.args_zip_next_1 _))));refine wpAny_mono h (fun fin s' hq=>?_) (fun e s' hq=>?_)
 ·obtain ⟨v,rfl,hq⟩:=hq
  exact ⟨v,rfl,wpAny_pure hq⟩
 ·obtain ⟨t,hq⟩:=hq
  refine wpAny_bind (wpAny_isInstance (T:="StopIteration") (b:=true) t _qek ?_);exact wpAny_pure hq
end
end SortW
namespace SortW
open PySem PySem.W PyProof.Rows
section
variable {prog:Program} {w:World} {A:Around} {E:Value->Shared->Prop} {s:Shared}
theorem _Yr:typeLookup (.type "zip") "__len__"=pure none:=by rw [typeLookup_type,builtinLookup_eq_fast]; kernel_rfl
theorem _Kv:typeLookup (.type "zip") "__length_hint__"=pure none:=by rw [typeLookup_type,builtinLookup_eq_fast]; kernel_rfl
theorem _qka {r:Addr} {Q:Bool->Shared->Prop} (hT:s.TypeIs (.ref r) "zip") (h:Q true s):wpAny (model prog w) A (Builtin.List.listLengthHint (.ref r)) Q E s:=by
 unfold Builtin.List.listLengthHint;refine wpAny_bind (wpAny_specialOf hT _Yr ?_);dsimp only;refine wpAny_ite_split (fun hab=>absurd hab (by decide)) (fun _=>?_);refine wpAny_ite_split (fun hab=>absurd hab (by decide)) (fun _=>?_);refine wpAny_bind (wpAny_specialOf hT _Kv ?_);exact wpAny_pure h
theorem _qch {a b:Addr} {n:Nat} (h1:n > a) (h2:n <= b):b ≠ a:=fun e=>absurd h1 (Nat.not_lt.mpr (e ▸ h2))
structure ZSt (h:Heap) (z TI TO i1 i2 l1 l2 S:Addr) (xs ys:Array Value) (N0:Nat) (Ts:List Addr) (c:Nat):Prop where
 zs:(Ts=[]/\IsZip h z TI TO .none/\∃ a b,IsPair h TO a b) \/ (∃ T fb oT,_qtz h z TI TO T fb/\h.get? T=some oT/\N0 <= T)
 ti:IsPair h TI (.ref i1) (.ref i2)
 a1:h.IsListIter i1 l1 Ts.length
 a2:h.IsListIter i2 l2 Ts.length
 la1:h.IsList l1 xs
 la2:h.IsList l2 ys
 ls:h.get? S=some { cls:=.type "list",data:=.seq (Ts.map Value.ref).toArray c }
 tup:∀ (j:Nat) (T:Addr),Ts[j]?=some T->N0 <= T/\∃ x y,xs[j]?=some x/\ys[j]?=some y/\IsPair h T x y
theorem ZSt.type {h:Heap} {z TI TO i1 i2 l1 l2 S:Addr} {xs ys:Array Value} {N0:Nat} {Ts:List Addr} {c:Nat} (q:ZSt h z TI TO i1 i2 l1 l2 S xs ys N0 Ts c) (hs:s.heap=h):s.TypeIs (.ref z) "zip":=by
 subst hs;rcases q.zs with ⟨_,h,_⟩ | ⟨T,fb,oT,h,_⟩
 ·exact ⟨_,h,rfl⟩
 ·exact ⟨_,h,rfl⟩
theorem _qkj {z TI TO i1 i2 l1 l2 S:Addr} {xs ys:Array Value} {N0 n:Nat} {res:Value} {R:Result->Shared->Prop} (hh:A.handled=none) (ap:ZipApart z TI TO i1 i2 l1 l2) (hxs:xs.size=n) (hys:ys.size=n) (hn:n <= 1000) (h1n:1 <= n)
  (hS:S ≠ z/\S ≠ TI/\S ≠ TO/\S ≠ i1/\S ≠ i2/\S ≠ l1/\S ≠ l2) (hlt:N0 > z/\N0 > TO/\N0 > i1/\N0 > i2/\N0 > S) :
  ∀ (k:Nat) (s:Shared) (Ts:List Addr) (c:Nat),n - Ts.length=k->Ts.length <= n->N0 <= s.heap.objs.size->ZSt s.heap z TI TO i1 i2 l1 l2 S xs ys N0 Ts c ->
  (∀ (h':Heap) (Ts':List Addr) (c':Nat),Ts'.length=n->h'.get? S=some { cls:=.type "list",data:=.seq (Ts'.map Value.ref).toArray c' }->(∀ (j:Nat) (T:Addr),Ts'[j]?=some T->N0 <= T/\∃ x y,xs[j]?=some x/\ys[j]?=some y/\IsPair h' T x y)->(∀ b o,b ∉ [S,z,TO,i1,i2]->s.heap.get? b=some o->h'.get? b=some o)->R (.ok (.ret res)) { s with heap:=h' }) ->
  codeAny (model prog w) A (.builtin "list.extend.loop" ⟨[.ref S,.ref z,res],[]⟩) R s:=by
 intro k
 induction k with
 | zero =>
  intro s Ts c hk hle hsz q hR;have hTn:Ts.length=n:=by omega
  refine codeAny_builtin F.entry_extend_loop ?_;rw [Around.under_plainId PySem.F.plain_extend_loop _];show wpAny _ A.in1 (pyNext (.ref z) >>= _) _ _ s;refine wpAny_bind (_Zt (A:=A.in1) (q.type rfl) ?_);have hx:xs[Ts.length]?=none:=by simp [hTn,hxs]
  rcases q.zs with ⟨e,_⟩ | ⟨T,fb,oT,hz,hT,hNT⟩
  ·subst e; simp at hTn; omega
  ·refine _Wd (A:=A.in1.in1) hh ap hz hT q.ti q.a1 q.la1 hx fun h' e hk' st=>⟨?_,?_⟩
   ·obtain ⟨o,ho,hc⟩:=st
    exact ⟨o,ho,hc⟩
   ·refine wpAny_pure ?_
    refine hR h' Ts c hTn (hk' S _ hS.1 hS.2.2.2.1 q.ls) (fun j T' hj=>?_) (fun b o hb e=>hk' b o (fun z=>hb (by simp [z])) (fun z=>hb (by simp [z])) e);obtain ⟨g1,x,y,g2,g3,g4⟩:=q.tup j T' hj;exact ⟨g1,x,y,g2,g3,hk' T' _ (_qch hlt.1 g1) (_qch hlt.2.2.1 g1) g4⟩
 | succ k ih =>
  intro s Ts c hk hle hsz q hR;have hlt':Ts.length < n:=by omega
  obtain ⟨x,hx⟩:∃ x,xs[Ts.length]?=some x:=⟨xs[Ts.length]'(by omega),by simp [hxs,hlt']⟩;obtain ⟨y,hy⟩:∃ y,ys[Ts.length]?=some y:=⟨ys[Ts.length]'(by omega),by simp [hys,hlt']⟩;refine codeAny_builtin F.entry_extend_loop ?_;rw [Around.under_plainId PySem.F.plain_extend_loop _];show wpAny _ A.in1 (pyNext (.ref z) >>= _) _ _ s;refine wpAny_bind (_Zt (A:=A.in1) (q.type rfl) ?_);have step:∀ h':Heap,(∃ T fb oT,_qtz h' z TI TO T fb/\h'.get? T=some oT/\N0 <= T)->h'.IsListIter i1 l1 (Ts.length + 1)->h'.IsListIter i2 l2 (Ts.length + 1)->IsPair h' s.heap.objs.size x y->h'.objs.size=s.heap.objs.size + 1 ->
    (∀ b o,b ≠ z->b ≠ TO->b ≠ i1->b ≠ i2->s.heap.get? b=some o->h'.get? b=some o) ->
    wpAny (model prog w) A.in1 (match some (Value.ref s.heap.objs.size) with | none=>ret res | some x=>do Builtin.List.listUpdate (.ref S) fun x_1=>x_1.push x; again (.builtin "list.extend.loop" ⟨[.ref S,.ref z,res],[]⟩)) (fun fin s'=>match fin with | .done f=>R (.ok f) s' | .again c'=>c'.quiet=true/\codeAny (model prog w) A c' R s') (fun e s'=>R (.error e) s') { s with heap:=h' }:=by
   intro h' hzs b1 b2 bp bsz bk;have hS':h'.get? S=some { cls:=.type "list",data:=.seq (Ts.map Value.ref).toArray c }:=bk S _ hS.1 hS.2.2.1 hS.2.2.2.1 hS.2.2.2.2.1 q.ls;refine wpAny_bind (listUpdate_at (s:={ s with heap:=h' }) hS' rfl ?_ (by simp [sizeLine_eq]; omega) (by simp [sizeLine_eq]; omega));refine wpAny_pure ⟨plainId_quiet PySem.F.plain_extend_loop _,?_⟩;have oth:∀ b,b ≠ S->(h'.update S (Obj.mapSeq fun a=>a.push (.ref s.heap.objs.size))).get? b=h'.get? b:=fun b hb=>Heap.get?_update_other _ _ (Ne.symm hb);obtain ⟨c2,hS2⟩:∃ c2,(h'.update S (Obj.mapSeq fun a=>a.push (.ref s.heap.objs.size))).get? S=some { cls:=.type "list",data:=.seq ((Ts++[s.heap.objs.size]).map Value.ref).toArray c2 }:=by
    have e:((Ts++[s.heap.objs.size]).map Value.ref).toArray=(Ts.map Value.ref).toArray.push (.ref s.heap.objs.size):=by simp
    rw [e];exact ⟨_,get?_update_seq (n:=c) hS' fun a=>a.push (.ref s.heap.objs.size)⟩
   have sel:S ≠ s.heap.objs.size:=(_qch hlt.2.2.2.2 hsz).symm;refine ih _ (Ts++[s.heap.objs.size]) c2 (by simp; omega) (by simp; omega) (by show N0 <= (h'.update S _).objs.size; rw [Heap.size_update,bsz]; omega) ⟨.inr ?_,?_,?_,?_,?_,?_,?_,fun j T hj=>?_⟩ fun h2 Ts2 c3 hl hs2 ht2 hk2=>?_
   ·obtain ⟨T,fb,oT,g1,g2,g3⟩:=hzs
    exact ⟨T,fb,oT,by unfold _qtz at *; rw [oth z hS.1.symm]; exact g1,by rw [oth T (_qch hlt.2.2.2.2 g3)]; exact g2,g3⟩
   ·rw [IsPair,oth TI hS.2.1.symm]
    exact bk TI _ ap.TIz ap.TITO ap.TIi1 ap.TIi2 q.ti
   ·simpa using b1.at fun o e=>by rw [oth i1 hS.2.2.2.1.symm]; exact e
   ·simpa using b2.at fun o e=>by rw [oth i2 hS.2.2.2.2.1.symm]; exact e
   ·exact q.la1.at fun o e=>by rw [oth l1 hS.2.2.2.2.2.1.symm]; exact bk l1 o ap.l1z ap.l1TO ap.l1i1 ap.l1i2 e
   ·exact q.la2.at fun o e=>by rw [oth l2 hS.2.2.2.2.2.2.symm]; exact bk l2 o ap.l2z ap.l2TO ap.l2i1 ap.l2i2 e
   ·exact hS2
   ·by_cases hj':j < Ts.length
    ·rw [List.getElem?_append_left hj'] at hj
     obtain ⟨g1,x,y,g2,g3,g4⟩:=q.tup j T hj;refine ⟨g1,x,y,g2,g3,?_⟩;rw [IsPair,oth T (_qch hlt.2.2.2.2 g1)];exact bk T _ (_qch hlt.1 g1) (_qch hlt.2.1 g1) (_qch hlt.2.2.1 g1) (_qch hlt.2.2.2.1 g1) g4
    ·have:j=Ts.length:=by
      have:=(List.getElem?_eq_some_iff.mp hj).1
      simp at this; omega
     subst this;have hT:T=s.heap.objs.size:=by simpa using hj.symm
     subst hT;exact ⟨hsz,x,y,hx,hy,by rw [IsPair,oth _ sel.symm]; exact bp⟩
   ·refine hR h2 Ts2 c3 hl hs2 ht2 fun b o hb e=>hk2 b o hb ?_
    simp only [mem_cons,not_mem_nil,or_false,not_or] at hb;show (h'.update S _).get? b=some o;rw [oth b hb.1];exact bk b o hb.2.1 hb.2.2.1 hb.2.2.2.1 hb.2.2.2.2 e
  rcases q.zs with ⟨e,hz,a,b,hTO⟩ | ⟨T,fb,oT,hz,hT,hNT⟩
  ·refine zip_next_item (A:=A.in1.in1) ap hz q.ti hTO q.a1 q.a2 q.la1 q.la2 hx hy fun h' z1 z2 z3 z4 z5 z6 z7=>?_
   exact step h' ⟨s.heap.objs.size,false,_,z1,z5,hsz⟩ z3 z4 z5 z6 fun b o b1 b2 b3 b4 e=>z7 b o b1 b2 b3 b4 e
  ·refine _qim (A:=A.in1.in1) ap hz hT q.ti q.a1 q.a2 q.la1 q.la2 hx hy fun h' z1 z3 z4 z5 z6 z7=>?_
   exact step h' ⟨T,true,oT,z1,z7 T oT (_qch hlt.1 hNT) (_qch hlt.2.2.1 hNT) (_qch hlt.2.2.2.1 hNT) hT,hNT⟩ z3 z4 z5 z6 fun b o b1 b2 b3 b4 e=>z7 b o b1 b3 b4 e
end
end SortW
namespace SortW
open PySem PySem.W PyProof.Rows
section
variable {prog:Program} {w:World} {A:Around} {E:Value->Shared->Prop} {s:Shared}
structure ZNew (h:Heap) (z TI TO i1 i2 l1 l2:Addr) (xs ys:Array Value):Prop where
 zs:IsZip h z TI TO .none
 ti:IsPair h TI (.ref i1) (.ref i2)
 to:∃ a b,IsPair h TO a b
 a1:h.IsListIter i1 l1 0
 a2:h.IsListIter i2 l2 0
 la1:h.IsList l1 xs
 la2:h.IsList l2 ys
theorem _qco {z TI TO i1 i2 l1 l2:Addr} {xs ys:Array Value} {n:Nat} (hh:A.handled=none) (ap:ZipApart z TI TO i1 i2 l1 l2) (q:ZNew s.heap z TI TO i1 i2 l1 l2 xs ys) (hxs:xs.size=n) (hys:ys.size=n) (hn:n <= 1000) (h1n:1 <= n) {Q:List Value->Shared->Prop}
  (h:∀ (h':Heap) (Ts:List Addr),Ts.length=n->(∀ (j:Nat) (T:Addr),Ts[j]?=some T->s.heap.objs.size <= T/\∃ x y,xs[j]?=some x/\ys[j]?=some y/\IsPair h' T x y)->s.heap.objs.size < h'.objs.size->(∀ b o,b ∉ [z,TO,i1,i2]->s.heap.get? b=some o->h'.get? b=some o)->Q (Ts.map Value.ref) { s with heap:=h' }) :
  wpAny (model prog w) A (collect (.ref z)) Q E s:=by
 have ltz:z < s.heap.objs.size:=Heap.lt_size q.zs;have ltTI:TI < s.heap.objs.size:=Heap.lt_size q.ti;have ltTO:TO < s.heap.objs.size:=let ⟨a,b,h⟩:=q.to; Heap.lt_size h;have lt1:i1 < s.heap.objs.size:=let ⟨o,ho,_⟩:=q.a1; Heap.lt_size ho;have lt2:i2 < s.heap.objs.size:=let ⟨o,ho,_⟩:=q.a2; Heap.lt_size ho;have ltl1:l1 < s.heap.objs.size:=let ⟨o,ho,_⟩:=q.la1; Heap.lt_size ho;have ltl2:l2 < s.heap.objs.size:=let ⟨o,ho,_⟩:=q.la2; Heap.lt_size ho;unfold collect;refine wpAny_bind (wpAny_runValue (codeAny_builtin entry_proto_collect' ?_));rw [Around.under_plainId PySem.F.plain_proto_collect _];show wpAny _ A.in1 (newList [] >>= fun l=>again (.builtin "list.__iadd__" ⟨[l,.ref z],[]⟩)) _ _ s;refine wpAny_bind (wpAny_newObj_type ?_);refine wpAny_pure ⟨plainId_quiet PySem.F.plain_list_iadd _,codeAny_builtin entry_list_iadd' ?_⟩;rw [Around.under_plainId PySem.F.plain_list_iadd _];have hS₁:(s.heap.push { cls:=.type "list",data:=.seq ([]:List Value).toArray }).get? s.heap.objs.size=some { cls:=.type "list",data:=.seq #[] }:=Heap.get?_push_size _ rfl;show wpAny _ A.in1 (Builtin.List.listExtendWith (.ref s.heap.objs.size) (.ref z) (.ref s.heap.objs.size)) _ _ _;have kp:∀ b o,s.heap.get? b=some o->(s.heap.push { cls:=.type "list",data:=.seq ([]:List Value).toArray }).get? b=some o:=fun b o e=>Heap.get?_push_of_some _ e;have hz1:=kp _ _ q.zs;have tz:Shared.TypeIs { s with heap:=s.heap.push { cls:=.type "list",data:=.seq ([]:List Value).toArray } } (.ref z) "zip":=⟨_,hz1,rfl⟩;unfold Builtin.List.listExtendWith;refine wpAny_bind (wpAny_typeOf (T:="zip") tz ?_);have h1:Builtin.List.listSameRef (.ref s.heap.objs.size) (.ref z)=false:=by simp [Builtin.List.listSameRef]; exact ne_of_gt ltz
 simp only [h1,show (Value.type "zip" == Value.type "list")=false from by decide,show (Value.type "zip" == Value.type "tuple")=false from by decide,Bool.or_false,Bool.false_eq_true,if_false];refine wpAny_bind (wpAny_pyIter_zip hz1 ?_);refine wpAny_bind (wpAny_holding (_qka tz ?_));have hsz1:(s.heap.push { cls:=.type "list",data:=.seq ([]:List Value).toArray }).objs.size=s.heap.objs.size + 1:=Heap.size_push ..;have ne:∀ a:Addr,a < s.heap.objs.size->s.heap.objs.size ≠ a:=fun a h=>ne_of_gt h;have key:∀ (h1':Heap) (c₁:Nat),h1'.objs.size=s.heap.objs.size + 1->(∀ b o,s.heap.get? b=some o->h1'.get? b=some o)->h1'.get? s.heap.objs.size=some { cls:=.type "list",data:=.seq #[] c₁ } ->
   codeAny (model prog w) A (.builtin "list.extend.loop" ⟨[.ref s.heap.objs.size,.ref z,.ref s.heap.objs.size],[]⟩)
    (fun r s'=>match r with
     | .ok (.ret v)=>wpAny (model prog w) A (match v with
      | .ref a=>do
       let o <- load a
       match o.data with
       | .seq xs _=>pure xs.toList
       | _=>unsupported "internal:collect"
      | _=>unsupported "internal:collect") Q E s'
     | .ok _=>False
     | .error e=>E e s') { s with heap:=h1' }:=by
  intro h1' c₁ hsz hk1 hS1;refine _qkj (N0:=s.heap.objs.size + 1) (n:=n) (S:=s.heap.objs.size) hh ap hxs hys hn h1n ⟨ne _ ltz,ne _ ltTI,ne _ ltTO,ne _ lt1,ne _ lt2,ne _ ltl1,ne _ ltl2⟩ ⟨lt_succ_of_lt ltz,lt_succ_of_lt ltTO,lt_succ_of_lt lt1,lt_succ_of_lt lt2,lt_succ_self _⟩ (n - 0) _ [] c₁ rfl (zero_le _) (by show _ <= h1'.objs.size; omega)
   ⟨.inl ⟨rfl,hk1 _ _ q.zs,let ⟨a,b,h⟩:=q.to; ⟨a,b,hk1 _ _ h⟩⟩,hk1 _ _ q.ti,q.a1.at fun o e=>hk1 _ _ e,q.a2.at fun o e=>hk1 _ _ e,q.la1.at fun o e=>hk1 _ _ e,q.la2.at fun o e=>hk1 _ _ e,hS1,fun j T hj=>by simp at hj⟩ fun h2 Ts c2 hl hs2 ht2 hk2=>?_
  show wpAny _ A (load s.heap.objs.size >>= _) _ _ _;refine wpAny_bind (wpAny_load (s:={ s with heap:=h2 }) hs2 ?_);refine wpAny_pure (h h2 Ts hl (fun j T hj=>?_) (Heap.lt_size hs2) (fun b o hb e=>hk2 b o ?_ (hk1 b o e)))
  ·obtain ⟨g1,g2⟩:=ht2 j T hj
   exact ⟨Nat.le_of_succ_le g1,g2⟩
  ·simp only [mem_cons,not_mem_nil,or_false,not_or] at hb ⊢
   exact ⟨ne_of_lt (Heap.lt_size e),hb⟩
 refine wpAny_ite_split (fun _=>?_) (fun hab=>absurd rfl hab);refine wpAny_bind (wpAny_rule ?_);refine wpAny_bind ?_;show wpAny _ _ (updateSeq s.heap.objs.size (·.push .none) >>= fun _=>updateSeq s.heap.objs.size (·.pop)) _ _ _;refine wpAny_bind (wpAny_updateSeq hS₁ rfl ?_);have hS₂:=Heap.get?_update_self (Obj.mapSeq (·.push Value.none)) hS₁ rfl;refine wpAny_updateSeq (hz:=by seq_fits) hS₂ rfl ?_;have hS₃:=Heap.get?_update_self (Obj.mapSeq (·.pop)) hS₂ rfl;refine wpAny_pure ⟨plainId_quiet PySem.F.plain_extend_loop _,?_⟩;refine codeAny_mono (key _ _ ?_ (fun b o e=>?_) hS₃) fun q s' x=>x
 ·rw [Heap.size_update,Heap.size_update,hsz1]
 ·exact (Heap.get?_update_other _ _ (Ne.symm (ne_of_lt (Heap.lt_size e)))).trans ((Heap.get?_update_other _ _ (Ne.symm (ne_of_lt (Heap.lt_size e)))).trans (kp b o e))
end
end SortW
namespace SortW
open PySem PySem.W PyProof.Rows
section
variable {prog:Program} {w:World} {A:Around} {E:Value->Shared->Prop} {s:Shared}
theorem _Kw {a:Addr} {v:Value} {n:Nat} {P:PySem.Fin->Shared->Prop} (ho:s.heap.get? a=some (seqObj "list" #[v] n))
  (h:P (.done (.ret .none)) { s with heap:=sortedHeap s.heap a [v] #[v] }) :
  wpAny (model prog w) A (Builtin.«list.sort» { pos:=[Value.ref a] }) P E s:=by
 rw [list_sort_plain a];have ha:=Heap.lt_size ho;refine wpAny_bind (listItems_at ho rfl (wpAny_bind (listUpdate_at ho rfl ?_)));obtain ⟨e1,ho1⟩:∃ e1,(s.heap.update a (Obj.mapSeq fun _=>#[])).get? a=some (seqObj "list" #[] e1):=⟨_,get?_update_seq ho fun _=>#[]⟩;refine wpAny_bind (seqEpoch_at ho1 rfl (wpAny_bind (wpAny_newTuple (wpAny_bind (wpAny_newList (wpAny_holding ?_))))));have ho6:(((s.heap.update a (Obj.mapSeq fun _=>#[])).push (seqObj "tuple" #[v] 0)).push (seqObj "list" #[] 0)).get? a=some (seqObj "list" #[] e1):=by
  rw [Heap.get?_push_ne _ _ _ (by rw [size_push',Heap.size_update]; exact ne_of_lt (lt_succ_of_lt ha)),Heap.get?_push_ne _ _ _ (by rw [Heap.size_update]; exact ne_of_lt ha)];exact ho1
 have hsz:(#[v]:Array Value).size < 2:=by simp
 refine (?_:wpAny (model prog w) A (if (#[v]:Array Value).size < 2 then _ else _) P E { s with heap:=((s.heap.update a (Obj.mapSeq fun _=>#[])).push (seqObj "tuple" #[v] 0)).push (seqObj "list" #[] 0) });rw [if_pos hsz];refine wpAny_bind (wpAny_pure ?_);dsimp only;rw [if_pos hsz];refine wpAny_bind ?_;refine (?_:wpAny _ _ (pure ((),_)) _ _ _);refine wpAny_pure ?_;have hs:Array.map (fun x=>x.snd) (arrOf ((),SortSt.mk' general' (#[v].zip #[v]) #[] 7 none).snd)=#[v]:=by
  show Array.map (fun x=>x.snd) (#[v].zip #[v])=#[v]
  simp
 refine wpAny_bind (seqEpoch_at ho6 rfl ?_);refine wpAny_bind (listUpdate_at ho6 rfl ?_ (by simp) (by rw [hs]; simp [sizeLine_eq]));have hf:failedOf ((),SortSt.mk' general' (#[v].zip #[v]) #[] 7 none).snd=none:=rfl;simp only [hf,bne_self_eq_false,Bool.false_eq_true,if_false];refine wpAny_pure ?_;have hs':Array.map (fun x=>x.snd) (arrOf (SortSt.mk' general' (#[v].zip #[v]) #[] 7 none))=#[v]:=hs;rw [hs'];exact h
theorem _qnq:∀ {vs:List Value} {ps:List (Int × Int)},vs.length=ps.length->(∀ i,i < vs.length->_qct s.heap (vs.getD i .none) (ps.getD i (0,0)))->∃ fs,KatTups s.heap vs fs/\fs.length=vs.length/\∀ v∈fs,∃ k t,v=Value.int k t
 | [],[],_,_=>⟨[],KatTups.nil ..,rfl,by simp⟩
 | [],_ :: _,h,_=>by simp at h
 | _ :: _,[],h,_=>by simp at h
 | v :: vs,p :: ps,h,k=>by
  obtain ⟨fs,h1,h2,h3⟩:=_qnq (vs:=vs) (ps:=ps) (by simpa using h) fun i hi=>by have:=k (i + 1) (by simp; omega); simpa using this
  obtain ⟨x,o,n,t1,t2,e1,e2,e3,e4⟩:=k 0 (by simp);simp at e1;subst e1;exact ⟨_,KatTups.cons e2 e3 e4 (f:=Value.int p.1 t1) rfl h1,by simp [h2],fun v hv=>by
   rcases List.mem_cons.mp hv with rfl | hv
   ·exact ⟨_,_,rfl⟩
   ·exact h3 v hv⟩
theorem _qdv {vs:List Value} {ps:List (Int × Int)} {Q:SortKind->Shared->Prop} (h0:0 < vs.length) (hl:vs.length=ps.length) (hp:∀ i,i < vs.length->_qct s.heap (vs.getD i .none) (ps.getD i (0,0))) (h:Q (tuples' true) s):wpAny (model prog w) A (keyKind' vs.toArray) Q E s:=by
 obtain ⟨fs,h1,h2,h3⟩:=_qnq hl hp;refine kat_kind (T:=.type "int") h1 (by omega) (fun v hv=>?_) (by decide) h;obtain ⟨k,t,rfl⟩:=h3 v hv;exact Looks.of_pure rfl
theorem _qc5 {vs:List Value} {ps:List (Int × Int)} {p:Array Nat} (hl:vs.length=ps.length) (hn:ps.Nodup) (pa:PA vs.length p) (sp:SP (fun i j=>lexB (ps.getD i (0,0)) (ps.getD j (0,0))) p vs.length) :
  (p.toList.map fun i=>ps.getD i (0,0))=DL._Jp ps:=by
 have hp:p.toList.Perm (List.range vs.length):=by
  have:=pa
  unfold PA at this;exact Array.perm_iff_toList_perm.mp this
 refine DL._qkk hn ?_ ?_
 ·have e:ps=(List.range vs.length).map fun i=>ps.getD i (0,0):=by
   apply ext_getElem
   ·simp [hl]
   ·intro i h1 h2; simp [h1]
  conv=>rhs; rw [e]
  exact hp.map _
 ·have hs:p.size=vs.length:=by have:=hp.length_eq; simpa using this
  rw [List.pairwise_map,List.pairwise_iff_getElem];intro i j hi hj hij
  have:=sp i j hij (by simpa [hs] using hj)
  simp at hi hj;have a0:∀ k,(hk:k < p.size)->at0 p k=p.toList[k]'(by simpa using hk):=fun k hk=>by simp [at0,hk]
  rw [a0 i hi,a0 j hj] at this;exact this
end
end SortW
namespace SortW
open PySem PySem.W PyProof.Rows
section
variable {prog:Program} {w:World} {A:Around} {E:Value->Shared->Prop} {s:Shared}
theorem _qd9 {z TI TO i1 i2 l1 l2:Addr} {xs ys:Array Value} {ns ms:List Int} {Q:Value->Shared->Prop} (hh:A.handled=none) (ap:ZipApart z TI TO i1 i2 l1 l2) (q:ZNew s.heap z TI TO i1 i2 l1 l2 xs ys) (hx:IntsAre xs.toList ns) (hy:IntsAre ys.toList ms) (hl:ns.length=ms.length) (h1:1 <= ns.length) (h64:ns.length < 64) (hnd:(ns.zip ms).Nodup)
  (h:∀ (D:Addr) (out:List Addr) (n:Nat) (h':Heap),s.heap.objs.size <= D->h'.get? D=some { cls:=.type "list",data:=.seq (out.map Value.ref).toArray n }->out.length=(DL._Jp (ns.zip ms)).length->(∀ j (hj:j < out.length),s.heap.objs.size <= out[j]/\D ≠ out[j]/\_qct h' (.ref out[j]) ((DL._Jp (ns.zip ms)).getD j (0,0)))->(∀ b o,b ∉ [z,TO,i1,i2]->s.heap.get? b=some o->h'.get? b=some o)->Q (.ref D) { s with heap:=h' }) :
  wpAny (model prog w) A (call (.builtin "sorted") [.ref z]) Q E s:=by
 have hxl:=hx.length;have hyl:=hy.length;have hxs:xs.size=ns.length:=by simpa using hxl
 have hys:ys.size=ns.length:=by rw [hl]; simpa using hyl
 refine Calls.call_function_entry kind_sorted plain_sorted entry_sorted (args_sorted1 _) ?_;unfold Builtin.«sorted»;refine wpAny_bind (m:=checkCount "sorted" 1 1 _) (wpAny_pure ?_);refine wpAny_bind (_qco (A:=A.in1) hh ap q hxs hys (by omega) h1 fun h1' Ts hTl hT hsz1 hk1=>?_);have hps:∀ i,i < Ts.length->_qct h1' ((Ts.map Value.ref).getD i .none) ((ns.zip ms).getD i (0,0)):=by
  intro i hi;obtain ⟨_,x,y,e1,e2,e3⟩:=hT i Ts[i] (by simp [hi]);have g1:xs.toList[i]?=some x:=by rw [getElem?_toList]; exact e1
  have g2:ys.toList[i]?=some y:=by rw [getElem?_toList]; exact e2
  obtain ⟨t1,f1⟩:∃ t,x=.int (ns.getD i 0) t:=by
   exact IntsAre.int_at hx i x g1
  obtain ⟨t2,f2⟩:∃ t,y=.int (ms.getD i 0) t:=by
   exact IntsAre.int_at hy i y g2
  refine ⟨Ts[i],_,0,t1,t2,by simp [hi],e3,rfl,?_⟩;subst f1 f2
  have:i < ns.length:=by omega
  have:i < ms.length:=by omega
  simp [*]
 have hzl:(ns.zip ms).length=ns.length:=by simp [hl]
 refine wpAny_bind (wpAny_newList ?_ (by rw [sizeLine_eq]; simp; omega));have hoL:(h1'.push (seqObj "list" (Ts.map Value.ref).toArray 0)).get? h1'.objs.size=some (seqObj "list" (Ts.map Value.ref).toArray 0):=Heap.get?_push_size _ rfl;have fin:∀ (out:List Addr),out.length=(DL._Jp (ns.zip ms)).length->(∀ j (hj:j < out.length),∃ i,∃ hi:i < Ts.length,out[j]=Ts[i]/\(DL._Jp (ns.zip ms)).getD j (0,0)=(ns.zip ms).getD i (0,0)) ->
   Q (.ref h1'.objs.size) { s with heap:=sortedHeap (h1'.push (seqObj "list" (Ts.map Value.ref).toArray 0)) h1'.objs.size (Ts.map Value.ref) (out.map Value.ref).toArray }:=by
  intro out ho hout;obtain ⟨e,he⟩:=sortedHeap_at (out:=(out.map Value.ref).toArray) hoL;have old:∀ b o,h1'.get? b=some o->(sortedHeap (h1'.push (seqObj "list" (Ts.map Value.ref).toArray 0)) h1'.objs.size (Ts.map Value.ref) (out.map Value.ref).toArray).get? b=some o:=fun b o hb=>by
   have hlt:=Heap.lt_size hb;rw [sortedHeap_old (ne_of_lt hlt) (by rw [size_push']; exact lt_succ_of_lt hlt)];exact Heap.get?_push_of_some _ hb
  refine h _ out e _ (le_of_lt hsz1) (by simpa [seqObj] using he) ho (fun j hj=>?_) (fun b o hb e=>old b o (hk1 b o hb e));obtain ⟨i,hi,e1,e2⟩:=hout j hj;obtain ⟨g1,_⟩:=hT i Ts[i] (by simp [hi]);obtain ⟨x,o,n,t1,t2,f1,f2,f3,f4⟩:=hps i hi;have ex:x=Ts[i]:=by simpa [hi] using f1.symm
  rw [e1,e2];refine ⟨g1,?_,⟨Ts[i],o,n,t1,t2,rfl,old _ _ (ex ▸ f2),f3,f4⟩⟩
  have:=Heap.lt_size f2
  rw [ex] at this;exact ne_of_gt this
 refine wpAny_bind (wpAny_holding (wpAny_call_entry slot_list_sort ⟨_,hoL,rfl⟩ entry_list_sort ?_ (args_list_sort _)))
 by_cases h2:2 <= ns.length
 ·refine _Kx (vs:=Ts.map Value.ref) hoL (by simp; omega) (by simp; omega) ?_
  generalize hh6:(((h1'.push (seqObj "list" (Ts.map Value.ref).toArray 0)).update h1'.objs.size (Obj.mapSeq fun _=>#[])).push (seqObj "tuple" (Ts.map Value.ref).toArray 0)).push (seqObj "list" #[] 0)=h6;have old6:∀ b o,h1'.get? b=some o->h6.get? b=some o:=fun b o hb=>by
   rw [<- hh6];refine Heap.get?_push_of_some _ (Heap.get?_push_of_some _ ?_);rw [Heap.get?_update_other _ _ (ne_of_gt (Heap.lt_size hb))];exact Heap.get?_push_of_some _ hb
  have hp6:∀ i,i < (Ts.map Value.ref).length->_qct h6 ((Ts.map Value.ref).getD i .none) ((ns.zip ms).getD i (0,0)):=fun i hi=>by
   obtain ⟨x,o,n,t1,t2,f1,f2,f3,f4⟩:=hps i (by simpa using hi);exact ⟨x,o,n,t1,t2,f1,old6 _ _ f2,f3,f4⟩
  have hvl:(Ts.map Value.ref).length=(ns.zip ms).length:=by simp [hTl,hl]
  refine _qdv (s:={ s with heap:=h6 }) (ps:=ns.zip ms) (by simp; omega) hvl hp6 ?_;have key:∀ i j,i < (Ts.map Value.ref).length->j < (Ts.map Value.ref).length->(ns.zip ms).getD i (0,0)=(ns.zip ms).getD j (0,0)->i=j:=fun i j hi hj e=>by
   rw [hvl] at hi hj;have e':(ns.zip ms)[i]=(ns.zip ms)[j]:=by
    rw [List.getD_eq_getElem?_getD,List.getD_eq_getElem?_getD,getElem?_eq_getElem hi,getElem?_eq_getElem hj] at e;exact e
   exact (List.getElem_inj hnd).mp e'
  have ord:=_qk1 (key:=fun i=>(ns.zip ms).getD i (0,0)) key;obtain ⟨pa,sp⟩:=_qlq ord (by simp; omega);refine _qeh (n:=(Ts.map Value.ref).length) (lt:=fun i j=>lexB ((ns.zip ms).getD i (0,0)) ((ns.zip ms).getD j (0,0))) (fun i j C hi hj hC=>_qhh hvl.symm hp6 i j C hi hj hC) _ (_qlr (by simp; omega)) ⟨rfl,rfl,_,rfl,wpAny_pure ⟨_,rfl,?_⟩⟩;generalize _qsj _ (kas_sort (Ts.map Value.ref).length)=p at pa sp;have hsl:=_qc5 hvl hnd pa sp;have hpl:p.toList.Perm (List.range (Ts.map Value.ref).length):=Array.perm_iff_toList_perm.mp pa;have hpb:∀ i∈p.toList,i < Ts.length:=fun i hi=>by
   have:=List.mem_range.mp (hpl.mem_iff.mp hi)
   simpa using this
  have eo:(p.toList.map fun i=>(Ts.map Value.ref).getD i .none)=(p.toList.map fun i=>Ts.getD i 0).map Value.ref:=by
   rw [map_map];apply map_congr_left;intro i hi
   have:=hpb i hi
   simp [this]
  rw [eo];refine fin _ (by rw [<- hsl]; simp) fun j hj=>?_;have hj':j < p.toList.length:=by simpa using hj
  have hb:=hpb p.toList[j] (getElem_mem hj');refine ⟨p.toList[j],hb,by simp only [getElem_map]; rw [List.getD_eq_getElem?_getD,getElem?_eq_getElem hb]; rfl,?_⟩;rw [<- hsl,List.getD_eq_getElem?_getD,getElem?_map,getElem?_eq_getElem hj'];rfl
 ·have hT1:Ts.length=1:=by omega
  obtain ⟨T,rfl⟩:∃ T,Ts=[T]:=by
   match Ts,hT1 with
   | [T],_=>exact ⟨T,rfl⟩
  refine _Kw (v:=.ref T) hoL ⟨_,rfl,wpAny_pure ⟨_,rfl,?_⟩⟩;have hp1:DL._Jp (ns.zip ms)=ns.zip ms:=by
   obtain ⟨p,hp⟩:∃ p,ns.zip ms=[p]:=by
    have:(ns.zip ms).length=1:=by omega
    match ns.zip ms,this with
    | [p],_=>exact ⟨p,rfl⟩
   rw [hp]; rfl
  refine fin [T] (by rw [hp1]; simp at hTl ⊢; omega) fun j hj=>⟨j,hj,rfl,by rw [hp1]⟩
end
end SortW
namespace DL
open PySem PySem.Spec PyProof.Rows L2
section
variable {X:Cx}
theorem _qgw {pins:List (Addr × Obj)} {σ:St} {H H':Hp} {s:Shared} {h':Heap} {t':Nat} (I:Inv X pins σ H s) (k:∀ b u,s.heap.get? b=some u->h'.get? b=some u) (same:∀ b u,H b=some u->H' b=some u)
  (hn:∀ b u,H' b=some u->H b=some u \/ s.heap.objs.size <= b/\ObjOk X.prog X.w H' h' b u):Inv X pins σ H' { s with heap:=h',toks:=t' }:=by
 refine I.un ⟨fun b u q _ _ _=>k b u q,fun b u q _ _ _=>⟨u.slots,k b u q⟩,fun b u q n _=>?_,fun b u q _=>⟨u,k b u q⟩,fun b xs q=>same _ _ q,fun b u xs q=>same _ _ q,fun b ps q=>⟨#[],by rw [same _ _ q]; simp⟩⟩ fun b u e=>?_
 ·cases e:H' b with
  | none=>rfl
  | some u' =>
   rcases hn b u' e with z | ⟨z,_⟩
   ·rw [n] at z; cases z
   ·exact absurd (Heap.lt_size q) (Nat.not_lt.mpr z)
 ·rcases hn b u e with z | ⟨_,z⟩
  ·exact (I.hok b u z).stay (fun c v _ q=>k c v q) (fun c q=>same _ _ q) fun c xs q=>same _ _ q
  ·exact z
open Classical in
noncomputable def _qsa (H:Hp) (out:List Addr) (ps:List (Int × Int)):Hp:=fun b=>if b∈out then some (.tup [.int (ps.getD (out.idxOf b) (0,0)).1,.int (ps.getD (out.idxOf b) (0,0)).2]) else H b
theorem _Jo {H:Hp} {out:List Addr} {ps:List (Int × Int)} {b:Addr} (h:b ∉ out):_qsa H out ps b=H b:=by unfold _qsa; rw [if_neg h]
theorem _Wg {H:Hp} {out:List Addr} {ps:List (Int × Int)} {b:Addr} (h:b∈out):_qsa H out ps b=some (.tup [.int (ps.getD (out.idxOf b) (0,0)).1,.int (ps.getD (out.idxOf b) (0,0)).2]):=by unfold _qsa; rw [if_pos h]
def OneP (out:List Addr) (ps:List (Int × Int)):Prop:=∀ j,(hj:j < out.length)->ps.getD (out.idxOf out[j]) (0,0)=ps.getD j (0,0)
theorem _W5 {a b:Expr} {ta:TA} {p p2 p3 pos:Pos} (hc:X.calm=true) (hg1:Gl X "sorted") (hg2:Gl X "zip") (hm1:X.mg "sorted"=none) (hm2:X.mg "zip"=none) (ha:PA X [a,b] ta) (hs:starEach [a,b] X.env=[(false,eval a X.env),(false,eval b X.env)]:=by rfl) (hs2:starEach [b] X.env=[(false,eval b X.env)]:=by rfl) :
  PE X (.Call (.Name "sorted" p) [.Call (.Name "zip" p2) [a,b] [] p3] [] pos) (fun σ H Q=>ta σ H fun vs H1=>∃ (l1 l2:Addr) (ns ms:List Int),vs=[.ref l1,.ref l2]/\SqL X.K H1 l1 (ns.map V.int)/\SqL X.K H1 l2 (ms.map V.int)/\ns.length=ms.length/\1 <= ns.length/\ns.length < 64/\(ns.zip ms).Nodup /\
   ∀ (D:Addr) (out:List Addr),H1 D=none->(∀ b∈out,H1 b=none)->D ∉ out->out.length=(_Jp (ns.zip ms)).length->OneP out (_Jp (ns.zip ms))->Q (.ref D) (upd (_qsa H1 out (_Jp (ns.zip ms))) D (.lst (out.map V.ref)))):=by
 intro pins s σ H Q I h;refine wpAny_Call_Name_kw (ld_blt I hg1 hm1 _kd ?_ (by decide) (by decide));refine callWith_builtin1 ?_ rfl rfl;show wpAny _ _ (spliced ((false,eval (.Call (.Name "zip" p2) [a,b] [] p3) X.env) :: backTo pos (starEach [] X.env))) _ _ s;refine Calls.spliced_cons ?_;refine wpAny_Call_Name_kw (ld_blt I hg2 hm2 _qnl ?_ (by decide) (by decide));refine PyProof.Rows.callWith_type1 (thn (ha p3 pins s σ H _ I h) fun us s1 hQ=>?_) (by rw [hs,hs2]) (by rw [hs2]; rfl);obtain ⟨vs,H1,I1,r1,l1,l2,ns,ms,ev,hq1,hq2,hl,h1,h64,hnd,q⟩:=hQ;subst ev;cases r1 with
 | cons r rr =>
  cases rr with
  | cons r' rr =>
   cases rr;cases r;cases r';obtain ⟨its1,rv1,p1,hz1⟩:=I1.list hq1;obtain ⟨its2,rv2,p2,hz2⟩:=I1.list hq2;have lt1:=_qlp I1 hq1;have lt2:=_qlp I1 hq2;refine call_zip_2 p1.isList p2.isList fun h' hz hTI hTO hi1 hi2 hsz hk=>?_;refine Calls.spliced_nil ?_;have ap:=_qlj s1.heap.objs.size l1 l2 lt1 lt2;refine SortW._qd9 (s:={ s1 with heap:=h' }) (xs:=its1.toArray) (ys:=its2.toArray) (ns:=ns) (ms:=ms) (I1.ok.hd hc) ap ⟨hz,hTI,⟨_,_,hTO⟩,hi1,hi2,p1.isList.at fun o e=>hk _ _ e,p2.isList.at fun o e=>hk _ _ e⟩ (by simpa using intsAre_of rv1) (by simpa using intsAre_of rv2) hl h1 h64 hnd fun D out n h2 hD hget hol hout hk2=>?_;have hle:s1.heap.objs.size <= D:=le_trans (by show s1.heap.objs.size <= h'.objs.size; omega) hD;have hleo:∀ b∈out,s1.heap.objs.size <= b/\D ≠ b:=fun b hb=>by
    obtain ⟨j,hj,rfl⟩:=getElem_of_mem hb;obtain ⟨g1,g2,_⟩:=hout j hj;exact ⟨le_trans (by show s1.heap.objs.size <= h'.objs.size; omega) g1,g2⟩
   have hDo:D ∉ out:=fun m=>(hleo D m).2 rfl;have one:OneP out (_Jp (ns.zip ms)):=fun j hj=>by
    have hm:out[j]∈out:=getElem_mem hj;have hi:out.idxOf out[j] < out.length:=List.idxOf_lt_length_of_mem hm;have e:out[out.idxOf out[j]]=out[j]:=List.getElem_idxOf hi;obtain ⟨_,_,x,o,k,t1,t2,f1,f2,f3,f4⟩:=hout j hj;obtain ⟨_,_,x',o',k',t1',t2',f1',f2',f3',f4'⟩:=hout (out.idxOf out[j]) hi;rw [e] at f1';have ex:x=x':=by rw [<- (Value.ref.inj f1),<- (Value.ref.inj f1')]
    subst ex;rw [f2] at f2'; cases f2';rw [f4] at f4';injection f4' with g1 g2;injection g1 with g1;injection g1 with g3 g4;injection g3 with g3 _;injection g4 with g4 _;injection g4 with g4 _;exact (Prod.ext g3 g4).symm
   have hH:∀ b,s1.heap.objs.size <= b->H1 b=none:=fun b hb=>I1.hok.fresh hb;have kk:∀ b u,s1.heap.get? b=some u->h2.get? b=some u:=fun b u e=>hk2 b u (fun hm=>by
    have hlt:=Heap.lt_size e;simp only [mem_cons,not_mem_nil,or_false] at hm;rcases hm with z | z | z | z <;> (rw [z] at hlt; exact absurd hlt (Nat.not_lt.mpr (by omega)))) (hk b u e)
   refine ⟨.ref D,_,(show L2.Inv X pins σ _ { s1 with heap:=h2 } from _qgw (s:=s1) (h':=h2) (t':=s1.toks) I1 kk (fun b u e=>?_) (fun b u e=>?_)),rfl,q D out (hH D hle) (fun b hb=>hH b (hleo b hb).1) hDo hol one⟩
   ·have nb:b ≠ D:=fun z=>by rw [z,hH D hle] at e; cases e
    have nm:b ∉ out:=fun z=>by rw [hH b (hleo b z).1] at e; cases e
    rw [upd_ne nb,_Jo nm]; exact e
   ·by_cases nb:b=D
    ·subst nb
     rw [upd_same] at e; cases e;refine .inr ⟨hle,by rw [length_map,hol,(_zn _).length_eq,sizeLine_eq]; simp; omega,out.map Value.ref,n,?_,hget⟩;clear hget hol hout hk2 hleo hDo one kk q
     induction out with
     | nil=>exact .nil
     | cons x xs ih=>exact .cons rfl ih
    ·rw [upd_ne nb] at e
     by_cases hm:b∈out
     ·rw [_Wg hm] at e; cases e
      have hi:out.idxOf b < out.length:=List.idxOf_lt_length_of_mem hm;have eb:out[out.idxOf b]=b:=List.getElem_idxOf hi;obtain ⟨_,_,x,o,k,t1,t2,f1,f2,f3,f4⟩:=hout (out.idxOf b) hi;rw [eb] at f1;have ex:x=b:=(Value.ref.inj f1).symm;subst ex;refine .inr ⟨(hleo _ hm).1,by simp [sizeLine_eq],_,.cons ⟨t1,rfl⟩ (.cons ⟨t2,rfl⟩ .nil),o,f2,f3,k,f4⟩
     ·rw [_Jo hm] at e
      exact .inl e
theorem _qdq {K:Frag} {F:Hp}:∀ {out:List Addr} {ps:List (Int × Int)},out.length=ps.length->(∀ j,(hj:j < out.length)->F out[j]=some (.tup [.int (ps.getD j (0,0)).1,.int (ps.getD j (0,0)).2]))->Reps K F (out.map V.ref) (ps.map _qgd)
 | [],[],_,_=>.nil
 | [],_ :: _,h,_=>by simp at h
 | _ :: _,[],h,_=>by simp at h
 | a :: out,p :: ps,h,k=>by
  refine .cons ?_ (_qdq (by simpa using h) fun j hj=>by have:=k (j + 1) (by simp; omega); simpa using this)
  have:=k 0 (by simp)
  exact .tup (SqT.of this) (.cons (.int _) (.cons (.int _) .nil))
theorem _Y7 {a b:Expr} {f:FA} {p p2 p3 pos:Pos} (hc:X.calm=true) (hg1:Gl X "sorted") (hg2:Gl X "zip") (hm1:X.mg "sorted"=none) (hm2:X.mg "zip"=none) (ha:DA X [a,b] f) (hs:starEach [a,b] X.env=[(false,eval a X.env),(false,eval b X.env)]:=by rfl) (hs2:starEach [b] X.env=[(false,eval b X.env)]:=by rfl) :
  DO X (.Call (.Name "sorted" p) [.Call (.Name "zip" p2) [a,b] [] p3] [] pos) (_qsw _Vr f):=by
 refine PE.imp (_W5 hc hg1 hg2 hm1 hm2 ha hs hs2) fun σ H Q q=>?_;obtain ⟨F,ρ,o,s,re,hf,kk⟩:=q;obtain ⟨zs,hf2,rfl⟩:=map_some hf;obtain ⟨ds,hd,hf⟩:=bind_some hf2;refine ⟨F,ρ,ds,s,re,hd,fun vs F1 H1 e1 r1=>?_⟩;unfold _Vr at hf;split at hf
 ·rename_i xs ys
  obtain ⟨ns,hns,hf⟩:=bind_some hf;obtain ⟨ms,hms,hf⟩:=bind_some hf;split at hf
  ·rename_i hcnd
   cases hf
   have:=_vt hns
   subst this
   have:=_vt hms
   subst this;cases r1 with
   | cons q1 r2 =>
    cases r2 with
    | cons q2 r3 =>
     cases r3;cases q1 with
     | lst g1 t1 =>
      cases q2 with
      | lst g2 t2 =>
       have hv1:=_jn t1;have hv2:=_jn t2;subst hv1 hv2;refine ⟨_,_,ns,ms,rfl,(_qsh e1.fh g1).l,(_qsh e1.fh g2).l,hcnd.1,hcnd.2.1,hcnd.2.2.1,hcnd.2.2.2,fun D out hD ho hDo hol one=>?_⟩;have hF:∀ b,H1 b=none->F1 b=none:=fun b hb=>e1.fh.free hb;have ntD:_qsa F1 out (_Jp (ns.zip ms)) D=F1 D:=_Jo hDo;have sFF:Same F1 (_qsa F1 out (_Jp (ns.zip ms))):=fun b u e=>by
        rw [_Jo (fun m=>by rw [hF b (ho b m)] at e; cases e)]; exact e
       have sFH:Same (_qsa F1 out (_Jp (ns.zip ms))) (upd (_qsa H1 out (_Jp (ns.zip ms))) D (.lst (out.map V.ref))):=fun b u e=>by
        have nb:b ≠ D:=fun z=>by rw [z,ntD,hF D hD] at e; cases e
        rw [upd_ne nb]
        by_cases m:b∈out
        ·rw [_Wg m] at e ⊢; exact e
        ·rw [_Jo m] at e ⊢; exact e1.fh b u e
       have sHH:Same H1 (upd (_qsa H1 out (_Jp (ns.zip ms))) D (.lst (out.map V.ref))):=fun b u e=>by
        have nb:b ≠ D:=fun z=>by rw [z,hD] at e; cases e
        rw [upd_ne nb,_Jo (fun m=>by rw [ho b m] at e; cases e)]; exact e
       have ex:Ext F1 H1 (_qsa F1 out (_Jp (ns.zip ms))) (upd (_qsa H1 out (_Jp (ns.zip ms))) D (.lst (out.map V.ref))):=⟨sFF,sFH,sHH,fun b u e=>by
        by_cases m:b∈out
        ·exact .inr (ho b m)
        ·rw [_Jo m] at e; exact .inl e⟩
       refine kk (.ref D) _ _ _ (e1.trans ex) (_W7 upd_same (_qdq hol fun j hj=>?_)) fun b z=>by
        subst z;exact ⟨by rw [ntD]; exact hF _ hD,e1.hh.free hD⟩
       rw [_Wg (getElem_mem hj),one j hj]
  ·cases hf
 ·cases hf
end
end DL
namespace DL
open PySem
end DL
namespace DL
open PySem PySem.Spec PyProof.Rows L2
section
variable {K:Frag} {F H:Hp}
end
section
variable {X:Cx} {i j:Nat} {S:List Bool}
end
end DL
namespace DL
open PySem PySem.Spec PyProof.Rows L2
theorem fsc {N P:List Str} {sc:Scope} (a:sc.kind=.function:=by rfl) (b:sc.isCoroutine=false:=by rfl) (c:sc.isGenerator=false:=by rfl) (d:N.Nodup:=by decide +kernel) (e:N.take P.length=P:=by rfl) (f:∀ x∈P,sc.names.lookup x=some .local \/ sc.names.lookup x=some .cell:=by decide +kernel) (g:∀ y∈sc.names,y.2 ≠ .free:=by decide +kernel):FnScope N P sc:=⟨a,b,c,d,e,f,g⟩
theorem hm {k n:Nat} {A:Around} (h:Room n A) (d:k <= n:=by decide):Room k A:=h.mono d
theorem pgc {X:Cx} {N':List Str} {scope:Scope} {cl:List (Str × Addr)} {C:Addr} {s₀:Shared} {H₀:Hp} {ex:List Addr} {pn:List (Addr × Obj)} (i:Nat) {x:Str} {pos:Pos} (hN:N'.Nodup:=by decide) (hi:N'[i]?=some x:=by rfl) (hx:Loc (_jh X N' scope cl C s₀ H₀ ex pn).env.scope x:=by first | exact .inl rfl | exact .inr rfl) (hf:(_jh X N' scope cl C s₀ H₀ ex pn).fn x=true \/ (_jh X N' scope cl C s₀ H₀ ex pn).env.scope.names.lookup x=some .local:=by first | exact .inl rfl | exact .inr rfl | assumption):PG (_jh X N' scope cl C s₀ H₀ ex pn) (.Name x pos) (gName i):=pg_name hN hi hx hf
end DL
namespace MB
open PySem DL
theorem _qfa {n k:Nat} (h:n < 2 ^ k) (hk:k <= 1000000):n < BIG:=by
 unfold BIG;exact lt_of_lt_of_le h (pow_le_pow_right (by decide) hk)
theorem _wj {n k:Nat} (h:n < 2 ^ k) (hk:k <= 9000):n < BIGD:=by
 unfold BIGD;exact lt_of_lt_of_le h (pow_le_pow_right (by decide) hk)
theorem _qpt (i:Int):(if i < 0 then -i else i)=(i.natAbs:Int):=by split <;> omega
theorem _qgr {a b m n:Nat} (h:a < 2 ^ m) (h':b < 2 ^ n):a * b < 2 ^ (m + n):=by
 rw [pow_add];exact Nat.mul_lt_mul_of_lt_of_lt h h'
theorem _qp7 {a b:Int} {k:Nat} (h:a.natAbs < 2 ^ k) (h':b.natAbs < 2 ^ k):Int.gcd a b < 2 ^ k:=by
 by_cases ha:a=0
 ·subst ha; rw [Int.gcd_zero_left]; exact h'
 ·have:Int.gcd a b ∣ a.natAbs:=Nat.gcd_dvd_left _ _
  exact lt_of_le_of_lt (Nat.le_of_dvd (by omega) this) h
def rng (n:Nat):Nat:=max 1 (min n 30)
def Sz (k:Nat) (v:Int):Prop:=v.natAbs < 2 ^ k
theorem Sz.mono {a b:Nat} {v:Int} (h:Sz a v) (hab:a <= b):Sz b v:=lt_of_lt_of_le h (pow_le_pow_right (by decide) hab)
theorem Sz.mul {a b:Nat} {x y:Int} (h:Sz a x) (h':Sz b y):Sz (a + b) (x * y):=by
 unfold Sz; rw [Int.natAbs_mul]; exact _qgr h h'
theorem Sz.add {a:Nat} {x y:Int} (h:Sz a x) (h':Sz a y):Sz (a + 1) (x + y):=by
 unfold Sz at *; rw [Nat.pow_succ]; omega
theorem Sz.sub {a:Nat} {x y:Int} (h:Sz a x) (h':Sz a y):Sz (a + 1) (x - y):=by
 unfold Sz at *; rw [Nat.pow_succ]; omega
theorem Sz.le {a:Nat} {x y:Int} (h:Sz a x) (h':y.natAbs <= x.natAbs):Sz a y:=lt_of_le_of_lt h' h
theorem Sz.big {a:Nat} {x:Int} (h:Sz a x) (ha:a <= 1000000):x.natAbs < BIG:=_qfa h ha
theorem Sz.one:Sz 1 1:=by show (1:Int).natAbs < 2 ^ 1; decide
theorem Sz.zero (k:Nat):Sz k 0:=Nat.pos_of_ne_zero (by simp)
def nf1 (t b:Int):Int:=t / (Int.gcd t b:Int)
def nf2 (t b:Int):Int:=b / (Int.gcd t b:Int)
section
variable {t b:Int}
theorem _Y1 (hb:0 < b):0 < (Int.gcd t b:Int):=by
 have:Int.gcd t b ≠ 0:=fun h=>by have:=(Int.gcd_eq_zero_iff.mp h).2; omega
 omega
theorem _qmm:nf1 t b * (Int.gcd t b:Int)=t:=Int.ediv_mul_cancel (Int.gcd_dvd_left t b)
theorem _qml:nf2 t b * (Int.gcd t b:Int)=b:=Int.ediv_mul_cancel (Int.gcd_dvd_right t b)
theorem _qov (hb:0 < b):(nf1 t b).natAbs <= t.natAbs:=by
 have h1:=congrArg Int.natAbs (_qmm (t:=t) (b:=b));rw [Int.natAbs_mul] at h1;rw [<- h1]
 have:=_Y1 (t:=t) hb
 exact Nat.le_mul_of_pos_right _ (by omega)
theorem _qou (hb:0 < b):(nf2 t b).natAbs <= b.natAbs:=by
 have h1:=congrArg Int.natAbs (_qml (t:=t) (b:=b));rw [Int.natAbs_mul] at h1;rw [<- h1]
 have:=_Y1 (t:=t) hb
 exact Nat.le_mul_of_pos_right _ (by omega)
end
def fr (p q:Int):D:=.tup [.int p,.int q]
def frD (a:Rat):D:=.tup [.int a.num,.int a.den]
theorem _qn1 {a b:Rat} (h:a.num=b.num) (h':(a.den:Int)=b.den):a=b:=Rat.ext h (by omega)
@[simp] theorem _qqk (a:Rat):imm (frD a)=true:=by simp [frD]
@[simp] theorem _qpz {n:Nat} (a:Rat):shp (n + 1) (frD a)=true:=by simp [frD]
theorem _qia (a b:Rat):eqD (frD a) (frD b)=decide (a=b):=by
 rw [Bool.eq_iff_iff];simp only [frD,eqD,_qtb,Bool.and_true,Bool.and_eq_true,beq_iff_eq,decide_eq_true_eq];exact ⟨fun ⟨h,h'⟩=>_qn1 h h',fun h=>by subst h; exact ⟨rfl,rfl⟩⟩
@[simp] theorem _qqy (a b:Rat):dEq (frD a) (frD b)=some (.bl (decide (a=b))):=by simp [dEq,_qia]
@[simp] theorem _qqv (a b:Rat):dNe (frD a) (frD b)=some (.bl (!decide (a=b))):=by simp [dNe,_qia]
theorem _qhz {t:Int} {b:Nat} (hb:b ≠ 0):nf1 t b=(Rat.normalize t b hb).num/\nf2 t b=((Rat.normalize t b hb).den:Int):=by
 rw [Rat.normalize_eq];unfold nf1 nf2;have e:Int.gcd t (b:Int)=t.natAbs.gcd b:=by simp [Int.gcd]
 rw [e];exact ⟨rfl,by rw [Int.natCast_ediv]⟩
theorem nf_mk {t:Int} {b:Nat} (hb:b ≠ 0):D.tup [.int (nf1 t b),.int (nf2 t b)]=frD (mkRat t b):=by
 obtain ⟨h1,h2⟩:=_qhz (t:=t) hb;rw [h1,h2,Rat.normalize_eq_mkRat]; rfl
theorem den_pos (a:Rat):0 < (a.den:Int):=by have:=a.den_pos; omega
theorem _qnt (a b:Rat):mkRat (a.num * b.den + b.num * a.den) (a.den * b.den)=a + b:=by rw [Rat.add_def,Rat.normalize_eq_mkRat]
theorem _qlo (a b:Rat):mkRat (a.num * b.den - b.num * a.den) (a.den * b.den)=a - b:=by rw [Rat.sub_def,Rat.normalize_eq_mkRat]
theorem _qmn (a b:Rat):mkRat (a.num * b.num) (a.den * b.den)=a * b:=by rw [Rat.mul_def,Rat.normalize_eq_mkRat]
def Bd (n d:Nat) (a:Rat):Prop:=a.num.natAbs < 2 ^ n/\a.den < 2 ^ d
theorem Bd.mono {n d n' d':Nat} {a:Rat} (h:Bd n d a) (hn:n <= n') (hd:d <= d'):Bd n' d' a:=⟨lt_of_lt_of_le h.1 (pow_le_pow_right (by decide) hn),lt_of_lt_of_le h.2 (pow_le_pow_right (by decide) hd)⟩
theorem Bd.num {n d:Nat} {a:Rat} (h:Bd n d a):Sz n a.num:=h.1
theorem Bd.den {n d:Nat} {a:Rat} (h:Bd n d a):Sz d (a.den:Int):=by show (a.den:Int).natAbs < 2 ^ d; rw [Int.natAbs_natCast]; exact h.2
theorem Bd.mk {n d:Nat} {t:Int} {b:Nat} (hb:b ≠ 0) (ht:Sz n t) (hd:b < 2 ^ d):Bd n d (mkRat t b):=by
 obtain ⟨h1,h2⟩:=_qhz (t:=t) hb;rw [Rat.normalize_eq_mkRat] at h1 h2;have hp:(0:Int) < b:=by omega
 refine ⟨?_,?_⟩
 ·rw [<- h1]; exact lt_of_le_of_lt (_qov hp) ht
 ·have:=_qou (t:=t) hp
  rw [h2] at this;omega
theorem Bd.add {n d m e:Nat} {a b:Rat} (ha:Bd n d a) (hb:Bd m e b):Bd (max (n + e) (m + d) + 1) (d + e) (a + b):=by
 rw [<- _qnt];refine Bd.mk (mul_ne_zero a.den_nz b.den_nz) ?_ (_qgr ha.2 hb.2);exact Sz.add ((ha.num.mul hb.den).mono (Nat.le_max_left _ _)) ((hb.num.mul ha.den).mono (Nat.le_max_right _ _))
theorem Bd.sub {n d m e:Nat} {a b:Rat} (ha:Bd n d a) (hb:Bd m e b):Bd (max (n + e) (m + d) + 1) (d + e) (a - b):=by
 rw [<- _qlo];refine Bd.mk (mul_ne_zero a.den_nz b.den_nz) ?_ (_qgr ha.2 hb.2);exact Sz.sub ((ha.num.mul hb.den).mono (Nat.le_max_left _ _)) ((hb.num.mul ha.den).mono (Nat.le_max_right _ _))
theorem Bd.mul {n d m e:Nat} {a b:Rat} (ha:Bd n d a) (hb:Bd m e b):Bd (n + m) (d + e) (a * b):=by
 rw [<- _qmn];exact Bd.mk (mul_ne_zero a.den_nz b.den_nz) (ha.num.mul hb.num) (_qgr ha.2 hb.2)
theorem Bd.zero:Bd 1 1 0:=⟨by decide,by decide⟩
def P17:Int:=10 ^ 17
theorem _qft:0 < P17:=by decide
theorem _qpv:P17 ≠ 0:=by decide
theorem pw17:dPow (.int 10) (.int 17)=some (.int P17):=by rfl
def P18:Int:=10 ^ 18
theorem _qby:0 < P18:=by decide
theorem _qnu:P18 ≠ 0:=by decide
theorem pw18:dPow (.int 10) (.int 18)=some (.int P18):=by rfl
end MB
namespace MB
open PySem DL
def ev {α:Type}:List α->List α
 | []=>[]
 | [x]=>[x]
 | x :: _ :: l=>x :: ev l
def od {α:Type}:List α->List α
 | []=>[]
 | [_]=>[]
 | _ :: y :: l=>y :: od l
theorem _qa0 {α:Type} (l:List α) (n:Nat):_qtm l none (some (n:Int))=l.take n:=by
 unfold _qtm slI;have h:¬ ((n:Int) < 0):=by omega
 simp only [h,if_false,Int.toNat_natCast,List.drop_zero,Nat.sub_zero]
 by_cases hl:n <= l.length
 ·rw [min_eq_left hl]
 ·rw [min_eq_right (by omega),take_of_length_le (le_refl _),take_of_length_le (by omega)]
theorem _qkv {α:Type} (l:List α) (n:Nat):_qtm l (some (n:Int)) none=l.drop n:=by
 unfold _qtm slI;have h:¬ ((n:Int) < 0):=by omega
 simp only [h,if_false,Int.toNat_natCast]
 by_cases hl:n <= l.length
 ·rw [min_eq_left hl,take_of_length_le (by simp)]
 ·rw [min_eq_right (by omega),drop_of_length_le (le_refl _),drop_of_length_le (by omega)]; simp
theorem _qkw {α:Type} (l:List α) (m n:Nat):_qtm l (some (m:Int)) (some (n:Int))=(l.take n).drop m:=by
 unfold _qtm slI;have h1:¬ ((m:Int) < 0):=by omega
 have h2:¬ ((n:Int) < 0):=by omega
 simp only [h1,h2,if_false,Int.toNat_natCast];rw [List.drop_take]
 by_cases hm:m <= l.length
 ·rw [min_eq_left hm]
  by_cases hn:n <= l.length
  ·rw [min_eq_left hn]
  ·rw [min_eq_right (by omega),take_of_length_le (by simp),take_of_length_le (by simp; omega)]
 ·have e:min m l.length=l.length:=min_eq_right (by omega)
  rw [e,drop_of_length_le (le_refl _),drop_of_length_le (by omega)]; simp
end MB
namespace MB
open PySem DL
abbrev _qu2:=Int × List Int
def _g (l:List Int):D:=.lst (l.map .int)
def _xy (p:_qu2):D:=.tup [.int p.1,_g p.2]
def _t (h:List _qu2):D:=.lst (h.map _xy)
@[simp] theorem _qo7 (l:List Int):imm (_g l)=false:=by simp [_g]
@[simp] theorem _qny {n:Nat} (l:List Int):shp (n + 1) (_g l)=true:=by simp [_g]
@[simp] theorem _qnx {n:Nat} (p:_qu2):shp (n + 2) (_xy p)=true:=by simp [_xy]
@[simp] theorem _qnz {n:Nat} (h:List _qu2):shp (n + 3) (_t h)=true:=by
 simp only [_t,_qho];exact _Wj.mpr fun d m=>by obtain ⟨p,_,rfl⟩:=List.mem_map.mp m; simp
@[simp] theorem _qo6 (p:_qu2):imm (_xy p)=false:=by simp [_xy]
@[simp] theorem _qo8 (h:List _qu2):imm (_t h)=false:=by simp [_t]
theorem _Vw (a b:List Int):eqD (_g a) (_g b)=decide (a=b):=by simp [_g,eqD,_qh4]
@[simp] theorem _qbn (a b:List Int):dEq (_g a) (_g b)=some (.bl (decide (a=b))):=by simp [dEq,_Vw]
@[simp] theorem _qo9 (a b:List Int):dNe (_g a) (_g b)=some (.bl (!decide (a=b))):=by simp [dNe,_Vw]
theorem _qh5 (p q:_qu2):eqD (_xy p) (_xy q)=decide (p=q):=by
 obtain ⟨a,l⟩:=p;obtain ⟨b,m⟩:=q;rw [Bool.eq_iff_iff];simp [_xy,eqD,_qtb,_Vw]
theorem _qey {α:Type} [DecidableEq α] {inj:α->D} (h:∀ a b,eqD (inj a) (inj b)=decide (a=b)):∀ (xs ys:List α),_qtb (xs.map inj) (ys.map inj)=decide (xs=ys)
 | [],[]=>by simp [_qtb]
 | [],_ :: _=>by simp [_qtb]
 | _ :: _,[]=>by simp [_qtb]
 | x :: xs,y :: ys=>by rw [Bool.eq_iff_iff]; simp [_qtb,h,_qey h xs ys]
theorem _qbi (h k:List _qu2):eqD (_t h) (_t k)=decide (h=k):=by
 simp only [_t,eqD];exact _qey _qh5 h k
@[simp] theorem _qh8 (a b:List _qu2):dEq (_t a) (_t b)=some (.bl (decide (a=b))):=by simp [dEq,_qbi]
@[simp] theorem _qoa (a b:List _qu2):dNe (_t a) (_t b)=some (.bl (!decide (a=b))):=by simp [dNe,_qbi]
def has (l:List Int) (c:Int):Bool:=l.contains c
theorem _j1 {l:List Int} {c:Int}:has l c=true ↔ c∈l:=by simp [has]
theorem _X2 (c:Int) (l:List Int):((l.map D.int).any fun y=>eqD y (.int c))=has l c:=by
 rw [Bool.eq_iff_iff,_j1];simp [any_eq_true,eqD]
@[simp] theorem _qpg (c:Int) (l:List Int):dIn (.int c) (_g l)=some (.bl (has l c)):=by
 have:=_X2 c l
 simp only [_g,dIn,this]; simp
@[simp] theorem _qle (c:Int) (l:List Int):_Q8 (.int c) (_g l)=some (.bl (!has l c)):=by
 have:=_X2 c l
 simp only [_g,_Q8,this]; simp
@[simp] theorem _qh7 (p:_qu2):dIx (_xy p) (.int 0)=some (.int p.1):=_qcn
@[simp] theorem _qod (p:_qu2):dIx (_xy p) (.int 1)=some (_g p.2):=_qku
theorem _Vu (l:List Int):oD (ow (l.map .int))=some (_g l):=by simp [_g]
def atB {α:Type} (p:α->Bool):Option α->Bool
 | some x=>p x
 | none=>false
@[simp] theorem _qmq (l:List Int):_kv (_g l)=some (l.map .int):=rfl
@[simp] theorem _qmr (h:List _qu2):_kv (_t h)=some (h.map _xy):=rfl
@[simp] theorem _qob (l:List Int):_qtg [_g l]=some (.int l.length):=by simp [_g]
@[simp] theorem _qoc (h:List _qu2):_qtg [_t h]=some (.int h.length):=by simp [_t]
@[simp] theorem _qo2 (l:List Int):_qsx "list" (_g l)=some (.bl true):=rfl
@[simp] theorem _qo3 (l:List _qu2):_qsx "list" (_t l)=some (.bl true):=rfl
@[simp] theorem _qo1 (l:_qu2):_qsx "tuple" (_xy l)=some (.bl true):=rfl
@[simp] theorem _qp4 (l:List Int):isT (_g l) "list"=true:=rfl
@[simp] theorem _qmu (l:List Int):_Zd [_g l]=some (l.map .int):=rfl
def _j7 (m s:List Int):Bool:=s.all fun c=>has m c
def agr (h:List _qu2) (s:List Int):List Int:=((List.range h.length).filter fun i=>atB (fun p:_qu2=>_j7 p.2 s) h[i]?).map fun (i:Nat)=>(i:Int)
theorem _qbj {α:Type} (inj:α->D) (h:List α):_qez (h.map inj)=((List.range h.length).zip h).map fun q=>.tup [.int (q.1:Int),inj q.2]:=by
 unfold _qez;rw [length_map];apply ext_getElem
 ·simp
 ·intro i h1 h2
  simp
theorem _qcw {α:Type} (p:α->Bool) (h:List α):((((List.range h.length).zip h).filter fun q=>p q.2).map fun q=>q.1)=(List.range h.length).filter fun i=>atB p h[i]?:=by
 have key:∀ (l:List Nat) (h':List α),(∀ i∈l,i < h.length)->(l.zip h').length=l.length->(∀ j (hj:j < l.length),h'[j]?=h[l[j]]?)->(((l.zip h').filter fun q=>p q.2).map fun q=>q.1)=l.filter fun i=>atB p h[i]?:=by
  intro l
  induction l with
  | nil=>intro h' _ _ _; simp
  | cons i l ih =>
   intro h' hl hlen hget;cases h' with
   | nil=>simp at hlen
   | cons x h' =>
    have h0:=hget 0 (by simp);simp at h0;have ih':=ih h' (fun j m=>hl j (mem_cons_of_mem _ m)) (by simpa using hlen) (fun j hj=>by have:=hget (j + 1) (by simpa using hj); simpa using this);have e:atB p h[i]?=p x:=by rw [<- h0]; rfl
    rw [List.zip_cons_cons,filter_cons,filter_cons];simp only [e];cases p x with
    | true=>simp [ih']
    | false=>simpa using ih'
 exact key (List.range h.length) h (fun i m=>List.mem_range.mp m) (by simp) (fun j hj=>by simp)
def pw2 (k:Int):Int:=[1,2,4,8,16,32].getD k.toNat 1
def mkb (b:Int):List Int:=[0,1,2,3,4,5].filter fun k=>(b.fdiv (pw2 k)).fmod 2 == 1
theorem rng6:_qsm 0 6=([0,1,2,3,4,5]:List Int).map D.int:=by simp [_qsm,List.range,List.range.loop]
theorem _qog {k:Int} (h:k∈([0,1,2,3,4,5]:List Int)):dIx (.lst [.int 1,.int 2,.int 4,.int 8,.int 16,.int 32]) (.int k)=some (.int (pw2 k))/\pw2 k ≠ 0/\(pw2 k).natAbs < BIGD:=by
 have hb:∀ n:Int,n.natAbs < 2 ^ 7->n.natAbs < BIGD:=fun n hn=>_wj hn (by decide);simp at h;rcases h with rfl | rfl | rfl | rfl | rfl | rfl <;> exact ⟨rfl,by decide,hb _ (by decide)⟩
end MB
namespace MB
open PySem DL
theorem _Xk {α:Type} {inj:α->D} {g:GD} {b:Blk} (P:Cs->Prop) (bad:α->Bool) (o:α->O):∀ (xs:List α) (ρ:Cs),P ρ ->
  (∀ a∈xs,∀ ρ,P ρ->∃ ρ1,g (inj a) ρ=some ρ1/\(bad a=true->∃ ρ2,b ρ1=some (.rt (o a) ρ2))/\(bad a=false->∃ ρ2,(b ρ1=some (.nx ρ2) \/ b ρ1=some (.ct ρ2))/\P ρ2)) ->
  (∀ a,xs.find? bad=some a->∃ ρ',_qt6 g b (xs.map inj) ρ=some (.rt (o a) ρ'))/\(xs.find? bad=none->∃ ρ',_qt6 g b (xs.map inj) ρ=some (.nx ρ')/\P ρ')
 | [],ρ,h,_=>⟨fun a e=>by simp at e,fun _=>⟨ρ,rfl,h⟩⟩
 | x :: xs,ρ,h,k=>by
  obtain ⟨ρ1,h1,h2,h3⟩:=k x mem_cons_self ρ h;cases hb:bad x with
  | true =>
   obtain ⟨ρ2,e2⟩:=h2 hb;refine ⟨fun a e=>?_,fun e=>?_⟩
   ·rw [List.find?_cons_of_pos hb] at e
    cases e;exact ⟨ρ2,_qes h1 e2⟩
   ·rw [List.find?_cons_of_pos hb] at e
    cases e
  | false =>
   obtain ⟨ρ2,e2,p2⟩:=h3 hb;have ih:=_Xk P bad o xs ρ2 p2 fun a m=>k a (mem_cons_of_mem _ m);rw [List.find?_cons_of_neg (by simp [hb]),map_cons,_K2 h1 e2];exact ih
@[irreducible] def _qu6 (g:GD) (b:Blk) (d:D) (ρ:Cs) (Q:Cs->Prop):Prop:=match g d ρ with
 | some ρ1=>(match b ρ1 with
  | some (.nx ρ2)=>Q ρ2
  | some (.ct ρ2)=>Q ρ2
  | _=>False)
 | none=>False
@[irreducible] def Rets (g:GD) (b:Blk) (d:D) (ρ:Cs) (o:O):Prop:=match g d ρ with
 | some ρ1=>(match b ρ1 with
  | some (.rt x _)=>x=o
  | _=>False)
 | none=>False
theorem _qu6.use {g:GD} {b:Blk} {d:D} {ρ:Cs} {Q:Cs->Prop} (h:_qu6 g b d ρ Q):∃ ρ1 ρ2,g d ρ=some ρ1/\(b ρ1=some (.nx ρ2) \/ b ρ1=some (.ct ρ2))/\Q ρ2:=by
 unfold _qu6 at h;split at h
 ·rename_i ρ1 e1
  split at h
  ·rename_i ρ2 e2; exact ⟨ρ1,ρ2,e1,.inl e2,h⟩
  ·rename_i ρ2 e2; exact ⟨ρ1,ρ2,e1,.inr e2,h⟩
  ·exact h.elim
 ·exact h.elim
theorem Rets.use {g:GD} {b:Blk} {d:D} {ρ:Cs} {o:O} (h:Rets g b d ρ o):∃ ρ1 ρ2,g d ρ=some ρ1/\b ρ1=some (.rt o ρ2):=by
 unfold Rets at h;split at h
 ·rename_i ρ1 e1
  split at h
  ·rename_i x ρ2 e2; subst h; exact ⟨ρ1,ρ2,e1,e2⟩
  ·exact h.elim
 ·exact h.elim
theorem _ju {α:Type} {inj:α->D} {g:GD} {b:Blk} (P:List α->Cs->Prop) (xs:List α) (ρ:Cs) (h0:P [] ρ)
  (step:∀ (pre:List α) (a:α) (post:List α) (ρ:Cs),xs=pre++a :: post->P pre ρ->_qu6 g b (inj a) ρ (P (pre++[a]))) :
  ∃ ρ',_qt6 g b (xs.map inj) ρ=some (.nx ρ')/\P xs ρ' :=
 _Y2 P xs ρ h0 fun pre a post ρ e h=>(step pre a post ρ e h).use
theorem _Qe {α:Type} {inj:α->D} {g:GD} {b:Blk} (P:Cs->Prop) (bad:α->Bool) (o:α->O) (xs:List α) (ρ:Cs) (h0:P ρ)
  (step:∀ a∈xs,∀ ρ,P ρ->(bad a=true->Rets g b (inj a) ρ (o a))/\(bad a=false->_qu6 g b (inj a) ρ P)) :
  (∀ a,xs.find? bad=some a->∃ ρ',_qt6 g b (xs.map inj) ρ=some (.rt (o a) ρ'))/\(xs.find? bad=none->∃ ρ',_qt6 g b (xs.map inj) ρ=some (.nx ρ')/\P ρ') :=
 _Xk P bad o xs ρ h0 fun a m ρ h=>by
  obtain ⟨s1,s2⟩:=step a m ρ h;cases hb:bad a with
  | true =>
   obtain ⟨ρ1,ρ2,e1,e2⟩:=(s1 hb).use;exact ⟨ρ1,e1,(fun _=>⟨ρ2,e2⟩),(fun e=>by cases e)⟩
  | false =>
   obtain ⟨ρ1,ρ2,e1,e2,p2⟩:=(s2 hb).use;exact ⟨ρ1,e1,(fun e=>by cases e),fun _=>⟨ρ2,e2,p2⟩⟩
@[simp] theorem gN_ap {i:Nat} {d:D} {ρ:Cs}:gN i d ρ=some (ρ.set i (some (.sh d))):=rfl
theorem _qv {α:Type} {l:List α} {i:Nat} {d:α} (h:i < l.length):l.getD i d=l[i]:=by simp [h]
theorem _K {α:Type} [DecidableEq α]:∀ {l m:List α},l.Nodup->(∀ x∈l,x∈m)->l.length <= m.length
 | [],_,_,_=>by simp
 | a :: l,m,hn,hs=>by
  have ha:a∈m:=hs a (by simp);rw [nodup_cons] at hn;have ih:=_K (l:=l) (m:=m.erase a) hn.2 fun x hx=>by
   have:x ≠ a:=fun e=>hn.1 (e ▸ hx)
   exact (List.mem_erase_of_ne this).mpr (hs x (by simp [hx]))
  have:=List.length_erase_of_mem ha
  have hp:=List.length_pos_of_mem ha
  simp
  omega
theorem _zm {l:List Int} (h:l.Pairwise (· < ·)):l.Nodup:=h.imp fun {a b} hab e=>by omega
def six:List Int:=[0,1,2,3,4,5]
theorem _v3:six.Pairwise (· < ·):=by decide
theorem _qi1 (b:Int):(mkb b).Sublist six:=filter_sublist
def okH (h:List _qu2):Prop:=∀ p∈h,p.2.Sublist six
theorem okH.len {h:List _qu2} (k:okH h):∀ p∈h,p.2.length <= 6:=fun p m=>(k p m).length_le
theorem okH.mem {h:List _qu2} (k:okH h) {p:_qu2} (m:p∈h) {x:Int} (hx:x∈p.2):x∈six:=(k p m).subset hx
def _k (h:List _qu2):List Int:=six.filter fun c=>h.any fun p=>has p.2 c
theorem _wf (h:List _qu2):(_k h).Sublist six:=filter_sublist
theorem _P (h:List _qu2):(_k h).length <= 6:=length_filter_le _ _
end MB
namespace MB
def _z (l:List Nat) (f:Nat->Rat):Rat:=(l.map f).sum
theorem _jt (f:Nat->Rat):_z [] f=0:=rfl
theorem _q (i:Nat) (l:List Nat) (f:Nat->Rat):_z (i :: l) f=f i + _z l f:=by simp [_z]
theorem _jj {f:Nat->Rat}:∀ {l:List Nat},(∀ i∈l,0 <= f i)->0 <= _z l f
 | [],_=>by rw [_jt]; grind
 | i :: l,h=>by
  have h1:=h i (by simp);have h2:=_jj (f:=f) (l:=l) fun j hj=>h j (by simp [hj]);rw [_q]; grind
theorem _wr {f g:Nat->Rat}:∀ {l:List Nat},(∀ i∈l,f i <= g i)->_z l f <= _z l g
 | [],_=>by rw [_jt,_jt]; grind
 | i :: l,h=>by
  have h1:=h i (by simp);have h2:=_wr (f:=f) (g:=g) (l:=l) fun j hj=>h j (by simp [hj]);rw [_q,_q]; grind
theorem _v1 {f:Nat->Rat}:∀ {l m:List Nat},l.Sublist m->(∀ i∈m,0 <= f i)->_z l f <= _z m f:=by
 intro l m h
 induction h with
 | slnil=>intro _; grind
 | cons a _ ih =>
  intro hf;have h1:=hf a (by simp);have h2:=ih fun i hi=>hf i (by simp [hi]);rw [_q]; grind
 | cons_cons a _ ih =>
  intro hf;have h2:=ih fun i hi=>hf i (by simp [hi]);rw [_q,_q]; grind
theorem _qy (c:Rat) (f:Nat->Rat):∀ (l:List Nat),_z l (fun i=>f i * c)=_z l f * c
 | []=>by simp [_z]
 | i :: l=>by rw [_q,_q,_qy c f l]; grind
theorem _D {f g:Nat->Rat}:∀ {l:List Nat},(∀ i∈l,f i=g i)->_z l f=_z l g
 | [],_=>rfl
 | i :: l,h=>by rw [_q,_q,h i (by simp),_D fun j hj=>h j (by simp [hj])]
theorem _qn {α:Type} [DecidableEq α]:∀ {s l:List α},s.Nodup->(∀ x∈s,x∈l)->s.length <= l.length
 | [],_,_,_=>zero_le _
 | x :: s,l,hn,h=>by
  rw [nodup_cons] at hn;have hx:=h x (by simp);have ih:=_qn (s:=s) (l:=l.erase x) hn.2 fun y hy=>(List.mem_erase_of_ne (by rintro rfl; exact hn.1 hy)).mpr (h y (by simp [hy]));have e:(l.erase x).length=l.length - 1:=List.length_erase_of_mem hx;have p:0 < l.length:=List.length_pos_of_mem hx
  simp; omega
def cnt (lk:Nat->Int->Bool) (rows:List (Int × Rat)) (i t:Nat):Nat:=((rows.take t).filter fun q=>lk i q.1).length
theorem _qpj (lk:Nat->Int->Bool) (rows:List (Int × Rat)) (i t:Nat):cnt lk rows i t <= (rows.filter fun q=>lk i q.1).length :=
 ((take_sublist t rows).filter _).length_le
theorem _qkz (lk:Nat->Int->Bool) {rows:List (Int × Rat)} (i:Nat) {t:Nat} {q:Int × Rat} (h:rows[t]?=some q):cnt lk rows i (t + 1)=cnt lk rows i t + if lk i q.1 then 1 else 0:=by
 unfold cnt;rw [List.take_add_one,h];simp [List.filter_append,filter_cons];split <;> simp
theorem _Q4 {n:Nat} {w:Nat->Rat} {lk:Nat->Int->Bool} {k N:Rat} (hw:∀ i,0 <= w i) (hk:0 <= k) (hN:0 < N)
  (rows:List (Int × Rat)) (P:Nat->Nat->Rat) (h0:∀ i,i < n->P 0 i=k)
  (hstep:∀ t c r,rows[t]?=some (c,r)->∀ i,i < n->P (t + 1) i=if lk i c then P t i - min (P t i) r else P t i)
  (hmin:∀ t c r,rows[t]?=some (c,r)->∀ d,(∀ q∈rows,q.1 ≠ d)->∀ x,x < r->_z ((List.range n).filter (lk · d)) (fun i=>w i * min (P t i) x) < N)
  (hend:∀ d,(∀ q∈rows,q.1 ≠ d)->_z ((List.range n).filter (lk · d)) (fun i=>w i * P rows.length i) < N)
  (hpos:∀ t i,i < n->0 <= P t i)
  (T:List Int) (hT:T.Nodup) (hL:0 < T.length) (g:List Nat) (hg:g.Sublist (List.range n)) (hl:∀ i∈g,∀ c∈T,lk i c=true) (hfew:∀ i∈g,(rows.filter fun q=>lk i q.1).length < T.length) :
  k * _z g w < T.length * N:=by
 false_or_by_contra;rename_i hc;have hLr:(0:Rat) < (T.length:Rat):=by exact_mod_cast hL
 have hge:(T.length:Rat) * N <= k * _z g w:=Rat.not_lt.mp hc;have hgne:g ≠ []:=by
  rintro rfl;rw [_jt] at hge
  have:=Rat.mul_pos hLr hN
  grind
 obtain ⟨d,hdT,hd⟩:∃ d∈T,∀ q∈rows,q.1 ≠ d:=by
  false_or_by_contra;rename_i hno;obtain ⟨i,g',rfl⟩:=List.exists_cons_of_ne_nil hgne;have hlen:T.length <= ((rows.filter fun q=>lk i q.1).map (·.1)).length:=_qn hT fun c hcT=>by
   false_or_by_contra;rename_i hcn;refine hno ⟨c,hcT,fun q hq e=>hcn ?_⟩;exact List.mem_map.mpr ⟨q,List.mem_filter.mpr ⟨hq,by rw [e]; exact hl i (by simp) c hcT⟩,e⟩
  have:=hfew i (by simp)
  rw [length_map] at hlen;omega
 obtain ⟨D,hD⟩:∃ D:Rat,D * (T.length:Rat)=k:=⟨k / (T.length:Rat),Rat.div_mul_cancel (by grind)⟩;have hD0:0 <= D:=by
  false_or_by_contra;rename_i hn;have h1:(T.length:Rat) * D < (T.length:Rat) * 0:=Rat.mul_lt_mul_of_pos_left (Rat.not_le.mp hn) hLr;grind
 have hWD:N <= _z g w * D:=by
  false_or_by_contra;rename_i hn;have h1:=Rat.mul_lt_mul_of_pos_left (Rat.not_le.mp hn) hLr;have h2:(T.length:Rat) * (_z g w * D)=k * _z g w:=by rw [<- hD]; grind
  rw [h2] at h1;grind
 have hgn:∀ i∈g,i < n:=fun i hi=>List.mem_range.mp (hg.subset hi);have hsub:g.Sublist ((List.range n).filter (lk · d)):=by
  have:=hg.filter (lk · d)
  rwa [List.filter_eq_self.mpr fun i hi=>hl i hi d hdT] at this
 have enough:∀ (f:Nat->Rat),(∀ i,i < n->0 <= f i)->(∀ i∈g,D <= f i)->N <= _z ((List.range n).filter (lk · d)) (fun i=>w i * f i):=by
  intro f hf0 hf;have s1:_z g (fun i=>w i * f i) <= _z ((List.range n).filter (lk · d)) (fun i=>w i * f i):=_v1 hsub fun i hi=>Rat.mul_nonneg (hw i) (hf0 i (List.mem_range.mp (List.mem_filter.mp hi).1));have s2:_z g (fun i=>w i * D) <= _z g (fun i=>w i * f i):=_wr fun i hi=>Rat.mul_le_mul_of_nonneg_left (hf i hi) (hw i);rw [_qy] at s2;grind
 have few:∀ t,∀ i∈g,(cnt lk rows i t:Rat) * D <= ((T.length:Rat) - 1) * D:=by
  intro t i hi;have h1:=_qpj lk rows i t;have h2:=hfew i hi;have h3:cnt lk rows i t + 1 <= T.length:=by omega
  have h4:((cnt lk rows i t:Nat):Rat) + 1 <= (T.length:Rat):=by exact_mod_cast h3
  have h5:D * ((cnt lk rows i t:Nat):Rat) <= D * ((T.length:Rat) - 1):=Rat.mul_le_mul_of_nonneg_left (by grind) hD0;grind
 have key:∀ t,t <= rows.length->∀ i∈g,k - (cnt lk rows i t:Rat) * D <= P t i:=by
  intro t
  induction t with
  | zero =>
   intro _ i hi
   have:cnt lk rows i 0=0:=by simp [cnt]
   rw [this,h0 i (hgn i hi)];have z:((0:Nat):Rat)=0:=rfl;grind
  | succ t ih =>
   intro ht i hi;obtain ⟨⟨c,r⟩,hr⟩:∃ q,rows[t]?=some q:=⟨rows[t],getElem?_eq_getElem (by omega)⟩;have hall:∀ j∈g,D <= P t j:=fun j hj=>by
    have a1:=ih (by omega) j hj;have a2:=few t j hj;grind
   have hrD:r <= D:=by
    false_or_by_contra;rename_i hn;have b1:=hmin t c r hr d hd D (Rat.not_le.mp hn);have b2:=enough (fun j=>min (P t j) D) (fun j hj=>by have:=hpos t j hj; grind) fun j hj=>by have:=hall j hj; grind
    grind
   have e1:=hstep t c r hr i (hgn i hi);have e2:=_qkz lk i hr;have a1:=ih (by omega) i hi;rw [e1,e2]
   by_cases hlk:lk i c=true
   ·simp only [hlk,if_true]
    have z:((cnt lk rows i t + 1:Nat):Rat)=(cnt lk rows i t:Rat) + 1:=by simp
    rw [z]
    have:min (P t i) r <= r:=by grind
    grind
   ·simp only [hlk]
    simpa using a1
 have b1:=hend d hd;have b2:=enough (P rows.length) (hpos _) fun i hi=>by
  have a1:=key rows.length (le_refl _) i hi;have a2:=few rows.length i hi;grind
 grind
def tot (rows:List (Int × (Nat->Rat))) (i:Nat):Rat:=(rows.map fun q=>q.2 i).sum
theorem _qir (q:Int × (Nat->Rat)) (rows:List (Int × (Nat->Rat))) (i:Nat):tot (q :: rows) i=q.2 i + tot rows i:=by simp [tot]
theorem _v2 (f g:Nat->Rat):∀ l:List Nat,_z l (fun i=>f i + g i)=_z l f + _z l g
 | []=>by simp [_z]; grind
 | i :: l=>by rw [_q,_q,_q,_v2 f g l]; grind
theorem _qal (w:Nat->Rat) (g:List Nat):∀ rows:List (Int × (Nat->Rat)),_z g (fun i=>w i * tot rows i)=(rows.map fun q=>_z g fun i=>w i * q.2 i).sum
 | []=>by
  have:_z g (fun i=>w i * tot [] i)=_z g (fun i=>(fun _=>(0:Rat)) i * 0):=_D fun i _=>by simp [tot]
  rw [this,_qy]; simp
 | q :: rows=>by
  have:_z g (fun i=>w i * tot (q :: rows) i)=_z g (fun i=>w i * q.2 i + w i * tot rows i):=_D fun i _=>by rw [_qir]; grind
  rw [this,_v2,_qal w g rows]; simp
theorem _qhp {α:Type} {f:α->Rat} {N:Rat}:∀ {l:List α},(∀ q∈l,f q <= N)->(l.map f).sum <= l.length * N
 | [],_=>by
  simp
 | q :: l,h=>by
  have h1:=h q (by simp);have h2:=_qhp (f:=f) (N:=N) (l:=l) fun p hp=>h p (by simp [hp]);have z:(((q :: l).length:Nat):Rat)=(l.length:Rat) + 1:=by simp
  rw [z,map_cons,sum_cons];grind
theorem _Zj {α:Type} {f:α->Rat} {p:α->Bool}:∀ {l:List α},(∀ q∈l,p q=false->f q=0)->(l.map f).sum=((l.filter p).map f).sum
 | [],_=>rfl
 | q :: l,h=>by
  have h2:=_Zj (f:=f) (p:=p) (l:=l) fun r hr=>h r (by simp [hr]);rw [filter_cons];split
  ·simp [h2]
  ·rename_i hp
   have:=h q (by simp) (by simpa using hp)
   simp [this,h2]; grind
theorem _Q6 {n:Nat} {w:Nat->Rat} {lk:Nat->Int->Bool} {k N:Rat} (hw:∀ i,0 <= w i) (hN:0 < N)
  (rows:List (Int × (Nat->Rat))) (hnd:(rows.map (·.1)).Nodup) (h0:∀ q∈rows,∀ i,i < n->0 <= q.2 i) (hlike:∀ q∈rows,∀ i,i < n->lk i q.1=false->q.2 i=0)
  (hprice:∀ q∈rows,_z (List.range n) (fun i=>w i * q.2 i)=N) (hcap:∀ i,i < n->tot rows i <= k)
  (hrest:∀ d,(∀ q∈rows,q.1 ≠ d)->_z ((List.range n).filter (lk · d)) (fun i=>w i * (k - tot rows i)) < N)
  (T:List Int) (hT:T.Nodup) (hL:0 < T.length) (K:List Int) (hK:K.length < T.length) (g:List Nat) (hg:g.Sublist (List.range n)) (hl:∀ i∈g,∀ c∈T,lk i c=true) (hin:∀ i∈g,∀ q∈rows,lk i q.1=true->q.1∈K) :
  k * _z g w < T.length * N:=by
 have hLr:(0:Rat) < (T.length:Rat):=by exact_mod_cast hL
 have hgn:∀ i∈g,i < n:=fun i hi=>List.mem_range.mp (hg.subset hi)
 by_cases hgne:g=[]
 ·subst hgne
  rw [_jt]
  have:=Rat.mul_pos hLr hN
  grind
 obtain ⟨d,hdT,hd⟩:∃ d∈T,∀ q∈rows,q.1 ≠ d:=by
  false_or_by_contra;rename_i hno;obtain ⟨i,g',rfl⟩:=List.exists_cons_of_ne_nil hgne
  have:T.length <= K.length:=_qn hT fun c hcT=>by
   false_or_by_contra;rename_i hcn;refine hno ⟨c,hcT,fun q hq e=>hcn ?_⟩
   have:=hin i (by simp) q hq (by rw [e]; exact hl i (by simp) c hcT)
   rwa [e] at this
  omega
 have hsub:g.Sublist ((List.range n).filter (lk · d)):=by
  have:=hg.filter (lk · d)
  rwa [List.filter_eq_self.mpr fun i hi=>hl i hi d hdT] at this
 have s1:_z g (fun i=>w i * (k - tot rows i)) <= _z ((List.range n).filter (lk · d)) (fun i=>w i * (k - tot rows i)):=_v1 hsub fun i hi=>Rat.mul_nonneg (hw i) (by have:=hcap i (List.mem_range.mp (List.mem_filter.mp hi).1); grind);have s2:=hrest d hd;have s3:_z g (fun i=>w i * k)=_z g (fun i=>w i * (k - tot rows i)) + _z g (fun i=>w i * tot rows i):=by
  rw [<- _v2];exact _D fun i _=>by grind
 rw [_qy] at s3;have s4:_z g (fun i=>w i * tot rows i) <= (T.length:Rat) * N - N:=by
  rw [_qal,_Zj (p:=fun q=>K.contains q.1) fun q hq hp=>?_]
  ·have a1:(((rows.filter fun q=>K.contains q.1).map fun q=>_z g fun i=>w i * q.2 i)).sum <= ((rows.filter fun q=>K.contains q.1).length:Rat) * N:=_qhp fun q hq=>by
    have hq':=(List.mem_filter.mp hq).1
    have:=_v1 (f:=fun i=>w i * q.2 i) hg fun i hi=>Rat.mul_nonneg (hw i) (h0 q hq' i (List.mem_range.mp hi))
    rw [hprice q hq'] at this;exact this
   have a2:(rows.filter fun q=>K.contains q.1).length <= K.length:=by
    have hn2:((rows.filter fun q=>K.contains q.1).map (·.1)).Nodup:=hnd.sublist ((filter_sublist).map _)
    have:=_qn (l:=K) hn2 fun c hc=>by
     obtain ⟨q,hq,rfl⟩:=List.mem_map.mp hc;simpa using (List.mem_filter.mp hq).2
    rwa [length_map] at this
   have a3:(rows.filter fun q=>K.contains q.1).length + 1 <= T.length:=by omega
   have a4:(((rows.filter fun q=>K.contains q.1).length:Nat):Rat) + 1 <= (T.length:Rat):=by exact_mod_cast a3
   have a5:N * (((rows.filter fun q=>K.contains q.1).length:Nat):Rat) <= N * ((T.length:Rat) - 1):=Rat.mul_le_mul_of_nonneg_left (by grind) (by grind);grind
  ·have:_z g (fun i=>w i * q.2 i)=_z g (fun i=>(fun _=>(0:Rat)) i * 0):=_D fun i hi=>by
    have hz:q.2 i=0:=hlike q hq i (hgn i hi) (by
     cases hlk:lk i q.1 with
     | false=>rfl
     | true =>
      have:=hin i hi q hq hlk
      simp [this] at hp)
    rw [hz]; grind
   rw [this,_qy]; grind
 grind
def tau (rows:List (Int × Rat)) (t:Nat):Rat:=((rows.take t).map (·.2)).sum
theorem _Zk:∀ l m:List Rat,(l++m).sum=l.sum + m.sum
 | [],m=>by simp; grind
 | a :: l,m=>by rw [List.cons_append,sum_cons,sum_cons,_Zk l m]; grind
theorem _qd3 {rows:List (Int × Rat)} {t:Nat} {q:Int × Rat} (h:rows[t]?=some q):tau rows (t + 1)=tau rows t + q.2:=by
 unfold tau;rw [List.take_add_one,h,Option.toList_some,map_append,_Zk]
 simp; grind
def _qtn (K:List Int) (rows:List (Int × Rat)) (t:Nat):Nat:=((rows.take t).filter fun q=>K.contains q.1).length
theorem _qh9 (K:List Int) {rows:List (Int × Rat)} {t:Nat} {q:Int × Rat} (h:rows[t]?=some q):_qtn K rows (t + 1)=_qtn K rows t + if K.contains q.1 then 1 else 0:=by
 unfold _qtn;rw [List.take_add_one,h];simp [List.filter_append,filter_cons];split <;> simp
theorem _qnj (K:List Int) {rows:List (Int × Rat)} (hnd:(rows.map (·.1)).Nodup) (t:Nat):_qtn K rows t <= K.length:=by
 have hn2:(((rows.take t).filter fun q=>K.contains q.1).map (·.1)).Nodup:=hnd.sublist (((filter_sublist).trans (take_sublist _ _)).map _)
 have:=_qn (l:=K) hn2 fun c hc=>by
  obtain ⟨q,hq,rfl⟩:=List.mem_map.mp hc;simpa using (List.mem_filter.mp hq).2
 rwa [length_map] at this
theorem _Kd (p:Nat->Bool) (f:Nat->Rat):∀ l:List Nat,_z l (fun i=>if p i=true then 0 else f i)=_z l f - _z (l.filter p) f
 | []=>by simp [_z]; grind
 | i :: l=>by
  rw [_q,_q,_Kd p f l,filter_cons];cases h:p i with
  | true=>simp [_q]; grind
  | false=>simp; grind
theorem _Qd {n:Nat} {w:Nat->Rat} {lk:Nat->Int->Bool} (hw:∀ i,0 <= w i) (hN:0 < _z (List.range n) w)
  (rows:List (Int × Rat)) (hnd:(rows.map (·.1)).Nodup) (P:Nat->Nat->Rat) (h0:∀ i,i < n->P 0 i=0) (hpos:∀ t i,t <= rows.length->i < n->0 <= P t i) (hW:∀ q∈rows,0 <= q.2)
  (hstep:∀ t c x,rows[t]?=some (c,x)->∀ i,i < n->P (t + 1) i=if lk i c=true then 0 else P t i + x)
  (hbuy:∀ t c x,rows[t]?=some (c,x)->_z ((List.range n).filter (lk · c)) (fun i=>w i * (P t i + x))=_z (List.range n) w)
  (hmin:∀ t c x,rows[t]?=some (c,x)->∀ d,(∀ q∈rows,q.1 ≠ d)->_z ((List.range n).filter (lk · d)) (fun i=>w i * (P t i + x)) <= _z (List.range n) w)
  (hm:0 < rows.length)
  (T:List Int) (hT:T.Nodup) (hL:0 < T.length) (K:List Int) (hK:K.length < T.length) (g:List Nat) (hg:g.Sublist (List.range n)) (hl:∀ i∈g,∀ c∈T,lk i c=true) (hin:∀ i∈g,∀ q∈rows,lk i q.1=true->q.1∈K) :
  (rows.length:Rat) * _z g w < T.length * _z (List.range n) w:=by
 generalize hNN:_z (List.range n) w=N at *;have hLr:(0:Rat) < (T.length:Rat):=by exact_mod_cast hL
 have hgn:∀ i∈g,i < n:=fun i hi=>List.mem_range.mp (hg.subset hi)
 by_cases hgne:g=[]
 ·subst hgne
  rw [_jt]
  have:=Rat.mul_pos hLr hN
  grind
 obtain ⟨d,hdT,hd⟩:∃ d∈T,∀ q∈rows,q.1 ≠ d:=by
  false_or_by_contra;rename_i hno;obtain ⟨i,g',rfl⟩:=List.exists_cons_of_ne_nil hgne
  have:T.length <= K.length:=_qn hT fun c hcT=>by
   false_or_by_contra;rename_i hcn;refine hno ⟨c,hcT,fun q hq e=>hcn ?_⟩
   have:=hin i (by simp) q hq (by rw [e]; exact hl i (by simp) c hcT)
   rwa [e] at this
  omega
 have hsub:g.Sublist ((List.range n).filter (lk · d)):=by
  have:=hg.filter (lk · d)
  rwa [List.filter_eq_self.mpr fun i hi=>hl i hi d hdT] at this
 have stepsum:∀ (l:List Nat),(∀ i∈l,i < n)->∀ t c x,rows[t]?=some (c,x)->_z l (fun i=>w i * P (t + 1) i)=_z l (fun i=>w i * P t i) + _z l w * x - _z (l.filter (lk · c)) (fun i=>w i * (P t i + x)):=by
  intro l hln t c x hr;have e1:_z l (fun i=>w i * P (t + 1) i)=_z l (fun i=>if lk i c=true then 0 else w i * (P t i + x)):=_D fun i hi=>by
   rw [hstep t c x hr i (hln i hi)];split <;> grind
  rw [e1,_Kd];have e2:_z l (fun i=>w i * (P t i + x))=_z l (fun i=>w i * P t i + w i * x):=_D fun i _=>by grind
  rw [e2,_v2,_qy]
 have hrn:∀ i∈List.range n,i < n:=fun i hi=>List.mem_range.mp hi;have hA:∀ t,t <= rows.length->_z (List.range n) (fun i=>w i * P t i)=N * tau rows t - (t:Rat) * N:=by
  intro t
  induction t with
  | zero =>
   intro _;have e1:_z (List.range n) (fun i=>w i * P 0 i)=_z (List.range n) (fun i=>w i * 0):=_D fun i hi=>by rw [h0 i (hrn i hi)]
   have z:((0:Nat):Rat)=0:=rfl;have z2:tau rows 0=0:=by simp [tau]
   rw [e1,_qy,z,z2]; grind
  | succ t ih =>
   intro ht;obtain ⟨⟨c,x⟩,hr⟩:∃ q,rows[t]?=some q:=⟨rows[t],getElem?_eq_getElem (by omega)⟩;have h1:=stepsum _ hrn t c x hr;have h2:=hbuy t c x hr;have h3:=ih (by omega);have h4:=_qd3 hr;have z:((t + 1:Nat):Rat)=(t:Rat) + 1:=by simp
   rw [h1,h2,h3,h4,z,hNN];grind
 have hB:∀ t,t <= rows.length->_z g w * tau rows t - (_qtn K rows t:Rat) * N <= _z g (fun i=>w i * P t i):=by
  intro t
  induction t with
  | zero =>
   intro _;have e1:_z g (fun i=>w i * P 0 i)=_z g (fun i=>w i * 0):=_D fun i hi=>by rw [h0 i (hgn i hi)]
   have z:((_qtn K rows 0:Nat):Rat)=0:=by simp [_qtn]
   have z2:tau rows 0=0:=by simp [tau]
   rw [e1,_qy,z,z2]; grind
  | succ t ih =>
   intro ht;obtain ⟨⟨c,x⟩,hr⟩:∃ q,rows[t]?=some q:=⟨rows[t],getElem?_eq_getElem (by omega)⟩;have hmem:(c,x)∈rows:=mem_of_getElem? hr;have hx:=hW _ hmem;have h1:=stepsum g hgn t c x hr;have h2:=hbuy t c x hr;have h3:=ih (by omega);have h4:=_qd3 hr;have h5:=_qh9 K hr;rw [h1,h4,h5]
   by_cases hcK:c∈K
   ·have a1:_z (g.filter (lk · c)) (fun i=>w i * (P t i + x)) <= N:=by
     rw [<- h2];exact _v1 (hg.filter _) fun i hi=>Rat.mul_nonneg (hw i) (by
      have:=hpos t i (by omega) (List.mem_range.mp (List.mem_filter.mp hi).1)
      grind)
    have z:(((_qtn K rows t + if K.contains c=true then 1 else 0:Nat)):Rat)=(_qtn K rows t:Rat) + 1:=by simp [hcK]
    rw [z];grind
   ·have a1:g.filter (lk · c)=[]:=by
     rw [List.filter_eq_nil_iff];intro i hi hlk;exact hcK (hin i hi _ hmem hlk)
    have z:(((_qtn K rows t + if K.contains c=true then 1 else 0:Nat)):Rat)=(_qtn K rows t:Rat):=by simp [hcK]
    rw [z,a1,_jt];grind
 have hend:_z g (fun i=>w i * P rows.length i) <= N:=by
  obtain ⟨t,ht⟩:∃ t,rows.length=t + 1:=⟨rows.length - 1,by omega⟩;obtain ⟨⟨c,x⟩,hr⟩:∃ q,rows[t]?=some q:=⟨rows[t],getElem?_eq_getElem (by omega)⟩;have hx:=hW _ (mem_of_getElem? hr);have hp:∀ i,i < n->0 <= P t i:=fun i hi=>hpos t i (by omega) hi;have s1:_z g (fun i=>w i * P rows.length i) <= _z g (fun i=>w i * (P t i + x)):=_wr fun i hi=>by
   rw [ht,hstep t c x hr i (hgn i hi)];refine Rat.mul_le_mul_of_nonneg_left ?_ (hw i)
   have:=hp i (hgn i hi)
   simp only at hx;split <;> grind
  have s2:_z g (fun i=>w i * (P t i + x)) <= _z ((List.range n).filter (lk · d)) (fun i=>w i * (P t i + x)):=_v1 hsub fun i hi=>Rat.mul_nonneg (hw i) (by
   have:=hp i (List.mem_range.mp (List.mem_filter.mp hi).1)
   simp only at hx;grind)
  have s3:=hmin t c x hr d hd;grind
 have hAm:=hA rows.length (le_refl _);have hBm:=hB rows.length (le_refl _);have hBA:_z g (fun i=>w i * P rows.length i) <= _z (List.range n) (fun i=>w i * P rows.length i):=_v1 hg fun i hi=>Rat.mul_nonneg (hw i) (hpos _ i (le_refl _) (hrn i hi));have hA0:0 <= _z (List.range n) (fun i=>w i * P rows.length i):=_jj fun i hi=>Rat.mul_nonneg (hw i) (hpos _ i (le_refl _) (hrn i hi));have hwg:0 <= _z g w:=_jj fun i _=>hw i;have hck:(_qtn K rows rows.length:Rat) * N <= (T.length:Rat) * N - N:=by
  have a2:=_qnj K hnd rows.length;have a3:_qtn K rows rows.length + 1 <= T.length:=by omega
  have a4:((_qtn K rows rows.length:Nat):Rat) + 1 <= (T.length:Rat):=by exact_mod_cast a3
  have a5:N * ((_qtn K rows rows.length:Nat):Rat) <= N * ((T.length:Rat) - 1):=Rat.mul_le_mul_of_nonneg_left (by grind) (by grind);grind
 have htau:(rows.length:Rat) <= tau rows rows.length:=by
  false_or_by_contra;rename_i hn
  have:=Rat.mul_lt_mul_of_pos_left (Rat.not_le.mp hn) hN
  grind
 by_cases hw0:_z g w=0
 ·rw [hw0]
  have:=Rat.mul_pos hLr hN
  grind
 ·have hwp:0 < _z g w:=by grind
  by_cases he:tau rows rows.length=(rows.length:Rat)
  ·rw [he] at hAm hBm
   grind
  ·have hlt:(rows.length:Rat) < tau rows rows.length:=by grind
   have:=Rat.mul_lt_mul_of_pos_left hlt hwp
   grind
theorem _qd5 {f g:Nat->Rat}:∀ {l:List Nat},(∀ i∈l,f i <= g i)->(∃ i∈l,f i < g i)->_z l f < _z l g
 | [],_,h=>by obtain ⟨i,hi,_⟩:=h; cases hi
 | j :: l,h,⟨i,hi,hlt⟩=>by
  rw [_q,_q];have h1:=h j (by simp);rcases List.mem_cons.mp hi with rfl | hi
  ·have h2:=_wr (f:=f) (g:=g) (l:=l) fun k hk=>h k (by simp [hk])
   grind
  ·have h2:=_qd5 (f:=f) (g:=g) (l:=l) (fun k hk=>h k (by simp [hk])) ⟨i,hi,hlt⟩
   grind
def pays (l:List Nat) (w p:Nat->Rat) (r:Rat):Rat:=_z l fun i=>w i * min (p i) r
theorem _qmc {l:List Nat} {w p:Nat->Rat} (hw:∀ i,0 <= w i) {x y:Rat} (h:x < y) {i:Nat} (hi:i∈l) (hwi:0 < w i) (hp:y <= p i):pays l w p x < pays l w p y:=by
 refine _qd5 (fun j _=>Rat.mul_le_mul_of_nonneg_left (by grind) (hw j)) ⟨i,hi,Rat.mul_lt_mul_of_pos_left ?_ hwi⟩;grind
theorem _qjb {l:List Nat} {w p:Nat->Rat} (hw:∀ i,0 <= w i) (r:Rat):pays l w p r <= _z l fun i=>w i * p i :=
 _wr fun i _=>Rat.mul_le_mul_of_nonneg_left (by grind) (hw i)
theorem _qds {l:List Nat} {w p:Nat->Rat} (hw:∀ i,0 <= w i) {r N:Rat} (hr:pays l w p r=N) {i:Nat} (hi:i∈l) (hwi:0 < w i) (hp:r <= p i):∀ x,x < r->pays l w p x < N:=fun x hx=>by
 rw [<- hr]; exact _qmc hw hx hi hwi hp
end MB
namespace MB
def _qu3 (D:Nat) (a:Rat):Prop:=∃ x:Int,a * (D:Rat)=(x:Rat)
theorem _qu3.add {D:Nat} {a b:Rat} (ha:_qu3 D a) (hb:_qu3 D b):_qu3 D (a + b):=by
 obtain ⟨x,hx⟩:=ha;obtain ⟨y,hy⟩:=hb;exact ⟨x + y,by rw [Rat.add_mul,hx,hy]; simp⟩
theorem _qu3.sub {D:Nat} {a b:Rat} (ha:_qu3 D a) (hb:_qu3 D b):_qu3 D (a - b):=by
 obtain ⟨x,hx⟩:=ha;obtain ⟨y,hy⟩:=hb;have e:(a - b) * (D:Rat)=a * D - b * D:=by grind
 exact ⟨x - y,by rw [e,hx,hy]; simp⟩
theorem _qu3.mulInt {D:Nat} {a:Rat} (ha:_qu3 D a) (n:Int):_qu3 D (a * n):=by
 obtain ⟨x,hx⟩:=ha;refine ⟨x * n,?_⟩;rw [Rat.mul_assoc,Rat.mul_comm (n:Rat),<- Rat.mul_assoc,hx]; simp
theorem _qu3.mn {D:Nat} {a b:Rat} (ha:_qu3 D a) (hb:_qu3 D b):_qu3 D (min a b):=by
 have:min a b=a \/ min a b=b:=by grind
 rcases this with e | e <;> rw [e] <;> assumption
theorem _xa (D:Nat):(((D:Nat):Int):Rat)=(D:Rat):=rfl
theorem _vf (D:Nat) (n:Int):_qu3 D (n:Rat):=⟨n * D,by simp [_xa]⟩
theorem _qjr (a:Rat):a * (a.den:Rat)=(a.num:Rat):=by
 rw [<- _qmn];have e1:((a.den:Rat)).num=(a.den:Int):=by simp
 have e2:((a.den:Rat)).den=1:=by simp
 rw [e1,e2,Nat.mul_one];have e3:(a.num:Rat)=mkRat a.num 1:=by simp [Rat.mkRat_one]
 rw [e3,Rat.mkRat_eq_iff a.den_nz (by decide)]
 simp
theorem _qu3.dvd {D E:Nat} {a:Rat} (ha:_qu3 D a) (h:D ∣ E):_qu3 E a:=by
 obtain ⟨x,hx⟩:=ha;obtain ⟨e,rfl⟩:=h;refine ⟨x * e,?_⟩
 have:((D * e:Nat):Rat)=(D:Rat) * (e:Rat):=by simp
 rw [this,<- Rat.mul_assoc,hx]; simp [_xa]
theorem _qu3.den {D:Nat} {a:Rat} (ha:_qu3 D a):a.den ∣ D:=by
 obtain ⟨x,hx⟩:=ha;have h1:a.num * (D:Int)=x * (a.den:Int):=by
  have h2:a * (a.den:Rat)=(a.num:Rat):=_qjr a;have h3:((a.num * (D:Int):Int):Rat)=((x * (a.den:Int):Int):Rat):=by
   have e1:((a.num * (D:Int):Int):Rat)=(a.num:Rat) * (D:Rat):=by simp [_xa]
   have e2:((x * (a.den:Int):Int):Rat)=(x:Rat) * (a.den:Rat):=by simp [_xa]
   rw [e1,e2,<- hx,<- h2]; grind
  exact_mod_cast h3
 have h4:a.den ∣ a.num.natAbs * D:=by
  have:=congrArg Int.natAbs h1
  rw [Int.natAbs_mul,Int.natAbs_mul,Int.natAbs_natCast,Int.natAbs_natCast] at this;exact ⟨x.natAbs,by rw [this,mul_comm]⟩
 exact (Nat.Coprime.dvd_of_dvd_mul_left (Nat.Coprime.symm a.reduced) h4)
theorem _qu3.bd {D d m:Nat} {a:Rat} (ha:_qu3 D a) (hD:0 < D) (hd:D < 2 ^ d) (hlo:-((2 ^ m:Nat):Rat) <= a) (hhi:a <= ((2 ^ m:Nat):Rat)):Bd (m + d) d a:=by
 have h1:a.den <= D:=Nat.le_of_dvd hD ha.den;refine ⟨?_,lt_of_le_of_lt h1 hd⟩;have hden:(0:Rat) <= (a.den:Rat):=by exact_mod_cast zero_le _
 have e:=_qjr a;have u1:(a.den:Rat) * a <= (a.den:Rat) * ((2 ^ m:Nat):Rat):=Rat.mul_le_mul_of_nonneg_left hhi hden;have u2:(a.den:Rat) * (-((2 ^ m:Nat):Rat)) <= (a.den:Rat) * a:=Rat.mul_le_mul_of_nonneg_left hlo hden;have v1:(a.num:Rat) <= ((a.den * 2 ^ m:Nat):Rat):=by
  have:((a.den * 2 ^ m:Nat):Rat)=(a.den:Rat) * ((2 ^ m:Nat):Rat):=by simp
  rw [this]; grind
 have v2:-((a.den * 2 ^ m:Nat):Rat) <= (a.num:Rat):=by
  have:((a.den * 2 ^ m:Nat):Rat)=(a.den:Rat) * ((2 ^ m:Nat):Rat):=by simp
  rw [this]; grind
 have w1:a.num <= ((a.den * 2 ^ m:Nat):Int):=by exact_mod_cast v1
 have w2:-((a.den * 2 ^ m:Nat):Int) <= a.num:=by
  have v3:(-a.num:Rat) <= ((a.den * 2 ^ m:Nat):Rat):=by grind
  have v4:((-a.num:Int):Rat) <= ((a.den * 2 ^ m:Nat):Rat):=by simpa using v3
  have v5:-a.num <= ((a.den * 2 ^ m:Nat):Int):=by exact_mod_cast v4
  omega
 have w3:a.num.natAbs <= a.den * 2 ^ m:=by omega
 have w4:a.den * 2 ^ m < 2 ^ d * 2 ^ m:=Nat.mul_lt_mul_of_pos_right (lt_of_le_of_lt h1 hd) (Nat.pos_of_ne_zero (by simp));rw [pow_add,mul_comm (2 ^ m)];omega
end MB
namespace MB
open PySem DL
theorem _qex (m n:Nat):((m:Int)).fdiv (n:Int)=((m / n:Nat):Int):=by
 rw [Int.fdiv_eq_ediv_of_nonneg _ (by omega)]; rfl
def cbF (b:Nat) (q:Rat):Nat:=b * (q.den / Nat.gcd b q.den)
def cb (l:List Rat):Nat:=l.foldl cbF 1
theorem _qbs (b:Nat) (q:Rat):cbF b q=Nat.lcm b q.den:=by
 unfold cbF Nat.lcm;rw [Nat.mul_div_assoc _ (Nat.gcd_dvd_right b q.den)]
theorem _qha:∀ (l:List Rat) (b:Nat),0 < b->0 < l.foldl cbF b/\b ∣ l.foldl cbF b/\(∀ q∈l,q.den ∣ l.foldl cbF b)/\∀ D,b ∣ D->(∀ q∈l,q.den ∣ D)->l.foldl cbF b ∣ D
 | [],b,h=>⟨h,Nat.dvd_refl _,by simp,fun D h _=>h⟩
 | q :: l,b,h=>by
  have hp:0 < cbF b q:=by rw [_qbs]; exact Nat.lcm_pos h q.den_pos
  obtain ⟨a1,a2,a3,a4⟩:=_qha l (cbF b q) hp;have d1:b ∣ cbF b q:=by rw [_qbs]; exact Nat.dvd_lcm_left _ _
  have d2:q.den ∣ cbF b q:=by rw [_qbs]; exact Nat.dvd_lcm_right _ _
  refine ⟨a1,dvd_trans d1 a2,fun r hr=>?_,fun D hb hq=>a4 D ?_ fun r hr=>hq r (by simp [hr])⟩
  ·rcases List.mem_cons.mp hr with rfl | hr
   ·exact dvd_trans d2 a2
   ·exact a3 r hr
  ·rw [_qbs]; exact Nat.lcm_dvd hb (hq q (by simp))
theorem _qa3 (l:List Rat):0 < cb l:=(_qha l 1 (by decide)).1
theorem _qhb {l:List Rat} {q:Rat} (h:q∈l):q.den ∣ cb l:=(_qha l 1 (by decide)).2.2.1 q h
theorem _qa4 {l:List Rat} {D:Nat} (h:∀ q∈l,q.den ∣ D):cb l ∣ D:=(_qha l 1 (by decide)).2.2.2 D (Nat.one_dvd _) h
theorem _qnk (l:List Rat) (q:Rat):cb (l++[q])=cbF (cb l) q:=by simp [cb]
def _qsc (b:Nat) (q:Rat):Int:=q.num * ((b / q.den:Nat):Int)
theorem _qd2 {b:Nat} {q:Rat} (h:q.den ∣ b):(_qsc b q:Rat)=q * (b:Rat):=by
 obtain ⟨k,rfl⟩:=h;have e:q.den * k / q.den=k:=Nat.mul_div_cancel_left k q.den_pos;unfold _qsc;rw [e];have e1:((q.den * k:Nat):Rat)=(q.den:Rat) * (k:Rat):=by simp
 have e2:((q.num * (k:Int):Int):Rat)=(q.num:Rat) * (k:Rat):=by simp [_xa]
 rw [e1,e2,<- Rat.mul_assoc,_qjr]
def _Z (P:List Rat):D:=.lst (P.map frD)
@[simp] theorem _qmp (P:List Rat):_kv (_Z P)=some (P.map frD):=rfl
@[simp] theorem _qel (P:List Rat):imm (_Z P)=false:=by simp [_Z]
def _zu (t:Nat) (P:List Rat):Prop:=∃ D:Nat,0 < D/\D < 2 ^ (80 * t + 1)/\∀ q∈P,_qu3 D q/\0 <= q/\q <= ((t * 2 ^ 80:Nat):Rat)
theorem _zu.bd {t:Nat} {P:List Rat} (h:_zu t P) (ht:t <= 20) {q:Rat} (hq:q∈P):Bd 1800 1700 q:=by
 obtain ⟨D,h1,h2,h3⟩:=h;obtain ⟨o,q0,q1⟩:=h3 q hq;have hm:((t * 2 ^ 80:Nat):Rat) <= ((2 ^ 85:Nat):Rat):=by
  have:t * 2 ^ 80 <= 2 ^ 85:=le_trans (mul_le_mul_right _ (le_trans ht (by decide:20 <= 32))) (by decide)
  exact_mod_cast this
 have hz:(0:Rat) <= ((2 ^ 85:Nat):Rat):=by exact_mod_cast zero_le _
 exact (o.bd (m:=85) h1 h2 (by grind) (by grind)).mono (by omega) (by omega)
theorem _zu.cb {t:Nat} {P:List Rat} (h:_zu t P) (ht:t <= 20):cb P < 2 ^ 1700:=by
 obtain ⟨D,h1,h2,h3⟩:=h
 have:=Nat.le_of_dvd h1 (_qa4 fun q hq=>(h3 q hq).1.den)
 exact lt_of_le_of_lt this (lt_of_lt_of_le h2 (pow_le_pow_right (by decide) (by omega)))
theorem _zu.sub {t:Nat} {P Q:List Rat} (h:_zu t P) (hs:∀ q∈Q,q∈P):_zu t Q:=by
 obtain ⟨D,h1,h2,h3⟩:=h;exact ⟨D,h1,h2,fun q hq=>h3 q (hs q hq)⟩
theorem _zu.top {t:Nat} {P:List Rat} (h:_zu t P) (ht:t <= 20) {q:Rat} (hq:q∈P) {b:Nat} (hb:b < 2 ^ 1700):Sz 3600 (_qsc b q):=by
 have h1:=(h.bd ht hq).num;have h2:Sz 1700 ((b / q.den:Nat):Int):=by
  show ((b / q.den:Nat):Int).natAbs < _;rw [Int.natAbs_natCast];exact lt_of_le_of_lt (Nat.div_le_self _ _) hb
 exact (h1.mul h2).mono (by decide)
end MB
namespace MB
def quo (w:List Int) (n:List Nat) (k:Nat):Rat:=mkRat (w.getD k 0) (n.getD k 0 + 1)
def freeL (c:List Int) (n:List Nat):List Nat:=(List.range n.length).filter fun k=>decide ((n.getD k 0:Int) < c.getD k 0)
def offs (w c:List Int) (n:List Nat):List (Nat × Rat):=(freeL c n).map fun k=>(k,quo w n k)
def gst:Option (Nat × Rat)->(Nat × Rat)->Option (Nat × Rat)
 | none,o=>some o
 | some f,o=>if f.2 < o.2 then some o else some f
def gre (l:List (Nat × Rat)):Option (Nat × Rat):=l.foldl gst none
def dlS (w c:List Int) (d:List Nat × Option Rat):List Nat × Option Rat:=match gre (offs w c d.1) with
 | none=>d
 | some o=>(d.1.set o.1 (d.1.getD o.1 0 + 1),some o.2)
def dl (w c:List Int):Nat->List Nat × Option Rat
 | 0=>(List.replicate w.length 0,none)
 | s + 1=>dlS w c (dl w c s)
structure Dealt (w c:List Int) (s:Nat) (n:List Nat) (q:Option Rat):Prop where
 len:n.length=w.length
 cap:∀ k,k < n.length->(n.getD k 0:Int) <= c.getD k 0
 sum:n.sum=s \/ n.sum < s/\∀ k,k < n.length->(n.getD k 0:Int)=c.getD k 0
 non:q=none->∀ k,n.getD k 0=0
 met:∀ r,q=some r->∃ k,k < n.length/\0 < n.getD k 0/\mkRat (w.getD k 0) (n.getD k 0)=r
 low:∀ r,q=some r->∀ k,k < n.length->0 < n.getD k 0->r <= mkRat (w.getD k 0) (n.getD k 0)
 top:∀ r,q=some r->∀ k,k < n.length->(n.getD k 0:Int) < c.getD k 0->mkRat (w.getD k 0) (n.getD k 0 + 1) <= r
end MB
namespace MB
open PySem DL
end MB
namespace MB
def sc (b:Int) (o:Nat × Rat):Nat × Rat:=(o.1,o.2 * (b:Rat))
end MB
namespace MB
def _qga:List (Int × Int)->Int->Int->Option (Int × Int)
 | [],_,_=>none
 | q :: l,rest,W=>if rest <= W * q.1 then some (rest,W) else _qga l (rest - q.2 * q.1) (W - q.2)
def _qse (l:List (Int × Int)):Int:=(l.map fun q=>q.2).sum
def sumT (l:List (Int × Int)):Int:=(l.map fun q=>q.2 * q.1).sum
def capS (l:List (Int × Int)) (x:Rat):Rat:=(l.map fun q=>(q.2:Rat) * min (q.1:Rat) x).sum
theorem _v0:∀ {l:List (Int × Int)},(∀ q∈l,1 <= q.2)->0 <= _qse l
 | [],_=>by simp [_qse]
 | q :: l,h=>by
  have h1:=h q (by simp);have h2:=_v0 (l:=l) fun q hq=>h q (by simp [hq]);simp only [_qse,map_cons,sum_cons] at h2 ⊢; omega
theorem _W0 {rest W t w:Int} (hr:¬ rest <= W * t):(W - w) * t < rest - w * t:=by
 rw [Int.sub_mul]; omega
theorem _Km:∀ (l:List (Int × Int)) (rest W:Int),(∀ q∈l,0 <= q.1/\1 <= q.2)->W=_qse l->0 < rest->_qga l rest W=none->sumT l < rest
 | [],rest,W,_,_,hp,_=>by simpa [sumT] using hp
 | q :: l,rest,W,hq,hW,hp,e=>by
  unfold _qga at e;split at e
  ·cases e
  ·rename_i hr
   have hq1:=hq q (by simp);have hl:∀ q∈l,0 <= q.1/\1 <= q.2:=fun q hm=>hq q (by simp [hm]);have hW':W - q.2=_qse l:=by rw [hW]; simp [_qse]; omega
   have h0:=_v0 (l:=l) fun q hm=>(hl q hm).2;have hp':0 < rest - q.2 * q.1:=by
    have:=_W0 (w:=q.2) hr
    have:0 <= (W - q.2) * q.1:=Int.mul_nonneg (by omega) hq1.1
    omega
   have ih:=_Km l _ _ hl hW' hp' e;simp only [sumT,map_cons,sum_cons] at ih ⊢;omega
theorem _ql0 {l:List (Int × Int)} {x:Rat} (h:∀ q∈l,x <= (q.1:Rat)):capS l x=(_qse l:Rat) * x:=by
 induction l with
 | nil=>simp only [capS,_qse,map_nil,List.sum_nil]; grind
 | cons q l ih =>
  have h1:=h q (by simp);have h2:=ih fun q hq=>h q (by simp [hq]);have hm:min (q.1:Rat) x=x:=by grind
  simp only [capS,_qse,map_cons,sum_cons] at h2 ⊢;rw [h2,hm];push_cast;grind
theorem _Kl:∀ (l:List (Int × Int)) (rest W t0 ρ V:Int),(∀ q∈l,0 <= q.1/\1 <= q.2)->l.Pairwise (fun a b=>a.1 <= b.1)->(∀ q∈l,t0 <= q.1)->W=_qse l->0 < rest->W * t0 <= rest->_qga l rest W=some (ρ,V) ->
  0 < ρ/\ρ <= rest/\1 <= V/\V <= W/\t0 * V <= ρ/\∀ x:Rat,x * (V:Rat)=(ρ:Rat)->capS l x=(rest:Rat)/\∃ q∈l,x <= (q.1:Rat)
 | [],_,_,_,_,_,_,_,_,_,_,_,e=>by cases e
 | q :: l,rest,W,t0,ρ,V,hq,hs,ht,hW,hp,h0,e=>by
  have hq1:=hq q (by simp);have hl:∀ q∈l,0 <= q.1/\1 <= q.2:=fun q hm=>hq q (by simp [hm]);have hW':W - q.2=_qse l:=by rw [hW]; simp [_qse]; omega
  have hn:=_v0 (l:=l) fun q hm=>(hl q hm).2;rw [pairwise_cons] at hs;unfold _qga at e;split at e
  ·rename_i hr
   cases e;refine ⟨hp,Int.le_refl _,by omega,Int.le_refl _,by rw [Int.mul_comm]; exact h0,fun x hx=>?_⟩;have Vp:(0:Rat) < (W:Rat):=by exact_mod_cast (by omega:0 < W)
   have hxq:x <= (q.1:Rat):=by
    have hr':(rest:Rat) <= (q.1:Rat) * (W:Rat):=by
     have:rest <= q.1 * W:=by rw [Int.mul_comm]; exact hr
     exact_mod_cast this
    rw [<- hx] at hr';exact Rat.le_of_mul_le_mul_right hr' Vp
   refine ⟨?_,q,by simp,hxq⟩;rw [_ql0 fun r hm=>?_]
   ·rw [<- hW,<- hx,Rat.mul_comm]
   ·rcases List.mem_cons.mp hm with rfl | hm
    ·exact hxq
    ·have:(q.1:Rat) <= (r.1:Rat):=by exact_mod_cast hs.1 r hm
     exact Rat.le_trans hxq this
  ·rename_i hr
   have hlt:=_W0 (w:=q.2) hr;have hge:0 <= (W - q.2) * q.1:=Int.mul_nonneg (by omega) hq1.1;have hwt:0 <= q.2 * q.1:=Int.mul_nonneg (by omega) hq1.1;obtain ⟨r1,r2,r3,r4,r5,r6⟩:=_Kl l (rest - q.2 * q.1) (W - q.2) q.1 ρ V hl hs.2 (fun r hm=>hs.1 r hm) hW' (by omega) (by omega) e;refine ⟨r1,by omega,r3,by omega,Int.le_trans (Int.mul_le_mul_of_nonneg_right (ht q (by simp)) (by omega)) r5,fun x hx=>?_⟩;obtain ⟨c1,p,c2,c3⟩:=r6 x hx;refine ⟨?_,p,by simp [c2],c3⟩;have Vp:(0:Rat) < (V:Rat):=by exact_mod_cast (by omega:0 < V)
   have hqx:(q.1:Rat) <= x:=by
    have:(q.1:Rat) * (V:Rat) <= (ρ:Rat):=by exact_mod_cast r5
    rw [<- hx] at this;exact Rat.le_of_mul_le_mul_right this Vp
   have hm:min (q.1:Rat) x=(q.1:Rat):=by grind
   simp only [capS,map_cons,sum_cons] at c1 ⊢;rw [c1,hm];push_cast;grind
end MB
namespace L_k80
open PySem DL
noncomputable def _k6:Blk :=
 (_qts (mO [true] (_qe6 [none,some 0] (_d (fC (.int 6)) _qty) (geN 0) (qV (f2 dEq (f2 _qtf (f2 _qti (_qt7 1) (f2 dIx (fL (_qsv (_qlf [1,2,4,8,16,32]))) (_qt7 0))) (fC (.int 2))) (fC (.int 1)))) (oE (_qt7 0)))))
noncomputable def _xs:List D->Option D:=_qsk 1 _k6
noncomputable def _xk:Blk :=
 (_qtr (_qtq 2 (mE [true,false,false,false,false] (f2 _qtf (f2 _qte (_qt7 0) (fC (.int 48271))) (fC (.int 2147483647)))))
  (_qtr (_qtq 3 (mE [false,false,true,false,false] (_A 1 _xs (_d (_qt7 2) _qty))))
  (_qtr (bIf (qV (f2 dEq (f2 _qtf (f2 _qti (_qt7 2) (fC (.int 64))) (fC (.int 3))) (fC (.int 0)))) (_qtq 3 (mO [false,false,false,true,false] (oSl (_qt7 3) ptN (ptE (fC (.int 2)))))) _qtt)
  (_qtr (_qtq 4 (mE [false,true,true,false,false] (f2 _qte (_qt7 1) (f2 _qtl (fC (.int 1)) (f2 _qtf (f2 _qti (_qt7 2) (fC (.int 192))) (fC (.int 6)))))))
  (_qtr (bIf (qV (f2 dEq (f2 _qtf (f2 _qti (_qt7 2) (fC (.int 1152))) (fC (.int 4))) (fC (.int 0)))) (_qtq 4 (mE [true,false,false,false,false] (f2 _qtl (fC (.int 1)) (f2 _qtf (f2 _qti (_qt7 0) (fC (.int 7))) (f2 dPow (fC (.int 10)) (fC (.int 18))))))) _qtt)
  (_qts (mE [false,false,false,true,true] (_qt8 (_d (_qt7 4) (_d (_qt7 3) _qty))))))))))
noncomputable def _qe:List D->Option D:=_qsk 5 _xk
noncomputable def _Qq:Blk :=
 (_qts (mO [true,true] (_qa [none,some 1] (_qt7 0) (geN 0) qT (oE (_A 2 _qe (_d (_qt7 0) (_d (_qt7 1) _qty)))))))
noncomputable def _zr:List D->Option D:=_qsk 2 _Qq
noncomputable def _Qp:Blk :=
 (_qts (mE [true] (f2 dIx (fL (_qsv (_d (fC (.int 1)) (_d (f2 _qtl (fC (.int 1)) (f2 _qtf (f2 _qti (_qt7 0) (fC (.int 5))) (fC (.int 1000)))) (_d (f2 _qtl (fC (.int 1)) (f2 _qtf (f2 _qti (_qt7 0) (fC (.int 5))) (f2 dPow (fC (.int 10)) (fC (.int 17))))) _qty))))) (f2 _qtf (_qt7 0) (fC (.int 3))))))
noncomputable def _zq:List D->Option D:=_qsk 1 _Qp
noncomputable def _zt:Blk :=
 (_qtr (bIf (qV (f2 dLt (_qt7 1) (_qt9 _qtg (_d (_qt7 0) _qty)))) (_qts (mE [true,true] (f2 dIx (_qt7 0) (_qt7 1)))) _qtt)
  (_qtr (bIf (qV (f2 dEq (_qt7 0) (fL (_qsv _qty)))) (_qts (mE [false,true] (f2 _qtl (f2 _qte (f2 _qte (_qt7 1) (_qt7 1)) (fC (.int 7919))) (f2 _qte (fC (.int 13)) (_qt7 1))))) _qtt)
  (_qts (mE [true,true] (f2 _qtf (f2 _qte (f2 _qtl (f2 _qtl (f2 dIx (_qt7 0) (f2 _qtf (_qt7 1) (_qt9 _qtg (_d (_qt7 0) _qty)))) (f2 _qte (f2 _qte (_qt7 1) (_qt7 1)) (fC (.int 7919)))) (fC (.int 1))) (fC (.int 48271))) (fC (.int 2147483647)))))))
noncomputable def _U:List D->Option D:=_qsk 2 _zt
noncomputable def _xh:Blk :=
 (_qts (mO [true,true] (_qa [none,some 1] (_qt7 0) (geN 0) qT (oE (_qt8 (_d (_qt7 1) (_d (fC (.int 1)) _qty)))))))
noncomputable def _B:List D->Option D:=_qsk 2 _xh
noncomputable def _qfp:Blk :=
 (_qts (mE [true,true] (f2 dLt (f2 _qte (f2 dIx (_qt7 0) (fC (.int 0))) (f2 dIx (_qt7 1) (fC (.int 1)))) (f2 _qte (f2 dIx (_qt7 1) (fC (.int 0))) (f2 dIx (_qt7 0) (fC (.int 1)))))))
noncomputable def _Qx:List D->Option D:=_qsk 2 _qfp
noncomputable def _wn:Blk :=
 (bIf (qOr (qV (f2 dIs (_qt7 1) (fC .non))) (qV (_A 2 _Qx (_d (f2 dIx (_qt7 2) (fC (.int 1))) (_d (f2 dIx (_qt7 1) (fC (.int 1))) _qty))))) (_qtq 1 (mE [false,false,true] (_qt7 2))) _qtt)
noncomputable def _qfk:Blk :=
 (_qtr (_qtq 1 (mE [false,false,false] (fC .non)))
  (_qtr (_qtu [true,false,false] (_qt7 0) (gN 2) _wn)
  (_qts (mE [false,true,false] (_qt7 1)))))
noncomputable def _vq:List D->Option D:=_qsk 3 _qfk
noncomputable def _Qi:Blk :=
 (_qts (mE [true] (_qt9 dSum (_d (fL (_qa [none,none] (_qt7 0) (_qt4 [(geN 0),(geN 1)]) qT (oE (_qt7 0)))) _qty))))
noncomputable def _I:List D->Option D:=_qsk 1 _Qi
noncomputable def _k2:Blk :=
 (_qts (mE [true,true] (_qt9 _qtk (_d (fL (_qa [none,some 0] (_qt7 1) (geN 0) qT (oE (f2 dIn (_qt7 0) (f2 dIx (_qt7 1) (fC (.int 1))))))) _qty))))
noncomputable def _q0:List D->Option D:=_qsk 2 _k2
noncomputable def _qae:Blk :=
 (_qts (mO [true,true] (_qe7 [none,none,some 1] (_qt7 0) (_qt4 [(geN 0),(geN 1)]) (qV (_A 2 _q0 (_d (_qt7 1) (_d (_qt7 2) _qty)))) (oE (_qt7 0)))))
noncomputable def _j6:List D->Option O:=_qsi 2 _qae
noncomputable def _qac:Blk :=
 (_qts (mO [true,true] (_Xa 2 _j6 (_d (_qt7 0) (_d (fL (_qsv (_d (_qt7 1) _qty))) _qty)))))
noncomputable def _X:List D->Option O:=_qsi 2 _qac
noncomputable def _Qo:Blk :=
 (_qtr (_qtq 4 (mE [false,false,true,true,false] (f2 _qtf (_qt7 2) (_qt7 3))))
  (_qtr (_qtq 2 (mE [false,false,false,true,false] (_qt7 3)))
  (_qtq 3 (mE [false,false,false,false,true] (_qt7 4)))))
noncomputable def _V6:Blk :=
 (_qtr (_qtq 2 (mE [true,false,false,false,false] (_qt9 dAbs (_d (_qt7 0) _qty))))
  (_qtr (_qtq 3 (mE [false,true,false,false,false] (_qt9 dAbs (_d (_qt7 1) _qty))))
  (_qtr (_wo (qV (f2 dNe (_qt7 3) (fC (.int 0)))) _Qo)
  (_qts (mE [false,false,true,false,false] (_qt7 2))))))
noncomputable def _xc:List D->Option D:=_qsk 5 _V6
noncomputable def _j8:Blk :=
 (_qtq 1 (mE [false,true,false,true] (f2 _qte (_qt7 1) (f2 _qti (_qt7 3) (_A 2 _xc (_d (_qt7 1) (_d (_qt7 3) _qty)))))))
noncomputable def _zg:Blk :=
 (_qtr (_qtq 1 (mE [false,false,false,false] (fC (.int 1))))
  (_qtr (_qtu [true,false,false,false] (_qt7 0) (gTp [(gN 2),(gN 3)]) _j8)
  (_qts (mE [false,true,false,false] (_qt7 1)))))
noncomputable def _y:List D->Option D:=_qsk 4 _zg
noncomputable def _Qk:Blk :=
 (_qts (mO [true,true] (_qa [none,none,some 0] (_qt7 1) (_qt4 [(geN 0),(geN 1)]) qT (oE (f2 _qte (_qt7 0) (f2 _qti (_qt7 2) (_qt7 1)))))))
noncomputable def _S:List D->Option D:=_qsk 2 _Qk
noncomputable def _Qj:Blk :=
 (_qts (mE [true,true] (_qt9 dSum (_d (fL (_qa [none,some 0] (_qt7 1) (geN 0) qT (oE (f2 dIx (f2 dIx (_qt7 1) (_qt7 0)) (fC (.int 0)))))) _qty))))
noncomputable def _qp:List D->Option D:=_qsk 2 _Qj
noncomputable def _qfh:Blk :=
 (_qtr (bIf (qV (f2 dEq (_qt7 1) (fC (.int 0)))) bNever _qtt)
  (_qtr (_qtq 2 (mE [true,true,false] (_A 2 _xc (_d (_qt7 0) (_d (_qt7 1) _qty)))))
  (_qtr (bIf (qV (f2 dLt (_qt7 1) (fC (.int 0)))) (_qtq 2 (mE [false,false,true] (f1 dNeg (_qt7 2)))) _qtt)
  (_qts (mE [true,true,true] (_qt8 (_d (f2 _qti (_qt7 0) (_qt7 2)) (_d (f2 _qti (_qt7 1) (_qt7 2)) _qty))))))))
noncomputable def _vl:List D->Option D:=_qsk 3 _qfh
noncomputable def _k0:Blk :=
 (_qtr (bIf (qV (f2 dLe (_qt7 7) (f2 _qte (_qt7 8) (_qt7 9)))) (_qts (mE [false,false,false,false,false,true,false,true,true,false,false] (_A 2 _vl (_d (_qt7 7) (_d (f2 _qte (_qt7 8) (_qt7 5)) _qty))))) _qtt)
  (_qtr (_qtq 7 (mE [true,false,false,false,false,false,false,true,false,true,true] (f2 dSub (_qt7 7) (f2 _qte (f2 dIx (f2 dIx (_qt7 0) (_qt7 10)) (fC (.int 0))) (_qt7 9)))))
  (_qtq 8 (mE [true,false,false,false,false,false,false,false,true,false,true] (f2 dSub (_qt7 8) (f2 dIx (f2 dIx (_qt7 0) (_qt7 10)) (fC (.int 0))))))))
noncomputable def _qhg:Blk :=
 (_qtr (_qtq 4 (mO [true,false,true,false,false,false,false,false,false,false,false] (_Xa 2 _X (_d (_qt7 0) (_d (_qt7 2) _qty)))))
  (_qtr (_qtq 5 (mE [false,true,false,false,true,false,false,false,false,false,true] (_A 1 _y (_d (fL (_qa [none,some 1] (_qt7 4) (geN 0) qT (oE (f2 dIx (_qt7 1) (_qt7 0))))) _qty))))
  (_qtr (_qtq 6 (mE [false,true,false,false,true,true,false,false,false,false,true] (_A 2 _S (_d (_qt7 5) (_d (fL (_qa [none,some 1] (_qt7 4) (geN 0) qT (oE (f2 dIx (_qt7 1) (_qt7 0))))) _qty)))))
  (_qtr (_qtq 7 (mE [false,false,false,true,false,true,false,false,false,false,false] (f2 _qte (_qt7 3) (_qt7 5))))
  (_qtr (_qtq 8 (mE [true,false,false,false,true,false,false,false,false,false,false] (_A 2 _qp (_d (_qt7 0) (_d (_qt7 4) _qty)))))
  (_qtr (_qtu [false,false,false,false,true,false,true,false,false,false,false] (fL (_qsw _Vr (_d (_qt7 6) (_d (_qt7 4) _qty)))) (gTp [(gN 9),(gN 10)]) _k0)
  (_qts (mE [false,false,false,false,false,false,false,false,false,false,false] (fC .non)))))))))
noncomputable def _Yq:List D->Option D:=_qsk 11 _qhg
noncomputable def _V4:Blk :=
 (bExt 1 [false,false,false,true] _qsr (_qt7 3))
noncomputable def _qfj:Blk :=
 (_qtr (_qtq 1 (mO [false,false,false,false] (_qsv _qty)))
  (_qtr (_qtu [true,false,false,false] (_qt7 0) (gTp [(gN 2),(gN 3)]) _V4)
  (_qts (mO [false,true,false,false] (_qsw _Vs (_d (_qt7 1) _qty))))))
noncomputable def _xb:List D->Option O:=_qsi 4 _qfj
noncomputable def _qab:Blk :=
 (_qtr (_qtq 3 (mO [false,false,true,false,false,false] (_qa [none] (_qt7 2) (geN 0) qT (oE (f2 dIx (_qt7 0) (fC (.int 0)))))))
  (_qtr (_qtq 4 (mE [true,false,false,false,false,false] (_A 1 _I (_d (_qt7 0) _qty))))
  (_qtr (_qtq 5 (mO [true,true,false,true,true,false] (_qa [none,some 0,some 1,some 4,some 3] (fL (_Xa 1 _xb (_d (_qt7 0) _qty))) (geN 0) (qV (f2 _Q8 (_qt7 0) (_qt7 4))) (oE (_qt8 (_d (_qt7 0) (_d (_A 4 _Yq (_d (_qt7 1) (_d (_qt7 2) (_d (_qt7 0) (_d (_qt7 3) _qty))))) _qty)))))))
  (_qts (mO [false,false,false,false,false,true] (_qa [none] (_qt7 5) (geN 0) (qV (f2 _qth (f2 dIx (_qt7 0) (fC (.int 1))) (fC .non))) (oE (_qt7 0))))))))
noncomputable def _vo:List D->Option D:=_qsk 6 _qab
noncomputable def _qfi:Blk :=
 (_qts (mE [true,true] (_A 2 _vl (_d (f2 dSub (f2 _qte (f2 dIx (_qt7 0) (fC (.int 0))) (f2 dIx (_qt7 1) (fC (.int 1)))) (f2 _qte (f2 dIx (_qt7 1) (fC (.int 0))) (f2 dIx (_qt7 0) (fC (.int 1))))) (_d (f2 _qte (f2 dIx (_qt7 0) (fC (.int 1))) (f2 dIx (_qt7 1) (fC (.int 1)))) _qty)))))
noncomputable def _vp:List D->Option D:=_qsk 2 _qfi
noncomputable def _xg:Blk :=
 (_qtr (bIf (qV (_A 2 _Qx (_d (_qt7 0) (_d (_qt7 1) _qty)))) (_qts (mE [false,false] (_qt8 (_d (fC (.int 0)) (_d (fC (.int 1)) _qty))))) _qtt)
  (_qts (mE [true,true] (_A 2 _vp (_d (_qt7 0) (_d (_qt7 1) _qty))))))
noncomputable def _qq:List D->Option D:=_qsk 2 _xg
noncomputable def _qa9:Blk :=
 (bPut 4 [false,false,false,false,false,true] _qsr (_qt7 5) (mE [false,true,false,true,false,true] (_A 2 _qq (_d (f2 dIx (_qt7 1) (_qt7 5)) (_d (_qt7 3) _qty)))))
noncomputable def _ql6:Blk :=
 (_qtr (_qtq 4 (mO [false,true,false,false,false,false] (_qsw _Zd (_d (_qt7 1) _qty))))
  (_qtr (_qtu [true,false,true,false,false,false] (fL (_Xa 2 _X (_d (_qt7 0) (_d (_qt7 2) _qty)))) (gN 5) _qa9)
  (_qts (mE [false,false,false,false,true,false] (_qt7 4)))))
noncomputable def _qeb:List D->Option D:=_qsk 6 _ql6
noncomputable def _Xu:Blk :=
 (_qtr (_qtq 2 (mE [true,false,true,false,true] (_A 4 _qeb (_d (_qt7 0) (_d (_qt7 2) (_d (f2 dIx (_qt7 4) (fC (.int 0))) (_d (f2 dIx (_qt7 4) (fC (.int 1))) _qty)))))))
  (_qtr (bMut 3 [false,false,false,false,false] _qsr (mE [false,false,true,false,true] (_qt8 (_d (f2 dIx (_qt7 4) (fC (.int 0))) (_d (f2 dIx (_qt7 4) (fC (.int 1))) (_d (_qt7 2) _qty))))) _qt5)
  (_qtq 4 (mE [true,false,true,true,false] (_A 1 _vq (_d (_A 3 _vo (_d (_qt7 0) (_d (_qt7 2) (_d (_qt7 3) _qty)))) _qty))))))
noncomputable def _qa8:Blk :=
 (_qtr (_qtq 2 (mE [true,true,false,false,false] (_A 2 _B (_d (_qt7 0) (_d (_qt7 1) _qty)))))
  (_qtr (_qtq 3 (mO [false,false,false,false,false] (_qsv _qty)))
  (_qtr (_qtq 4 (mE [true,false,true,true,false] (_A 1 _vq (_d (_A 3 _vo (_d (_qt7 0) (_d (_qt7 2) (_d (_qt7 3) _qty)))) _qty))))
  (_qtr (_wo (qV (f2 _qth (_qt7 4) (fC .non))) _Xu)
  (_qts (mE [false,false,false,true,false] (_qt7 3)))))))
noncomputable def _vm:List D->Option D:=_qsk 5 _qa8
noncomputable def _zh:Blk :=
 (_qts (mO [true] (_qa [none] (_qt7 0) (geN 0) qT (oE (f2 dIx (_qt7 0) (fC (.int 0)))))))
noncomputable def _qd:List D->Option D:=_qsk 1 _zh
noncomputable def _V3:Blk :=
 (_qts (mE [true,true,true] (_qt9 dSum (_d (fL (_qa [none,some 1,some 0] (_qt7 2) (geN 0) qT (oE (f2 _qte (f2 dIx (f2 dIx (_qt7 2) (_qt7 0)) (fC (.int 0))) (f2 dIx (_qt7 1) (_qt7 0)))))) _qty))))
noncomputable def _q5:List D->Option D:=_qsk 3 _V3
noncomputable def _qhf:Blk :=
 (_qtr (_qtq 3 (mO [true,false,true,false,false,false] (_Xa 2 _X (_d (_qt7 0) (_d (_qt7 2) _qty)))))
  (_qtr (_qtq 4 (mE [false,true,false,false,false,false] (_A 1 _y (_d (_qt7 1) _qty))))
  (_qtr (_qtq 5 (mE [true,true,false,true,true,false] (f2 dSub (f2 _qte (_A 1 _I (_d (_qt7 0) _qty)) (_qt7 4)) (_A 3 _q5 (_d (_qt7 0) (_d (_A 2 _S (_d (_qt7 4) (_d (_qt7 1) _qty))) (_d (_qt7 3) _qty)))))))
  (_qtr (bIf (qV (f2 dLe (_qt7 5) (fC (.int 0)))) (_qts (mE [false,false,false,false,false,false] (_qt8 (_d (fC (.int 0)) (_d (fC (.int 1)) _qty))))) _qtt)
  (_qts (mE [true,false,false,true,true,true] (_A 2 _vl (_d (_qt7 5) (_d (f2 _qte (_A 2 _qp (_d (_qt7 0) (_d (_qt7 3) _qty))) (_qt7 4)) _qty)))))))))
noncomputable def _Yp:List D->Option D:=_qsk 6 _qhf
noncomputable def _qbv:Blk :=
 (_qtr (bIf (qV (f2 dGe (_qt9 _qtg (_d (_qt7 2) _qty)) (_qt7 3))) (_qts (mO [false,false,false,false] (_qsv _qty))) _qtt)
  (_qts (mO [true,true,true,false] (_qa [none,some 0,some 1,some 2] (fL (_Xa 1 _xb (_d (_qt7 0) _qty))) (geN 0) (qV (f2 _Q8 (_qt7 0) (_qt7 3))) (oE (_qt8 (_d (_qt7 0) (_d (_A 3 _Yp (_d (_qt7 1) (_d (_qt7 2) (_d (_qt7 0) _qty)))) _qty))))))))
noncomputable def _Qw:List D->Option D:=_qsk 4 _qbv
noncomputable def _ql4:Blk :=
 (_qts (mE [true,true] (_A 2 _vl (_d (f2 _qtl (f2 _qte (f2 dIx (_qt7 0) (fC (.int 0))) (f2 dIx (_qt7 1) (fC (.int 1)))) (f2 _qte (f2 dIx (_qt7 1) (fC (.int 0))) (f2 dIx (_qt7 0) (fC (.int 1))))) (_d (f2 _qte (f2 dIx (_qt7 0) (fC (.int 1))) (f2 dIx (_qt7 1) (fC (.int 1)))) _qty)))))
noncomputable def _Kt:List D->Option D:=_qsk 2 _ql4
noncomputable def _ze:Blk :=
 (_qtr (_qtq 3 (mO [true,false,true,false] (_Xa 2 _X (_d (_qt7 0) (_d (f2 dIx (_qt7 2) (fC (.int 0))) _qty)))))
  (_qts (mO [false,true,true,true] (_qe7 [none,none,some 3,some 2] (_qt7 1) (_qt4 [(geN 0),(geN 1)]) qT (oE (fIf (qV (f2 dIn (_qt7 0) (_qt7 2))) (_qt8 (_d (fC (.int 0)) (_d (fC (.int 1)) _qty))) (_A 2 _Kt (_d (_qt7 1) (_d (f2 dIx (_qt7 3) (fC (.int 1))) _qty)))))))))
noncomputable def _qu:List D->Option D:=_qsk 4 _ze
noncomputable def _V5:Blk :=
 (_qtr (_qtq 1 (mE [true,true,false,false,false,false,true] (_A 3 _qu (_d (_qt7 0) (_d (_qt7 1) (_d (_qt7 6) _qty))))))
  (_qtr (bMut 5 [false,false,false,false,false,false,false] _qsr (mE [false,true,false,false,false,false,true] (_qt8 (_d (f2 dIx (_qt7 6) (fC (.int 0))) (_d (f2 dIx (_qt7 6) (fC (.int 1))) (_d (_qt7 1) _qty))))) _qt5)
  (_qtr (bMut 4 [false,false,false,false,false,false,false] _qsr (mE [false,false,false,false,false,false,true] (f2 dIx (_qt7 6) (fC (.int 0)))) _qt5)
  (_qtq 6 (mE [true,true,false,true,true,false,false] (_A 1 _vq (_d (_A 4 _Qw (_d (_qt7 0) (_d (_qt7 1) (_d (_qt7 4) (_d (_qt7 3) _qty))))) _qty)))))))
noncomputable def _qfn:Blk :=
 (_qtr (_qtq 4 (mO [false,false,true,false,false,false,false] (_qsw _Zd (_d (_qt7 2) _qty))))
  (_qtr (_qtq 5 (mO [false,false,false,false,false,false,false] (_qsv _qty)))
  (_qtr (_qtq 6 (mE [true,true,false,true,true,false,false] (_A 1 _vq (_d (_A 4 _Qw (_d (_qt7 0) (_d (_qt7 1) (_d (_qt7 4) (_d (_qt7 3) _qty))))) _qty))))
  (_qtr (_wo (qV (f2 _qth (_qt7 6) (fC .non))) _V5)
  (_qts (mE [false,false,false,false,false,true,false] (_qt7 5)))))))
noncomputable def _Xd:List D->Option D:=_qsk 7 _qfn
noncomputable def _x6:Blk :=
 (_qtr (bIf (qV (f2 dEq (_qt7 2) (fL (_qsv _qty)))) (_qts (mE [true,true,false] (_A 2 _B (_d (_qt7 0) (_d (_qt7 1) _qty))))) _qtt)
  (_qts (mE [false,false,true] (f2 dIx (f2 dIx (_qt7 2) (f1 dNeg (fC (.int 1)))) (fC (.int 2))))))
noncomputable def _q1:List D->Option D:=_qsk 3 _x6
noncomputable def _qfo:Blk :=
 (_qtr (_qtq 2 (mE [true,true,false,false,false] (_A 2 _vm (_d (_qt7 0) (_d (_qt7 1) _qty)))))
  (_qtr (_qtq 3 (mE [false,false,true,false,false] (_A 1 _qd (_d (_qt7 2) _qty))))
  (_qtr (_qtq 4 (mE [true,true,true,true,false] (_A 4 _Xd (_d (_qt7 0) (_d (_A 3 _q1 (_d (_qt7 0) (_d (_qt7 1) (_d (_qt7 2) _qty)))) (_d (fL (_qsw _qi7 (_d (_qt7 3) _qty))) (_d (_qt7 1) _qty)))))))
  (_qts (mO [false,false,true,true,true] (_qld (_Qs (_qsw _qi7 (_d (fL (o2 _qtj (_qt7 3) (_A 1 _qd (_d (_qt7 4) _qty)))) _qty)) (_Qs (oE (_qt7 2)) (_Qs (oE (_qt7 4)) _qik)))))))))
noncomputable def _Ku:List D->Option D:=_qsk 5 _qfo
noncomputable def _zf:Blk :=
 (_qts (mO [true,true,true] (_qa [none,some 0,some 1] (_qt7 2) (geN 0) (qV (f2 dIn (_qt7 0) (f2 dIx (f2 dIx (_qt7 1) (_qt7 2)) (fC (.int 1))))) (oE (_qt7 0)))))
noncomputable def _x:List D->Option D:=_qsk 3 _zf
noncomputable def _Z2:Blk :=
 (_qtr (bIf (qOr (qV (f2 dEq (_qt9 _qtg (_d (_qt7 2) _qty)) (fC (.int 0)))) (qV (f2 dEq (_qt9 _qtg (_d (_qt7 3) _qty)) (fC (.int 0))))) (_qts (mE [false,false,false,false,false] (fC (.bl false)))) _qtt)
  (_qtr (_qtq 4 (mO [true,false,true,false,false] (_Xa 2 _j6 (_d (_qt7 0) (_d (_qt7 2) _qty)))))
  (_qtr (bIf (_qsn (qV (_qt9 _qtk (_d (fL (_qa [none,some 4] (_qt7 3) (geN 0) qT (oE (f2 dIn (_qt7 0) (_qt7 1))))) _qty)))) (_qts (mE [false,false,false,false,false] (fC (.bl false)))) _qtt)
  (_qts (mE [true,true,true,true,false] (f2 dGe (f2 _qte (_qt7 1) (_A 2 _qp (_d (_qt7 0) (_d (_qt7 3) _qty)))) (f2 _qte (_qt9 _qtg (_d (_qt7 2) _qty)) (_A 1 _I (_d (_qt7 0) _qty)))))))))
noncomputable def _xq:List D->Option D:=_qsk 5 _Z2
noncomputable def _ke:Blk :=
 (_qtq 1 (mO [false,true,true] (o2 _qtj (_qt7 1) (fL (_qa [none,some 2] (_qt7 1) (geN 0) qT (o2 _qtj (_qt7 0) (fL (_qsv (_d (_qt7 1) _qty)))))))))
noncomputable def _V7:Blk :=
 (_qtr (_qtq 1 (mO [false,false,false] (oLstO (_Qs (_qsv _qty) _qik))))
  (_qtr (_qtu [true,false,false] (_qt7 0) (gN 2) _ke)
  (_qts (mE [false,true,false] (_qt7 1)))))
noncomputable def _xd:List D->Option D:=_qsk 3 _V7
noncomputable def _z7:Blk :=
 (_qtr (_qtq 4 (mO [true,false,true,true,false] (_qa [none,some 3,some 0,some 2] (fL (_Xa 2 _j6 (_d (_qt7 0) (_d (_qt7 3) _qty)))) (geN 0) (qV (f2 dLt (_qt9 _qtg (_d (_A 3 _x (_d (_qt7 2) (_d (_qt7 0) (_d (_qt7 3) _qty)))) _qty)) (_qt9 _qtg (_d (_qt7 1) _qty)))) (oE (_qt7 0)))))
  (bIf (qV (_A 4 _xq (_d (_qt7 0) (_d (_qt7 1) (_d (_qt7 3) (_d (_qt7 4) _qty)))))) (_qts (mE [false,false,false,true,true] (_qt8 (_d (_qt7 3) (_d (_qt7 4) _qty))))) _qtt))
noncomputable def _wm:Blk :=
 (_qtr (_qtu [true,false,false,false,false] (_A 1 _xd (_d (fL (_Xa 1 _xb (_d (_qt7 0) _qty))) _qty)) (gN 3) _z7)
  (_qts (mE [false,false,false,false,false] (fC .non))))
noncomputable def _jy:List D->Option D:=_qsk 5 _wm
noncomputable def _z6:Blk :=
 (_qtr (_qtq 4 (mO [true,false,true,true,false] (_qa [none,some 0,some 2] (fL (_Xa 2 _X (_d (_qt7 0) (_d (_qt7 3) _qty)))) (geN 0) (qV (f2 dEq (_A 3 _x (_d (_qt7 1) (_d (_qt7 0) (_d (_qt7 2) _qty)))) (fL (_qsv _qty)))) (oE (_qt7 0)))))
  (bIf (qV (_A 4 _xq (_d (_qt7 0) (_d (_qt7 1) (_d (fL (_qsv (_d (_qt7 3) _qty))) (_d (_qt7 4) _qty)))))) (_qts (mO [false,false,false,true,true] (_qld (_Qs (_qsv (_d (_qt7 3) _qty)) (_Qs (oE (_qt7 4)) _qik))))) _qtt))
noncomputable def _wl:Blk :=
 (_qtr (_qtu [true,false,false,false,false] (fL (_Xa 1 _xb (_d (_qt7 0) _qty))) (gN 3) _z6)
  (_qts (mE [false,false,false,false,false] (fC .non))))
noncomputable def _zp:List D->Option D:=_qsk 5 _wl
noncomputable def _xv:Blk :=
 (_qts (mE [true,true,true,true] (_qt9 _qtk (_d (fL (_qa [none,some 3] (_A 3 _x (_d (_qt7 0) (_d (_qt7 1) (_d (_qt7 2) _qty)))) (geN 0) qT (oE (f2 dIn (_qt7 0) (_qt7 1))))) _qty))))
noncomputable def _T:List D->Option D:=_qsk 4 _xv
noncomputable def _k4:Blk :=
 (_qts (mO [true,true] (_qa [none,some 1] (_A 1 _xd (_d (_qt7 0) _qty)) (geN 0) (qV (f2 dEq (_qt9 _qtg (_d (_qt7 0) _qty)) (_qt7 1))) (oE (_qt7 0)))))
noncomputable def _jr:List D->Option D:=_qsk 2 _k4
noncomputable def _qf:Blk :=
 (_qtr (_qtq 6 (mO [true,false,true,false,true,true,false] (_qa [none,some 0,some 2,some 5] (_qt7 4) (geN 0) (qV (_A 4 _T (_d (_qt7 1) (_d (_qt7 0) (_d (_qt7 2) (_d (_qt7 3) _qty)))))) (oE (_qt7 0)))))
  (bIf (qV (_A 4 _xq (_d (_qt7 0) (_d (_qt7 1) (_d (_qt7 3) (_d (_qt7 6) _qty)))))) (_qts (mE [false,false,false,true,false,false,true] (_qt8 (_d (_qt7 3) (_d (_qt7 6) _qty))))) _qtt))
noncomputable def _qx:Blk :=
 (_qtr (_qtq 4 (mO [true,false,false,true,false,false,false] (_Xa 2 _j6 (_d (_qt7 0) (_d (_qt7 3) _qty)))))
  (bIf (qV (_A 4 _xq (_d (_qt7 0) (_d (_qt7 1) (_d (_qt7 3) (_d (_qt7 4) _qty)))))) (_qtu [false,false,true,true,false,false,false] (_A 2 _jr (_d (_qt7 2) (_d (_qt9 _qng (_d (f2 dSub (_qt9 _qtg (_d (_qt7 3) _qty)) (fC (.int 1))) (_d (_qt9 _qtg (_d (_qt7 2) _qty)) _qty))) _qty))) (gN 5) _qf) _qtt))
noncomputable def _x5:Blk :=
 (_qtr (_qtu [true,false,false,false,false,false,false] (_A 1 _xd (_d (fL (_Xa 1 _xb (_d (_qt7 0) _qty))) _qty)) (gN 3) _qx)
  (_qts (mE [false,false,false,false,false,false,false] (fC .non))))
noncomputable def _E:List D->Option D:=_qsk 7 _x5
noncomputable def _k1:Blk :=
 (_qtr (bMut 3 [false,false,false,false,false,false,false] _qsr (mO [false,false,true,false,true,false,true] (_qld (_Qs (oE (_qt7 4)) (_Qs (_qcg [none,none] (_qt7 2) (_qt7 6) (_qt4 [(geN 0),(geN 1)]) qT (oE (_A 2 _vp (_d (_qt7 0) (_d (_qt7 1) _qty))))) _qik)))) _qt5)
  (_qtq 2 (mE [false,false,false,false,false,false,true] (_qt7 6))))
noncomputable def _Xv:Blk :=
 (_qtr (_qtq 2 (mE [true,true,false,false,false,false,false] (_A 2 _B (_d (_qt7 0) (_d (_qt7 1) _qty)))))
  (_qtr (_qtq 3 (mO [false,false,false,false,false,false,false] (_qsv _qty)))
  (_qtr (_qtu [true,true,false,false,false,false,false] (_A 2 _vm (_d (_qt7 0) (_d (_qt7 1) _qty))) (gTp [(gN 4),(gN 5),(gN 6)]) _k1)
  (_qts (mMv 3)))))
noncomputable def _vn:List D->Option O:=_qsi 7 _Xv
noncomputable def _Xw:Blk :=
 (_qts (mE [true] (_qta (fIsi "int" (_qt7 0)) (fNot (fIsi "bool" (_qt7 0))))))
noncomputable def _jz:List D->Option D:=_qsk 1 _Xw
noncomputable def _z9:Blk :=
 (_qts (mE [true] (_qta (_A 1 _jz (_d (_qt7 0) _qty)) (_qta (f2 dGe (_qt7 0) (fC (.int 0))) (f2 dLe (_qt7 0) (fC (.int 5)))))))
noncomputable def _q7:List D->Option D:=_qsk 1 _z9
noncomputable def _Qn:Blk :=
 (_qtr (bIf (qOr (_qsn (qV (fIsi "tuple" (_qt7 0)))) (qV (f2 dNe (_qt9 _qtg (_d (_qt7 0) _qty)) (fC (.int 2))))) (_qts (mE [false,false,false] (fC (.bl false)))) _qtt)
  (_qtr (_qtq 1 (mE [true,false,false] (f2 dIx (_qt7 0) (fC (.int 0)))))
  (_qtr (_qtq 2 (mE [true,false,false] (f2 dIx (_qt7 0) (fC (.int 1)))))
  (_qtr (bIf (qOr (_qsn (qV (_A 1 _jz (_d (_qt7 1) _qty)))) (_qsn (qV (_A 1 _jz (_d (_qt7 2) _qty))))) (_qts (mE [false,false,false] (fC (.bl false)))) _qtt)
  (_qts (mE [false,true,true] (_qta (f2 dGe (_qt7 1) (fC (.int 0))) (_qta (f2 dGe (_qt7 2) (fC (.int 1))) (f2 dEq (_A 2 _xc (_d (_qt7 1) (_d (_qt7 2) _qty))) (fC (.int 1)))))))))))
noncomputable def _jq:List D->Option D:=_qsk 3 _Qn
noncomputable def _z8:Blk :=
 (_qts (mE [true,true] (_qta (fIsi "list" (_qt7 0)) (_qta (f2 dEq (_qt9 _qtg (_d (_qt7 0) _qty)) (_qt7 1)) (_qt9 _qtk (_d (fL (_qa [none] (_qt7 0) (geN 0) qT (oE (_A 1 _jq (_d (_qt7 0) _qty))))) _qty))))))
noncomputable def _q6:List D->Option D:=_qsk 2 _z8
noncomputable def _Xy:Blk :=
 (_qts (mE [true,true] (_qta (fIsi "tuple" (_qt7 0)) (_qta (f2 dEq (_qt9 _qtg (_d (_qt7 0) _qty)) (fC (.int 2))) (_qta (_A 1 _q7 (_d (f2 dIx (_qt7 0) (fC (.int 0))) _qty)) (_A 2 _q6 (_d (f2 dIx (_qt7 0) (fC (.int 1))) (_d (_qt7 1) _qty))))))))
noncomputable def _vs:List D->Option D:=_qsk 2 _Xy
noncomputable def _k3:Blk :=
 (_qtr (bIf (qOr (_qsn (qV (_A 2 _vs (_d (_qt7 3) (_d (_qt7 1) _qty))))) (qV (f2 dIn (f2 dIx (_qt7 3) (fC (.int 0))) (_qt7 2)))) (_qts (mE [false,false,false,false] (fC (.bl false)))) _qtt)
  (bMut 2 [false,false,false,false] _qsr (mE [false,false,false,true] (f2 dIx (_qt7 3) (fC (.int 0)))) _qt5))
noncomputable def _Xx:Blk :=
 (_qtr (bIf (_qsn (qV (fIsi "list" (_qt7 0)))) (_qts (mE [false,false,false,false] (fC (.bl false)))) _qtt)
  (_qtr (_qtq 2 (mO [false,false,false,false] (_qsv _qty)))
  (_qtr (_qtu [true,false,false,false] (_qt7 0) (gN 3) _k3)
  (_qts (mE [false,false,false,false] (fC (.bl true)))))))
noncomputable def _vr:List D->Option D:=_qsk 4 _Xx
noncomputable def _Qm:Blk :=
 (_qtr (_qtq 3 (mO [true,true,false,false,false,false,false] (_Xa 2 _X (_d (_qt7 0) (_d (_qt7 1) _qty)))))
  (_qtr (_qtq 4 (mE [false,false,true,false,false,false,false] (_A 1 _y (_d (_qt7 2) _qty))))
  (_qtr (_qtq 5 (mE [false,false,true,false,true,false,false] (_A 2 _S (_d (_qt7 4) (_d (_qt7 2) _qty)))))
  (_qtr (_qtq 6 (mO [true,false,false,true,false,false,false] (_qe6 [none,some 3] (_d (_qt9 _qtg (_d (_qt7 0) _qty)) _qty) (geN 0) (qV (f2 _Q8 (_qt7 0) (_qt7 1))) (oE (_qt7 0)))))
  (_qts (mE [true,false,false,true,true,true,true] (_qta (_qt9 _qtk (_d (fL (_qa [none,some 5] (_qt7 6) (geN 0) qT (oE (f2 dEq (f2 dIx (_qt7 1) (_qt7 0)) (fC (.int 0)))))) _qty)) (f2 dEq (_A 3 _q5 (_d (_qt7 0) (_d (_qt7 5) (_d (_qt7 3) _qty)))) (f2 _qte (_A 1 _I (_d (_qt7 0) _qty)) (_qt7 4))))))))))
noncomputable def _jp:List D->Option D:=_qsk 7 _Qm
noncomputable def _je:Blk :=
 (bExt 1 [false,false,false,true] _qsr (_qt7 3))
noncomputable def _j9:Blk :=
 (_qtr (_qtq 1 (mO [false,false,false,false] (_qsv _qty)))
  (_qtr (_qtu [true,false,false,false] (_qt7 0) (gTp [(gN 2),(gN 3)]) _je)
  (_qts (mE [false,true,false,false] (_A 1 _y (_d (_qt7 1) _qty))))))
noncomputable def _qb:List D->Option D:=_qsk 4 _j9
noncomputable def _vy:Blk :=
 (_qtq 4 (mO [false,false,false,true,true,false,true] (_qcg [none,none] (_qt7 4) (_A 2 _S (_d (_qt7 3) (_d (_qt7 6) _qty))) (_qt4 [(geN 0),(geN 1)]) qT (oE (f2 dSub (_qt7 0) (_qt7 1))))))
noncomputable def _Ql:Blk :=
 (_qtr (_qtq 4 (mO [true,true,false,true,false,false,false] (_qa [none,some 1,some 3] (_qt7 0) (geN 0) qT (oE (f2 _qte (_qt7 1) (_qt7 2))))))
  (_qtr (_qtu [false,false,true,false,false,false,false] (_qt7 2) (gTp [(gN 5),(gN 6)]) _vy)
  (_qts (mE [false,false,false,false,true,false,false] (_qt7 4)))))
noncomputable def _zo:List D->Option D:=_qsk 7 _Ql
noncomputable def _qaa:Blk :=
 (_qtr (_qtq 2 (mO [false,true,false] (_qa [none] (_qt7 1) (geN 0) qT (oE (f2 dIx (_qt7 0) (fC (.int 0)))))))
  (_qts (mO [true,false,true] (_qa [none,some 2] (fL (_Xa 1 _xb (_d (_qt7 0) _qty))) (geN 0) (qV (f2 _Q8 (_qt7 0) (_qt7 1))) (oE (_qt7 0))))))
noncomputable def _Xb:List D->Option D:=_qsk 3 _qaa
noncomputable def _jd:Blk :=
 (_qtr (_qtq 3 (mE [false,false,true,false,false,false] (_A 1 _qb (_d (_qt7 2) _qty))))
  (_qtr (_qtq 4 (mE [true,true,true,true,false,false] (_A 4 _zo (_d (_qt7 0) (_d (_qt7 1) (_d (_qt7 2) (_d (_qt7 3) _qty)))))))
  (_qtr (_qtq 5 (mE [true,false,false,true,false,false] (f2 _qte (_A 1 _I (_d (_qt7 0) _qty)) (_qt7 3))))
  (_qts (mE [true,false,true,false,true,true] (_qta (_qt9 _qtk (_d (fL (_qa [none] (_qt7 4) (geN 0) qT (oE (f2 dGe (_qt7 0) (fC (.int 0)))))) _qty)) (_qt9 _qtk (_d (fL (_qa [none,some 5,some 0,some 4] (_A 2 _Xb (_d (_qt7 0) (_d (_qt7 2) _qty))) (geN 0) qT (oE (f2 dLt (_A 3 _q5 (_d (_qt7 2) (_d (_qt7 3) (_d (fL (_Xa 2 _X (_d (_qt7 2) (_d (_qt7 0) _qty)))) _qty)))) (_qt7 1))))) _qty))))))))
noncomputable def _O:List D->Option D:=_qsk 6 _jd
noncomputable def _ql5:Blk :=
 (_qtr (bIf (_qsn (qV (_A 2 _vr (_d (_qt7 2) (_d (_qt9 _qtg (_d (_qt7 0) _qty)) _qty))))) (_qts (mE [false,false,false] (fC (.bl false)))) _qtt)
  (_qtr (bIf (_qsn (qV (_qt9 _qtk (_d (fL (_qa [none,none,some 0] (_qt7 2) (_qt4 [(geN 0),(geN 1)]) qT (oE (_A 3 _jp (_d (_qt7 2) (_d (_qt7 0) (_d (_qt7 1) _qty))))))) _qty)))) (_qts (mE [false,false,false] (fC (.bl false)))) _qtt)
  (_qts (mE [true,true,true] (_A 3 _O (_d (_qt7 0) (_d (_qt7 1) (_d (_qt7 2) _qty))))))))
noncomputable def _qci:List D->Option D:=_qsk 3 _ql5
noncomputable def _jf:Blk :=
 (_qtr (_qtq 5 (mO [false,false,false,true,true,false,false] (o2 _qtj (fL (oSl (_qt7 3) ptN (ptE (_qt7 4)))) (fL (oSl (_qt7 3) (ptE (f2 _qtl (_qt7 4) (fC (.int 1)))) ptN)))))
  (_qtr (_qtq 6 (mO [false,false,false,false,false,true,false] (_qsw _qi7 (_d (fL (_qa [none] (_qt7 5) (geN 0) qT (oE (f2 dIx (_qt7 0) (fC (.int 0)))))) _qty))))
  (bIf (qAnd (qV (_A 3 _qci (_d (_qt7 0) (_d (_qt7 1) (_d (_qt7 5) _qty))))) (qV (f2 _qth (_A 3 _E (_d (_qt7 0) (_d (_qt7 1) (_d (_qt7 6) _qty)))) (fC .non)))) (_qts (mE [false,false,false,false,false,false,false] (fC (.bl false)))) _qtt)))
noncomputable def _k5:Blk :=
 (_qtr (_qtq 3 (mO [true,true,false,false,false,false,false] (_Xa 2 _vn (_d (_qt7 0) (_d (_qt7 1) _qty)))))
  (_qtr (bIf (qOr (qV (f2 _qth (_A 3 _qci (_d (_qt7 0) (_d (_qt7 1) (_d (_qt7 3) _qty)))) (fC (.bl true)))) (qV (f2 dNe (fL (_qa [none] (_qt7 3) (geN 0) qT (oE (f2 dIx (_qt7 0) (fC (.int 0)))))) (_qt7 2)))) (_qts (mE [false,false,false,false,false,false,false] (fC (.bl false)))) _qtt)
  (_qtr (bForR [false,false,false,true,false,false,false] (_d (_qt9 _qtg (_d (_qt7 3) _qty)) _qty) (gN 4) _jf)
  (_qts (mE [false,false,false,false,false,false,false] (fC (.bl true)))))))
noncomputable def _xr:List D->Option D:=_qsk 7 _k5
noncomputable def _qad:Blk :=
 (_qts (mE [true,true] (_A 4 _Xd (_d (_qt7 0) (_d (fL (_qa [none] (_qt7 0) (geN 0) qT (oE (_qt8 (_d (fC (.int 0)) (_d (fC (.int 1)) _qty)))))) (_d (fL (_qsv _qty)) (_d (_qt7 1) _qty)))))))
noncomputable def _Xc:List D->Option D:=_qsk 2 _qad
noncomputable def _xw:Blk :=
 (bIf (qV (f2 dGe (_qt9 _qtg (_d (fL (_qa [none,some 4] (f2 dIx (f2 dIx (_qt7 0) (_qt7 8)) (fC (.int 1))) (geN 0) (qV (f2 dIn (_qt7 0) (_qt7 1))) (oE (_qt7 0)))) _qty)) (_qt9 _qtg (_d (_qt7 6) _qty)))) (_qts (mE [false,false,false,false,false,false,false,false,false] (fC (.bl false)))) _qtt)
noncomputable def _xi:Blk :=
 (_qtr (_qtq 4 (mO [false,false,true,true,false,false,false,false,false] (_qa [none,some 3] (_qt7 2) (geN 0) (qV (f2 dNe (_qt7 0) (_qt7 1))) (oE (_qt7 0)))))
  (_qtr (_qtq 5 (mE [true,true,false,false,true,false,false,false,false] (_A 3 _jy (_d (_qt7 0) (_d (_qt7 1) (_d (fL (_qsw _Zd (_d (_qt7 4) _qty))) _qty))))))
  (_qtr (bIf (qV (f2 dIs (_qt7 5) (fC .non))) (_qts (mE [true,true,false,false,true,false,false,false,false] (f2 dIs (_A 3 _E (_d (_qt7 0) (_d (_qt7 1) (_d (fL (_qsw _Zd (_d (_qt7 4) _qty))) _qty)))) (fC .non)))) _qtt)
  (_qtr (bUnp [false,false,false,false,false,true,false,false,false] (_qt7 5) (gTp [(gN 6),(gN 7)]))
  (_qtr (bIf (_qsn (qV (_A 4 _xq (_d (_qt7 0) (_d (_qt7 1) (_d (fL (_qsw _Zd (_d (_qt7 6) _qty))) (_d (fL (_qsw _Zd (_d (_qt7 7) _qty))) _qty))))))) (_qts (mE [false,false,false,false,false,false,false,false,false] (fC (.bl false)))) _qtt)
  (_qtr (_qtu [false,false,false,false,false,false,false,true,false] (_qt7 7) (gN 8) _xw)
  (_qts (mE [false,false,false,false,false,false,false,false,false] (fC (.bl true))))))))))
noncomputable def _qr:List D->Option D:=_qsk 9 _xi
noncomputable def _qbw:Blk :=
 (bIf (qV (f2 _qth (_qt7 6) (fC .non))) (_qts (mE [false,false,false,false,false,false,false,false,false] (fC (.bl false)))) _qtt)
noncomputable def _qfm:Blk :=
 (bIf (_qsn (qV (_A 4 _qr (_d (_qt7 1) (_d (_qt7 2) (_d (_qt7 3) (_d (_qt7 8) _qty))))))) (_qts (mE [false,false,false,false,false,false,false,false,false] (fC (.bl false)))) _qtt)
noncomputable def _qii:Blk :=
 (_qtr (bIf (qV (f2 _qth (_A 3 _E (_d (_qt7 1) (_d (_qt7 2) (_d (fL (_qsw _qi7 (_d (fL (_qa [none] (_A 2 _Xc (_d (_qt7 1) (_d (_qt7 2) _qty))) (geN 0) qT (oE (f2 dIx (_qt7 0) (fC (.int 0)))))) _qty))) _qty)))) (fC .non))) (_qts (mE [false,false,false,false,false,false,false,false,false] (fC (.bl false)))) _qtt)
  (_qtr (_qtu [false,false,false,true,false,false,false,false,false] (fL (oSl (_qt7 3) ptN (ptE (fC (.int 3))))) (gN 8) _qfm)
  (_qts (mE [false,false,false,false,false,false,false,false,false] (fC (.bl true))))))
noncomputable def _qfl:Blk :=
 (_qtr (_qtu [false,true,true,true,false,false,false,false,false] (fL (_qsv (_d (_A 3 _jy (_d (_qt7 1) (_d (_qt7 2) (_d (fL (_qsw _Zd (_d (_qt7 3) _qty))) _qty)))) (_d (_A 3 _zp (_d (_qt7 1) (_d (_qt7 2) (_d (fL (_qsw _Zd (_d (_qt7 3) _qty))) _qty)))) _qty)))) (gN 6) _qbw)
  (_qtr (_qtq 7 (mO [false,false,false,false,true,false,false,false,false] (_qa [none] (_qt7 4) (geN 0) qT (oE (f2 dIx (_qt7 0) (fC (.int 0)))))))
  (_qtr (bIf (qOr (qV (f2 _qth (_A 3 _E (_d (_qt7 1) (_d (_qt7 2) (_d (fL (_qsw _Zd (_d (_qt7 3) _qty))) _qty)))) (fC .non))) (_qsn (qV (_A 3 _xr (_d (_qt7 1) (_d (_qt7 2) (_d (_qt7 7) _qty))))))) (_qts (mE [false,false,false,false,false,false,false,false,false] (fC (.bl false)))) _qtt)
  _qii)))
noncomputable def b_law:Blk :=
 (_qtr (_qtq 1 (mE [true,false,false,false,false,false,false,false,false] (_A 2 _zr (_d (fL (oSl (_qt7 0) (ptE (fC (.int 2))) (ptE (fC (.int 8))))) (_d (_A 1 _zq (_d (_A 2 _U (_d (_qt7 0) (_d (fC (.int 1)) _qty))) _qty)) _qty)))))
  (_qtr (bIf (qV (f2 dEq (_qt7 1) (fL (_qsv _qty)))) (_qtq 1 (mO [true,false,false,false,false,false,false,false,false] (oLstO (_Qs (_qld (_Qs (oE (f2 _qtl (fC (.int 1)) (f2 _qtf (_A 2 _U (_d (_qt7 0) (_d (fC (.int 1)) _qty))) (f2 dPow (fC (.int 10)) (fC (.int 18)))))) (_Qs (_qsv (_qlf [0,1,2])) _qik))) _qik)))) _qtt)
  (_qtr (_qtq 2 (mE [true,false,false,false,false,false,false,false,false] (f2 _qtl (fC (.int 1)) (f2 _qtf (_A 2 _U (_d (_qt7 0) (_d (fC (.int 0)) _qty))) (fC (.int 6))))))
  (_qtr (bUnp [false,true,true,false,false,false,false,false,false] (_A 2 _Ku (_d (_qt7 1) (_d (_qt7 2) _qty))) (gTp [(gN 3),(gN 4),(gN 5)]))
  _qfl))))
noncomputable def _qi3:List D->Option D:=_qsk 9 b_law
end L_k80
set_option maxHeartbeats 4000000
namespace L_k80
open PySem DL MB
theorem _Jh (l:List Int):D.lst (l.map D.int)=_g l:=rfl
theorem _qe9 (b:Int) (d:Option D):_ji (geN 0) (qV (f2 dEq (f2 _qtf (f2 _qti (_qt7 1) (f2 dIx (fL (_qsv (_qlf [1,2,4,8,16,32]))) (_qt7 0))) (fC (.int 2))) (fC (.int 1)))) (oE (_qt7 0)) (_qsm 0 6) [d,some (.int b)]=some ((mkb b).map fun k=>O.sh (.int k)):=by
 rw [rng6];exact _l (inj:=D.int) (fun ρ=>∃ d,ρ=[d,some (.int b)]) (fun k=>(b.fdiv (pw2 k)).fmod 2 == 1) (fun k=>O.sh (.int k)) [0,1,2,3,4,5] [d,some (.int b)] ⟨_,rfl⟩ (by
  rintro k hk ρ ⟨d,rfl⟩;obtain ⟨e1,e2,e3⟩:=_qog hk;have m2:_qtf (.int (b.fdiv (pw2 k))) (.int 2)=some (.int ((b.fdiv (pw2 k)).fmod 2)):=_x2 (by decide);exact ⟨_,rfl,⟨_,rfl⟩,by simp [_qu4,_qfs,e1,_wi e2 e3,m2],fun _=>by simp⟩)
theorem _K0 {h:List _qu2} {i:Nat} (hi:i < h.length):dIx (_t h) (.int (i:Int))=some (_xy h[i]):=by
 have:=dIx_l (ds:=h.map _xy) (i:=i) (by simpa using hi)
 rw [_t,this]; simp
theorem _qb8 {l:List Int} {i:Nat} (h:i < l.length):dIx (_g l) (.int (i:Int))=some (.int l[i]):=by
 have:=dIx_l (ds:=l.map .int) (i:=i) (by simpa using h)
 rw [_g,this]; simp
theorem _qjy (p:_qu2) (s:List Int) (hs:s.length <= 100):_q0 [_xy p,_g s]=some (.bl (_j7 p.2 s)):=by
 have hc:_ji (geN 0) qT (oE (f2 dIn (_qt7 0) (f2 dIx (_qt7 1) (fC (.int 1))))) (s.map D.int) [none,some (_xy p)]=some (s.map fun c=>O.sh (.bl (has p.2 c))):=by
  have:=_l (inj:=D.int) (g:=geN 0) (c:=qT) (e:=oE (f2 dIn (_qt7 0) (f2 dIx (_qt7 1) (fC (.int 1))))) (fun ρ=>∃ d,ρ=[d,some (_xy p)]) (fun _=>true) (fun c=>O.sh (.bl (has p.2 c))) s [none,some (_xy p)] ⟨_,rfl⟩ (by
   rintro c _ ρ ⟨d,rfl⟩;exact ⟨_,rfl,⟨_,rfl⟩,rfl,fun _=>by simp⟩)
  rwa [List.filter_eq_self.mpr (by simp)] at this
 have hd:oDs (s.map fun c=>O.sh (.bl (has p.2 c)))=some (s.map fun c=>D.bl (has p.2 c)):=_qt (fun c=>by simp) s;have hb:_qcr (s.map fun c=>D.bl (has p.2 c))=some (s.map fun c=>has p.2 c):=by
  clear hc hd hs
  induction s with
  | nil=>rfl
  | cons c s ih=>simp [_qcr,ih]
 have hl:s.length <= 100000:=by omega
 simp [_q0,_qsk,_qsi,ini,_k2,_qa,mkD,hl,_qu4,hc,hd,_qtk,hb,_j7,all_map,Function.comp_def]
theorem _Jk (h:List _qu2) (s:List Int) (hh:h.length <= 100) (hs:s.length <= 100):_j6 [_t h,_g s]=some (ow ((agr h s).map .int)):=by
 have hc:_ji (_qt4 [(geN 0),(geN 1)]) (qV (_A 2 _q0 (_d (_qt7 1) (_d (_qt7 2) _qty)))) (oE (_qt7 0)) (_qez (h.map _xy)) [none,none,some (_g s)]=some ((agr h s).map fun i=>O.sh (.int i)):=by
  rw [_qbj]
  have:=_l (inj:=fun q:Nat × _qu2=>D.tup [.int (q.1:Int),_xy q.2]) (g:=_qt4 [(geN 0),(geN 1)]) (c:=qV (_A 2 _q0 (_d (_qt7 1) (_d (_qt7 2) _qty)))) (e:=oE (_qt7 0))
   (fun ρ=>∃ d d',ρ=[d,d',some (_g s)]) (fun q=>_j7 q.2.2 s) (fun q=>O.sh (.int (q.1:Int))) ((List.range h.length).zip h) [none,none,some (_g s)] ⟨_,_,rfl⟩ (by
   rintro ⟨i,p⟩ _ ρ ⟨d,d',rfl⟩;exact ⟨_,rfl,⟨_,_,rfl⟩,by simp [_qjy p s hs],fun _=>by simp⟩)
  rw [this];have e:=_qcw (fun p:_qu2=>_j7 p.2 s) h;show some _=some ((agr h s).map _);unfold agr;rw [<- e,map_map,map_map];rfl
 have hl:h.length <= 100000:=by omega
 simp [_j6,_qsi,ini,_qae,_qe7,mkD,hl,_qu4,hc,ow]
theorem _z1 (h:List _qu2) (c:Int) (hh:h.length <= 100):_X [_t h,.int c]=some (ow ((agr h [c]).map .int)):=by
 have ha:=_Jk h [c] hh (by simp);simp only [_g,map_cons,map_nil] at ha;simp [_X,_qsi,ini,_qac,_qu4,ha]
def _jx (h:List _qu2):List Int:=h.flatMap fun p=>p.2
theorem _qk0 (h:List _qu2) (hh:h.length <= 100) (hm:∀ p∈h,p.2.length <= 12) (h64:(_qi (_jx h)).length < 64):_xb [_t h]=some (ow ((_qi (_jx h)).map .int)):=by
 have hlen:∀ l:List _qu2,(∀ p∈l,p.2.length <= 12)->(_jx l).length <= 12 * l.length:=by
  intro l
  induction l with
  | nil=>intro _; simp [_jx]
  | cons p l ih =>
   intro hp;have h1:=hp p (by simp);have h2:=ih fun q m=>hp q (by simp [m]);simp [_jx] at h2 ⊢;omega
 obtain ⟨ρ',h1,c,c',h2⟩:=_Y2 (inj:=_xy) (g:=gTp [(gN 2),(gN 3)]) (b:=_V4) (fun pre ρ=>∃ c c',ρ=[some (.sh (_t h)),some (ow ((_jx pre).map .int)),c,c']) h
  [some (.sh (_t h)),some (ow []),none,none] ⟨_,_,rfl⟩ (by
   rintro pre p post ρ e ⟨c,c',rfl⟩;have hp:p.2.length <= 12:=hm p (by rw [e]; simp);have hpre:(_jx pre).length <= 12 * pre.length:=hlen pre fun q m=>hm q (by rw [e]; simp [m]);have hpl:pre.length <= 100:=by have:=congrArg List.length e; simp at this; omega
   refine ⟨[some (.sh (_t h)),some (ow ((_jx pre).map .int)),some (.sh (.int p.1)),some (.sh (_g p.2))],_,rfl,.inl ?_,some (.sh (.int p.1)),some (.sh (_g p.2)),rfl⟩;have hl:(_jx pre).length + p.2.length <= _qu4:=by simp only [_qu4]; omega
   have em:_jx (pre++[p])=_jx pre++p.2:=by simp [_jx]
   rw [em];simp [_V4,bExt,_qsr,_g,atO,gExt,ow,hl,-map_append]
   simp)
 have hn:(_jx h).length < 4000:=by have:=hlen h hm; omega
 simp [_xb,_qsi,ini,_qfj,_qtu,_qu4,h1,h2,_Vs,hn,h64]
theorem _qjw (b:Int):_xs [.int b]=some (_g (mkb b)):=by
 have mc:=_qe9 b none;have r6:(6:Int).toNat=6:=rfl;have hd:oDs ((mkb b).map fun k=>O.sh (.int k))=some ((mkb b).map .int):=_qt (fun p=>by simp) _;simp [_xs,_qsk,_qsi,ini,_k6,_qe6,mkD,_qu4,r6,mc,hd,_g]
def _kk (n:Int):Int:=(n * 48271).fmod 2147483647
def _Yn (n:Int):List Int:=if ((_kk n).fdiv 64).fmod 3=0 then (mkb (_kk n)).take 2 else mkb (_kk n)
def _k8 (n unit:Int):Int:=if ((_kk n).fdiv 1152).fmod 4=0 then 1 + (n.fdiv 7).fmod P18 else unit * (1 + ((_kk n).fdiv 192).fmod 6)
def _Kn (unit n:Int):_qu2:=(_k8 n unit,_Yn n)
theorem _qm9 (n unit:Int):_qe [.int n,.int unit]=some (_xy (_Kn unit n)):=by
 have h1:_qte (.int n) (.int 48271)=some (.int (n * 48271)):=_qh6 (by decide);have h2:_qtf (.int (n * 48271)) (.int 2147483647)=some (.int (_kk n)):=_x2 (by decide);have h3:=_qjw (_kk n);have d64:_qti (.int (_kk n)) (.int 64)=some (.int ((_kk n).fdiv 64)):=_wi (by decide) (_wj (k:=7) (by decide) (by decide));have d192:_qti (.int (_kk n)) (.int 192)=some (.int ((_kk n).fdiv 192)):=_wi (by decide) (_wj (k:=8) (by decide) (by decide));have d1152:_qti (.int (_kk n)) (.int 1152)=some (.int ((_kk n).fdiv 1152)):=_wi (by decide) (_wj (k:=11) (by decide) (by decide));have d7:_qti (.int n) (.int 7)=some (.int (n.fdiv 7)):=_wi (by decide) (_wj (k:=3) (by decide) (by decide));have m3:_qtf (.int ((_kk n).fdiv 64)) (.int 3)=some (.int (((_kk n).fdiv 64).fmod 3)):=_x2 (by decide);have m6:_qtf (.int ((_kk n).fdiv 192)) (.int 6)=some (.int (((_kk n).fdiv 192).fmod 6)):=_x2 (by decide);have m4:_qtf (.int ((_kk n).fdiv 1152)) (.int 4)=some (.int (((_kk n).fdiv 1152).fmod 4)):=_x2 (by decide);have mP:_qtf (.int (n.fdiv 7)) (.int P18)=some (.int ((n.fdiv 7).fmod P18)):=_x2 _qnu;have u1:=Int.fmod_lt_of_pos ((_kk n).fdiv 192) (b:=6) (by decide);have u0:=Int.fmod_nonneg_of_pos ((_kk n).fdiv 192) (b:=6) (by decide);have hw:_qte (.int unit) (.int (1 + ((_kk n).fdiv 192).fmod 6))=some (.int (unit * (1 + ((_kk n).fdiv 192).fmod 6))):=_qh6 (lt_of_lt_of_le (show _ < 8 by omega) (by decide));have k1:_qtm ((mkb (_kk n)).map D.int) none (some 2)=((mkb (_kk n)).take 2).map .int:=by rw [show (2:Int)=((2:Nat):Int) from rfl,_qa0,map_take]
 have hz:∀ l:List Int,oD (ow (l.map .int))=some (_g l):=fun l=>_Vu l;have hi:∀ l:List Int,fzc (some (ow (l.map .int)))=some (.sh (_g l)):=fun l=>by simp [fzc,hz]
 have es:∀ l:List Int,D.lst (l.map .int)=_g l:=fun _=>rfl
 by_cases c1:((_kk n).fdiv 64).fmod 3=0 <;> by_cases c2:((_kk n).fdiv 1152).fmod 4=0
 ·simp [_qe,_qsk,_qsi,ini,_xk,_qu4,h1,h2,h3,d64,d192,d1152,d7,m3,m6,m4,mP,hw,oSl,ptN,ptE,k1,pw18,c1,c2,hi,hz,es,_xy,_Kn,_k8,_Yn,-map_take]
 ·simp [_qe,_qsk,_qsi,ini,_xk,_qu4,h1,h2,h3,d64,d192,d1152,d7,m3,m6,m4,mP,hw,oSl,ptN,ptE,k1,pw18,c1,c2,hi,hz,es,_xy,_Kn,_k8,_Yn,-map_take]
 ·simp [_qe,_qsk,_qsi,ini,_xk,_qu4,h1,h2,h3,d64,d192,d1152,d7,m3,m6,m4,mP,hw,pw18,c1,c2,_xy,_Kn,_k8,_Yn]
 ·simp [_qe,_qsk,_qsi,ini,_xk,_qu4,h1,h2,h3,d64,d192,d1152,d7,m3,m6,m4,mP,hw,pw18,c1,c2,_xy,_Kn,_k8,_Yn]
theorem _qmx (cells:List Int) (unit:Int) (hl:cells.length <= 100):_zr [_g cells,.int unit]=some (_t (cells.map (_Kn unit))):=by
 have hc:_ji (geN 0) qT (oE (_A 2 _qe (_d (_qt7 0) (_d (_qt7 1) _qty)))) (cells.map D.int) [none,some (.int unit)]=some (cells.map fun n=>O.sh (_xy (_Kn unit n))):=by
  have:=_l (inj:=D.int) (g:=geN 0) (c:=qT) (e:=oE (_A 2 _qe (_d (_qt7 0) (_d (_qt7 1) _qty)))) (fun ρ=>∃ d,ρ=[d,some (.int unit)]) (fun _=>true) (fun n=>O.sh (_xy (_Kn unit n))) cells [none,some (.int unit)] ⟨_,rfl⟩ (by
   rintro n _ ρ ⟨d,rfl⟩;have hp:=_qm9 n unit;exact ⟨_,rfl,⟨_,rfl⟩,rfl,fun _=>by simp [hp]⟩)
  rwa [List.filter_eq_self.mpr (by simp)] at this
 have hd:oDs (cells.map fun n=>O.sh (_xy (_Kn unit n)))=some ((cells.map (_Kn unit)).map _xy):=by
  have:=_qt (f:=fun n:Int=>O.sh (_xy (_Kn unit n))) (g:=fun n=>_xy (_Kn unit n)) (fun p=>by simp) cells
  rw [this,map_map]; rfl
 have hl':cells.length <= 100000:=by omega
 simp [_zr,_qsk,_qsi,ini,_Qq,_qa,mkD,hl',_qu4,hc,hd,_t,-map_map]
def _qc1 (n:Int):Int:=if n.fmod 3=0 then 1 else if n.fmod 3=1 then 1 + (n.fdiv 5).fmod 1000 else 1 + (n.fdiv 5).fmod P17
theorem _qll (n:Int):_zq [.int n]=some (.int (_qc1 n)):=by
 have d5:_qti (.int n) (.int 5)=some (.int (n.fdiv 5)):=_wi (by decide) (_wj (k:=3) (by decide) (by decide));have m1:_qtf (.int (n.fdiv 5)) (.int 1000)=some (.int ((n.fdiv 5).fmod 1000)):=_x2 (by decide);have mP:_qtf (.int (n.fdiv 5)) (.int P17)=some (.int ((n.fdiv 5).fmod P17)):=_x2 _qpv;have m3:_qtf (.int n) (.int 3)=some (.int (n.fmod 3)):=_x2 (by decide);have u1:=Int.fmod_lt_of_pos n (b:=3) (by decide);have u0:=Int.fmod_nonneg_of_pos n (b:=3) (by decide);have hx:∀ a b c:Int,dIx (.lst [.int a,.int b,.int c]) (.int (n.fmod 3))=some (.int (if n.fmod 3=0 then a else if n.fmod 3=1 then b else c)):=by
  intro a b c;obtain h | h | h:n.fmod 3=0 \/ n.fmod 3=1 \/ n.fmod 3=2:=by omega
  ·rw [h]; rfl
  ·rw [h]; rfl
  ·rw [h]; rfl
 simp [_zq,_qsk,_qsi,ini,_Qp,d5,m1,mP,m3,pw17,_qu4,hx,_qc1]
theorem _qip (n:Int):1 <= _qc1 n/\_qc1 n <= P17:=by
 have a1:=Int.fmod_nonneg_of_pos (n.fdiv 5) (b:=1000) (by decide);have a2:=Int.fmod_lt_of_pos (n.fdiv 5) (b:=1000) (by decide);have b1:=Int.fmod_nonneg_of_pos (n.fdiv 5) (b:=P17) _qft;have b2:=Int.fmod_lt_of_pos (n.fdiv 5) (b:=P17) _qft;have hP:(1000:Int) <= P17:=by decide
 unfold _qc1;split
 ·omega
 ·split <;> omega
def cellOf (ns:List Int) (k:Nat):Int:=if k < ns.length then ns.getD k 0 else if ns=[] then (k:Int) * k * 7919 + 13 * k else ((ns.getD (k % ns.length) 0 + (k:Int) * k * 7919 + 1) * 48271).fmod 2147483647
theorem _qid (ns:List Int) (k:Nat) (hk:k <= 1000):_U [_g ns,.int (k:Int)]=some (.int (cellOf ns k)):=by
 have kk:_qte (.int (k:Int)) (.int (k:Int))=some (.int ((k:Int) * k)):=_qf4 (lt_of_le_of_lt (show _ <= 1000 by omega) (by decide));have k79:_qte (.int ((k:Int) * k)) (.int 7919)=some (.int ((k:Int) * k * 7919)):=_qh6 (by decide);have k13:_qte (.int 13) (.int (k:Int))=some (.int (13 * (k:Int))):=_qf4 (by decide)
 by_cases h1:k < ns.length
 ·have hx:dIx (_g ns) (.int (k:Int))=some (.int (ns.getD k 0)):=by rw [_qb8 h1]; simp [h1]
  have h1':(k:Int) < (ns.length:Int):=by omega
  simp [_U,_qsk,_qsi,ini,_zt,h1,h1',hx,cellOf]
 ·have h1':¬ (k:Int) < (ns.length:Int):=by omega
  have he:dEq (_g ns) (.lst [])=some (.bl (decide (ns=[]))):=_qbn ns []
  by_cases h2:ns=[]
  ·subst h2
   have h1'':¬ (k:Int) < 0:=by omega
   simp [_U,h1'',_qsk,_qsi,ini,_zt,he,_qu4,kk,k79,k13,cellOf]
  ·have hlen:0 < ns.length:=List.length_pos_iff.mpr h2
   have hm:_qtf (.int (k:Int)) (.int (ns.length:Int))=some (.int ((k % ns.length:Nat):Int)):=by
    rw [_x2 (by omega),Int.fmod_eq_emod_of_nonneg _ (by omega),<- Int.natCast_emod]
   have hlt:k % ns.length < ns.length:=mod_lt _ hlen;have hx:dIx (_g ns) (.int ((k % ns.length:Nat):Int))=some (.int (ns.getD (k % ns.length) 0)):=by rw [_qb8 hlt]; simp [hlt]
   have hm2:_qte (.int (ns.getD (k % ns.length) 0 + (k:Int) * k * 7919 + 1)) (.int 48271)=some (.int ((ns.getD (k % ns.length) 0 + (k:Int) * k * 7919 + 1) * 48271)):=_qh6 (by decide);have hm3:_qtf (.int ((ns.getD (k % ns.length) 0 + (k:Int) * k * 7919 + 1) * 48271)) (.int 2147483647)=some (.int (((ns.getD (k % ns.length) 0 + (k:Int) * k * 7919 + 1) * 48271).fmod 2147483647)):=_x2 (by decide);rw [show cellOf ns k=((ns.getD (k % ns.length) 0 + (k:Int) * k * 7919 + 1) * 48271).fmod 2147483647 by rw [cellOf,if_neg h1,if_neg h2]];generalize ns.getD (k % ns.length) 0=y at *;generalize k % ns.length=q at *;simp [_U,_qsk,_qsi,ini,_zt,h1',he,h2,_qu4,kk,k79,hm,hx,hm2,hm3]
def plD (g:List Nat):D:=_g (g.map fun (i:Nat)=>(i:Int))
def _qtw (h:List _qu2) (s:List Int):List Nat:=(List.range h.length).filter fun i=>atB (fun p:_qu2=>_j7 p.2 s) h[i]?
theorem agr_N (h:List _qu2) (s:List Int):agr h s=(_qtw h s).map fun (i:Nat)=>(i:Int):=rfl
theorem _v (h:List _qu2) (s:List Int):∀ i∈_qtw h s,i < h.length:=fun i m=>List.mem_range.mp (List.mem_filter.mp m).1
theorem _jg (h:List _qu2) (s:List Int):(_qtw h s).length <= h.length:=le_trans (length_filter_le _ _) (by simp)
theorem _Ja:∀ (ns:List Int) (a:Int),sumD (ns.map D.int) a=some (a + ns.sum)
 | [],a=>by simp [sumD]
 | n :: ns,a=>by simp [sumD,_Ja ns,Int.add_assoc]
def wAt (h:List _qu2) (i:Nat):Int:=(h.getD i (0,[])).1
def wG (h:List _qu2) (g:List Nat):Int:=(g.map (wAt h)).sum
def _qs9 (h:List _qu2):Int:=(h.map fun p=>p.1).sum
def _Yu (h:List _qu2) (seats count:Int) (g:List Nat):Bool:=!decide (g=[]) && decide (count * _qs9 h <= seats * wG h g)
theorem _xl (h:List _qu2) (hh:h.length <= 100):_I [_t h]=some (.int (_qs9 h)):=by
 have hc:_ji (_qt4 [(geN 0),(geN 1)]) qT (oE (_qt7 0)) (h.map _xy) [none,none]=some (h.map fun p=>O.sh (.int p.1)):=by
  have:=_l (inj:=_xy) (g:=_qt4 [(geN 0),(geN 1)]) (c:=qT) (e:=oE (_qt7 0)) (fun ρ=>∃ d d',ρ=[d,d']) (fun _=>true) (fun p=>O.sh (.int p.1)) h [none,none] ⟨_,_,rfl⟩ (by
   rintro p _ ρ ⟨d,d',rfl⟩;exact ⟨_,rfl,⟨_,_,rfl⟩,rfl,fun _=>rfl⟩)
  rwa [List.filter_eq_self.mpr (by simp)] at this
 have hd:oDs (h.map fun p=>O.sh (.int p.1))=some ((h.map fun p=>p.1).map D.int):=by
  have:=_qt (f:=fun p:_qu2=>O.sh (.int p.1)) (g:=fun p=>D.int p.1) (fun p=>by simp) h
  rw [this]; simp
 have hl:h.length <= 100000:=by omega
 simp [_I,_qsk,_qsi,ini,_Qi,_qa,mkD,_t,hl,_qu4,hc,hd,dSum,_Ja,_qs9,-map_map]
theorem _kl (h:List _qu2) (g:List Nat) (hg:∀ i∈g,i < h.length) (hl:g.length <= 1000):_qp [_t h,plD g]=some (.int (wG h g)):=by
 have hc:_ji (geN 0) qT (oE (f2 dIx (f2 dIx (_qt7 1) (_qt7 0)) (fC (.int 0)))) (g.map fun (i:Nat)=>D.int (i:Int)) [none,some (_t h)]=some (g.map fun i=>O.sh (.int (wAt h i))):=by
  have:=_l (inj:=fun (i:Nat)=>D.int (i:Int)) (g:=geN 0) (c:=qT) (e:=oE (f2 dIx (f2 dIx (_qt7 1) (_qt7 0)) (fC (.int 0)))) (fun ρ=>∃ d,ρ=[d,some (_t h)]) (fun _=>true) (fun i=>O.sh (.int (wAt h i))) g [none,some (_t h)] ⟨_,rfl⟩ (by
   rintro i hi ρ ⟨d,rfl⟩;have hx:=_K0 (hg i hi);have hw:wAt h i=(h[i]'(hg i hi)).1:=by simp [wAt,hg i hi]
   exact ⟨_,rfl,⟨_,rfl⟩,rfl,fun _=>by simp [hx,hw]⟩)
  rwa [List.filter_eq_self.mpr (by simp)] at this
 have hd:oDs (g.map fun i=>O.sh (.int (wAt h i)))=some ((g.map (wAt h)).map D.int):=by
  have:=_qt (f:=fun i:Nat=>O.sh (.int (wAt h i))) (g:=fun i=>D.int (wAt h i)) (fun p=>by simp) g
  rw [this]; simp
 have hl':g.length <= 100000:=by omega
 have hlo:_kv (plD g)=some (g.map fun (i:Nat)=>D.int (i:Int)):=by simp [plD]
 simp [_qp,_qsk,_qsi,ini,_Qj,_qa,mkD,hl',_qu4,hlo,hc,hd,dSum,_Ja,wG,-map_map]
def _qsz (l:List Nat) (i:Nat):Bool:=l.contains i
theorem _kx {l:List Nat} {i:Nat}:_qsz l i=true ↔ i∈l:=by simp [_qsz]
theorem _qgy (l:List Nat) (i:Nat):has (l.map fun (j:Nat)=>(j:Int)) (i:Int)=_qsz l i:=by
 rw [Bool.eq_iff_iff,_j1,_kx,List.mem_map];exact ⟨fun ⟨a,m,e⟩=>by rw [<- Int.ofNat_inj.mp e]; exact m,fun m=>⟨i,m,rfl⟩⟩
theorem _xf {α:Type} (f:α->Bool):∀ l:List α,_qcr (l.map fun a=>D.bl (f a))=some (l.map f)
 | []=>rfl
 | a :: l=>by simp [_qcr,_xf f l]
theorem _Z3 (h:List _qu2) (s:List Int):(agr h s).map D.int=(_qtw h s).map fun (i:Nat)=>D.int (i:Int):=by rw [agr_N,map_map]; rfl
theorem _kt (g:List Nat):D.lst (g.map fun (i:Nat)=>D.int (i:Int))=plD g:=by simp [plD,_g]
def _ja (h:List _qu2) (seats:Int) (s:List Int) (g:List Nat):Bool:=!decide (s=[]) && !decide (g=[]) && g.all (_qsz (_qtw h s)) && decide ((s.length:Int) * _qs9 h <= seats * wG h g)
theorem _Xp (h:List _qu2) (seats:Int) (s:List Int) (g:List Nat) (hh:h.length <= 100) (hs:s.length <= 100) (hl:g.length <= 1000) (hse:seats.natAbs < 2 ^ 63):_xq [_t h,.int seats,_g s,plD g]=some (.bl (_ja h seats s g)):=by
 have e1:(((s.length:Int) == 0):Bool)=decide (s=[]):=by rw [Bool.eq_iff_iff]; simp
 have e2:(((g.length:Int) == 0):Bool)=decide (g=[]):=by rw [Bool.eq_iff_iff]; simp
 have hlen:_qtg [plD g]=some (.int g.length):=by simp [plD]
 have ha:_j6 [_t h,_g s]=some (ow ((agr h s).map .int)):=_Jk h s hh hs;have hz:fzc (some (ow ((agr h s).map .int)))=some (.sh (_g (agr h s))):=by simp [_g]
 have hz2:oD (ow ((agr h s).map .int))=some (_g (agr h s)):=by simp [_g]
 have hlo:_kv (plD g)=some (g.map fun (i:Nat)=>D.int (i:Int)):=by simp [plD]
 have hc:_ji (geN 0) qT (oE (f2 dIn (_qt7 0) (_qt7 1))) (g.map fun (i:Nat)=>D.int (i:Int)) [none,some (_g (agr h s))]=some (g.map fun i=>O.sh (.bl (_qsz (_qtw h s) i))):=by
  have:=_l (inj:=fun (i:Nat)=>D.int (i:Int)) (g:=geN 0) (c:=qT) (e:=oE (f2 dIn (_qt7 0) (_qt7 1))) (fun ρ=>∃ d,ρ=[d,some (_g (agr h s))]) (fun _=>true) (fun i=>O.sh (.bl (_qsz (_qtw h s) i))) g [none,some (_g (agr h s))] ⟨_,rfl⟩ (by
   rintro i hi ρ ⟨d,rfl⟩;exact ⟨_,rfl,⟨_,rfl⟩,rfl,fun _=>by simp [agr_N,_qgy]⟩)
  rwa [List.filter_eq_self.mpr (by simp)] at this
 have hc':=hc;have hl':g.length <= 100000:=by omega
 have hd:oDs (g.map fun i=>O.sh (.bl (_qsz (_qtw h s) i)))=some (g.map fun i=>D.bl (_qsz (_qtw h s) i)):=_qt (fun c=>by simp) g;have w2:=_xl h hh;have m1:_qte (.int seats) (.int (wG h g))=some (.int (seats * wG h g)):=_qf4 hse;have m2:_qte (.int (s.length:Int)) (.int (_qs9 h))=some (.int ((s.length:Int) * _qs9 h)):=_qf4 (lt_of_le_of_lt (show _ <= 100 by omega) (by decide))
 by_cases c1:s=[]
 ·subst c1
  simp [_xq,_qsk,_qsi,ini,_Z2,e1,_ja]
 ·have c1':¬ ((s.length:Int)=0):=by simp [c1]
  by_cases c2:g=[]
  ·subst c2
   simp [_xq,_qsk,_qsi,ini,_Z2,hlen,c1,_ja]
  ·have c2':¬ ((g.length:Int)=0):=by simp [c2]
   cases c3:g.all (_qsz (_qtw h s)) with
   | false =>
    simp [_xq,_qsk,_qsi,ini,_Z2,hlen,c1,c2,ha,_qa,mkD,hlo,hl',_qu4,hz2,hc',hd,_qtk,_xf,all_map,Function.comp_def,_ja,c3,-all_eq_true,-List.all_eq_false]
   | true =>
    have hg:∀ i∈g,i < h.length:=fun i m=>_v h s i (_kx.mp (List.all_eq_true.mp c3 i m));have w1:=_kl h g hg hl;simp [_xq,_qsk,_qsi,ini,_Z2,hlen,c1,c2,ha,_qa,mkD,hlo,hl',_qu4,hz2,hc',hd,_qtk,_xf,all_map,Function.comp_def,_ja,c3,w1,w2,m1,m2,-all_eq_true,-List.all_eq_false]
theorem _Zu (h:List _qu2) (k:okH h) (hh:h.length <= 100):_xb [_t h]=some (ow ((_k h).map .int)):=by
 have e:_qi (_jx h)=_k h:=by
  refine _Qf (_xz _) (List.Pairwise.filter _ _v3) fun x=>?_;show x∈_qi (_jx h) ↔ x∈six.filter _;rw [_v7,List.mem_filter,any_eq_true];simp only [_jx,List.mem_flatMap,_j1];exact ⟨fun ⟨p,hp,hx⟩=>⟨k.mem hp hx,p,hp,hx⟩,fun ⟨_,p,hp,hx⟩=>⟨p,hp,hx⟩⟩
 have hl:(_qi (_jx h)).length < 64:=by
  rw [e];exact lt_of_le_of_lt (_P h) (by decide)
 rw [<- e];exact _qk0 h hh (fun p hp=>le_trans (k.len p hp) (by decide)) hl
theorem _qea (n:Int):(_Yn n).Sublist six:=by
 unfold _Yn;split
 ·exact (take_sublist _ _).trans (_qi1 _)
 ·exact _qi1 _
theorem _qkc (cells:List Int) (unit:Int):okH (cells.map (_Kn unit)):=fun p m=>by
 obtain ⟨n,_,rfl⟩:=List.mem_map.mp m;exact _qea n
theorem _qbz (n unit:Int) (hu:1 <= unit):1 <= _k8 n unit:=by
 unfold _k8;split
 ·have:=Int.fmod_nonneg_of_pos (n.fdiv 7) _qby
  omega
 ·have h6:=Int.fmod_nonneg_of_pos ((_kk n).fdiv 192) (b:=6) (by decide)
  have:1 * 1 <= unit * (1 + ((_kk n).fdiv 192).fmod 6):=Int.mul_le_mul hu (by omega) (by decide) (by omega)
  omega
theorem _qgx (cells:List Int) (unit:Int) (hu:1 <= unit):∀ p∈cells.map (_Kn unit),1 <= p.1:=fun p m=>by
 obtain ⟨n,_,rfl⟩:=List.mem_map.mp m;exact _qbz n unit hu
def mlk (h:List _qu2) (mem:List Int) (i:Nat):List Int:=mem.filter (has (h.getD i (0,[])).2)
theorem _qk9 (g:List Nat):imm (plD g)=false:=by simp [plD]
theorem _qja (g:List Nat):_kv (plD g)=some (g.map fun (i:Nat)=>D.int (i:Int)):=by simp [plD]
theorem _qaw (g:List Nat):D.lst (g.map fun (i:Nat)=>D.int (i:Int))=plD g:=by simp [plD,_g]
theorem _ql9 (h:List _qu2) (s:List Int):(agr h s).map D.int=(_qtw h s).map fun (i:Nat)=>D.int (i:Int):=by rw [agr_N,map_map]; rfl
theorem pl_oD (g:List Nat):oDs (g.map fun (i:Nat)=>O.sh (.int (i:Int)))=some (g.map fun (i:Nat)=>D.int (i:Int)):=_qt (fun p=>by simp) g
theorem _qj9 (g:List Nat):_qst (g.map fun (i:Nat)=>O.sh (.int (i:Int)))=true:=_J8 (fun _=>by simp) g
theorem _qjs (l:List Int):dEq (_g l) (.lst [])=some (.bl (decide (l=[]))):=_qbn l []
theorem _qju (h:List _qu2) (i:Nat) (hi:i < h.length) (mem:List Int) (hm:mem.length <= 100):_x [_t h,.int (i:Int),_g mem]=some (_g (mlk h mem i)):=by
 have hx:=_K0 hi;have hc:_ji (geN 0) (qV (f2 dIn (_qt7 0) (f2 dIx (f2 dIx (_qt7 1) (_qt7 2)) (fC (.int 1))))) (oE (_qt7 0)) (mem.map D.int) [none,some (_t h),some (.int (i:Int))]=some ((mlk h mem i).map fun c=>O.sh (.int c)) :=
  _l (inj:=D.int) (fun ρ=>∃ d,ρ=[d,some (_t h),some (.int (i:Int))]) (has (h.getD i (0,[])).2) (fun c=>O.sh (.int c)) mem _ ⟨_,rfl⟩ (by
   rintro c _ ρ ⟨d,rfl⟩;exact ⟨_,rfl,⟨_,rfl⟩,by simp [hx,hi],fun _=>by simp⟩)
 have hd:oDs ((mlk h mem i).map fun c=>O.sh (.int c))=some ((mlk h mem i).map D.int):=_qt (fun p=>by simp) _;have hl:mem.length <= 100000:=by omega
 simp [_x,_qsk,_qsi,ini,_zf,_qa,mkD,hl,_qu4,hc,hd];rfl
def _qt0 (h:List _qu2) (mem s:List Int):List Nat:=(_qtw h s).filter fun i=>decide (mlk h mem i=[])
theorem _qkd (h:List _qu2) (mem s:List Int):(_qt0 h mem s).length <= h.length:=le_trans (length_filter_le _ _) (_jg h s)
def _qlu (h:List _qu2) (seats:Int) (mem:List Int):Option Int:=(_k h).find? fun c=>_ja h seats [c] (_qt0 h mem [c])
def _qlv (h:List _qu2) (seats:Int) (mem:List Int):D:=match _qlu h seats mem with | some c=>.tup [_g [c],plD (_qt0 h mem [c])] | none=>.non
theorem _qlt (h:List _qu2) (k:okH h) (hh:h.length <= 100) (seats:Int) (hse:seats.natAbs < 2 ^ 63) (mem:List Int) (hm:mem.length <= 100) :
  _zp [_t h,.int seats,_g mem]=some (_qlv h seats mem):=by
 have lk:=_Zu h k hh;have hz:oD (ow ((_k h).map D.int))=some (_g (_k h)):=by simp [_g]
 obtain ⟨f1,f2'⟩:=_Xk (inj:=D.int) (g:=gN 3) (b:=_z6) (fun ρ=>∃ c c',ρ=[some (.sh (_t h)),some (.sh (.int seats)),some (.sh (_g mem)),c,c']) (fun c=>_ja h seats [c] (_qt0 h mem [c])) (fun c=>O.tup [ow [.int c],.sh (plD (_qt0 h mem [c]))]) (_k h)
  [some (.sh (_t h)),some (.sh (.int seats)),some (.sh (_g mem)),none,none] ⟨_,_,rfl⟩ (by
   rintro c _ ρ ⟨d,d',rfl⟩;have l1:=_z1 h c hh;rw [_ql9] at l1;have hc:_ji (geN 0) (qV (f2 dEq (_A 3 _x (_d (_qt7 1) (_d (_qt7 0) (_d (_qt7 2) _qty)))) (fL (_qsv _qty)))) (oE (_qt7 0)) ((_qtw h [c]).map fun (i:Nat)=>D.int (i:Int)) [none,some (_t h),some (_g mem)]=some ((_qt0 h mem [c]).map fun (i:Nat)=>O.sh (.int (i:Int))) :=
    _l (inj:=fun (i:Nat)=>D.int (i:Int)) (fun ρ=>∃ d,ρ=[d,some (_t h),some (_g mem)]) (fun i=>decide (mlk h mem i=[])) (fun (i:Nat)=>O.sh (.int (i:Int))) (_qtw h [c]) _ ⟨_,rfl⟩ (by
     rintro i hi ρ ⟨d,rfl⟩;have ml:=_qju h i (_v h [c] i hi) mem hm;have hn:=_qjs (mlk h mem i);exact ⟨_,rfl,⟨_,rfl⟩,by simp [ml,_qu4,hn],fun _=>by simp⟩)
   have hl:(_qtw h [c]).length <= 100000:=by have:=_jg h [c]; omega
   have hg:=pl_oD (_qt0 h mem [c]);have hgi:=_qj9 (_qt0 h mem [c]);have hf:=_qaw (_qt0 h mem [c]);have cl:=_Xp h seats [c] (_qt0 h mem [c]) hh (by simp) (by have:=_qkd h mem [c]; omega) hse;have e1:_g [c]=.lst [.int c]:=rfl;rw [e1] at cl;refine ⟨_,rfl,fun hb=>?_,fun hb=>?_⟩
   ·apply Exists.intro
    simp [_z6,l1,_qa,mkD,hl,_qu4,hc,hg,hgi,hf,cl,hb,_qk9];rfl
   ·refine ⟨_,.inl ?_,some (.sh (.int c)),some (.lst ((_qt0 h mem [c]).map fun (i:Nat)=>O.sh (.int (i:Int)))),rfl⟩
    simp [_z6,l1,_qa,mkD,hl,_qu4,hc,hg,hgi,hf,cl,hb])
 cases hf:_qlu h seats mem with
 | none =>
  obtain ⟨ρ',e1,c,c',e2⟩:=f2' hf;simp [_zp,_qsk,_qsi,ini,_wl,lk,hz,_qtu,_qu4,e1,_qlv,hf]
 | some c =>
  obtain ⟨ρ',e1⟩:=f1 c hf;simp [_zp,_qsk,_qsi,ini,_wl,lk,hz,_qtu,_qu4,e1,_qlv,hf];rfl
theorem _qda {α:Type} {P:List α->Prop} (h0:P []) (h1:∀ l a,P l->P (l++[a])):∀ l,P l:=by
 intro l;have key:∀ m:List α,P m.reverse:=by
  intro m
  induction m with
  | nil=>exact h0
  | cons a m ih=>rw [List.reverse_cons]; exact h1 _ _ ih
 have:=key l.reverse
 rwa [List.reverse_reverse] at this
def _q2 (l:List Int):List (List Int):=l.foldl (fun rows t=>rows++rows.map (·++[t])) [[]]
theorem _wt (l:List Int) (t:Int):_q2 (l++[t])=_q2 l++(_q2 l).map (·++[t]):=by simp [_q2]
theorem _Qt:∀ l:List Int,(_q2 l).length=2 ^ l.length :=
 _qda (by simp [_q2]) fun l a ih=>by rw [_wt,length_append,length_map,ih,length_append,List.length_singleton,Nat.pow_succ]; omega
theorem _we:∀ (l s:List Int),s∈_q2 l ↔ s.Sublist l :=
 _qda (by intro s; simp [_q2]) fun l a ih s=>by
  rw [_wt,List.mem_append,ih,List.mem_map,List.sublist_append_iff];constructor
  ·rintro (h | ⟨r,hr,rfl⟩)
   ·exact ⟨s,[],by simp,h,by simp⟩
   ·exact ⟨r,[a],rfl,(ih r).mp hr,List.Sublist.refl _⟩
  ·rintro ⟨s1,s2,rfl,h1,h2⟩
   have h3:s2=[] \/ s2=[a]:=by
    cases h2 with
    | cons _ h=>left; exact List.sublist_nil.mp h
    | cons_cons _ h=>right; rw [List.sublist_nil.mp h]
   rcases h3 with rfl | rfl
   ·exact .inl (by simpa using h1)
   ·exact .inr ⟨s1,(ih s1).mpr h1,rfl⟩
def _Wy (r:List (List Int)):D:=.lst (r.map _g)
theorem _qa2 (l:List Int) (o:O) (R:List (List Int)) (t:Int) (ho:oD o=some (_Wy R)) (hR:R.length <= 64) (hr:∀ r∈R,r.length <= 10) :
  _ke [some (.sh (_g l)),some o,some (.sh (.int t))]=some (.nx [some (.sh (_g l)),some (ow ((R++R.map (·++[t])).map _g)),some (.sh (.int t))]):=by
 have hc:_ji (geN 0) qT (o2 _qtj (_qt7 0) (fL (_qsv (_d (_qt7 1) _qty)))) (R.map _g) [none,some (.int t)]=some (R.map fun r=>ow (r.map D.int++[D.int t])):=by
  have:=_l (inj:=_g) (g:=geN 0) (c:=qT) (e:=o2 _qtj (_qt7 0) (fL (_qsv (_d (_qt7 1) _qty)))) (fun ρ=>∃ d,ρ=[d,some (.int t)]) (fun _=>true) (fun r=>ow (r.map D.int++[D.int t])) R [none,some (.int t)] ⟨_,rfl⟩ (by
   rintro r hm ρ ⟨d,rfl⟩;have h10:=hr r hm;have hl:r.length + 1 <= 100000:=by omega
   exact ⟨_,rfl,⟨_,rfl⟩,rfl,fun _=>by simp [_qtj,_g,_qu4,hl]⟩)
  rwa [List.filter_eq_self.mpr (by simp)] at this
 have hd:oDs (R.map fun r=>ow (r.map D.int++[D.int t]))=some (R.map fun r=>_g (r++[t])):=_qt (fun r=>by have:=_Vu (r++[t]); simpa using this) R;have hl:R.length <= 100000:=by omega
 have hl2:R.length + R.length <= 100000:=by omega
 have hz:fzc (some o)=some (.sh (_Wy R)):=by
  cases o with
  | sh d=>simp at ho; subst ho; rfl
  | _=>simp [fzc,ho]
 have hlo:_kv (_Wy R)=some (R.map _g):=rfl;simp [_ke,frz,ho,_qa,mkD,hlo,hl,_qu4,hc,hd,o2,_qtj,_Wy,hl2,Function.comp_def];split <;> rfl
theorem _Xq (l:List Int) (hl:l.length <= 6):_xd [_g l]=some (_Wy (_q2 l)):=by
 obtain ⟨ρ',h1,c,o,h2,h3⟩:=_Y2 (inj:=D.int) (g:=gN 2) (b:=_ke) (fun pre ρ=>∃ (c:Option O) (o:O),ρ=[some (.sh (_g l)),some o,c]/\oD o=some (_Wy (_q2 pre))) l
  [some (.sh (_g l)),some (.lst [.lst []]),none] ⟨none,.lst [.lst []],rfl,by simp [_Wy,_q2,_g]⟩ (by
   rintro pre a post ρ e ⟨c,o,rfl,ho⟩;have hpl:pre.length <= 5:=by have:=congrArg List.length e; simp at this; omega
   have hR:(_q2 pre).length <= 64:=by
    rw [_Qt];exact le_trans (pow_le_pow_right (by decide) hpl) (by decide)
   refine ⟨[some (.sh (_g l)),some o,some (.sh (.int a))],_,rfl,.inl (_qa2 l o (_q2 pre) a ho hR fun r hr=>?_),_,_,rfl,?_⟩
   ·have:=((_we pre r).mp hr).length_le
    omega
   ·rw [_wt]
    simp [_Wy])
 have hr:frz [false,true,false] ρ'=[none,some (_Wy (_q2 l)),none]:=by rw [h2]; simp [frz,h3]
 have hi:imm (_Wy (_q2 l))=false:=by simp [_Wy]
 have e0:O.lst [ow []]=O.lst [O.lst []]:=rfl;simp [_xd,_qsk,_qsi,ini,_V7,_qtu,_qu4,e0,h1,_qts,mE,hr,_qt7,hi]
theorem _w8 (R:List (List Int)):_kv (_Wy R)=some (R.map _g):=rfl
theorem _ws {h:List _qu2} {s:List Int} (hs:s∈_q2 (_k h)):s.Sublist six:=((_we _ s).mp hs).trans (_wf h)
def _qt2 (h:List _qu2) (mem s:List Int):List Nat:=(_qtw h s).filter fun i=>decide (((mlk h mem i).length:Int) < (s.length:Int))
theorem _qeo (h:List _qu2) (mem s:List Int):(_qt2 h mem s).length <= h.length:=le_trans (length_filter_le _ _) (_jg h s)
def _qk2 (h:List _qu2) (seats:Int) (mem:List Int):Option (List Int):=(_q2 (_k h)).find? fun s=>_ja h seats s (_qt2 h mem s)
def _qgu (h:List _qu2) (seats:Int) (mem:List Int):D:=match _qk2 h seats mem with | some s=>.tup [_g s,plD (_qt2 h mem s)] | none=>.non
theorem _qi4 (h:List _qu2) (k:okH h) (hh:h.length <= 100) (seats:Int) (hse:seats.natAbs < 2 ^ 63) (mem:List Int) (hm:mem.length <= 100) :
  _jy [_t h,.int seats,_g mem]=some (_qgu h seats mem):=by
 have lk:=_Zu h k hh;have hz:oD (ow ((_k h).map D.int))=some (_g (_k h)):=by simp [_g]
 have ch:=_Xq (_k h) (_P h);obtain ⟨f1,f2'⟩:=_Qe (inj:=_g) (g:=gN 3) (b:=_z7) (fun ρ=>∃ c c',ρ=[some (.sh (_t h)),some (.sh (.int seats)),some (.sh (_g mem)),c,c']) (fun s=>_ja h seats s (_qt2 h mem s)) (fun s=>O.sh (.tup [_g s,plD (_qt2 h mem s)])) (_q2 (_k h))
  [some (.sh (_t h)),some (.sh (.int seats)),some (.sh (_g mem)),none,none] ⟨_,_,rfl⟩ (by
   rintro s hs ρ ⟨d,d',rfl⟩;have hsl:s.length <= 6:=(_ws hs).length_le;have l1:=_Jk h s hh (by omega);rw [_ql9] at l1;have hc:_ji (geN 0) (qV (f2 dLt (_qt9 _qtg (_d (_A 3 _x (_d (_qt7 2) (_d (_qt7 0) (_d (_qt7 3) _qty)))) _qty)) (_qt9 _qtg (_d (_qt7 1) _qty)))) (oE (_qt7 0)) ((_qtw h s).map fun (i:Nat)=>D.int (i:Int)) [none,some (_g s),some (_t h),some (_g mem)]=some ((_qt2 h mem s).map fun (i:Nat)=>O.sh (.int (i:Int))) :=
    _l (inj:=fun (i:Nat)=>D.int (i:Int)) (fun ρ=>∃ d,ρ=[d,some (_g s),some (_t h),some (_g mem)]) (fun i=>decide (((mlk h mem i).length:Int) < (s.length:Int))) (fun (i:Nat)=>O.sh (.int (i:Int))) (_qtw h s) _ ⟨_,rfl⟩ (by
     rintro i hi ρ ⟨d,rfl⟩;have ml:=_qju h i (_v h s i hi) mem hm;exact ⟨_,rfl,⟨_,rfl⟩,by simp [ml],fun _=>by simp⟩)
   have hl:(_qtw h s).length <= 100000:=by have:=_jg h s; omega
   have hg:=pl_oD (_qt2 h mem s);have hgi:=_qj9 (_qt2 h mem s);have hf:=_qaw (_qt2 h mem s);have cl:=_Xp h seats s (_qt2 h mem s) hh (by omega) (by have:=_qeo h mem s; omega) hse;refine ⟨fun hb=>?_,fun hb=>?_⟩
   ·simp [Rets,_z7,l1,_qa,mkD,hl,_qu4,hc,hg,hgi,hf,cl,hb,_qk9]
   ·simp [_qu6,_z7,l1,_qa,mkD,hl,_qu4,hc,hg,hgi,hf,cl,hb])
 cases hf:_qk2 h seats mem with
 | none =>
  obtain ⟨ρ',e1,c,c',e2⟩:=f2' hf;simp [_jy,_qsk,_qsi,ini,_wm,lk,hz,ch,_w8,_qtu,_qu4,e1,_qgu,hf]
 | some c =>
  obtain ⟨ρ',e1⟩:=f1 c hf;simp [_jy,_qsk,_qsi,ini,_wm,lk,hz,ch,_w8,_qtu,_qu4,e1,_qgu,hf]
def _qt1 (h:List _qu2) (mem s few:List Int):List Nat:=(_qtw h s).filter fun i=>(mlk h mem i).all (has few)
theorem _qke (h:List _qu2) (mem s few:List Int):(_qt1 h mem s few).length <= h.length:=le_trans (length_filter_le _ _) (_jg h s)
def _Yo (s mem:List Int):Int:=if (mem.length:Int) < (s.length:Int) - 1 then (mem.length:Int) else (s.length:Int) - 1
def _qki (s mem:List Int):List (List Int):=(_q2 mem).filter fun f=>((f.length:Int) == _Yo s mem)
def _qhx (h:List _qu2) (seats:Int) (mem s:List Int):Option (List Int):=(_qki s mem).find? fun f=>_ja h seats s (_qt1 h mem s f)
def _qlc (h:List _qu2) (seats:Int) (mem s:List Int):Bool:=_ja h seats s (_qtw h s) && (_qhx h seats mem s).isSome
def _Wc (h:List _qu2) (seats:Int) (mem:List Int):Option (List Int):=(_q2 (_k h)).find? (_qlc h seats mem)
def _qdz (h:List _qu2) (seats:Int) (mem:List Int):D:=match _Wc h seats mem with | some s=>.tup [_g s,plD (_qt1 h mem s ((_qhx h seats mem s).getD []))] | none=>.non
theorem _qjd (h:List _qu2) (i:Nat) (hi:i < h.length) (mem few:List Int) (hm:mem.length <= 100):_T [_t h,.int (i:Int),_g mem,_g few]=some (.bl ((mlk h mem i).all (has few))):=by
 have ml:=_qju h i hi mem hm;have hc:_ji (geN 0) qT (oE (f2 dIn (_qt7 0) (_qt7 1))) ((mlk h mem i).map D.int) [none,some (_g few)]=some ((mlk h mem i).map fun c=>O.sh (.bl (has few c))):=by
  have:=_l (inj:=D.int) (g:=geN 0) (c:=qT) (e:=oE (f2 dIn (_qt7 0) (_qt7 1))) (fun ρ=>∃ d,ρ=[d,some (_g few)]) (fun _=>true) (fun c=>O.sh (.bl (has few c))) (mlk h mem i) [none,some (_g few)] ⟨_,rfl⟩ (by
   rintro c _ ρ ⟨d,rfl⟩;exact ⟨_,rfl,⟨_,rfl⟩,rfl,fun _=>by simp⟩)
  rwa [List.filter_eq_self.mpr (by simp)] at this
 have hl:(mlk h mem i).length <= 100000:=by have:(mlk h mem i).length <= mem.length:=length_filter_le _ _; omega
 have hd:oDs ((mlk h mem i).map fun c=>O.sh (.bl (has few c)))=some ((mlk h mem i).map fun c=>D.bl (has few c)):=_qt (fun c=>by simp) _;simp [_T,_qsk,_qsi,ini,_xv,ml,_qa,mkD,hl,_qu4,hc,hd,_qtk,_xf,all_map,Function.comp_def,-all_eq_true]
theorem _K7 (mem:List Int) (hm:mem.length <= 6) (n:Int):_jr [_g mem,.int n]=some (_Wy ((_q2 mem).filter fun f=>((f.length:Int) == n))):=by
 have ch:=_Xq mem hm;have hc:_ji (geN 0) (qV (f2 dEq (_qt9 _qtg (_d (_qt7 0) _qty)) (_qt7 1))) (oE (_qt7 0)) ((_q2 mem).map _g) [none,some (.int n)]=some (((_q2 mem).filter fun f=>((f.length:Int) == n)).map fun f=>O.sh (_g f)) :=
  _l (inj:=_g) (fun ρ=>∃ d,ρ=[d,some (.int n)]) (fun f=>((f.length:Int) == n)) (fun f=>O.sh (_g f)) (_q2 mem) _ ⟨_,rfl⟩ (by
   rintro f hf ρ ⟨d,rfl⟩;exact ⟨_,rfl,⟨_,rfl⟩,by simp,fun _=>by simp⟩)
 have hl:(_q2 mem).length <= 100000:=by
  rw [_Qt];exact le_trans (pow_le_pow_right (by decide) hm) (by decide)
 have hd:oDs (((_q2 mem).filter fun f=>((f.length:Int) == n)).map fun f=>O.sh (_g f))=some (((_q2 mem).filter fun f=>((f.length:Int) == n)).map _g):=_qt (fun c=>by simp) _;simp [_jr,_qsk,_qsi,ini,_k4,ch,_qa,mkD,_w8,hl,_qu4,hc,hd,_Wy]
theorem _qmf (h:List _qu2) (hh:h.length <= 100) (seats:Int) (hse:seats.natAbs < 2 ^ 63) (mem s:List Int) (hm:mem.length <= 100) (hsl:s.length <= 6) (c4:Option O) (h4:c4.bind oD=some (plD (_qtw h s))) (c5 c6:Option O) (L:List (List Int)) :
  (∀ f,L.find? (fun f=>_ja h seats s (_qt1 h mem s f))=some f->∃ ρ',_qt6 (gN 5) _qf (L.map _g) [some (.sh (_t h)),some (.sh (.int seats)),some (.sh (_g mem)),some (.sh (_g s)),c4,c5,c6]=some (.rt (.sh (.tup [_g s,plD (_qt1 h mem s f)])) ρ')) /\
  (L.find? (fun f=>_ja h seats s (_qt1 h mem s f))=none->∃ ρ',_qt6 (gN 5) _qf (L.map _g) [some (.sh (_t h)),some (.sh (.int seats)),some (.sh (_g mem)),some (.sh (_g s)),c4,c5,c6]=some (.nx ρ')/\∃ c4 c5 c6,ρ'=[some (.sh (_t h)),some (.sh (.int seats)),some (.sh (_g mem)),some (.sh (_g s)),c4,c5,c6]/\c4.bind oD=some (plD (_qtw h s))):=by
 refine _Qe (inj:=_g) (g:=gN 5) (b:=_qf) (fun ρ=>∃ c4 c5 c6,ρ=[some (.sh (_t h)),some (.sh (.int seats)),some (.sh (_g mem)),some (.sh (_g s)),c4,c5,c6]/\c4.bind oD=some (plD (_qtw h s))) (fun f=>_ja h seats s (_qt1 h mem s f)) (fun f=>O.sh (.tup [_g s,plD (_qt1 h mem s f)])) L _ ⟨_,_,_,rfl,h4⟩ ?_;rintro f hf ρ ⟨c4,c5,c6,rfl,h4⟩;have lo:=_qja (_qtw h s);have hc:_ji (geN 0) (qV (_A 4 _T (_d (_qt7 1) (_d (_qt7 0) (_d (_qt7 2) (_d (_qt7 3) _qty)))))) (oE (_qt7 0)) ((_qtw h s).map fun (i:Nat)=>D.int (i:Int)) [none,some (_t h),some (_g mem),some (_g f)]=some ((_qt1 h mem s f).map fun (i:Nat)=>O.sh (.int (i:Int))) :=
  _l (inj:=fun (i:Nat)=>D.int (i:Int)) (fun ρ=>∃ d,ρ=[d,some (_t h),some (_g mem),some (_g f)]) (fun i=>(mlk h mem i).all (has f)) (fun (i:Nat)=>O.sh (.int (i:Int))) (_qtw h s) _ ⟨_,rfl⟩ (by
   rintro i hi ρ ⟨d,rfl⟩;have ml:=_qjd h i (_v h s i hi) mem f hm;exact ⟨_,rfl,⟨_,rfl⟩,by simp [ml,-all_eq_true],fun _=>by simp⟩)
 have hl:(_qtw h s).length <= 100000:=by have:=_jg h s; omega
 have hg:=pl_oD (_qt1 h mem s f);have hgi:=_qj9 (_qt1 h mem s f);have hf':=_qaw (_qt1 h mem s f);have cl:=_Xp h seats s (_qt1 h mem s f) hh (by omega) (by have:=_qke h mem s f; omega) hse;refine ⟨fun hb=>?_,fun hb=>?_⟩
 ·simp [Rets,_qf,h4,_qa,mkD,lo,hl,_qu4,hc,hg,hgi,hf',cl,hb,_qk9]
 ·simp [_qu6,_qf,h4,_qa,mkD,lo,hl,_qu4,hc,hg,hgi,hf',cl,hb]
theorem _qay (h:List _qu2) (k:okH h) (hh:h.length <= 100) (seats:Int) (hse:seats.natAbs < 2 ^ 63) (mem:List Int) (hm:mem.length <= 6) :
  _E [_t h,.int seats,_g mem]=some (_qdz h seats mem):=by
 have lk:=_Zu h k hh;have hz:oD (ow ((_k h).map D.int))=some (_g (_k h)):=by simp [_g]
 have ch:=_Xq (_k h) (_P h);obtain ⟨f1,f2'⟩:=_Qe (inj:=_g) (g:=gN 3) (b:=_qx) (fun ρ=>∃ c c' c'' c3,ρ=[some (.sh (_t h)),some (.sh (.int seats)),some (.sh (_g mem)),c,c',c'',c3]) (_qlc h seats mem) (fun s=>O.sh (.tup [_g s,plD (_qt1 h mem s ((_qhx h seats mem s).getD []))])) (_q2 (_k h))
  [some (.sh (_t h)),some (.sh (.int seats)),some (.sh (_g mem)),none,none,none,none] ⟨_,_,_,_,rfl⟩ (by
   rintro s hs ρ ⟨d,d',d'',d3,rfl⟩;have hsl:s.length <= 6:=(_ws hs).length_le;have l1:=_Jk h s hh (by omega);rw [_ql9] at l1;have hf:=_qaw (_qtw h s);have cl:=_Xp h seats s (_qtw h s) hh (by omega) (by have:=_jg h s; omega) hse;have mn:_qng [.int ((s.length:Int) - 1),.int (mem.length:Int)]=some (.int (_Yo s mem)):=_qnf;have co:=_K7 mem hm (_Yo s mem);have rl:=_w8 (_qki s mem);have co':_jr [_g mem,.int (_Yo s mem)]=some (_Wy (_qki s mem)):=co;obtain ⟨i1,i2⟩:=_qmf h hh seats hse mem s (by omega) hsl (some (ow ((_qtw h s).map fun (i:Nat)=>D.int (i:Int)))) (by simp [hf]) d'' d3 (_qki s mem);refine ⟨fun hb=>?_,fun hb=>?_⟩
   ·have hb1:_ja h seats s (_qtw h s)=true:=by simp [_qlc] at hb; exact hb.1
    have hb2:(_qhx h seats mem s).isSome=true:=by simp [_qlc] at hb; exact hb.2
    obtain ⟨f,hf2⟩:=Option.isSome_iff_exists.mp hb2;obtain ⟨ρ',e1⟩:=i1 f hf2;simp [Rets,_qx,l1,hf,cl,hb1,_qu4,mn,co',rl,_qtu,e1,hf2]
   ·cases hb1:_ja h seats s (_qtw h s) with
    | false=>simp [_qu6,_qx,l1,hf,cl,hb1,_qu4]
    | true =>
     have hb2:_qhx h seats mem s=none:=by
      simp [_qlc,hb1] at hb;exact hb
     obtain ⟨ρ',e1,a4,a5,a6,e2,e3⟩:=i2 hb2;simp [_qu6,_qx,l1,hf,cl,hb1,_qu4,mn,co',rl,_qtu,e1,e2])
 cases hf:_Wc h seats mem with
 | none =>
  obtain ⟨ρ',e1,c,c',c'',c3,e2⟩:=f2' hf;simp [_E,_qsk,_qsi,ini,_x5,lk,hz,ch,_w8,_qtu,_qu4,e1,_qdz,hf]
 | some c =>
  obtain ⟨ρ',e1⟩:=f1 c hf;simp [_E,_qsk,_qsi,ini,_x5,lk,hz,ch,_w8,_qtu,_qu4,e1,_qdz,hf]
theorem _qev {α:Type} {l:List α} {p q:α->Bool} (h:∀ a∈l,p a=true->q a=true):(l.filter p).Sublist (l.filter q):=by
 have e:l.filter p=(l.filter q).filter p:=by
  rw [List.filter_filter];refine List.filter_congr fun a m=>?_;cases hp:p a with
  | false=>simp
  | true=>simp [h a m hp]
 rw [e];exact filter_sublist
theorem _qof {h:List _qu2} (hw:∀ i,0 <= wAt h i) {g g':List Nat} (hs:g.Sublist g'):wG h g <= wG h g':=by
 induction hs with
 | slnil=>exact Int.le_refl _
 | cons a _ ih=>simp only [wG,map_cons,sum_cons] at ih ⊢; have:=hw a; omega
 | cons_cons a _ ih=>simp only [wG,map_cons,sum_cons] at ih ⊢; omega
theorem _kc {h:List _qu2} {seats:Int} {s:List Int} {g:List Nat}:_ja h seats s g=true ↔ s ≠ []/\g ≠ []/\(∀ i∈g,i∈_qtw h s)/\(s.length:Int) * _qs9 h <= seats * wG h g:=by
 have e:g.all (_qsz (_qtw h s))=true ↔ ∀ i∈g,i∈_qtw h s:=by rw [all_eq_true]; simp [_kx]
 unfold _ja;rw [Bool.and_eq_true,Bool.and_eq_true,Bool.and_eq_true,e];simp [and_assoc]
theorem _K6 {h:List _qu2} {seats:Int} {s:List Int} {g g':List Nat} (hw:∀ i,0 <= wAt h i) (h0:0 <= seats) (hc:_ja h seats s g=true) (hs:g.Sublist g') (hg:∀ i∈g',i∈_qtw h s):_ja h seats s g'=true:=by
 obtain ⟨c1,c2,c3,c4⟩:=_kc.mp hc;refine _kc.mpr ⟨c1,fun e=>c2 ?_,hg,Int.le_trans c4 (Int.mul_le_mul_of_nonneg_left (_qof hw hs) h0)⟩;rw [e] at hs;exact List.sublist_nil.mp hs
theorem _qb5 {h:List _qu2} {mem:List Int} {i:Nat} {x:Int}:x∈mlk h mem i ↔ x∈mem/\has (h.getD i (0,[])).2 x=true:=List.mem_filter
theorem _wp {h:List _qu2} {s:List Int} {i:Nat} (hi:i∈_qtw h s):∀ c∈s,has (h.getD i (0,[])).2 c=true:=by
 have hl:=_v h s i hi
 have:=(List.mem_filter.mp hi).2
 rw [getElem?_eq_getElem hl] at this;have hb:_j7 h[i].2 s=true:=this;rw [_qv hl];exact List.all_eq_true.mp hb
section
variable {h:List _qu2} {seats:Int} {mem:List Int}
theorem _qfz (hw:∀ i,0 <= wAt h i) (h0:0 <= seats) {c:Int} (hf:_qlu h seats mem=some c):_Wc h seats mem ≠ none:=by
 have hc:_ja h seats [c] (_qt0 h mem [c])=true:=find?_some (p:=fun c=>_ja h seats [c] (_qt0 h mem [c])) hf;have hcl:c∈_k h:=List.mem_of_find?_eq_some hf;intro hn
 have:=List.find?_eq_none.mp hn [c] ((_we _ _).mpr (List.singleton_sublist.mpr hcl))
 apply this;have e:_qt1 h mem [c] []=_qt0 h mem [c]:=by
  refine List.filter_congr fun i m=>?_;rw [Bool.eq_iff_iff];simp [has,List.eq_nil_iff_forall_not_mem]
 have m0:_Yo [c] mem=0:=by
  unfold _Yo;split
  ·rename_i hlt; simp at hlt; omega
  ·simp
 have hin:([]:List Int)∈_qki [c] mem:=List.mem_filter.mpr ⟨(_we _ _).mpr (List.nil_sublist _),by simp [m0]⟩;have hsome:(_qhx h seats mem [c]).isSome=true:=by
  unfold _qhx;rw [List.find?_isSome];exact ⟨[],hin,by simp only [e]; exact hc⟩
 have hag:_ja h seats [c] (_qtw h [c])=true:=_K6 hw h0 hc filter_sublist fun i m=>m;simp [_qlc,hag,hsome]
theorem _Vl {s:List Int} (hf:_Wc h seats mem=some s):∃ f,_qhx h seats mem s=some f/\f∈_qki s mem/\_ja h seats s (_qt1 h mem s f)=true/\_ja h seats s (_qtw h s)=true/\s∈_q2 (_k h):=by
 have hb:=find?_some hf;have hm:=List.mem_of_find?_eq_some hf;obtain ⟨b1,b2⟩:=Bool.and_eq_true _ _ |>.mp hb;obtain ⟨f,hf2⟩:=Option.isSome_iff_exists.mp b2;exact ⟨f,hf2,List.mem_of_find?_eq_some hf2,find?_some (p:=fun f=>_ja h seats s (_qt1 h mem s f)) hf2,b1,hm⟩
theorem _qge (hw:∀ i,0 <= wAt h i) (h0:0 <= seats) (hmn:mem.Nodup) {s:List Int} (hf:_Wc h seats mem=some s):_qk2 h seats mem ≠ none:=by
 obtain ⟨f,_,f1,f2,f3,f4⟩:=_Vl hf;intro hn;apply List.find?_eq_none.mp hn s f4;have hs:s ≠ []:=(_kc.mp f2).1;have hlen:1 <= s.length:=List.length_pos_iff.mpr hs;refine _K6 hw h0 f2 (_qev fun i m hi=>?_) fun i m=>(List.mem_filter.mp m).1;have h1:=(List.mem_filter.mp f1).2;have h2:(f.length:Int)=_Yo s mem:=by simpa using h1
 have h3:_Yo s mem <= (s.length:Int) - 1:=by unfold _Yo; split <;> omega
 have h4:(mlk h mem i).length <= f.length:=_K (List.Pairwise.filter _ hmn) fun x hx=>_j1.mp (List.all_eq_true.mp hi x hx)
 simp
 omega
theorem _qmw:dIs (_qdz h seats mem) .non=some (.bl (_Wc h seats mem).isNone):=by unfold _qdz; cases _Wc h seats mem <;> rfl
theorem _qk7:_qth (_qdz h seats mem) .non=some (.bl (_Wc h seats mem).isSome):=by unfold _qdz; cases _Wc h seats mem <;> rfl
end
def pAt (P:List Rat) (i:Nat):Rat:=P.getD i 0
def _qsf (h:List _qu2) (P:List Rat) (c:Int):Rat:=_z (_qtw h [c]) fun i=>(wAt h i:Rat) * pAt P i
def _zj (h:List _qu2) (P:List Rat) (c:Int):Rat:=if (_qs9 h:Rat) - _qsf h P c <= 0 then 0 else ((_qs9 h:Rat) - _qsf h P c) / (wG h (_qtw h [c]):Rat)
theorem _qbc (l:List Int):((l.sum:Int):Rat)=(l.map fun (n:Int)=>(n:Rat)).sum:=by
 induction l with
 | nil=>rfl
 | cons a l ih=>simp [ih]
theorem _qc0 (h:List _qu2) (g:List Nat):(wG h g:Rat)=_z g fun i=>(wAt h i:Rat):=by
 unfold wG _z;rw [_qbc,map_map];rfl
theorem _Kc (h:List _qu2):_qs9 h=wG h (List.range h.length):=by
 unfold _qs9 wG;congr 1;apply ext_getElem
 ·simp
 ·intro i h1 h2
  simp at h1;simp [wAt,h1]
structure okW (h:List _qu2):Prop where
 pos:∀ p∈h,1 <= p.1
 lt:∀ p∈h,p.1 < 2 ^ 72
 len:h.length <= 16
theorem okW.at0 {h:List _qu2} (k:okW h) (i:Nat):0 <= wAt h i:=by
 unfold wAt
 by_cases hi:i < h.length
 ·rw [_qv hi]; have:=k.pos _ (getElem_mem hi); omega
 ·simp [List.getD,hi]
theorem okW.at1 {h:List _qu2} (k:okW h) {i:Nat} (hi:i < h.length):1 <= wAt h i:=by
 unfold wAt;rw [_qv hi]; exact k.pos _ (getElem_mem hi)
theorem okW.atlt {h:List _qu2} (k:okW h) (i:Nat):wAt h i < 2 ^ 72:=by
 unfold wAt
 by_cases hi:i < h.length
 ·rw [_qv hi]; exact k.lt _ (getElem_mem hi)
 ·simp [List.getD,hi]
theorem _Kb {h:List _qu2} (k:okW h):∀ g:List Nat,0 <= wG h g/\wG h g <= (g.length:Int) * 2 ^ 72
 | []=>by simp [wG]
 | i :: g=>by
  obtain ⟨a,b⟩:=_Kb k g;have h1:=k.at0 i;have h2:=k.atlt i;have e:wG h (i :: g)=wAt h i + wG h g:=by simp [wG]
  have e2:(((i :: g).length:Nat):Int) * 2 ^ 72=(g.length:Int) * 2 ^ 72 + 2 ^ 72:=by
   rw [length_cons,Int.natCast_add,Int.add_mul]; simp
  rw [e,e2];omega
theorem _qla {h:List _qu2} (k:okW h) {g:List Nat} (hg:g.length <= 16):0 <= wG h g/\wG h g <= 2 ^ 76:=by
 obtain ⟨a,b⟩:=_Kb k g;refine ⟨a,Int.le_trans b ?_⟩
 have:(g.length:Int) * 2 ^ 72 <= 16 * 2 ^ 72:=Int.mul_le_mul_of_nonneg_right (by omega) (by decide)
 exact Int.le_trans this (by decide)
theorem _Zh {h:List _qu2} (k:okW h):0 <= _qs9 h/\_qs9 h <= 2 ^ 76:=by
 rw [_Kc];exact _qla k (by simpa using k.len)
theorem _Wf {h:List _qu2} (k:okW h) {g:List Nat} (hne:g ≠ []) (hg:∀ i∈g,i < h.length):1 <= wG h g:=by
 cases g with
 | nil=>exact absurd rfl hne
 | cons i g =>
  have e:wG h (i :: g)=wAt h i + wG h g:=by simp [wG]
  have:=k.at1 (hg i (by simp))
  have:=(_Kb k g).1
  omega
theorem _v8 {h:List _qu2} {c:Int} (hc:c∈_k h):_qtw h [c] ≠ []:=by
 obtain ⟨hs,ha⟩:=List.mem_filter.mp hc;obtain ⟨p,hp,hl⟩:=List.any_eq_true.mp ha;obtain ⟨i,hi,rfl⟩:=getElem_of_mem hp;refine List.ne_nil_of_mem (a:=i) (List.mem_filter.mpr ⟨List.mem_range.mpr hi,?_⟩);rw [getElem?_eq_getElem hi];simpa [atB,_j7] using hl
def _qj (f:Option (Int × Rat)) (o:Int × Rat):Option (Int × Rat):=match f with
 | none=>some o
 | some a=>if o.2 < a.2 then some o else some a
def _Y (l:List (Int × Rat)):Option (Int × Rat):=l.foldl _qj none
def _jv (h:List _qu2) (P:List Rat) (ch:List Int) (seats:Int):List (Int × Rat):=if seats <= (ch.length:Int) then [] else ((_k h).filter fun c=>!has ch c).map fun c=>(c,_zj h P c)
def _u (h:List _qu2) (P:List Rat) (o:Int × Rat):List Rat:=(List.range P.length).map fun i=>if _qsz (_qtw h [o.1]) i=true then 0 else pAt P i + o.2
def _j2 (h:List _qu2) (seats:Int):Nat->List Rat->List Int->List (Int × Rat × List Rat)
 | 0,_,_=>[]
 | n + 1,P,ch=>match _Y (_jv h P ch seats) with
  | none=>[]
  | some o=>(o.1,o.2,_u h P o) :: _j2 h seats n (_u h P o) (ch++[o.1])
theorem _R {P:List Rat} {i:Nat} (h:i < P.length):pAt P i∈P:=by unfold pAt; rw [_qv h]; exact getElem_mem h
theorem _j0 {l:List (Int × Rat)} {o:Int × Rat} (h:_Y l=some o):o∈l:=by
 have key:∀ (l:List (Int × Rat)) (f:Option (Int × Rat)) (o:Int × Rat),l.foldl _qj f=some o->o∈l \/ f=some o:=by
  intro l
  induction l with
  | nil=>intro f o h; exact .inr h
  | cons a l ih =>
   intro f o h;rcases ih _ _ h with h | h
   ·exact .inl (by simp [h])
   ·cases f with
    | none=>simp [_qj] at h; exact .inl (by simp [h])
    | some b =>
     simp only [_qj] at h;split at h
     ·simp at h; exact .inl (by simp [h])
     ·exact .inr h
 rcases key l none o h with h | h
 ·exact h
 ·cases h
theorem _km {h:List _qu2} (k:okW h) (P:List Rat) (c:Int):0 <= _zj h P c:=by
 unfold _zj;split
 ·exact Rat.le_refl
 ·rename_i hn
  have h1:(0:Rat) <= (wG h (_qtw h [c]):Rat):=by exact_mod_cast (_Kb k _).1
  have h2:(0:Rat) <= (_qs9 h:Rat) - _qsf h P c:=by grind
  rw [Rat.div_def];refine Rat.mul_nonneg h2 ?_
  by_cases h3:(wG h (_qtw h [c]):Rat)=0
  ·rw [h3]; simp
  ·exact Rat.le_of_lt (Rat.inv_pos.mpr (by grind))
theorem _qc3 {h:List _qu2} (k:okW h) {P:List Rat} (hP:∀ q∈P,(0:Rat) <= q) (c:Int):0 <= _qsf h P c:=by
 refine _jj fun i _=>Rat.mul_nonneg (by exact_mod_cast k.at0 i) ?_;unfold pAt
 by_cases hi:i < P.length
 ·rw [_qv hi]; exact hP _ (getElem_mem hi)
 ·simp [List.getD,hi]
theorem _qd1 {h:List _qu2} (k:okW h) {P:List Rat} (hP:∀ q∈P,(0:Rat) <= q) {c:Int} (hc:c∈_k h):_zj h P c <= ((2 ^ 80:Nat):Rat):=by
 unfold _zj;have hN:(_qs9 h:Rat) <= ((2 ^ 80:Nat):Rat):=by
  have:=(_Zh k).2
  have h2:_qs9 h <= ((2 ^ 80:Nat):Int):=Int.le_trans this (by decide);rw [<- _xa];exact Rat.intCast_le_intCast.mpr h2
 split
 ·exact_mod_cast zero_le _
 ·have h1:(1:Rat) <= (wG h (_qtw h [c]):Rat):=by exact_mod_cast _Wf k (_v8 hc) (_v h [c])
  have h2:=_qc3 k hP c;generalize hx:((_qs9 h:Rat) - _qsf h P c) / (wG h (_qtw h [c]):Rat)=x;generalize (wG h (_qtw h [c]):Rat)=W at *;have hW:W ≠ 0:=by grind
  have e:x * W=(_qs9 h:Rat) - _qsf h P c:=by rw [<- hx,Rat.div_mul_cancel hW]
  false_or_by_contra;rename_i hgt;have hgt':((2 ^ 80:Nat):Rat) < x:=by grind
  have hx0:(0:Rat) <= x:=by
   have:(0:Rat) <= ((2 ^ 80:Nat):Rat):=by exact_mod_cast zero_le _
   grind
  have:x * 1 <= x * W:=Rat.mul_le_mul_of_nonneg_left h1 hx0
  grind
theorem _W8 {D:Nat}:∀ (l:List Nat) (f:Nat->Rat),(∀ i∈l,_qu3 D (f i))->_qu3 D (_z l f)
 | [],f,_=>⟨0,by simp [_z]⟩
 | i :: l,f,h=>by
  rw [_q];exact (h i (by simp)).add (_W8 l f fun j m=>h j (by simp [m]))
theorem _qa7 {h:List _qu2} (k:okW h) {P:List Rat} {t:Nat} (hs:_zu t P) (hl:P.length=h.length) {c:Int} (hc:c∈_k h):_zu (t + 1) (_u h P (c,_zj h P c)):=by
 obtain ⟨D,h1,h2,h3⟩:=hs;have hP:∀ q∈P,(0:Rat) <= q:=fun q m=>(h3 q m).2.1;have hW1:=_Wf k (_v8 hc) (_v h [c]);have hW2:=(_qla k (g:=_qtw h [c]) (le_trans (_jg h [c]) k.len)).2;obtain ⟨W,hW⟩:∃ W:Nat,wG h (_qtw h [c])=(W:Int):=⟨(wG h (_qtw h [c])).toNat,by omega⟩;rw [hW] at hW1 hW2;have hWlt:W < 2 ^ 80:=by
  have:(W:Int) < ((2 ^ 80:Nat):Int):=Int.lt_of_le_of_lt hW2 (by decide)
  exact_mod_cast this
 have hWp:0 < W:=by omega
 have hoS:_qu3 D (_qsf h P c):=_W8 _ _ fun i hi=>by
  have:=_v h [c] i hi
  have o:=(h3 _ (_R (P:=P) (i:=i) (by omega))).1;rw [Rat.mul_comm];exact o.mulInt _
 have hoW:_qu3 (W * D) (_zj h P c):=by
  unfold _zj;split
  ·exact _vf _ 0
  ·have o2:_qu3 D ((_qs9 h:Rat) - _qsf h P c):=(_vf D _).sub hoS
   obtain ⟨x,hx⟩:=o2;refine ⟨x,?_⟩;rw [hW];have hne:((W:Int):Rat) ≠ 0:=by
    have:(0:Rat) < ((W:Int):Rat):=by exact_mod_cast hW1
    grind
   have e1:((W * D:Nat):Rat)=((W:Int):Rat) * (D:Rat):=by simp [_xa]
   rw [e1,<- Rat.mul_assoc,Rat.div_mul_cancel hne];exact hx
 have hx0:=_km k P c;have hx1:=_qd1 k hP hc;have hcast:(((t + 1) * 2 ^ 80:Nat):Rat)=((t * 2 ^ 80:Nat):Rat) + ((2 ^ 80:Nat):Rat):=by
  rw [Nat.add_mul,Nat.one_mul]
  simp
 refine ⟨W * D,mul_pos hWp h1,?_,fun q hq=>?_⟩
 ·have:W * D < 2 ^ 80 * 2 ^ (80 * t + 1):=by
   calc W * D < 2 ^ 80 * D:=Nat.mul_lt_mul_of_pos_right hWlt h1
    _ <= 2 ^ 80 * 2 ^ (80 * t + 1):=Nat.mul_le_mul_left _ (le_of_lt h2)
  rw [<- pow_add] at this;rw [show 80 * (t + 1) + 1=80 + (80 * t + 1) by omega];exact this
 ·obtain ⟨i,hi,rfl⟩:=List.mem_map.mp hq
  have hi':=List.mem_range.mp hi;have hz:(0:Rat) <= (((t + 1) * 2 ^ 80:Nat):Rat):=by exact_mod_cast zero_le _
  split
  ·exact ⟨_vf _ 0,Rat.le_refl,hz⟩
  ·obtain ⟨o,q0,q1⟩:=h3 _ (_R hi')
   refine ⟨(o.dvd (Nat.dvd_mul_left D W)).add hoW,?_,?_⟩
   ·grind
   ·rw [hcast]
    grind
theorem _Xt (h:List _qu2) (P:List Rat) (o:Int × Rat):(_u h P o).length=P.length:=by simp [_u]
theorem _qkf:∀ (n:Nat) (p q:Option O) (c:Option O) (a b:Nat),b=n->∃ c',_wo (qV (f2 dNe (_qt7 3) (fC (.int 0)))) _Qo [p,q,some (.sh (.int (a:Int))),some (.sh (.int (b:Int))),c]=some (.nx [p,q,some (.sh (.int (Nat.gcd a b:Int))),some (.sh (.int 0)),c']):=by
 intro n
 induction n using Nat.strongRecOn with
 | ind n ih =>
  intro p q c a b hn
  by_cases hb:b=0
  ·subst hb
   exact ⟨c,by simpa using _xx (by simp)⟩
  ·have hb':(b:Int) ≠ 0:=by omega
   have e:(a:Int).fmod (b:Int)=((a % b:Nat):Int):=by rw [Int.fmod_eq_emod_of_nonneg _ (by omega)]; rfl
   obtain ⟨c',h⟩:=ih (a % b) (by rw [<- hn]; exact mod_lt _ (by omega)) p q (some (.sh (.int ((a % b:Nat):Int)))) b (a % b) rfl;refine ⟨c',_Qr (by simp [hb]) ?_ (by rw [h,Nat.gcd_comm a b,Nat.gcd_rec b a,Nat.gcd_comm])⟩;simp [_Qo,_x2 hb',e]
theorem _qkg (a b:Int):_xc [.int a,.int b]=some (.int (Int.gcd a b)):=by
 obtain ⟨c',h⟩:=_qkf _ (some (.sh (.int a))) (some (.sh (.int b))) none a.natAbs b.natAbs rfl;simp [_xc,_qsk,_qsi,ini,_V6,_qpt,h,Int.gcd]
theorem _Z7 (t b:Int) (hb:0 < b) (ht:Sz 8000 t) (hb':Sz 8000 b):_vl [.int t,.int b]=some (.tup [.int (nf1 t b),.int (nf2 t b)]):=by
 have hg:=_Y1 (t:=t) hb;have hz:(Int.gcd t b:Int) ≠ 0:=by omega
 have hB:(Int.gcd t b:Int).natAbs < BIGD:=_wj (k:=8000) (by rw [Int.natAbs_natCast]; exact _qp7 ht hb') (by decide);have e1:t.fdiv (Int.gcd t b:Int)=nf1 t b:=Int.fdiv_eq_ediv_of_dvd (Int.gcd_dvd_left t b);have e2:b.fdiv (Int.gcd t b:Int)=nf2 t b:=Int.fdiv_eq_ediv_of_dvd (Int.gcd_dvd_right t b);have h0:¬ b=0:=by omega
 have h1:¬ b < 0:=by omega
 simp [_vl,_qsk,_qsi,ini,_qfh,_qkg,h0,h1,_wi hz hB,e1,e2,_qu4]
section
variable {p q r s:Int} (hq:0 < q) (hs:0 < s) (zp:Sz 2000 p) (zq:Sz 2000 q) (zr:Sz 2000 r) (zs:Sz 2000 s)
include hq hs zp zq zr zs
theorem _qm8:_Kt [.tup [.int p,.int q],.tup [.int r,.int s]]=some (.tup [.int (nf1 (p * s + r * q) (q * s)),.int (nf2 (p * s + r * q) (q * s))]):=by
 have m1:=_q9 (zp.big (by decide)) (zs.big (by decide));have m2:=_q9 (zr.big (by decide)) (zq.big (by decide));have m3:=_q9 (zq.big (by decide)) (zs.big (by decide));have sh:=_Z7 (p * s + r * q) (q * s) (Int.mul_pos hq hs) (((zp.mul zs).add (zr.mul zq)).mono (by decide)) ((zq.mul zs).mono (by decide));simp [_Kt,_qsk,_qsi,ini,_ql4,m1,m2,m3,sh]
end
theorem _ql3 {p q r s:Int} (hp:Sz 2000 p) (hq:Sz 2000 q) (hr:Sz 2000 r) (hs:Sz 2000 s):_Qx [.tup [.int p,.int q],.tup [.int r,.int s]]=some (.bl (decide (p * s < r * q))):=by
 simp [_Qx,_qsk,_qsi,ini,_qfp,_q9 (hp.big (by decide)) (hs.big (by decide)),_q9 (hr.big (by decide)) (hq.big (by decide))]
section
variable {a b:Rat} (ha:Bd 2000 2000 a) (hb:Bd 2000 2000 b)
include ha hb
theorem _qoj:_Kt [frD a,frD b]=some (frD (a + b)):=by
 have h:=_qm8 (den_pos a) (den_pos b) ha.num ha.den hb.num hb.den;have e:=nf_mk (t:=a.num * b.den + b.num * a.den) (b:=a.den * b.den) (mul_ne_zero a.den_nz b.den_nz);rw [Int.natCast_mul] at e;rw [_qnt] at e;rw [<- e]; exact h
theorem _qih:_Qx [frD a,frD b]=some (.bl (decide (a < b))):=by
 have h:=_ql3 ha.num ha.den hb.num hb.den;have e:decide (a < b)=decide (a.num * b.den < b.num * a.den):=by rw [Bool.eq_iff_iff]; simp [Rat.lt_iff]
 rw [e]; exact h
end
section
variable {p q r s:Int} (hq:0 < q) (hs:0 < s) (zp:Sz 2000 p) (zq:Sz 2000 q) (zr:Sz 2000 r) (zs:Sz 2000 s)
include hq hs zp zq zr zs
theorem _qjv:_vp [.tup [.int p,.int q],.tup [.int r,.int s]]=some (.tup [.int (nf1 (p * s - r * q) (q * s)),.int (nf2 (p * s - r * q) (q * s))]):=by
 have m1:=_q9 (zp.big (by decide)) (zs.big (by decide));have m2:=_q9 (zr.big (by decide)) (zq.big (by decide));have m3:=_q9 (zq.big (by decide)) (zs.big (by decide));have sh:=_Z7 (p * s - r * q) (q * s) (Int.mul_pos hq hs) (((zp.mul zs).sub (zr.mul zq)).mono (by decide)) ((zq.mul zs).mono (by decide));simp [_vp,_qsk,_qsi,ini,_qfi,m1,m2,m3,sh]
end
section
variable {a b:Rat} (ha:Bd 2000 2000 a) (hb:Bd 2000 2000 b)
include ha hb
theorem _qi2:_vp [frD a,frD b]=some (frD (a - b)):=by
 have h:=_qjv (den_pos a) (den_pos b) ha.num ha.den hb.num hb.den;have e:=nf_mk (t:=a.num * b.den - b.num * a.den) (b:=a.den * b.den) (mul_ne_zero a.den_nz b.den_nz);rw [Int.natCast_mul] at e;rw [_qlo] at e;rw [<- e]; exact h
end
theorem _qbr (l:List Rat) {t:Nat} (hs:_zu t l) (ht:t <= 20):_y [_Z l]=some (.int (cb l:Nat)):=by
 obtain ⟨ρ',e1,c,c',e2⟩:=_ju (inj:=frD) (g:=gTp [(gN 2),(gN 3)]) (b:=_j8) (fun pre ρ=>∃ c c',ρ=[some (.sh (_Z l)),some (.sh (.int (cb pre:Nat))),c,c']) l [some (.sh (_Z l)),some (.sh (.int 1)),none,none] ⟨_,_,rfl⟩ (by
  rintro pre q post ρ e ⟨c,c',rfl⟩;have hq:q∈l:=by rw [e]; simp
  have hb:=(hs.sub (Q:=pre) fun r hr=>by rw [e]; simp [hr]).cb ht;have hd:=(hs.bd ht hq).2;have g1:=_qkg (cb pre:Nat) (q.den:Nat);have eg:(Int.gcd ((cb pre:Nat):Int) (q.den:Int))=Nat.gcd (cb pre) q.den:=rfl;rw [eg] at g1;have gp:0 < Nat.gcd (cb pre) q.den:=Nat.gcd_pos_of_pos_left _ (_qa3 pre);have gl:Nat.gcd (cb pre) q.den <= q.den:=Nat.gcd_le_right _ q.den_pos;have d1:_qti (.int (q.den:Int)) (.int (Nat.gcd (cb pre) q.den:Nat))=some (.int ((q.den / Nat.gcd (cb pre) q.den:Nat):Int)):=by
   rw [_wi (by omega) (_wj (k:=1700) (by rw [Int.natAbs_natCast]; omega) (by decide)),_qex]
  have m1:_qte (.int (cb pre:Nat)) (.int ((q.den / Nat.gcd (cb pre) q.den:Nat):Int))=some (.int ((cbF (cb pre) q:Nat):Int)):=by
   rw [_q9 (_qfa (k:=1700) (by rw [Int.natAbs_natCast]; exact hb) (by decide)) (_qfa (k:=1700) (by rw [Int.natAbs_natCast]; exact lt_of_le_of_lt (Nat.div_le_self _ _) hd) (by decide))];simp [cbF]
  rw [_qnk];have hg:gTp [(gN 2),(gN 3)] (frD q) [some (.sh (_Z l)),some (.sh (.int (cb pre:Nat))),c,c']=some [some (.sh (_Z l)),some (.sh (.int (cb pre:Nat))),some (.sh (.int q.num)),some (.sh (.int (q.den:Nat)))]:=rfl;generalize cbF (cb pre) q=z at *;generalize q.den / Nat.gcd (cb pre) q.den=y at *;simp only [_qu6,hg];simp [_j8,g1,d1,m1])
 simp [_y,_qsk,_qsi,ini,_zg,_qtu,_qu4,e1,e2]
theorem _qaj (l:List Rat) {t:Nat} (hs:_zu t l) (ht:t <= 20) (b:Nat) (hb:b < 2 ^ 1700) (hl:l.length <= 1000):_S [.int (b:Int),_Z l]=some (_g (l.map (_qsc b))):=by
 have hc:_ji (_qt4 [(geN 0),(geN 1)]) qT (oE (f2 _qte (_qt7 0) (f2 _qti (_qt7 2) (_qt7 1)))) (l.map frD) [none,none,some (.int (b:Int))]=some (l.map fun q=>O.sh (.int (_qsc b q))):=by
  have:=_l (inj:=frD) (g:=_qt4 [(geN 0),(geN 1)]) (c:=qT) (e:=oE (f2 _qte (_qt7 0) (f2 _qti (_qt7 2) (_qt7 1)))) (fun ρ=>∃ d d',ρ=[d,d',some (.int (b:Int))]) (fun _=>true) (fun q=>O.sh (.int (_qsc b q))) l [none,none,some (.int (b:Int))] ⟨_,_,rfl⟩ (by
   rintro q hq ρ ⟨d,d',rfl⟩;have hd:=(hs.bd ht hq).2;have hn:=(hs.bd ht hq).num;have d1:_qti (.int (b:Int)) (.int (q.den:Int))=some (.int ((b / q.den:Nat):Int)):=by
    rw [_wi (by have:=q.den_pos; omega) (_wj (k:=1700) (by rw [Int.natAbs_natCast]; exact hd) (by decide)),_qex]
   have m1:_qte (.int q.num) (.int ((b / q.den:Nat):Int))=some (.int (_qsc b q)):=by
    rw [_q9 (hn.big (by decide)) (_qfa (k:=1700) (by rw [Int.natAbs_natCast]; exact lt_of_le_of_lt (Nat.div_le_self _ _) hb) (by decide))];rfl
   refine ⟨[some (.int q.num),some (.int (q.den:Int)),some (.int (b:Int))],rfl,⟨_,_,rfl⟩,rfl,fun _=>?_⟩;generalize _qsc b q=z at *;generalize b / q.den=y at *;simp [d1,m1])
  rwa [List.filter_eq_self.mpr (by simp)] at this
 have hd:oDs (l.map fun q=>O.sh (.int (_qsc b q)))=some ((l.map (_qsc b)).map .int):=by
  have:=_qt (f:=fun q:Rat=>O.sh (.int (_qsc b q))) (g:=fun q=>D.int (_qsc b q)) (fun p=>by simp) l
  rw [this,map_map]; rfl
 have hl':l.length <= 100000:=by omega
 simp [_S,_qsk,_qsi,ini,_Qk,_qa,mkD,hl',_qu4,hc,hd,-map_map];rfl
def tAt (T:List Int) (i:Nat):Int:=T.getD i 0
def _qs8 (h:List _qu2) (T:List Int) (g:List Nat):Int:=(g.map fun i=>wAt h i * tAt T i).sum
theorem _Jn (h:List _qu2) (k:okW h) (T:List Int) (hT:∀ x∈T,Sz 3600 x) (g:List Nat) (hg:∀ i∈g,i < h.length) (hg2:∀ i∈g,i < T.length) (hl:g.length <= 1000):_q5 [_t h,_g T,plD g]=some (.int (_qs8 h T g)):=by
 have hc:_ji (geN 0) qT (oE (f2 _qte (f2 dIx (f2 dIx (_qt7 2) (_qt7 0)) (fC (.int 0))) (f2 dIx (_qt7 1) (_qt7 0)))) (g.map fun (i:Nat)=>D.int (i:Int)) [none,some (_g T),some (_t h)]=some (g.map fun i=>O.sh (.int (wAt h i * tAt T i))):=by
  have:=_l (inj:=fun (i:Nat)=>D.int (i:Int)) (g:=geN 0) (c:=qT) (e:=oE (f2 _qte (f2 dIx (f2 dIx (_qt7 2) (_qt7 0)) (fC (.int 0))) (f2 dIx (_qt7 1) (_qt7 0)))) (fun ρ=>∃ d,ρ=[d,some (_g T),some (_t h)]) (fun _=>true) (fun i=>O.sh (.int (wAt h i * tAt T i))) g [none,some (_g T),some (_t h)] ⟨_,rfl⟩ (by
   rintro i hi ρ ⟨d,rfl⟩;have hx:=_K0 (hg i hi);have hx2:=_qb8 (hg2 i hi);have hw:wAt h i=(h[i]'(hg i hi)).1:=by unfold wAt; rw [_qv (hg i hi)]
   have ht:tAt T i=T[i]'(hg2 i hi):=_qv (hg2 i hi);have hz:=hT _ (getElem_mem (hg2 i hi));have w0:=k.at0 i;have w1:=k.atlt i;have m1:_qte (.int (h[i]'(hg i hi)).1) (.int (T[i]'(hg2 i hi)))=some (.int (wAt h i * tAt T i)):=by
    rw [ht,hw];exact _q9 (_qfa (k:=72) (by rw [<- hw]; omega) (by decide)) (hz.big (by decide))
   refine ⟨_,rfl,⟨_,rfl⟩,rfl,fun _=>?_⟩;generalize wAt h i * tAt T i=z at *;simp [hx,hx2,m1])
  rwa [List.filter_eq_self.mpr (by simp)] at this
 have hd:oDs (g.map fun i=>O.sh (.int (wAt h i * tAt T i)))=some ((g.map fun i=>wAt h i * tAt T i).map D.int):=by
  have:=_qt (f:=fun i:Nat=>O.sh (.int (wAt h i * tAt T i))) (g:=fun i=>D.int (wAt h i * tAt T i)) (fun p=>by simp) g
  rw [this,map_map]; rfl
 have hl':g.length <= 100000:=by omega
 have hlo:_kv (plD g)=some (g.map fun (i:Nat)=>D.int (i:Int)):=by simp [plD]
 generalize hv:(g.map fun i=>wAt h i * tAt T i)=vals at *;simp [_q5,_qsk,_qsi,ini,_V3,_qa,mkD,hl',_qu4,hlo,hc,hd,dSum,_Ja,_qs8,hv,-map_map]
theorem _qai (h:List _qu2) (P:List Rat) (b:Nat) (hb:∀ q∈P,q.den ∣ b) (g:List Nat) (hg:∀ i∈g,i < P.length):(_qs8 h (P.map (_qsc b)) g:Rat)=(_z g fun i=>(wAt h i:Rat) * pAt P i) * (b:Rat):=by
 unfold _qs8;rw [_qbc,map_map,<- _qy];unfold _z;congr 1;refine map_congr_left fun i hi=>?_;have h1:=hg i hi;have h2:tAt (P.map (_qsc b)) i=_qsc b P[i]:=by rw [tAt,_qv (by simpa using h1)]; simp
 have h3:pAt P i=P[i]:=_qv h1;simp only [Function.comp_def];rw [h2,h3]
 have:=_qd2 (hb _ (getElem_mem h1))
 have e:((wAt h i * _qsc b P[i]:Int):Rat)=(wAt h i:Rat) * (_qsc b P[i]:Rat):=by simp
 rw [e,this,Rat.mul_assoc]
theorem _qlk (h:List _qu2) (k:okW h) (P:List Rat) (hl:P.length=h.length) {t:Nat} (hs:_zu t P) (ht:t <= 20) (c:Int) (hc:c∈_k h):_Yp [_t h,_Z P,.int c]=some (frD (_zj h P c)):=by
 have hh:=k.len;have l1:=_z1 h c (by omega);rw [_Z3] at l1;have hlen:=_jg h [c];have b1:=_qbr P hs ht;have hb:=hs.cb ht;have t1:=_qaj P hs ht (cb P) hb (by omega);have hTz:∀ x∈P.map (_qsc (cb P)),Sz 3600 x:=fun x hx=>by
  obtain ⟨q,hq,rfl⟩:=List.mem_map.mp hx;exact hs.top ht hq hb
 have w1:=_Jn h k (P.map (_qsc (cb P))) hTz (_qtw h [c]) (_v h [c]) (fun i hi=>by simp; have:=_v h [c] i hi; omega) (by omega);have w2:=_xl h (by omega);have w3:=_kl h (_qtw h [c]) (_v h [c]) (by omega);have hN:=_Zh k;have hW:=_qla k (g:=_qtw h [c]) (by omega);have hW1:=_Wf k (_v8 hc) (_v h [c]);have zN:Sz 77 (_qs9 h):=by show _ < _; omega
 have zW:Sz 77 (wG h (_qtw h [c])):=by show _ < _; omega
 have zb:Sz 1700 ((cb P:Nat):Int):=by show _ < _; rw [Int.natAbs_natCast]; exact hb
 have m1:=_q9 (zN.big (by decide)) (zb.big (by decide));have m2:=_q9 (zW.big (by decide)) (zb.big (by decide));have hbp:=_qa3 P;have key:((_qs9 h * (cb P:Nat) - _qs8 h (P.map (_qsc (cb P))) (_qtw h [c]):Int):Rat)=((_qs9 h:Rat) - _qsf h P c) * ((cb P:Nat):Rat):=by
  have e:=_qai h P (cb P) (fun q hq=>_qhb hq) (_qtw h [c]) (fun i hi=>by have:=_v h [c] i hi; omega);have e2:((_qs9 h * ((cb P:Nat):Int) - _qs8 h (P.map (_qsc (cb P))) (_qtw h [c]):Int):Rat)=(_qs9 h:Rat) * ((cb P:Nat):Rat) - (_qs8 h (P.map (_qsc (cb P))) (_qtw h [c]):Rat):=by simp [_xa]
  rw [e2,e];unfold _qsf;grind
 have zs:Sz 3700 (_qs8 h (P.map (_qsc (cb P))) (_qtw h [c])):=by
  have gen:∀ g:List Nat,(∀ i∈g,i < P.length)->(_qs8 h (P.map (_qsc (cb P))) g).natAbs <= g.length * 2 ^ 3672:=by
   intro g
   induction g with
   | nil=>intro _; simp [_qs8]
   | cons i g ih =>
    intro hi;have h1:=ih fun j m=>hi j (by simp [m]);have h2:=hi i (by simp);have e:_qs8 h (P.map (_qsc (cb P))) (i :: g)=wAt h i * tAt (P.map (_qsc (cb P))) i + _qs8 h (P.map (_qsc (cb P))) g:=by simp [_qs8]
    have h3:Sz 3600 (tAt (P.map (_qsc (cb P))) i):=by rw [tAt,_qv (by simpa using h2)]; exact hTz _ (getElem_mem _)
    have w0:=k.at0 i;have wl:=k.atlt i;have h4:Sz 72 (wAt h i):=by show _ < _; omega
    have h5:(wAt h i * tAt (P.map (_qsc (cb P))) i).natAbs < 2 ^ (72 + 3600):=h4.mul h3;rw [e,length_cons,Nat.add_mul,Nat.one_mul];have h6:=Int.natAbs_add_le (wAt h i * tAt (P.map (_qsc (cb P))) i) (_qs8 h (P.map (_qsc (cb P))) g);omega
  have g1:=gen (_qtw h [c]) fun i hi=>by have:=_v h [c] i hi; omega
  have g2:(_qtw h [c]).length * 2 ^ 3672 <= 16 * 2 ^ 3672:=mul_le_mul_right _ (by omega);have g3:16 * 2 ^ 3672 < 2 ^ 3700:=by
   have:16 * 2 ^ 3672=2 ^ 3676:=by rw [show 3676=4 + 3672 by decide,pow_add]
   rw [this];exact Nat.pow_lt_pow_right (by decide) (by decide)
  exact lt_of_le_of_lt (le_trans g1 g2) g3
 have zm:Sz 3701 (_qs9 h * (cb P:Nat) - _qs8 h (P.map (_qsc (cb P))) (_qtw h [c])):=((zN.mul zb).mono (by decide)).sub zs;generalize hmiss:_qs9 h * ((cb P:Nat):Int) - _qs8 h (P.map (_qsc (cb P))) (_qtw h [c])=miss at *;have hf:=_kt (_qtw h [c]);have hbr:(0:Rat) < ((cb P:Nat):Rat):=by exact_mod_cast hbp
 by_cases cm:miss <= 0
 ·have hle:(_qs9 h:Rat) - _qsf h P c <= 0:=by
   false_or_by_contra;rename_i hgt
   have:(0:Rat) < (_qs9 h:Rat) - _qsf h P c:=by grind
   have h2:=Rat.mul_pos this hbr;rw [<- key] at h2
   have:(miss:Rat) <= 0:=by exact_mod_cast cm
   grind
  have e0:_zj h P c=0:=by unfold _zj; rw [if_pos hle]
  rw [e0];simp [_Yp,_qsk,_qsi,ini,_qhf,l1,b1,w2,hf,t1,w1,m1,hmiss,cm,_qu4];rfl
 ·have hgt:¬ (_qs9 h:Rat) - _qsf h P c <= 0:=fun hle=>by
   have:(0:Rat) < (miss:Rat):=by
    have:0 < miss:=by omega
    exact_mod_cast this
   rw [key] at this;have h2:((_qs9 h:Rat) - _qsf h P c) * ((cb P:Nat):Rat) <= 0 * ((cb P:Nat):Rat):=Rat.mul_le_mul_of_nonneg_right hle (Rat.le_of_lt hbr);grind
  have sh:=_Z7 miss (wG h (_qtw h [c]) * (cb P:Nat)) (Int.mul_pos (by omega) (by omega)) (zm.mono (by decide)) ((zW.mul zb).mono (by decide));obtain ⟨W,hWn⟩:∃ W:Nat,wG h (_qtw h [c])=(W:Int):=⟨(wG h (_qtw h [c])).toNat,by omega⟩;have hne:W * cb P ≠ 0:=mul_ne_zero (by omega) (by omega);have e1:wG h (_qtw h [c]) * ((cb P:Nat):Int)=((W * cb P:Nat):Int):=by rw [hWn]; simp
  have e2:=nf_mk (t:=miss) hne;rw [<- e1] at e2;rw [e2] at sh;have e3:mkRat miss (W * cb P)=_zj h P c:=by
   unfold _zj;rw [if_neg hgt,hWn];have hWr:((W:Int):Rat) ≠ 0:=by
    have:(0:Rat) < ((W:Int):Rat):=by
     have:0 < (W:Int):=by omega
     exact_mod_cast this
    grind
   have hbr':((cb P:Nat):Rat) ≠ 0:=by grind
   have e4:mkRat miss (W * cb P)=(miss:Rat) / (((W * cb P:Nat):Rat)):=by
    rw [<- Rat.divInt_ofNat,Rat.divInt_eq_div]; rfl
   have e5:((W * cb P:Nat):Rat)=((W:Int):Rat) * ((cb P:Nat):Rat):=by simp [_xa]
   rw [e4,e5,key];generalize (_qs9 h:Rat) - _qsf h P c=X at *;generalize ((cb P:Nat):Rat)=B at *;generalize ((W:Int):Rat)=V at *;have hVB:V * B ≠ 0:=by
    intro hz;rcases Rat.mul_eq_zero.mp hz with hz | hz
    ·exact hWr hz
    ·exact hbr' hz
   have q1:X * B / (V * B) * (V * B)=X * B:=Rat.div_mul_cancel hVB;have q2:X / V * V=X:=Rat.div_mul_cancel hWr;generalize X * B / (V * B)=Y at *;generalize X / V=Z at *;grind
  rw [e3] at sh;simp [_Yp,_qsk,_qsi,ini,_qhf,l1,b1,w2,hf,t1,w1,m1,hmiss,cm,w3,m2,sh,_qu4]
def _qsu (o:Int × Rat):D:=.tup [.int o.1,frD o.2]
@[simp] theorem _qqg (o:Int × Rat):imm (_qsu o)=true:=by simp [_qsu]
def _qss:Option (Int × Rat)->D
 | none=>.non
 | some o=>_qsu o
theorem _qbd (o:Option (Int × Rat)):imm (_qss o)=true:=by cases o <;> simp [_qss]
def _qb1 (l:List (Int × Rat)):D:=.lst (l.map _qsu)
theorem off0 (o:Int × Rat):dIx (_qsu o) (.int 0)=some (.int o.1):=_qcn
theorem off1 (o:Int × Rat):dIx (_qsu o) (.int 1)=some (frD o.2):=_qku
theorem _qee (l:List (Int × Rat)) (hb:∀ o∈l,Bd 2000 2000 o.2):_vq [_qb1 l]=some (_qss (_Y l)):=by
 have hmem:∀ pre:List (Int × Rat),(∀ o∈pre,Bd 2000 2000 o.2)->∀ o,_Y pre=some o->Bd 2000 2000 o.2:=fun pre hp o ho=>hp o (_j0 ho);obtain ⟨ρ',e1,c,e2⟩:=_ju (inj:=_qsu) (g:=gN 2) (b:=_wn) (fun pre ρ=>∃ c,ρ=[some (.sh (_qb1 l)),some (.sh (_qss (_Y pre))),c]) l [some (.sh (_qb1 l)),some (.sh .non),none] ⟨_,rfl⟩ (by
  rintro pre o post ρ e ⟨c,rfl⟩;have ho:=hb o (by rw [e]; simp);have es:_Y (pre++[o])=_qj (_Y pre) o:=by simp [_Y]
  rw [es];have hp:=hmem pre fun r hr=>hb r (by rw [e]; simp [hr]);cases hl:_Y pre with
  | none =>
   have i0:dIs .non .non=some (.bl true):=rfl;simp [_qu6,_wn,_qss,i0,_qj]
  | some a =>
   have ba:=hp a hl;have i0:dIs (_qsu a) .non=some (.bl false):=rfl;have bl:=_qih ho ba
   by_cases hlt:o.2 < a.2
   ·rw [decide_eq_true hlt] at bl
    simp [_qu6,_wn,_qss,i0,_qj,off1,bl,hlt]
   ·rw [decide_eq_false hlt] at bl
    simp [_qu6,_wn,_qss,i0,_qj,off1,bl,hlt])
 have hlo:_kv (_qb1 l)=some (l.map _qsu):=rfl;simp [_vq,_qsk,_qsi,ini,_qfk,_qtu,_qu4,hlo,e1,e2]
theorem _qhk {h:List _qu2} (k:okW h) {P:List Rat} (hl:P.length=h.length) {t:Nat} (hs:_zu t P) (ht:t <= 19) {c:Int} (hc:c∈_k h):Bd 2000 2000 (_zj h P c):=by
 obtain ⟨D,h1,h2,h3⟩:=hs;have hP:∀ q∈P,(0:Rat) <= q:=fun q m=>(h3 q m).2.1;have hW1:=_Wf k (_v8 hc) (_v h [c]);have hW2:=(_qla k (g:=_qtw h [c]) (le_trans (_jg h [c]) k.len)).2;obtain ⟨W,hW⟩:∃ W:Nat,wG h (_qtw h [c])=(W:Int):=⟨(wG h (_qtw h [c])).toNat,by omega⟩;rw [hW] at hW1 hW2;have hWlt:W < 2 ^ 80:=by
  have:(W:Int) < ((2 ^ 80:Nat):Int):=Int.lt_of_le_of_lt hW2 (by decide)
  exact_mod_cast this
 have hWp:0 < W:=by omega
 have hoS:_qu3 D (_qsf h P c):=_W8 _ _ fun i hi=>by
  have:=_v h [c] i hi
  have o:=(h3 _ (_R (P:=P) (i:=i) (by omega))).1;rw [Rat.mul_comm];exact o.mulInt _
 have hoW:_qu3 (W * D) (_zj h P c):=by
  unfold _zj;split
  ·exact _vf _ 0
  ·have o2:_qu3 D ((_qs9 h:Rat) - _qsf h P c):=(_vf D _).sub hoS
   obtain ⟨x,hx⟩:=o2;refine ⟨x,?_⟩;rw [hW];have hne:((W:Int):Rat) ≠ 0:=by
    have:(0:Rat) < ((W:Int):Rat):=by exact_mod_cast hW1
    grind
   have e1:((W * D:Nat):Rat)=((W:Int):Rat) * (D:Rat):=by simp [_xa]
   rw [e1,<- Rat.mul_assoc,Rat.div_mul_cancel hne];exact hx
 have hx0:=_km k P c;have hx1:=_qd1 k hP hc;have hlt:W * D < 2 ^ (80 + (80 * t + 1)):=by
  rw [pow_add]
  calc W * D < 2 ^ 80 * D:=Nat.mul_lt_mul_of_pos_right hWlt h1
   _ <= 2 ^ 80 * 2 ^ (80 * t + 1):=Nat.mul_le_mul_left _ (le_of_lt h2)
 have hz:(0:Rat) <= ((2 ^ 80:Nat):Rat):=by exact_mod_cast zero_le _
 exact (hoW.bd (m:=80) (mul_pos hWp h1) hlt (by grind) hx1).mono (by omega) (by omega)
theorem _qio (h:List _qu2) (kh:okH h) (k:okW h) (P:List Rat) (hl:P.length=h.length) {t:Nat} (hs:_zu t P) (ht:t <= 19) (ch:List Int) (seats:Int):_Qw [_t h,_Z P,_g ch,.int seats]=some (_qb1 (_jv h P ch seats)):=by
 have hh:=k.len
 by_cases c1:seats <= (ch.length:Int)
 ·simp [_Qw,_qsk,_qsi,ini,_qbv,c1,_qu4,_jv,_qb1]
 ·have lk:=_Zu h kh (by omega)
  have hz:oD (ow ((_k h).map D.int))=some (_g (_k h)):=by simp [_g]
  have hc:_ji (geN 0) (qV (f2 _Q8 (_qt7 0) (_qt7 3))) (oE (_qt8 (_d (_qt7 0) (_d (_A 3 _Yp (_d (_qt7 1) (_d (_qt7 2) (_d (_qt7 0) _qty)))) _qty)))) ((_k h).map D.int) [none,some (_t h),some (_Z P),some (_g ch)]=some (((_k h).filter fun c=>!has ch c).map fun c=>O.sh (_qsu (c,_zj h P c))) :=
   _l (inj:=D.int) (fun ρ=>∃ d,ρ=[d,some (_t h),some (_Z P),some (_g ch)]) (fun c=>!has ch c) (fun c=>O.sh (_qsu (c,_zj h P c))) (_k h) _ ⟨_,rfl⟩ (by
    rintro c hc ρ ⟨d,rfl⟩;have w:=_qlk h k P hl hs (by omega) c hc;exact ⟨_,rfl,⟨_,rfl⟩,by simp,fun _=>by simp [w,_qu4,_qsu]⟩)
  have hd:oDs (((_k h).filter fun c=>!has ch c).map fun c=>O.sh (_qsu (c,_zj h P c)))=some ((((_k h).filter fun c=>!has ch c).map fun c=>(c,_zj h P c)).map _qsu):=by
   have:=_qt (f:=fun c:Int=>O.sh (_qsu (c,_zj h P c))) (g:=fun c=>_qsu (c,_zj h P c)) (fun p=>by simp) ((_k h).filter fun c=>!has ch c)
   rw [this,map_map]; rfl
  have hll:(_k h).length <= 100000:=by have:=_P h; omega
  have e:_jv h P ch seats=((_k h).filter fun c=>!has ch c).map fun c=>(c,_zj h P c):=by unfold _jv; rw [if_neg c1]
  rw [e];simp [_Qw,_qsk,_qsi,ini,_qbv,c1,_qu4,lk,hz,_qa,mkD,hll,hc,hd,_qb1,-map_map]
theorem _Q9 {h:List _qu2} {P:List Rat} {ch:List Int} {seats:Int} {o:Int × Rat} (ho:o∈_jv h P ch seats):o.1∈_k h/\o.1 ∉ ch/\o.2=_zj h P o.1/\(ch.length:Int) < seats:=by
 unfold _jv at ho;split at ho
 ·simp at ho
 ·obtain ⟨c,hc,rfl⟩:=List.mem_map.mp ho
  obtain ⟨h1,h2⟩:=List.mem_filter.mp hc;refine ⟨h1,fun hm=>?_,rfl,by omega⟩;rw [_j1.mpr hm] at h2;simp at h2
theorem _qhe (h:List _qu2) (k:okW h) (P:List Rat) (hl:P.length=h.length) {t:Nat} (hs:_zu t P) (ht:t <= 19) (c:Int) (hc:c∈_k h):_qu [_t h,_Z P,_qsu (c,_zj h P c)]=some (_Z (_u h P (c,_zj h P c))):=by
 have hh:=k.len;have l1:=_z1 h c (by omega);rw [_Z3] at l1;have hf:=_kt (_qtw h [c]);have en:_qez (P.map frD)=(List.range P.length).map fun (i:Nat)=>D.tup [.int (i:Int),frD (pAt P i)]:=by
  rw [_qbj];apply ext_getElem
  ·simp
  ·intro i h1 h2
   simp at h1;simp [pAt,h1]
 have hwb:=_qhk k hl hs ht hc;have hc2:_ji (_qt4 [(geN 0),(geN 1)]) qT (oE (fIf (qV (f2 dIn (_qt7 0) (_qt7 2))) (_qt8 (_d (fC (.int 0)) (_d (fC (.int 1)) _qty))) (_A 2 _Kt (_d (_qt7 1) (_d (f2 dIx (_qt7 3) (fC (.int 1))) _qty))))) (_qez (P.map frD)) [none,none,some (plD (_qtw h [c])),some (_qsu (c,_zj h P c))]=some ((List.range P.length).map fun i=>O.sh (frD (if _qsz (_qtw h [c]) i=true then 0 else pAt P i + _zj h P c))):=by
  rw [en]
  have:=_l (inj:=fun i:Nat=>D.tup [.int (i:Int),frD (pAt P i)]) (g:=_qt4 [(geN 0),(geN 1)]) (c:=qT) (e:=(oE (fIf (qV (f2 dIn (_qt7 0) (_qt7 2))) (_qt8 (_d (fC (.int 0)) (_d (fC (.int 1)) _qty))) (_A 2 _Kt (_d (_qt7 1) (_d (f2 dIx (_qt7 3) (fC (.int 1))) _qty)))))) (fun ρ=>∃ d d',ρ=[d,d',some (plD (_qtw h [c])),some (_qsu (c,_zj h P c))]) (fun _=>true) (fun i=>O.sh (frD (if _qsz (_qtw h [c]) i=true then 0 else pAt P i + _zj h P c))) (List.range P.length) [none,none,some (plD (_qtw h [c])),some (_qsu (c,_zj h P c))] ⟨_,_,rfl⟩ (by
   rintro i hi ρ ⟨d,d',rfl⟩;have hi':=List.mem_range.mp hi;have hpb:=(hs.bd (by omega) (_R hi')).mono (show 1800 <= 2000 by decide) (show 1700 <= 2000 by decide);have pl:=_qoj hpb hwb;refine ⟨[some (.int (i:Int)),some (frD (pAt P i)),some (plD (_qtw h [c])),some (_qsu (c,_zj h P c))],rfl,⟨_,_,rfl⟩,rfl,fun _=>?_⟩;cases hi2:_qsz (_qtw h [c]) i with
   | true =>
    simp [plD,_qgy,hi2,_qu4];rfl
   | false=>simp [plD,_qgy,hi2,off1,pl])
  rwa [List.filter_eq_self.mpr (by simp)] at this
 have hd:oDs ((List.range P.length).map fun i=>O.sh (frD (if _qsz (_qtw h [c]) i=true then 0 else pAt P i + _zj h P c)))=some ((_u h P (c,_zj h P c)).map frD):=by
  have:=_qt (f:=fun i:Nat=>O.sh (frD (if _qsz (_qtw h [c]) i=true then 0 else pAt P i + _zj h P c))) (g:=fun i=>frD (if _qsz (_qtw h [c]) i=true then 0 else pAt P i + _zj h P c)) (fun p=>by simp) (List.range P.length)
  rw [this,_u,map_map]; rfl
 have hll:P.length <= 100000:=by omega
 generalize _zj h P c=x at *;simp [_qu,_qsk,_qsi,ini,_ze,off0,l1,hf,_qu4,_qe7,mkD,hll,hc2,hd];rfl
def _qsl (r:Int × Rat × List Rat):D:=.tup [.int r.1,frD r.2.1,_Z r.2.2]
def _zb (l:List (Int × Rat × List Rat)):D:=.lst (l.map _qsl)
theorem _qhy (o:Option (Int × Rat)):_qth (_qss o) .non=some (.bl o.isSome):=by cases o <;> rfl
theorem _qe5 (h:List _qu2) (kh:okH h) (k:okW h) (P:List Rat) (hl:P.length=h.length) {t:Nat} (hs:_zu t P) (ht:t <= 19) (ch:List Int) (seats:Int):_Qw [_t h,_Z P,_g ch,.int seats]=some (_qb1 (_jv h P ch seats))/\_vq [_qb1 (_jv h P ch seats)]=some (_qss (_Y (_jv h P ch seats))) :=
 ⟨_qio h kh k P hl hs ht ch seats,_qee _ fun o ho=>by
  obtain ⟨w1,_,w2,_⟩:=_Q9 ho;rw [w2];exact _qhk k hl hs ht w1⟩
theorem _K1 (h:List _qu2) (kh:okH h) (k:okW h) (c2:Option O) (seats:Int) (h6:seats <= 6):∀ (n:Nat) (P:List Rat) (ch:List Int) (rows:List (Int × Rat × List Rat)) (t:Nat),P.length=h.length->_zu t P->t + n <= 19->seats <= (ch.length:Int) + n->ch.length <= 100->rows.length + n <= 100 ->
  ∃ ρ',_wo (qV (f2 _qth (_qt7 6) (fC .non))) _V5 [some (.sh (_t h)),some (.sh (_Z P)),c2,some (.sh (.int seats)),some (ow (ch.map .int)),some (ow (rows.map _qsl)),some (.sh (_qss (_Y (_jv h P ch seats))))]=some (.nx ρ')/\∃ a1 a4 a6,ρ'=[some (.sh (_t h)),a1,c2,some (.sh (.int seats)),a4,some (ow ((rows++_j2 h seats n P ch).map _qsl)),a6]
 | 0,P,ch,rows,t,hl,hs,ht,hn,hch,hr=>by
  have e0:_jv h P ch seats=[]:=by unfold _jv; rw [if_pos (by omega)]
  rw [e0];refine ⟨_,_xx (by simp [_Y,_qss]; rfl),some (.sh (_Z P)),some (ow (ch.map .int)),some (.sh (_qss (_Y []))),?_⟩;simp only [_j2,append_nil]
 | n + 1,P,ch,rows,t,hl,hs,ht,hn,hch,hr=>by
  cases ho:_Y (_jv h P ch seats) with
  | none =>
   refine ⟨_,_xx (by simp [_qss]; rfl),some (.sh (_Z P)),some (ow (ch.map .int)),some (.sh (_qss none)),?_⟩;simp only [_j2,ho,append_nil]
  | some o =>
   obtain ⟨w1,w2,w3,w4⟩:=_Q9 (_j0 ho);have eo:o=(o.1,_zj h P o.1):=by rw [<- w3]
   have bh:=_qhe h k P hl hs (by omega) o.1 w1;rw [<- eo] at bh;have hs':=_qa7 k hs hl w1;rw [<- eo] at hs';have hl':(_u h P o).length=h.length:=by rw [_Xt]; exact hl
   have w5:(ch.length:Int) < 6:=by omega
   obtain ⟨f1,f2'⟩:=_qe5 h kh k (_u h P o) hl' hs' (by omega) (ch++[o.1]) seats;obtain ⟨ρ',e1,e2⟩:=_K1 h kh k c2 seats h6 n (_u h P o) (ch++[o.1]) (rows++[(o.1,o.2,_u h P o)]) (t + 1) hl' hs' (by omega) (by simp; omega) (by simp; omega) (by simp; omega);refine ⟨ρ',_Qr (ρ2:=[some (.sh (_t h)),some (.sh (_Z (_u h P o))),c2,some (.sh (.int seats)),some (ow ((ch++[o.1]).map .int)),some (ow ((rows++[(o.1,o.2,_u h P o)]).map _qsl)),some (.sh (_qss (_Y (_jv h (_u h P o) (ch++[o.1]) seats))))]) ?_ ?_ e1,?_⟩
   ·have:=_qhy (some o)
    simp [this]
   ·have g1:_qt5 (.sh (_qsl (o.1,o.2,_u h P o))) (ow (rows.map _qsl))=some (ow (rows.map _qsl++[_qsl (o.1,o.2,_u h P o)])):=_qbg (by simp [_qu4]; omega)
    have g2:_qt5 (.sh (.int o.1)) (ow (ch.map .int))=some (ow (ch.map .int++[.int o.1])):=_qbg (by simp [_qu4]; omega);have er:D.tup [.int o.1,frD o.2,_Z (_u h P o)]=_qsl (o.1,o.2,_u h P o):=rfl;have ir:imm (_qsl (o.1,o.2,_u h P o))=false:=by simp [_qsl]
    have ec:D.lst ((ch++[o.1]).map .int)=_g (ch++[o.1]):=rfl;have ec':D.lst (ch.map D.int++[D.int o.1])=_g (ch++[o.1]):=by simp [_g]
    have io:=_qbd (_Y (_jv h (_u h P o) (ch++[o.1]) seats));have oe:_qss (some o)=_qsu o:=rfl;generalize _u h P o=Q at *;generalize _jv h Q (ch++[o.1]) seats=ws at *;simp [_V5,oe,bh,off0,off1,_qu4,er,ir,g1,g2,ec',f1,f2',io]
   ·obtain ⟨a1,a4,a6,e3⟩:=e2
    refine ⟨a1,a4,a6,?_⟩;rw [e3];simp only [_j2,ho,List.append_assoc,List.singleton_append]
theorem _qep (h:List _qu2) (kh:okH h) (k:okW h) (P:List Rat) (hl:P.length=h.length) {t:Nat} (hs:_zu t P) (ht:t <= 12) (mem:List Int) (hm:mem.length <= 6) (seats:Int) (h6:seats <= 6):_Xd [_t h,_Z P,_g mem,.int seats]=some (_zb (_j2 h seats 6 P mem)):=by
 obtain ⟨f1,f2'⟩:=_qe5 h kh k P hl hs (by omega) mem seats;obtain ⟨ρ',e1,a1,a4,a6,e2⟩:=_K1 h kh k (some (.sh (_g mem))) seats h6 6 P mem [] t hl hs (by omega) (by omega) (by omega) (by simp);have ec:D.lst (mem.map .int)=_g mem:=rfl;have io:=_qbd (_Y (_jv h P mem seats));have er:∀ l:List (Int × Rat × List Rat),D.lst (l.map _qsl)=_zb l:=fun _=>rfl;have ir:∀ l:List (Int × Rat × List Rat),imm (_zb l)=false:=fun _=>by simp [_zb]
 simp only [map_nil,nil_append] at e1 e2;generalize _jv h P mem seats=ws at *;simp [_Xd,_qsk,_qsi,ini,_qfn,_qu4,ec,f1,f2',io,e1,e2,er]
theorem _qgz (h:List _qu2) (kh:okH h) (k:okW h) (seats:Int) (h6:seats <= 6):_Xc [_t h,.int seats]=some (_zb (_j2 h seats 6 (List.replicate h.length 0) [])):=by
 have hh:=k.len;have hs:_zu 0 (List.replicate h.length (0:Rat)):=⟨1,by decide,by decide,fun q hq=>by
  have:=List.eq_of_mem_replicate hq
  subst this;exact ⟨_vf 1 0,Rat.le_refl,by simp⟩⟩
 have g:=_qep h kh k (List.replicate h.length 0) (by simp) hs (by decide) [] (by simp) seats h6;have hc:_ji (geN 0) qT (oE (_qt8 (_d (fC (.int 0)) (_d (fC (.int 1)) _qty)))) (h.map _xy) [none]=some (h.map fun _=>O.sh (frD 0)):=by
  have:=_l (inj:=_xy) (g:=geN 0) (c:=qT) (e:=oE (_qt8 (_d (fC (.int 0)) (_d (fC (.int 1)) _qty)))) (fun ρ=>∃ d,ρ=[d]) (fun _=>true) (fun _=>O.sh (frD 0)) h [none] ⟨_,rfl⟩ (by
   rintro p _ ρ ⟨d,rfl⟩;exact ⟨_,rfl,⟨_,rfl⟩,rfl,fun _=>by simp [_qu4]; rfl⟩)
  rwa [List.filter_eq_self.mpr (by simp)] at this
 have hd:oDs (h.map fun _=>O.sh (frD 0))=some ((List.replicate h.length (0:Rat)).map frD):=by
  have:=_qt (f:=fun _:_qu2=>O.sh (frD 0)) (g:=fun _=>frD 0) (fun p=>by simp) h
  rw [this]; simp [List.map_const']
 have hll:h.length <= 100000:=by omega
 have e1:D.lst ((List.replicate h.length (0:Rat)).map frD)=_Z (List.replicate h.length 0):=rfl;have e2:D.lst []=_g []:=rfl;rw [e2.symm] at g;generalize List.replicate h.length (0:Rat)=Z at *;simp [_Xc,_qsk,_qsi,ini,_qad,_qa,mkD,hll,_qu4,hc,hd,e1,g]
def lkB (h:List _qu2) (i:Nat) (c:Int):Bool:=atB (fun p:_qu2=>_j7 p.2 [c]) h[i]?
theorem _Q2 (h:List _qu2) (c:Int):_qtw h [c]=(List.range h.length).filter fun i=>lkB h i c:=rfl
theorem _qen {h:List _qu2} {c:Int} {i:Nat} (hi:i < h.length):_qsz (_qtw h [c]) i=lkB h i c:=by
 rw [Bool.eq_iff_iff,_kx,_Q2,List.mem_filter];simp [hi]
def _J1 (P:List Rat) (G:List (Int × Rat × List Rat)):Nat->List Rat
 | 0=>P
 | s + 1=>(G[s]?.map fun r=>r.2.2).getD []
theorem _Xg {l:List (Int × Rat)} {o:Int × Rat} (h:_Y l=some o):∀ q∈l,o.2 <= q.2:=by
 have key:∀ (l:List (Int × Rat)) (f:Option (Int × Rat)) (o:Int × Rat),l.foldl _qj f=some o->(∀ q∈l,o.2 <= q.2)/\∀ a,f=some a->o.2 <= a.2:=by
  intro l
  induction l with
  | nil=>intro f o h; exact ⟨by simp,fun a e=>by rw [List.foldl_nil] at h; rw [h] at e; cases e; exact Rat.le_refl⟩
  | cons b l ih =>
   intro f o h;obtain ⟨h1,h2⟩:=ih _ _ h;cases f with
   | none =>
    have:=h2 b rfl
    exact ⟨fun q hq=>by
     rcases List.mem_cons.mp hq with rfl | hq
     ·exact this
     ·exact h1 q hq,fun a e=>by cases e⟩
   | some a =>
    simp only [_qj] at h2;split at h2
    ·rename_i hlt
     have:=h2 b rfl
     exact ⟨fun q hq=>by
      rcases List.mem_cons.mp hq with rfl | hq
      ·exact this
      ·exact h1 q hq,fun a' e=>by cases e; grind⟩
    ·rename_i hlt
     have:=h2 a rfl
     exact ⟨fun q hq=>by
      rcases List.mem_cons.mp hq with rfl | hq
      ·grind
      ·exact h1 q hq,fun a' e=>by cases e; exact this⟩
 exact (key l none o h).1
theorem _Zv {l:List (Int × Rat)} (h:_Y l=none):l=[]:=by
 cases l with
 | nil=>rfl
 | cons a l =>
  exfalso;have key:∀ (l:List (Int × Rat)) (b:Int × Rat),l.foldl _qj (some b) ≠ none:=by
   intro l
   induction l with
   | nil=>intro b; simp
   | cons c l ih =>
    intro b;rw [List.foldl_cons];simp only [_qj];split
    ·exact ih c
    ·exact ih b
  exact key l a h
theorem _qd0 {h:List _qu2} (k:okW h) {P:List Rat} {c:Int} (hc:c∈_k h) (hS:_qsf h P c <= (_qs9 h:Rat)):_qsf h P c + (wG h (_qtw h [c]):Rat) * _zj h P c=(_qs9 h:Rat):=by
 have h1:(1:Rat) <= (wG h (_qtw h [c]):Rat):=by exact_mod_cast _Wf k (_v8 hc) (_v h [c])
 unfold _zj;split
 ·grind
 ·generalize hx:((_qs9 h:Rat) - _qsf h P c) / (wG h (_qtw h [c]):Rat)=x
  have e:x * (wG h (_qtw h [c]):Rat)=(_qs9 h:Rat) - _qsf h P c:=by rw [<- hx,Rat.div_mul_cancel (by grind)]
  grind
theorem _Wi (h:List _qu2) (P:List Rat) (c:Int) (x:Rat):_z (_qtw h [c]) (fun i=>(wAt h i:Rat) * (pAt P i + x))=_qsf h P c + (wG h (_qtw h [c]):Rat) * x:=by
 rw [_qc0,<- _qy];unfold _qsf;rw [<- _v2];exact _D fun i _=>by grind
theorem _qbu {h:List _qu2} {P:List Rat} {o:Int × Rat} {i:Nat} (hi:i < P.length):pAt (_u h P o) i=if _qsz (_qtw h [o.1]) i=true then 0 else pAt P i + o.2:=by
 unfold pAt _u;rw [_qv (by simpa using hi)];simp [pAt]
theorem _qc4 {h:List _qu2} (k:okW h) {P:List Rat} (hl:P.length=h.length) {c d:Int} {x:Rat} (hP:∀ q∈P,(0:Rat) <= q) (hx:0 <= x):_qsf h (_u h P (c,x)) d <= _qsf h P d + (wG h (_qtw h [d]):Rat) * x:=by
 rw [<- _Wi];refine _wr fun i hi=>?_;have hlt:i < P.length:=by have:=_v h [d] i hi; omega
 have hw:(0:Rat) <= (wAt h i:Rat):=by exact_mod_cast k.at0 i
 rw [_qbu hlt];have hp:=hP _ (_R hlt);refine Rat.mul_le_mul_of_nonneg_left ?_ hw;split <;> grind
theorem _Q1 {h:List _qu2} {P:List Rat} {o:Int × Rat} (hP:∀ q∈P,(0:Rat) <= q) (hx:0 <= o.2):∀ q∈_u h P o,(0:Rat) <= q:=by
 intro q hq;obtain ⟨i,hi,rfl⟩:=List.mem_map.mp hq
 have:=hP _ (_R (List.mem_range.mp hi))
 split
 ·exact Rat.le_refl
 ·grind
theorem _wh {h:List _qu2} (k:okW h) (seats:Int):∀ (n:Nat) (P:List Rat) (ch:List Int),P.length=h.length->(∀ q∈P,(0:Rat) <= q)->(∀ c∈_k h,c ∉ ch->_qsf h P c <= (_qs9 h:Rat)) ->
  ∀ (t:Nat) (c:Int) (x:Rat) (Q:List Rat),(_j2 h seats n P ch)[t]?=some (c,x,Q) ->
   (∀ q∈_J1 P (_j2 h seats n P ch) t,(0:Rat) <= q)/\(_J1 P (_j2 h seats n P ch) t).length=h.length/\Q=_u h (_J1 P (_j2 h seats n P ch) t) (c,x)/\0 <= x/\c∈_k h/\c ∉ ch/\c ∉ ((_j2 h seats n P ch).take t).map (·.1) /\
   _qsf h (_J1 P (_j2 h seats n P ch) t) c + (wG h (_qtw h [c]):Rat) * x=(_qs9 h:Rat) /\
   ∀ d∈_k h,d ∉ ch->d ∉ ((_j2 h seats n P ch).take t).map (·.1)->_qsf h (_J1 P (_j2 h seats n P ch) t) d + (wG h (_qtw h [d]):Rat) * x <= (_qs9 h:Rat)
 | 0,P,ch,hl,hP,hinv,t,c,x,Q,he=>by simp [_j2] at he
 | n + 1,P,ch,hl,hP,hinv,t,c,x,Q,he=>by
  cases ho:_Y (_jv h P ch seats) with
  | none=>simp only [_j2,ho] at he; simp at he
  | some o =>
   obtain ⟨w1,w2,w3,w4⟩:=_Q9 (_j0 ho);have hle:=_Xg ho;have hx0:0 <= o.2:=by rw [w3]; exact _km k P o.1
   have hall:∀ d∈_k h,d ∉ ch->_qsf h P d + (wG h (_qtw h [d]):Rat) * o.2 <= (_qs9 h:Rat):=by
    intro d hd hdc;have hin:(d,_zj h P d)∈_jv h P ch seats:=by
     unfold _jv;rw [if_neg (by omega)];refine List.mem_map.mpr ⟨d,List.mem_filter.mpr ⟨hd,?_⟩,rfl⟩;simp only [Bool.not_eq_true',has];simpa using hdc
    have h1:=hle _ hin;have h2:=_qd0 k hd (hinv d hd hdc);have h3:(0:Rat) <= (wG h (_qtw h [d]):Rat):=by exact_mod_cast (_Kb k _).1
    have h4:(wG h (_qtw h [d]):Rat) * o.2 <= (wG h (_qtw h [d]):Rat) * _zj h P d:=Rat.mul_le_mul_of_nonneg_left h1 h3;grind
   have heq:_qsf h P o.1 + (wG h (_qtw h [o.1]):Rat) * o.2=(_qs9 h:Rat):=by rw [w3]; exact _qd0 k w1 (hinv _ w1 w2)
   have eG:_j2 h seats (n + 1) P ch=(o.1,o.2,_u h P o) :: _j2 h seats n (_u h P o) (ch++[o.1]):=by simp only [_j2,ho]
   rw [eG] at he ⊢;cases t with
   | zero =>
    simp only [List.getElem?_cons_zero,Option.some.injEq,Prod.mk.injEq] at he;obtain ⟨rfl,rfl,rfl⟩:=he;exact ⟨hP,hl,rfl,hx0,w1,w2,by simp,heq,fun d hd hdc _=>hall d hd hdc⟩
   | succ t =>
    rw [List.getElem?_cons_succ] at he;have hinv':∀ c∈_k h,c ∉ ch++[o.1]->_qsf h (_u h P o) c <= (_qs9 h:Rat):=by
     intro d hd hdc;have hdc':d ∉ ch:=fun m=>hdc (by simp [m]);exact Rat.le_trans (_qc4 k hl (c:=o.1) (x:=o.2) hP hx0) (hall d hd hdc')
    have ih:=_wh k seats n (_u h P o) (ch++[o.1]) (by rw [_Xt]; exact hl) (_Q1 hP hx0) hinv' t c x Q he;have ep:_J1 P ((o.1,o.2,_u h P o) :: _j2 h seats n (_u h P o) (ch++[o.1])) (t + 1)=_J1 (_u h P o) (_j2 h seats n (_u h P o) (ch++[o.1])) t:=by
     cases t with
     | zero=>simp [_J1]
     | succ t=>simp [_J1]
    rw [ep];obtain ⟨i1,i2,i3,i4,i5,i6,i7,i8,i9⟩:=ih;have i6':c ∉ ch/\c ≠ o.1:=by simpa using i6
    refine ⟨i1,i2,i3,i4,i5,i6'.1,?_,i8,fun d hd hdc hdt=>i9 d hd ?_ ?_⟩
    ·simp only [List.take_succ_cons,map_cons,mem_cons,not_or]
     exact ⟨i6'.2,i7⟩
    ·simp only [List.take_succ_cons,map_cons,mem_cons,not_or] at hdt
     simp [hdc,hdt.1]
    ·simp only [List.take_succ_cons,map_cons,mem_cons,not_or] at hdt
     exact hdt.2
theorem _Xj {h:List _qu2} (seats:Int):∀ (n:Nat) (P:List Rat) (ch:List Int),seats <= (ch.length:Int) + n->(seats <= (ch.length:Int) + (_j2 h seats n P ch).length) \/ ∀ c∈_k h,c∈ch \/ c∈(_j2 h seats n P ch).map (·.1)
 | 0,P,ch,hn=>.inl (by simp [_j2]; omega)
 | n + 1,P,ch,hn=>by
  cases ho:_Y (_jv h P ch seats) with
  | none =>
   have e:=_Zv ho;unfold _jv at e;split at e
   ·exact .inl (by omega)
   ·refine .inr fun c hc=>.inl ?_
    have:=List.filter_eq_nil_iff.mp (List.map_eq_nil_iff.mp e) c hc
    simpa [has] using this
  | some o =>
   have eG:_j2 h seats (n + 1) P ch=(o.1,o.2,_u h P o) :: _j2 h seats n (_u h P o) (ch++[o.1]):=by simp only [_j2,ho]
   rw [eG];rcases _Xj seats n (_u h P o) (ch++[o.1]) (by simp; omega) with ih | ih
   ·refine .inl ?_
    have e1:((ch++[o.1]).length:Int)=(ch.length:Int) + 1:=by simp
    rw [e1] at ih;rw [length_cons,Int.natCast_add];generalize ((_j2 h seats n (_u h P o) (ch++[o.1])).length:Int)=z at *;show seats <= (ch.length:Int) + (z + 1);omega
   ·refine .inr fun c hc=>?_
    rcases ih c hc with m | m
    ·rcases List.mem_append.mp m with m | m
     ·exact .inl m
     ·simp at m; exact .inr (by simp [m])
    ·exact .inr (by rw [map_cons]; exact mem_cons_of_mem _ m)
theorem _Y0 {h:List _qu2} (seats:Int):∀ (n:Nat) (P:List Rat) (ch:List Int),_j2 h seats n P ch=[] \/ ((ch.length:Int) + (_j2 h seats n P ch).length <= seats)
 | 0,P,ch=>.inl rfl
 | n + 1,P,ch=>by
  cases ho:_Y (_jv h P ch seats) with
  | none=>exact .inl (by simp only [_j2,ho])
  | some o =>
   obtain ⟨w1,w2,w3,w4⟩:=_Q9 (_j0 ho);have eG:_j2 h seats (n + 1) P ch=(o.1,o.2,_u h P o) :: _j2 h seats n (_u h P o) (ch++[o.1]):=by simp only [_j2,ho]
   rw [eG];refine .inr ?_;rcases _Y0 seats n (_u h P o) (ch++[o.1]) with ih | ih
   ·rw [ih]; simp; omega
   ·simp only [length_append,length_cons,List.length_nil] at ih ⊢; omega
theorem _Zw {h:List _qu2} (k:okW h) (seats:Int) (n:Nat) {P:List Rat} {ch:List Int} (hl:P.length=h.length) (hP:∀ q∈P,(0:Rat) <= q) (hinv:∀ c∈_k h,c ∉ ch->_qsf h P c <= (_qs9 h:Rat)):((_j2 h seats n P ch).map (·.1)).Nodup:=by
 rw [List.nodup_iff_pairwise_ne,List.pairwise_iff_getElem];intro i j hi hj hij e;simp at hi hj;have hr:=_wh k seats n P ch hl hP hinv j _ _ _ (getElem?_eq_getElem hj);refine hr.2.2.2.2.2.2.1 ?_;simp only [getElem_map] at e;show (_j2 h seats n P ch)[j].1∈_;rw [<- e];refine List.mem_map.mpr ⟨(_j2 h seats n P ch)[i],?_,rfl⟩;exact List.mem_iff_getElem.mpr ⟨i,by simp; omega,by simp⟩
def optQ:Option Rat->D
 | none=>.non
 | some q=>frD q
def _qso (h:List _qu2) (P:List Rat) (c:Int):List Rat:=(_qtw h [c]).map (pAt P)
def plI (h:List _qu2) (c:Int):List Int:=(_qtw h [c]).map fun (i:Nat)=>(i:Int)
def _qtp (h:List _qu2) (P:List Rat) (c:Int):Nat:=cb (_qso h P c)
def psR (h:List _qu2) (P:List Rat) (c:Int):List (Int × Int):=_Jp (((_qso h P c).map (_qsc (_qtp h P c))).zip (plI h c))
def wOf (h:List _qu2) (q:Int × Int):Int × Int:=(q.1,wAt h q.2.toNat)
def _qm5 (h:List _qu2) (P:List Rat) (c N:Int):Option (Int × Int):=_qga ((psR h P c).map (wOf h)) (N * (_qtp h P c:Nat)) (wG h (_qtw h [c]))
def _kj (h:List _qu2) (P:List Rat) (c N:Int):Option Rat:=(_qm5 h P c N).map fun r=>mkRat r.1 (r.2.toNat * _qtp h P c)
theorem _qau (h:List _qu2) (k:okW h) (x1 x2 x3 x4 x6:Option O) (b:Nat) (hb0:0 < b) (hb:b < 2 ^ 1700) (R0:Int) (hR:R0 < 2 ^ 3700):∀ (ps:List (Int × Int)) (rest W:Int) (x9 x10:Option O),
  (∀ q∈ps,0 <= q.1/\Sz 3600 q.1/\∃ i:Nat,i < h.length/\q.2=(i:Int))->W=_qse (ps.map (wOf h))->W <= 2 ^ 76->0 < rest->rest <= R0 ->
  match _qga (ps.map (wOf h)) rest W with
  | none=>∃ ρ',_qt6 (gTp [(gN 9),(gN 10)]) _k0 (ps.map _qgd) [some (.sh (_t h)),x1,x2,x3,x4,some (.sh (.int (b:Int))),x6,some (.sh (.int rest)),some (.sh (.int W)),x9,x10]=some (.nx ρ')
  | some r=>∃ ρ',_qt6 (gTp [(gN 9),(gN 10)]) _k0 (ps.map _qgd) [some (.sh (_t h)),x1,x2,x3,x4,some (.sh (.int (b:Int))),x6,some (.sh (.int rest)),some (.sh (.int W)),x9,x10]=some (.rt (.sh (frD (mkRat r.1 (r.2.toNat * b)))) ρ')
 | [],rest,W,x9,x10,_,_,_,_,_=>⟨_,rfl⟩
 | q :: ps,rest,W,x9,x10,hq,hW,hW76,hp,hrest=>by
  obtain ⟨q0,qs,i,hi,qi⟩:=hq q (by simp);have hl:∀ q∈ps,0 <= q.1/\Sz 3600 q.1/\∃ i:Nat,i < h.length/\q.2=(i:Int):=fun q hm=>hq q (by simp [hm]);have wq:wOf h q=(q.1,wAt h i):=by simp [wOf,qi]
  have w1:=k.at1 hi;have w2:=k.atlt i;have hn:0 <= _qse (ps.map (wOf h)):=_v0 fun r hr=>by
   obtain ⟨p,hp,rfl⟩:=List.mem_map.mp hr;obtain ⟨_,_,j,hj,pj⟩:=hl p hp
   have:=k.at1 hj
   simp only [wOf,pj,Int.toNat_natCast]; exact this
  have hW':W - wAt h i=_qse (ps.map (wOf h)):=by
   rw [hW]; simp only [map_cons,_qse,sum_cons,wq]; omega
  have zW:Sz 80 W:=by show W.natAbs < 2 ^ 80; omega
  have zb:Sz 1700 (b:Int):=by show (b:Int).natAbs < 2 ^ 1700; rw [Int.natAbs_natCast]; exact hb
  have zw:Sz 80 (wAt h i):=by show (wAt h i).natAbs < 2 ^ 80; omega
  have m1:=_q9 (zW.big (by decide)) (qs.big (by decide));have m2:=_q9 (zW.big (by decide)) (zb.big (by decide));have m3:=_q9 (zw.big (by decide)) (qs.big (by decide));have hx:dIx (_t h) (.int q.2)=some (_xy h[i]):=by rw [qi]; exact _K0 hi
  have hp0:dIx (_xy h[i]) (.int 0)=some (.int (wAt h i)):=by rw [_qh7]; unfold wAt; rw [_qv hi]
  have hg:∀ y9 y10:Option O,gTp [(gN 9),(gN 10)] (_qgd q) [some (.sh (_t h)),x1,x2,x3,x4,some (.sh (.int (b:Int))),x6,some (.sh (.int rest)),some (.sh (.int W)),y9,y10]=some [some (.sh (_t h)),x1,x2,x3,x4,some (.sh (.int (b:Int))),x6,some (.sh (.int rest)),some (.sh (.int W)),some (.sh (.int q.1)),some (.sh (.int q.2))]:=fun _ _=>rfl;rw [map_cons,map_cons];unfold _qga;rw [wq];dsimp only
  by_cases hr:rest <= W * q.1
  ·rw [if_pos hr]
   have Wp:0 < W:=by omega
   obtain ⟨V,hV⟩:∃ V:Nat,W=(V:Int):=⟨W.toNat,by omega⟩;have hs:=_Z7 rest (W * b) (Int.mul_pos Wp (by omega)) (show _ < 2 ^ 8000 from lt_of_lt_of_le (show rest.natAbs < 2 ^ 3700 by omega) (pow_le_pow_right (by decide) (by decide))) ((zW.mul zb).mono (by decide));have ec:W * (b:Int)=((W.toNat * b:Nat):Int):=by rw [hV]; simp
   rw [ec,nf_mk (mul_ne_zero (by omega) (by omega)),<- ec] at hs;have hb1:∃ ρ',_k0 [some (.sh (_t h)),x1,x2,x3,x4,some (.sh (.int (b:Int))),x6,some (.sh (.int rest)),some (.sh (.int W)),some (.sh (.int q.1)),some (.sh (.int q.2))]=some (.rt (.sh (frD (mkRat rest (W.toNat * b)))) ρ'):=by
    generalize frD (mkRat rest (W.toNat * b))=R at hs;generalize W * q.1=Z at *;generalize W * (b:Int)=Y at *;simp [_k0,m1,m2,hr,hs]
   obtain ⟨ρ',e⟩:=hb1;exact ⟨ρ',_qes (hg x9 x10) e⟩
  ·rw [if_neg hr]
   have hlt:=_W0 (w:=wAt h i) hr;have hge:0 <= (W - wAt h i) * q.1:=Int.mul_nonneg (by omega) q0;have hwt:0 <= wAt h i * q.1:=Int.mul_nonneg (by omega) q0;have hb1:_k0 [some (.sh (_t h)),x1,x2,x3,x4,some (.sh (.int (b:Int))),x6,some (.sh (.int rest)),some (.sh (.int W)),some (.sh (.int q.1)),some (.sh (.int q.2))]=some (.nx [some (.sh (_t h)),x1,x2,x3,x4,some (.sh (.int (b:Int))),x6,some (.sh (.int (rest - wAt h i * q.1))),some (.sh (.int (W - wAt h i))),some (.sh (.int q.1)),some (.sh (.int q.2))]):=by
    generalize W * q.1=Z at *;generalize wAt h i * q.1=Y at *;simp [_k0,m1,m3,hr,hx,hp0]
   have ih:=_qau h k x1 x2 x3 x4 x6 b hb0 hb R0 hR ps (rest - wAt h i * q.1) (W - wAt h i) (some (.sh (.int q.1))) (some (.sh (.int q.2))) hl hW' (by omega) (by omega) (by omega);rw [_K2 (hg x9 x10) (.inl hb1)];exact ih
theorem _W2 {h:List _qu2} {P:List Rat} (hl:P.length=h.length) {c:Int} {q:Rat} (hq:q∈_qso h P c):q∈P:=by
 obtain ⟨i,hi,rfl⟩:=List.mem_map.mp hq;exact _R (by have:=_v h [c] i hi; omega)
theorem _Zi {b:Nat} {q:Rat} (h:0 <= q):0 <= _qsc b q:=by
 unfold _qsc;have h1:0 <= q.num:=Rat.num_nonneg.mpr h;exact Int.mul_nonneg h1 (Int.natCast_nonneg _)
theorem _qb4 (h:List _qu2) (c:Int):(plI h c).Nodup:=by
 unfold plI;have hn:(_qtw h [c]).Nodup:=List.Nodup.sublist filter_sublist List.nodup_range;exact List.pairwise_map.mpr (hn.imp fun {a b} hab e=>hab (by omega))
theorem _Z4:∀ {xs ys:List Int},ys.Nodup->(xs.zip ys).Nodup
 | [],_,_=>by simp
 | _ :: _,[],_=>by simp
 | x :: xs,y :: ys,h=>by
  rw [nodup_cons] at h;rw [List.zip_cons_cons,nodup_cons];refine ⟨fun m=>h.1 (of_mem_zip m).2,_Z4 h.2⟩
theorem _qm7 {h:List _qu2} {P:List Rat} {c:Int} {q:Int × Int} (hq:q∈psR h P c):∃ i∈_qtw h [c],q=(_qsc (_qtp h P c) (pAt P i),(i:Int)):=by
 have hm:=(_zn _).mem_iff.mp hq;have e:((_qso h P c).map (_qsc (_qtp h P c))).zip (plI h c)=(_qtw h [c]).map fun i=>(_qsc (_qtp h P c) (pAt P i),((i:Nat):Int)):=by
  unfold _qso plI;rw [map_map,List.zip_map',];rfl
 rw [e] at hm;obtain ⟨i,hi,rfl⟩:=List.mem_map.mp hm;exact ⟨i,hi,rfl⟩
theorem _qli (h:List _qu2) (P:List Rat) (c:Int):((_qso h P c).map (_qsc (_qtp h P c))).zip (plI h c)=(_qtw h [c]).map fun i=>(_qsc (_qtp h P c) (pAt P i),((i:Nat):Int)):=by
 unfold _qso plI;rw [map_map,List.zip_map'];rfl
theorem _qj8 (h:List _qu2) (P:List Rat) (c:Int):(psR h P c).Perm ((_qtw h [c]).map fun i=>(_qsc (_qtp h P c) (pAt P i),((i:Nat):Int))):=by
 have:=_zn (((_qso h P c).map (_qsc (_qtp h P c))).zip (plI h c))
 rw [_qli] at this;unfold psR;rw [_qli];exact this
theorem _Kz (h:List _qu2) (P:List Rat) (c:Int):((psR h P c).map (wOf h)).Perm ((_qtw h [c]).map fun i=>(_qsc (_qtp h P c) (pAt P i),wAt h i)):=by
 have:=(_qj8 h P c).map (wOf h)
 rw [map_map] at this;have e:((wOf h) ∘ fun (i:Nat)=>(_qsc (_qtp h P c) (pAt P i),((i:Nat):Int)))=fun (i:Nat)=>(_qsc (_qtp h P c) (pAt P i),wAt h i):=by
  funext i; simp [wOf,Function.comp]
 rw [e] at this;exact this
theorem _qba {l m:List Int} (h:l.Perm m):l.sum=m.sum:=by
 induction h with
 | nil=>rfl
 | cons x _ ih=>simp [ih]
 | swap x y l=>simp; omega
 | trans _ _ a b=>exact a.trans b
theorem _qd4 (h:List _qu2) (P:List Rat) (c:Int):_qse ((psR h P c).map (wOf h))=wG h (_qtw h [c]):=by
 have:=(_Kz h P c).map (fun q=>q.2)
 have e:=_qba this;unfold _qse;rw [e,map_map];rfl
theorem _qm4 (h:List _qu2) (k:okW h) (P:List Rat) (hl:P.length=h.length) {t:Nat} (hs:_zu t P) (ht:t <= 18) (c:Int) (hc:c∈_k h) (N:Int) (hN:0 < N/\N <= 2 ^ 76):_Yq [_t h,_Z P,.int c,.int N]=some (optQ (_kj h P c N)):=by
 have hh:h.length <= 100:=le_trans k.len (by decide);have lk:=_z1 h c hh;have hsub:_zu t (_qso h P c):=hs.sub fun q hq=>_W2 hl hq;have hcb:=_qbr (_qso h P c) hsub (by omega);have hcbl:cb (_qso h P c) < 2 ^ 1700:=hsub.cb (by omega);have hcb0:=_qa3 (_qso h P c);have hlen:(_qtw h [c]).length <= 16:=le_trans (_jg h [c]) k.len;have htp:=_qaj (_qso h P c) hsub (by omega) (cb (_qso h P c)) hcbl (by simp [_qso]; omega);have hwt:=_kl h (_qtw h [c]) (_v h [c]) (by omega);have hW:=(_qla k hlen).2;have hne:=_v8 hc;have hcomp:_ji (geN 0) qT (oE (f2 dIx (_qt7 1) (_qt7 0))) ((_qtw h [c]).map fun (i:Nat)=>D.int (i:Int)) [none,some (_Z P)]=some ((_qso h P c).map fun q=>O.sh (frD q)):=by
  have:=_l (inj:=fun (i:Nat)=>D.int (i:Int)) (g:=geN 0) (c:=qT) (e:=oE (f2 dIx (_qt7 1) (_qt7 0))) (fun ρ=>∃ d,ρ=[d,some (_Z P)]) (fun _=>true) (fun i=>O.sh (frD (pAt P i))) (_qtw h [c]) [none,some (_Z P)] ⟨_,rfl⟩ (by
   rintro i hi ρ ⟨d,rfl⟩;have hil:i < P.length:=by have:=_v h [c] i hi; omega
   have hx:dIx (_Z P) (.int (i:Int))=some (frD (pAt P i)):=by
    have:=dIx_l (ds:=P.map frD) (i:=i) (by simpa using hil)
    rw [_Z,this]; simp [pAt,hil]
   exact ⟨_,rfl,⟨_,rfl⟩,rfl,fun _=>by simp [hx]⟩)
  rw [List.filter_eq_self.mpr (by simp)] at this;rw [this]; unfold _qso; rw [map_map]; rfl
 have hds:oDs ((_qso h P c).map fun q=>O.sh (frD q))=some ((_qso h P c).map frD):=_qt (fun p=>by simp) _;have hfold:D.lst ((_qso h P c).map frD)=_Z (_qso h P c):=rfl;have hl1:(_qtw h [c]).length <= 100000:=by omega
 have zN:Sz 80 N:=by show N.natAbs < 2 ^ 80; omega
 have zb:Sz 1700 ((cb (_qso h P c):Nat):Int):=by show ((cb (_qso h P c):Nat):Int).natAbs < 2 ^ 1700; rw [Int.natAbs_natCast]; exact hcbl
 have mN:=_q9 (zN.big (by decide)) (zb.big (by decide));have hsz:_Vr [_g ((_qso h P c).map (_qsc (cb (_qso h P c)))),plD (_qtw h [c])]=some ((psR h P c).map _qgd):=by
  have e1:plD (_qtw h [c])=_g (plI h c):=rfl;have h1:((_qso h P c).map (_qsc (cb (_qso h P c)))).length=(plI h c).length:=by simp [_qso,plI]
  have h2:1 <= ((_qso h P c).map (_qsc (cb (_qso h P c)))).length:=by
   have:0 < (_qtw h [c]).length:=List.length_pos_iff.mpr hne
   simp [_qso]; omega
  have h3:((_qso h P c).map (_qsc (cb (_qso h P c)))).length < 64:=by simp [_qso]; omega
  have h4:(((_qso h P c).map (_qsc (cb (_qso h P c)))).zip (plI h c)).Nodup:=_Z4 (_qb4 h c);rw [e1];show ((_qcu (((_qso h P c).map (_qsc (cb (_qso h P c)))).map D.int)).bind fun ns=>(_qcu ((plI h c).map D.int)).bind fun ms=>if ns.length=ms.length/\1 <= ns.length/\ns.length < 64/\(ns.zip ms).Nodup then some ((_Jp (ns.zip ms)).map _qgd) else none)=_;rw [_Ji,_Ji];simp only [Option.bind_some];rw [if_pos ⟨h1,h2,h3,h4⟩];rfl
 have hmem:∀ q∈psR h P c,0 <= q.1/\Sz 3600 q.1/\∃ i:Nat,i < h.length/\q.2=(i:Int):=fun q hq=>by
  obtain ⟨i,hi,rfl⟩:=_qm7 hq;have hi':=_v h [c] i hi;have hp:pAt P i∈P:=_R (by omega);obtain ⟨D,d1,d2,d3⟩:=id hs;exact ⟨_Zi (d3 _ hp).2.1,hs.top (by omega) hp hcbl,i,hi',rfl⟩
 have hR0:N * ((cb (_qso h P c):Nat):Int) < 2 ^ 3700:=by
  have z:Sz 1780 (N * ((cb (_qso h P c):Nat):Int)):=(zN.mul zb);have z':(N * ((cb (_qso h P c):Nat):Int)).natAbs < 2 ^ 3700:=z.mono (by decide);have h2:N * ((cb (_qso h P c):Nat):Int) <= ((N * ((cb (_qso h P c):Nat):Int)).natAbs:Int):=Int.le_natAbs;have h3:(((N * ((cb (_qso h P c):Nat):Int)).natAbs:Nat):Int) < ((2 ^ 3700:Nat):Int):=by exact_mod_cast z'
  have h4:((2 ^ 3700:Nat):Int)=2 ^ 3700:=by norm_cast
  omega
 have loop:=_qau h k (some (.sh (_Z P))) (some (.sh (.int c))) (some (.sh (.int N))) (some (.sh (plD (_qtw h [c])))) (some (.sh (_g ((_qso h P c).map (_qsc (cb (_qso h P c))))))) (cb (_qso h P c)) hcb0 hcbl (N * ((cb (_qso h P c):Nat):Int)) hR0 (psR h P c) (N * ((cb (_qso h P c):Nat):Int)) (wG h (_qtw h [c])) none none hmem (_qd4 h P c).symm hW (Int.mul_pos hN.1 (by omega)) (Int.le_refl _);have hagr:(agr h [c]).map D.int=(_qtw h [c]).map fun (i:Nat)=>D.int (i:Int):=_Z3 h [c];rw [hagr] at lk;have z1:oD (ow ((_qtw h [c]).map fun (i:Nat)=>D.int (i:Int)))=some (plD (_qtw h [c])):=by rw [oD_ow,_kt]
 have z2:fzc (some (ow ((_qtw h [c]).map fun (i:Nat)=>D.int (i:Int))))=some (.sh (plD (_qtw h [c]))):=by rw [_qp8,_kt]
 have im1:_qsy ((_qtw h [c]).map fun (i:Nat)=>D.int (i:Int))=true:=_Yy.mpr fun x hx=>by obtain ⟨i,_,rfl⟩:=List.mem_map.mp hx; simp
 have z3:_kv (plD (_qtw h [c]))=some ((_qtw h [c]).map fun (i:Nat)=>D.int (i:Int)):=_qja _;have zi:oD (ow ((psR h P c).map _qgd))=some (.lst ((psR h P c).map _qgd)):=oD_ow;unfold _kj _qm5 _qtp;cases hq:_qga ((psR h P c).map (wOf h)) (N * ((cb (_qso h P c):Nat):Int)) (wG h (_qtw h [c])) with
 | none =>
  rw [hq] at loop;obtain ⟨ρ',e⟩:=loop;simp [_Yq,_qsk,_qsi,ini,_qhg,lk,z1,z2,z3,im1,_qa,mkD,hl1,_qu4,hcomp,hds,hfold,hcb,htp,mN,hwt,hsz,_qtu,e,optQ,-map_map]
 | some r =>
  rw [hq] at loop;obtain ⟨ρ',e⟩:=loop;simp [_Yq,_qsk,_qsi,ini,_qhg,lk,z1,z2,z3,im1,_qa,mkD,hl1,_qu4,hcomp,hds,hfold,hcb,htp,mN,hwt,hsz,_qtu,e,optQ,-map_map]
theorem _qg4 {l m:List Rat} (h:l.Perm m):l.sum=m.sum:=by
 induction h with
 | nil=>rfl
 | cons x _ ih=>simp [ih]
 | swap x y l=>simp only [sum_cons]; grind
 | trans _ _ a b=>exact a.trans b
theorem _Wx {α:Type} (f:α->Rat) (b:Rat):∀ l:List α,(l.map fun a=>f a * b).sum=(l.map f).sum * b
 | []=>by simp
 | a :: l=>by rw [map_cons,map_cons,sum_cons,sum_cons,_Wx f b l]; grind
section
variable {h:List _qu2} (k:okW h) {P:List Rat} (hl:P.length=h.length) {t:Nat} (hs:_zu t P) (ht:t <= 18) {c:Int} (hc:c∈_k h) {N:Int} (hN:0 < N)
include k hl hs ht hc hN
theorem lR_ok:(∀ q∈(psR h P c).map (wOf h),0 <= q.1/\1 <= q.2)/\((psR h P c).map (wOf h)).Pairwise (fun a b=>a.1 <= b.1):=by
 constructor
 ·intro q hq
  have:=(_Kz h P c).mem_iff.mp hq
  obtain ⟨i,hi,rfl⟩:=List.mem_map.mp this;have hi':=_v h [c] i hi;obtain ⟨D,d1,d2,d3⟩:=id hs;exact ⟨_Zi (d3 _ (_R (by omega))).2.1,k.at1 hi'⟩
 ·have:=_w9 _ (_Z4 (xs:=(_qso h P c).map (_qsc (_qtp h P c))) (_qb4 h c))
  rw [List.pairwise_map];refine List.Pairwise.imp (fun {a b} hab=>?_) this;rw [_Vp] at hab;show a.1 <= b.1;omega
theorem _qit {i:Nat} (hi:i∈_qtw h [c]):((_qsc (_qtp h P c) (pAt P i):Int):Rat)=pAt P i * (_qtp h P c:Rat) :=
 _qd2 (_qhb (List.mem_map.mpr ⟨i,hi,rfl⟩))
theorem _qif:(0:Rat) < (_qtp h P c:Rat):=by exact_mod_cast _qa3 (_qso h P c)
theorem _Vg (e:_kj h P c N=none):_z (_qtw h [c]) (fun i=>(wAt h i:Rat) * pAt P i) < (N:Rat):=by
 have e':_qm5 h P c N=none:=by
  unfold _kj at e;cases hq:_qm5 h P c N with
  | none=>rfl
  | some r=>rw [hq] at e; cases e
 have b0:=_qif k hl hs ht hc hN;have hb:0 < N * ((_qtp h P c:Nat):Int):=Int.mul_pos hN (by exact_mod_cast _qa3 (_qso h P c));have h1:=_Km _ _ _ (lR_ok k hl hs ht hc hN).1 (_qd4 h P c).symm hb e';have h2:((sumT ((psR h P c).map (wOf h)):Int):Rat)=_z (_qtw h [c]) (fun i=>(wAt h i:Rat) * pAt P i) * (_qtp h P c:Rat):=by
  unfold sumT;rw [_qba ((_Kz h P c).map fun q=>q.2 * q.1),map_map,_qbc,map_map];unfold _z;rw [<- _Wx];congr 1;apply map_congr_left;intro i hi
  have:=_qit k hl hs ht hc hN hi
  simp only [Function.comp];push_cast;rw [this]; grind
 have h3:((sumT ((psR h P c).map (wOf h)):Int):Rat) < ((N * ((_qtp h P c:Nat):Int):Int):Rat):=by exact_mod_cast h1
 rw [h2] at h3;have h4:((N * ((_qtp h P c:Nat):Int):Int):Rat)=(N:Rat) * (_qtp h P c:Rat):=by push_cast; rfl
 rw [h4] at h3;exact Rat.lt_of_mul_lt_mul_right h3 (Rat.le_of_lt b0)
theorem _v6 {r:Rat} (e:_kj h P c N=some r):pays (_qtw h [c]) (fun i=>(wAt h i:Rat)) (pAt P) r=(N:Rat)/\(∃ i∈_qtw h [c],r <= pAt P i)/\0 < r/\∃ V:Nat,0 < V/\V <= 2 ^ 76/\_qu3 (V * _qtp h P c) r:=by
 unfold _kj at e;cases hq:_qm5 h P c N with
 | none=>rw [hq] at e; cases e
 | some z =>
  obtain ⟨ρ,V⟩:=z;rw [hq] at e;have e:mkRat ρ (V.toNat * _qtp h P c)=r:=Option.some.inj e;have b0:=_qif k hl hs ht hc hN;have bn:0 < _qtp h P c:=_qa3 (_qso h P c);have hb:0 < N * ((_qtp h P c:Nat):Int):=Int.mul_pos hN (by exact_mod_cast bn);obtain ⟨ok1,ok2⟩:=lR_ok k hl hs ht hc hN;obtain ⟨r1,r2,r3,r4,r5,r6⟩:=_Kl _ _ _ 0 ρ V ok1 ok2 (fun q hm=>(ok1 q hm).1) (_qd4 h P c).symm hb (by rw [Int.mul_zero]; omega) hq;have hW:=(_qla k (g:=_qtw h [c]) (le_trans (_jg h [c]) k.len)).2;obtain ⟨W,hVW⟩:∃ W:Nat,V=(W:Int):=⟨V.toNat,by omega⟩;subst hVW;rw [Int.toNat_natCast] at e;have wp:(0:Rat) < (W:Rat):=by exact_mod_cast (by omega:0 < W)
  have er:r * ((W * _qtp h P c:Nat):Rat)=(ρ:Rat):=by
   rw [<- e,Rat.mkRat_eq_div]
   have:((W * _qtp h P c:Nat):Rat) ≠ 0:=by
    have:(0:Rat) < ((W * _qtp h P c:Nat):Rat):=by exact_mod_cast mul_pos (by omega) bn
    grind
   exact Rat.div_mul_cancel this
  have ex:(r * (_qtp h P c:Rat)) * ((W:Int):Rat)=(ρ:Rat):=by
   rw [<- er]; push_cast; grind
  obtain ⟨c1,q,c2,c3⟩:=r6 _ ex;refine ⟨?_,?_,?_,W,by omega,?_,ρ,er⟩
  ·have h2:capS ((psR h P c).map (wOf h)) (r * (_qtp h P c:Rat))=pays (_qtw h [c]) (fun i=>(wAt h i:Rat)) (pAt P) r * (_qtp h P c:Rat):=by
    unfold capS;rw [_qg4 ((_Kz h P c).map fun q=>(q.2:Rat) * min (q.1:Rat) (r * (_qtp h P c:Rat))),map_map];unfold pays _z;rw [<- _Wx];congr 1;apply map_congr_left;intro i hi
    have:=_qit k hl hs ht hc hN hi
    simp only [Function.comp];rw [this];have hm:min (pAt P i * (_qtp h P c:Rat)) (r * (_qtp h P c:Rat))=min (pAt P i) r * (_qtp h P c:Rat):=by
     by_cases hle:pAt P i <= r
     ·have:=Rat.mul_le_mul_of_nonneg_right hle (Rat.le_of_lt b0)
      grind
     ·have hle':r <= pAt P i:=by grind
      have:=Rat.mul_le_mul_of_nonneg_right hle' (Rat.le_of_lt b0)
      grind
    rw [hm]; grind
   rw [h2] at c1;have h4:((N * ((_qtp h P c:Nat):Int):Int):Rat)=(N:Rat) * (_qtp h P c:Rat):=by push_cast; rfl
   rw [h4] at c1;have hne:(_qtp h P c:Rat) ≠ 0:=by grind
   have:=congrArg (fun z=>z / (_qtp h P c:Rat)) c1
   rw [Rat.mul_div_cancel hne,Rat.mul_div_cancel hne] at this;exact this
  ·have:=(_Kz h P c).mem_iff.mp c2
   obtain ⟨i,hi,rfl⟩:=List.mem_map.mp this;refine ⟨i,hi,?_⟩;have ht':=_qit k hl hs ht hc hN hi;simp only at c3;rw [ht'] at c3;exact Rat.le_of_mul_le_mul_right c3 b0
  ·have:(0:Rat) < r * ((W * _qtp h P c:Nat):Rat):=by rw [er]; exact_mod_cast r1
   have hp:(0:Rat) < ((W * _qtp h P c:Nat):Rat):=by exact_mod_cast mul_pos (by omega) bn
   by_cases h:0 < r
   ·exact h
   ·exfalso
    have:=Rat.mul_le_mul_of_nonneg_right (Rat.not_lt.mp h) (Rat.le_of_lt hp)
    grind
  ·have:((W:Nat):Int) <= 2 ^ 76:=by omega
   exact_mod_cast this
end
def _jo (h:List _qu2) (P:List Rat) (c:Int) (r:Rat):List Rat:=(List.range P.length).map fun i=>if lkB h i c=true then pAt P i - min (pAt P i) r else pAt P i
theorem _qeq (f:Nat->Rat) {n i:Nat} (hi:i < n):((List.range n).map f).getD i 0=f i:=by simp [hi]
theorem fm_eq (f:Int->Option Rat) (g:Int->D) (hg:∀ c r,f c=some r->g c=_qsu (c,r)):∀ l:List Int,((l.filter fun c=>(f c).isSome).map fun c=>O.sh (g c))=(l.filterMap fun c=>(f c).map fun r=>(c,r)).map fun o=>O.sh (_qsu o)
 | []=>rfl
 | c :: l=>by
  cases hq:f c with
  | none =>
   rw [List.filter_cons_of_neg (by simp [hq]),List.filterMap_cons_none (by simp [hq])];exact fm_eq f g hg l
  | some r =>
   rw [List.filter_cons_of_pos (by simp [hq]),List.filterMap_cons_some (b:=(c,r)) (by simp [hq]),map_cons,map_cons,fm_eq f g hg l,hg c r hq]
theorem _Vk (h:List _qu2) (P:List Rat) (c:Int) (r:Rat):(_jo h P c r).length=P.length:=by simp [_jo]
theorem _Zq {h:List _qu2} {P:List Rat} {c:Int} {r:Rat} {i:Nat} (hi:i < P.length):pAt (_jo h P c r) i=if lkB h i c=true then pAt P i - min (pAt P i) r else pAt P i:=by
 exact _qeq (fun i=>if lkB h i c=true then pAt P i - min (pAt P i) r else pAt P i) hi
theorem _qfg {p r:Rat} (hp:Bd 2000 2000 p) (hr:Bd 2000 2000 r):_qq [frD p,frD r]=some (frD (p - min p r)):=by
 have bl:=_qih hp hr;have mi:=_qi2 hp hr
 by_cases h:p < r
 ·have e:p - min p r=0:=by grind
  rw [e];rw [decide_eq_true h] at bl;have z:frD 0=.tup [.int 0,.int 1]:=rfl;simp [_qq,_qsk,_qsi,ini,_xg,bl,_qu4,z]
 ·have e:p - min p r=p - r:=by grind
  rw [e];rw [decide_eq_false h] at bl;simp [_qq,_qsk,_qsi,ini,_xg,bl,mi]
theorem _qiw (P:List Rat) (i:Nat) (q:Rat) (hi:i < P.length):gSetI (i:Int) (.sh (frD q)) (ow (P.map frD))=some (ow ((P.set i q).map frD)):=by
 have:ixP (P.map frD).length (i:Int)=some i:=by
  unfold ixP;rw [if_pos (by omega)]
  simp; omega
 simp [gSetI,ow] at this ⊢;simp [this,List.map_set]
def pd (P:List Rat) (r:Rat) (g:List Nat):List Rat:=(List.range P.length).map fun i=>if _qsz g i=true then pAt P i - min (pAt P i) r else pAt P i
theorem _qmb (P:List Rat) (r:Rat) (g:List Nat) (i:Nat) (hi:i < P.length):pd P r (g++[i])=(pd P r g).set i (pAt P i - min (pAt P i) r):=by
 unfold pd;apply ext_getElem
 ·simp
 ·intro j h1 h2
  simp at h1;simp only [getElem_map,List.getElem_range,List.getElem_set]
  by_cases e:i=j
  ·subst e
   have:_qsz (g++[i]) i=true:=_kx.mpr (by simp)
   simp [this]
  ·have:_qsz (g++[i]) j=_qsz g j:=by
    rw [Bool.eq_iff_iff,_kx,_kx];simp [Ne.symm e]
   simp [e,this]
theorem _qme (h:List _qu2) (k:okW h) (P:List Rat) (hl:P.length=h.length) {t:Nat} (hs:_zu t P) (ht:t <= 18) (c:Int) (r:Rat) (hr:Bd 2000 2000 r):_qeb [_t h,_Z P,.int c,frD r]=some (_Z (_jo h P c r)):=by
 have hh:h.length <= 100:=le_trans k.len (by decide);have lk:=_z1 h c hh;rw [_Z3] at lk;have z0:pd P r []=P:=by
  unfold pd;apply ext_getElem
  ·simp
  ·intro i h1 h2; simp [_qsz,pAt,h2]
 obtain ⟨ρ',e,x5,rfl⟩:=_ju (inj:=fun (i:Nat)=>D.int (i:Int)) (g:=gN 5) (b:=_qa9) (fun pre ρ=>∃ x5:Option O,ρ=[some (.sh (_t h)),some (.sh (_Z P)),some (.sh (.int c)),some (.sh (frD r)),some (ow ((pd P r pre).map frD)),x5]) (_qtw h [c])
  [some (.sh (_t h)),some (.sh (_Z P)),some (.sh (.int c)),some (.sh (frD r)),some (ow (P.map frD)),none] ⟨none,by rw [z0]⟩ (by
   rintro pre i post ρ e ⟨x5,rfl⟩;have hi:i < P.length:=by rw [hl]; exact _v h [c] i (by rw [e]; simp)
   have hb:=(hs.bd (by omega) (_R hi)).mono (show 1800 <= 2000 by decide) (show 1700 <= 2000 by decide);have h1:=_qfg hb hr;have hx:dIx (_Z P) (.int (i:Int))=some (frD (pAt P i)):=by
    have:=dIx_l (ds:=P.map frD) (i:=i) (by simpa using hi)
    rw [_Z,this]; simp [pAt,hi]
   have hset:=_qiw (pd P r pre) i (pAt P i - min (pAt P i) r) (by simp [pd]; exact hi);rw [_qmb P r pre i hi];generalize pAt P i - min (pAt P i) r=q at *;simp [_qu6,_qa9,bPut,hx,h1,_qsr,atO,hset])
 have ef:pd P r (_qtw h [c])=_jo h P c r:=by
  unfold pd _jo;apply map_congr_left;intro i hi;have hi':i < h.length:=by rw [<- hl]; exact List.mem_range.mp hi
  rw [_qen hi']
 rw [ef] at e;have z3:_kv (D.lst ((_qtw h [c]).map fun (i:Nat)=>D.int (i:Int)))=some ((_qtw h [c]).map fun (i:Nat)=>D.int (i:Int)):=rfl;have zl:_Zd [_Z P]=some (P.map frD):=rfl;have fi:∀ Q:List Rat,D.lst (Q.map frD)=_Z Q:=fun _=>rfl;have im:∀ Q:List Rat,_qsy (Q.map frD)=true:=fun Q=>_Yy.mpr fun x hx=>by obtain ⟨i,_,rfl⟩:=List.mem_map.mp hx; simp
 simp [_qeb,_qsk,_qsi,ini,_ql6,zl,im,lk,_qtu,e,fi]
def _Q (h:List _qu2) (P:List Rat) (ch:List Int):List (Int × Rat):=((_k h).filter fun c=>!has ch c).filterMap fun c=>(_kj h P c (_qs9 h)).map fun r=>(c,r)
theorem _vk {h:List _qu2} {P:List Rat} {ch:List Int} {o:Int × Rat} (ho:o∈_Q h P ch):o.1∈_k h/\o.1 ∉ ch/\_kj h P o.1 (_qs9 h)=some o.2:=by
 obtain ⟨c,hc,e⟩:=List.mem_filterMap.mp ho;obtain ⟨h1,h2⟩:=List.mem_filter.mp hc;cases hr:_kj h P c (_qs9 h) with
 | none=>rw [hr] at e; cases e
 | some r =>
  rw [hr] at e;have e:(c,r)=o:=Option.some.inj e;subst e;refine ⟨h1,fun hm=>?_,hr⟩;rw [_j1.mpr hm] at h2;simp at h2
theorem _Jg {h:List _qu2} {P:List Rat} {ch:List Int} {c:Int} {r:Rat} (h1:c∈_k h) (h2:c ∉ ch) (h3:_kj h P c (_qs9 h)=some r):(c,r)∈_Q h P ch:=by
 refine List.mem_filterMap.mpr ⟨c,List.mem_filter.mpr ⟨h1,?_⟩,by rw [h3]; rfl⟩;cases hh:has ch c with
 | true=>exact absurd (_j1.mp hh) h2
 | false=>rfl
def _wd (h:List _qu2) (P:List Rat) (c:Int):D:=.tup [.int c,optQ (_kj h P c (_qs9 h))]
theorem _j3 {h:List _qu2} (k:okW h) (hne:h ≠ []):0 < _qs9 h:=by
 rw [_Kc]
 have:=_Wf k (g:=List.range h.length) (by simp; exact hne) (fun i hi=>List.mem_range.mp hi)
 omega
theorem _Xf {h:List _qu2} {c:Int} (hc:c∈_k h):h ≠ []:=by
 rintro rfl
 have:=(List.mem_filter.mp hc).2
 simp at this
theorem _qgo (h:List _qu2) (kh:okH h) (k:okW h) (P:List Rat) (hl:P.length=h.length) {t:Nat} (hs:_zu t P) (ht:t <= 18) (rows:List (Int × Rat × List Rat)) (hr:rows.length <= 1000):_vo [_t h,_Z P,_zb rows]=some (_qb1 (_Q h P (rows.map (·.1)))):=by
 have hh:h.length <= 100:=le_trans k.len (by decide);have lk:=_Zu h kh hh;have hz:oD (ow ((_k h).map D.int))=some (_g (_k h)):=by simp [_g]
 have hw:=_xl h hh;have hc1:_ji (geN 0) qT (oE (f2 dIx (_qt7 0) (fC (.int 0)))) (rows.map _qsl) [none]=some ((rows.map (·.1)).map fun c=>O.sh (.int c)):=by
  have:=_l (inj:=_qsl) (g:=geN 0) (c:=qT) (e:=oE (f2 dIx (_qt7 0) (fC (.int 0)))) (fun ρ=>∃ d,ρ=[d]) (fun _=>true) (fun r=>O.sh (.int r.1)) rows [none] ⟨_,rfl⟩ (by
   rintro r _ ρ ⟨d,rfl⟩;have x0:dIx (_qsl r) (.int 0)=some (.int r.1):=_qcn;exact ⟨_,rfl,⟨_,rfl⟩,rfl,fun _=>by simp [x0]⟩)
  rw [List.filter_eq_self.mpr (by simp)] at this;rw [this,map_map]; rfl
 have ho1:O.lst ((rows.map (·.1)).map fun c=>O.sh (.int c))=ow ((rows.map (·.1)).map .int):=by rw [ow,map_map,map_map,map_map]; rfl
 generalize hch:rows.map (·.1)=ch at *;have hc2:_ji (geN 0) (qV (f2 _Q8 (_qt7 0) (_qt7 4))) (oE (_qt8 (_d (_qt7 0) (_d (_A 4 _Yq (_d (_qt7 1) (_d (_qt7 2) (_d (_qt7 0) (_d (_qt7 3) _qty))))) _qty)))) ((_k h).map D.int) [none,some (_t h),some (_Z P),some (.int (_qs9 h)),some (_g ch)]=some (((_k h).filter fun c=>!has ch c).map fun c=>O.sh (_wd h P c)) :=
  _l (inj:=D.int) (fun ρ=>∃ d,ρ=[d,some (_t h),some (_Z P),some (.int (_qs9 h)),some (_g ch)]) (fun c=>!has ch c) (fun c=>O.sh (_wd h P c)) (_k h) _ ⟨_,rfl⟩ (by
   rintro c hc ρ ⟨d,rfl⟩;have w:=_qm4 h k P hl hs ht c hc (_qs9 h) ⟨_j3 k (_Xf hc),(_Zh k).2⟩;exact ⟨_,rfl,⟨_,rfl⟩,by simp,fun _=>by simp [w,_qu4,_wd]⟩)
 have hd2:oDs (((_k h).filter fun c=>!has ch c).map fun c=>O.sh (_wd h P c))=some (((_k h).filter fun c=>!has ch c).map (_wd h P)):=_qt (fun p=>by simp) _;have hll:(_k h).length <= 6:=_P h;have hfl:((_k h).filter fun c=>!has ch c).length <= 6:=le_trans (length_filter_le _ _) hll;have hoff:∀ l:List Int,_ji (geN 0) (qV (f2 _qth (f2 dIx (_qt7 0) (fC (.int 1))) (fC .non))) (oE (_qt7 0)) (l.map (_wd h P)) [none]=some (((l.filterMap fun c=>(_kj h P c (_qs9 h)).map fun r=>(c,r))).map fun o=>O.sh (_qsu o)):=by
  intro l
  have:=_l (inj:=_wd h P) (g:=geN 0) (c:=qV (f2 _qth (f2 dIx (_qt7 0) (fC (.int 1))) (fC .non))) (e:=oE (_qt7 0)) (fun ρ=>∃ d,ρ=[d]) (fun c=>(_kj h P c (_qs9 h)).isSome) (fun c=>O.sh (_wd h P c)) l [none] ⟨_,rfl⟩ (by
   rintro c _ ρ ⟨d,rfl⟩;have x1:dIx (_wd h P c) (.int 1)=some (optQ (_kj h P c (_qs9 h))):=_qku;refine ⟨_,rfl,⟨_,rfl⟩,?_,fun _=>by simp⟩;cases hq:_kj h P c (_qs9 h) with
   | none =>
    rw [hq] at x1;have i0:_qth (optQ none) .non=some (.bl false):=rfl;simp [x1,i0]
   | some r =>
    rw [hq] at x1;have i0:_qth (optQ (some r)) .non=some (.bl true):=rfl;simp [x1,i0])
  rw [this];congr 1;exact fm_eq (fun c=>_kj h P c (_qs9 h)) (_wd h P) (fun c r hq=>by unfold _wd; rw [hq]; rfl) l
 have hd3:∀ l:List (Int × Rat),oDs (l.map fun o=>O.sh (_qsu o))=some (l.map _qsu):=fun l=>_qt (fun p=>by simp) l;have hr':rows.length <= 100000:=by omega
 have hfl':((_k h).filter fun c=>!has ch c).length <= 100000:=by omega
 have hll':(_k h).length <= 100000:=by omega
 have zr:_kv (_zb rows)=some (rows.map _qsl):=rfl;have zi:∀ l:List Int,D.lst (l.map .int)=_g l:=fun _=>rfl;have q1:∀ l:List Int,oD (ow (l.map D.int))=some (_g l):=fun l=>_Vu l;have rim:∀ c,imm (_wd h P c)=true:=fun c=>by
  unfold _wd;cases _kj h P c (_qs9 h) <;> simp [optQ]
 have im2:_qst (((_k h).filter fun c=>!has ch c).map fun c=>O.sh (_wd h P c))=true:=_J8 (fun c=>by simp [rim]) _;have hof:_Q h P ch=((_k h).filter fun c=>!has ch c).filterMap fun c=>(_kj h P c (_qs9 h)).map fun r=>(c,r):=rfl;have hcf:=hoff ((_k h).filter fun c=>!has ch c);rw [<- hof] at hcf;have hd4:=hd3 (_Q h P ch);generalize ((_k h).filter fun c=>!has ch c)=fl at *;generalize _Q h P ch=ofs at *;simp [_vo,_qsk,_qsi,ini,_qab,_qa,mkD,zr,hr',_qu4,hc1,ho1,hw,lk,hz,hll',hc2,im2,hd2,hfl',hcf,hd4,q1,_qb1,-map_map]
section
variable {h:List _qu2} (k:okW h) {P:List Rat} (hl:P.length=h.length) {t:Nat} (hs:_zu t P) (ht:t <= 18) {c:Int} (hc:c∈_k h) {N:Int} (hN:0 < N) {r:Rat} (e:_kj h P c N=some r)
include k hl hs ht hc hN e
theorem _qat:∃ D:Nat,0 < D/\D < 2 ^ (80 * (t + 1) + 1)/\_qu3 D r/\(∀ q∈P,_qu3 D q/\0 <= q/\q <= ((t * 2 ^ 80:Nat):Rat))/\0 < r/\r <= ((t * 2 ^ 80:Nat):Rat):=by
 obtain ⟨_,⟨i,hi,hri⟩,hr0,V,v0,v1,vo⟩:=_v6 k hl hs ht hc hN e;obtain ⟨D,d1,d2,d3⟩:=id hs;have hbD:_qtp h P c ∣ D:=_qa4 fun q hq=>(d3 q (_W2 hl hq)).1.den;refine ⟨V * D,mul_pos v0 d1,?_,vo.dvd (Nat.mul_dvd_mul_left V hbD),fun q hq=>⟨(d3 q hq).1.dvd ⟨V,mul_comm _ _⟩,(d3 q hq).2⟩,hr0,?_⟩
 ·have:V * D < 2 ^ 77 * 2 ^ (80 * t + 1):=Nat.mul_lt_mul'' (lt_of_le_of_lt v1 (by decide)) d2
  rw [<- pow_add] at this;exact lt_of_lt_of_le this (pow_le_pow_right (by decide) (by omega))
 ·have hm:pAt P i∈P:=_R (by have:=_v h [c] i hi; omega)
  exact Rat.le_trans hri (d3 _ hm).2.2
theorem _qdt:Bd 2000 2000 r:=by
 obtain ⟨D,d1,d2,d3,_,r0,r1⟩:=_qat k hl hs ht hc hN e;have hle:((t * 2 ^ 80:Nat):Rat) <= (((t + 1) * 2 ^ 80:Nat):Rat):=by exact_mod_cast mul_le_mul_right _ (le_succ t)
 have hz:_zu (t + 1) [r]:=⟨D,d1,d2,fun q hq=>by
  rw [List.mem_singleton.mp hq];exact ⟨d3,Rat.le_of_lt r0,Rat.le_trans r1 hle⟩⟩
 exact (hz.bd (by omega) (by simp)).mono (by decide) (by decide)
theorem _J3:_zu (t + 1) (_jo h P c r):=by
 obtain ⟨D,d1,d2,d3,d4,r0,r1⟩:=_qat k hl hs ht hc hN e;have hle:((t * 2 ^ 80:Nat):Rat) <= (((t + 1) * 2 ^ 80:Nat):Rat):=by exact_mod_cast mul_le_mul_right _ (le_succ t)
 refine ⟨D,d1,d2,fun q hq=>?_⟩;obtain ⟨i,hi,rfl⟩:=List.mem_map.mp hq;have hi':=List.mem_range.mp hi;obtain ⟨o1,o2,o3⟩:=d4 _ (_R hi');split
 ·refine ⟨o1.sub (o1.mn d3),?_,?_⟩ <;> grind
 ·exact ⟨o1,o2,Rat.le_trans o3 hle⟩
end
def _j (h:List _qu2):Nat->List Rat->List Int->List (Int × Rat × List Rat)
 | 0,_,_=>[]
 | n + 1,P,ch=>match _Y (_Q h P ch) with
  | none=>[]
  | some o=>(o.1,o.2,_jo h P o.1 o.2) :: _j h n (_jo h P o.1 o.2) (ch++[o.1])
theorem _qb2 (h:List _qu2) (kh:okH h) (k:okW h) (P:List Rat) (hl:P.length=h.length) {t:Nat} (hs:_zu t P) (ht:t <= 18) (rows:List (Int × Rat × List Rat)) (hr:rows.length <= 1000):_vo [_t h,_Z P,_zb rows]=some (_qb1 (_Q h P (rows.map (·.1))))/\_vq [_qb1 (_Q h P (rows.map (·.1)))]=some (_qss (_Y (_Q h P (rows.map (·.1))))) :=
 ⟨_qgo h kh k P hl hs ht rows hr,_qee _ fun o ho=>by
  obtain ⟨w1,_,w2⟩:=_vk ho;exact _qdt k hl hs ht w1 (_j3 k (_Xf w1)) w2⟩
def _Ky (h:List _qu2) (ch:List Int):List Int:=(_k h).filter fun c=>!has ch c
theorem _qed {h:List _qu2} {ch:List Int} {c:Int} (h1:c∈_k h) (h2:c ∉ ch):(_Ky h (ch++[c])).length < (_Ky h ch).length:=by
 have hs:(_Ky h (ch++[c]))=(_Ky h ch).filter fun d=>!(d == c):=by
  unfold _Ky;rw [List.filter_filter];apply List.filter_congr;intro d _;rw [Bool.eq_iff_iff];simp [has];grind
 rw [hs];have hm:c∈_Ky h ch:=List.mem_filter.mpr ⟨h1,by
  cases hh:has ch c with
  | true=>exact absurd (_j1.mp hh) h2
  | false=>rfl⟩
 exact List.length_filter_lt_length_iff_exists.mpr ⟨c,hm,by simp⟩
theorem _Zs {h:List _qu2} {P:List Rat} {ch:List Int} (hz:(_Ky h ch).length=0):_Q h P ch=[]:=by
 have:_Ky h ch=[]:=List.length_eq_zero_iff.mp hz
 unfold _Q;unfold _Ky at this;rw [this]; rfl
theorem _Zl (h:List _qu2) (kh:okH h) (k:okW h) (seats:Option O):∀ (n:Nat) (P:List Rat) (rows:List (Int × Rat × List Rat)) (t:Nat),P.length=h.length->_zu t P->t + n <= 18->(_Ky h (rows.map (·.1))).length <= n->rows.length + n <= 100 ->
  ∃ ρ',_wo (qV (f2 _qth (_qt7 4) (fC .non))) _Xu [some (.sh (_t h)),seats,some (.sh (_Z P)),some (ow (rows.map _qsl)),some (.sh (_qss (_Y (_Q h P (rows.map (·.1))))))]=some (.nx ρ')/\∃ a2 a4,ρ'=[some (.sh (_t h)),seats,a2,some (ow ((rows++_j h n P (rows.map (·.1))).map _qsl)),a4]
 | 0,P,rows,t,hl,hs,ht,hn,hr=>by
  rw [_Zs (by omega)];refine ⟨_,_xx (by simp [_Y,_qss]; rfl),some (.sh (_Z P)),some (.sh (_qss (_Y []))),?_⟩;simp only [_j,append_nil]
 | n + 1,P,rows,t,hl,hs,ht,hn,hr=>by
  cases ho:_Y (_Q h P (rows.map (·.1))) with
  | none =>
   refine ⟨_,_xx (by simp [_qss]; rfl),some (.sh (_Z P)),some (.sh (_qss none)),?_⟩;simp only [_j,ho,append_nil]
  | some o =>
   obtain ⟨w1,w2,w3⟩:=_vk (_j0 ho);have hN:=_j3 k (_Xf w1);have hb:=_qdt k hl hs (by omega) w1 hN w3;have pa:=_qme h k P hl hs (by omega) o.1 o.2 hb;have hs':=_J3 k hl hs (by omega) w1 hN w3;have hl':(_jo h P o.1 o.2).length=h.length:=by rw [_Vk]; exact hl
   have hm:(rows++[(o.1,o.2,_jo h P o.1 o.2)]).map (·.1)=rows.map (·.1)++[o.1]:=by simp
   have lt:=_qed w1 w2;obtain ⟨f1,f2'⟩:=_qb2 h kh k (_jo h P o.1 o.2) hl' hs' (by omega) (rows++[(o.1,o.2,_jo h P o.1 o.2)]) (by simp; omega);obtain ⟨ρ',e1,e2⟩:=_Zl h kh k seats n (_jo h P o.1 o.2) (rows++[(o.1,o.2,_jo h P o.1 o.2)]) (t + 1) hl' hs' (by omega) (by rw [hm]; omega) (by simp; omega);rw [hm] at f1 f2' e1 e2;refine ⟨ρ',_Qr (ρ2:=[some (.sh (_t h)),seats,some (.sh (_Z (_jo h P o.1 o.2))),some (ow ((rows++[(o.1,o.2,_jo h P o.1 o.2)]).map _qsl)),some (.sh (_qss (_Y (_Q h (_jo h P o.1 o.2) (rows.map (·.1)++[o.1])))))]) ?_ ?_ e1,?_⟩
   ·have:=_qhy (some o)
    simp [this]
   ·have g1:_qt5 (.sh (_qsl (o.1,o.2,_jo h P o.1 o.2))) (ow (rows.map _qsl))=some (ow (rows.map _qsl++[_qsl (o.1,o.2,_jo h P o.1 o.2)])):=_qbg (by simp [_qu4]; omega)
    have er:D.tup [.int o.1,frD o.2,_Z (_jo h P o.1 o.2)]=_qsl (o.1,o.2,_jo h P o.1 o.2):=rfl;have ir:imm (_qsl (o.1,o.2,_jo h P o.1 o.2))=false:=by simp [_qsl]
    have io:=_qbd (_Y (_Q h (_jo h P o.1 o.2) (rows.map (·.1)++[o.1])));have oe:_qss (some o)=_qsu o:=rfl;have ef:D.lst (rows.map _qsl++[_qsl (o.1,o.2,_jo h P o.1 o.2)])=_zb (rows++[(o.1,o.2,_jo h P o.1 o.2)]):=by simp [_zb]
    generalize _jo h P o.1 o.2=Q at *;generalize _Q h Q (rows.map (·.1)++[o.1])=ws at *;simp [_Xu,oe,pa,off0,off1,_qu4,er,ir,g1,ef,f1,f2',io]
   ·obtain ⟨a2,a4,e3⟩:=e2
    refine ⟨a2,a4,?_⟩;rw [e3];simp only [_j,ho,List.append_assoc,List.singleton_append]
def _i (h:List _qu2) (seats:Int):List Rat:=List.replicate h.length (seats:Rat)
theorem _js (h:List _qu2) {seats:Int} (h0:0 <= seats) (h6:seats <= 6):_zu 1 (_i h seats):=⟨1,by decide,by decide,fun q hq=>by
 rw [List.eq_of_mem_replicate hq];refine ⟨_vf 1 seats,by exact_mod_cast h0,?_⟩;have h1:(seats:Rat) <= ((6:Nat):Rat):=by exact_mod_cast h6
 have h2:((6:Nat):Rat) <= ((1 * 2 ^ 80:Nat):Rat):=by
  obtain ⟨x,hx⟩:∃ x:Nat,1 * 2 ^ 80=x:=⟨_,rfl⟩
  have:6 <= x:=by rw [<- hx]; decide
  rw [hx]
  exact_mod_cast this
 exact Rat.le_trans h1 h2⟩
theorem _qar (h:List _qu2) (kh:okH h) (k:okW h) (seats:Int) (h0:0 <= seats) (h6:seats <= 6):_vm [_t h,.int seats]=some (_zb (_j h 6 (_i h seats) [])):=by
 have hs:=_js h h0 h6;have hl:(_i h seats).length=h.length:=by simp [_i]
 have hll:=_P h;have hlc:(_Ky h []).length <= 6:=le_trans (length_filter_le _ _) hll;obtain ⟨f1,f2'⟩:=_qb2 h kh k (_i h seats) hl hs (by omega) [] (by simp);obtain ⟨ρ',e1,a2,a4,rfl⟩:=_Zl h kh k (some (.sh (.int seats))) 6 (_i h seats) [] 1 hl hs (by omega) (by simpa using hlc) (by simp);have hfp:_B [_t h,.int seats]=some (_Z (_i h seats)):=by
  have fr:frD (seats:Rat)=.tup [.int seats,.int 1]:=by simp [frD]
  have hc:_ji (geN 0) qT (oE (_qt8 (_d (_qt7 1) (_d (fC (.int 1)) _qty)))) (h.map _xy) [none,some (.int seats)]=some (h.map fun _=>O.sh (frD (seats:Rat))):=by
   have:=_l (inj:=_xy) (g:=geN 0) (c:=qT) (e:=oE (_qt8 (_d (_qt7 1) (_d (fC (.int 1)) _qty)))) (fun ρ=>∃ d,ρ=[d,some (.int seats)]) (fun _=>true) (fun _=>O.sh (frD (seats:Rat))) h [none,some (.int seats)] ⟨_,rfl⟩ (by
    rintro p _ ρ ⟨d,rfl⟩;exact ⟨_,rfl,⟨_,rfl⟩,rfl,fun _=>by simp [_qu4,fr]⟩)
   rwa [List.filter_eq_self.mpr (by simp)] at this
  have hd:oDs (h.map fun _=>O.sh (frD (seats:Rat)))=some ((_i h seats).map frD):=by
   rw [_qt (g:=fun _=>frD (seats:Rat)) (fun _=>by simp) h];simp [_i,List.map_const']
  have hh':h.length <= 100000:=by have:=k.len; omega
  simp [_B,_qsk,_qsi,ini,_xh,_qa,mkD,hh',_qu4,hc,hd];rfl
 have io:=_qbd (_Y (_Q h (_i h seats) []));have er:∀ l:List (Int × Rat × List Rat),D.lst (l.map _qsl)=_zb l:=fun _=>rfl;simp only [map_nil,nil_append] at e1 f1 f2';generalize _j h 6 (_i h seats) []=R at *;generalize _Q h (_i h seats) []=ws at *;have f1':_vo [_t h,_Z (_i h seats),.lst []]=some (_qb1 ws):=f1;simp [_vm,_qsk,_qsi,ini,_qa8,_qu4,hfp,f1',f2',io,e1];exact er R
abbrev _qu1:=Int × Rat × List Rat
def _qsp:List Rat->List _qu1->Nat->List Rat
 | P,_,0=>P
 | _,row :: R,t + 1=>_qsp row.2.2 R t
 | _,[],_ + 1=>[]
theorem _z0 (P:List Rat) (R:List _qu1):_qsp P R 0=P:=by cases R <;> rfl
theorem _Jd:∀ (P:List Rat) (R:List _qu1) (t:Nat) (row:_qu1),R[t]?=some row->_qsp P R (t + 1)=row.2.2
 | _,[],_,_,e=>by simp at e
 | P,r :: R,0,row,e=>by
  have e:r=row:=by simpa using e
  subst e;show _qsp r.2.2 R 0=r.2.2;cases R <;> rfl
 | P,r :: R,t + 1,row,e=>_Jd r.2.2 R t row (by simpa using e)
structure RowOk (h:List _qu2) (ch:List Int) (P:List Rat) (row:_qu1):Prop where
 liked:row.1∈_k h
 new:row.1 ∉ ch
 rate:_kj h P row.1 (_qs9 h)=some row.2.1
 least:∀ d r',d∈_k h->d ∉ ch->_kj h P d (_qs9 h)=some r'->row.2.1 <= r'
 paid:row.2.2=_jo h P row.1 row.2.1
 first:∀ d r',d∈_k h->d ∉ ch->d < row.1->_kj h P d (_qs9 h)=some r'->row.2.1 < r'
structure PurOk (h:List _qu2) (t:Nat) (P:List Rat):Prop where
 len:P.length=h.length
 size:_zu t P
theorem PurOk.nonneg {h:List _qu2} {t:Nat} {P:List Rat} (k:PurOk h t P) (i:Nat):0 <= pAt P i:=by
 by_cases hi:i < P.length
 ·obtain ⟨D,d1,d2,d3⟩:=k.size
  exact (d3 _ (_R hi)).2.1
 ·have:pAt P i=0:=by unfold pAt; simp [List.getElem?_eq_none (by omega:P.length <= i)]
  rw [this]; exact Rat.le_refl
theorem _Xl:∀ (l:List (Int × Rat)) (a o:Int × Rat),(∀ q∈l,a.1 < q.1)->l.Pairwise (fun a b=>a.1 < b.1)->l.foldl _qj (some a)=some o->(a=o \/ a.1 < o.1/\o.2 < a.2)/\∀ q∈l,q.1 < o.1->o.2 < q.2
 | [],a,o,_,_,e=>by
  have e:a=o:=by simpa using e
  exact ⟨.inl e,by simp⟩
 | b :: l,a,o,h1,h2,e=>by
  rw [List.foldl_cons] at e;rw [pairwise_cons] at h2;simp only [_qj] at e;have hab:=h1 b (by simp)
  by_cases hlt:b.2 < a.2
  ·rw [if_pos hlt] at e
   obtain ⟨i1,i2⟩:=_Xl l b o h2.1 h2.2 e;refine ⟨.inr ?_,fun q hq hqo=>?_⟩
   ·rcases i1 with z | ⟨z1,z2⟩
    ·rw [<- z]; exact ⟨hab,hlt⟩
    ·exact ⟨by omega,by grind⟩
   ·rcases List.mem_cons.mp hq with z | hq
    ·subst z
     rcases i1 with y | ⟨y1,y2⟩
     ·rw [y] at hqo; omega
     ·exact y2
    ·exact i2 q hq hqo
  ·rw [if_neg hlt] at e
   obtain ⟨i1,i2⟩:=_Xl l a o (fun q hq=>h1 q (by simp [hq])) h2.2 e;refine ⟨i1,fun q hq hqo=>?_⟩;rcases List.mem_cons.mp hq with z | hq
   ·subst z
    rcases i1 with y | ⟨y1,y2⟩
    ·rw [<- y] at hqo; omega
    ·grind
   ·exact i2 q hq hqo
theorem _Yt {l:List (Int × Rat)} {o:Int × Rat} (hs:l.Pairwise (fun a b=>a.1 < b.1)) (e:_Y l=some o):∀ q∈l,q.1 < o.1->o.2 < q.2:=by
 cases l with
 | nil=>intro q hq; simp at hq
 | cons a l =>
  rw [pairwise_cons] at hs;obtain ⟨i1,i2⟩:=_Xl l a o hs.1 hs.2 e;intro q hq hqo;rcases List.mem_cons.mp hq with z | hq
  ·subst z
   rcases i1 with y | ⟨y1,y2⟩
   ·rw [y] at hqo; omega
   ·exact y2
  ·exact i2 q hq hqo
theorem _qcf (h:List _qu2) (P:List Rat) (ch:List Int):(_Q h P ch).Pairwise (fun a b=>a.1 < b.1):=by
 unfold _Q;have hr:((_k h).filter fun c=>!has ch c).Pairwise (· < ·):=List.Pairwise.sublist (List.filter_sublist.trans (_wf h)) _v3;refine List.Pairwise.filterMap _ (fun a b hab x hx y hy=>?_) hr;cases ha:_kj h P a (_qs9 h) with
 | none=>rw [ha] at hx; cases hx
 | some r=>cases hb:_kj h P b (_qs9 h) with
  | none=>rw [hb] at hy; cases hy
  | some r' =>
   rw [ha] at hx; rw [hb] at hy;have hx:(a,r)=x:=by simpa using hx
   have hy:(b,r')=y:=by simpa using hy
   subst hx hy;exact hab
theorem _qhn {h:List _qu2} (k:okW h) {t:Nat} {P:List Rat} (pk:PurOk h t P) (ht:t <= 18) {ch:List Int} {o:Int × Rat} (ho:_Y (_Q h P ch)=some o):RowOk h ch P (o.1,o.2,_jo h P o.1 o.2)/\PurOk h (t + 1) (_jo h P o.1 o.2):=by
 obtain ⟨w1,w2,w3⟩:=_vk (_j0 ho);have hN:=_j3 k (_Xf w1);refine ⟨⟨w1,w2,w3,fun d r' h1 h2 h3=>_Xg ho (d,r') (_Jg h1 h2 h3),rfl,fun d r' h1 h2 h4 h3=>_Yt (_qcf h P ch) ho (d,r') (_Jg h1 h2 h3) h4⟩,⟨by rw [_Vk]; exact pk.len,_J3 k pk.len pk.size ht w1 hN w3⟩⟩
theorem _zl {h:List _qu2} (k:okW h):∀ (n:Nat) (P:List Rat) (ch:List Int) (t0:Nat),PurOk h t0 P->t0 + n <= 18->(_Ky h ch).length <= n ->
  (∀ t row,(_j h n P ch)[t]?=some row->PurOk h (t0 + t) (_qsp P (_j h n P ch) t)/\RowOk h (ch++((_j h n P ch).take t).map (·.1)) (_qsp P (_j h n P ch) t) row) /\
  PurOk h (t0 + (_j h n P ch).length) (_qsp P (_j h n P ch) (_j h n P ch).length)/\(∀ d∈_k h,d ∉ ch++(_j h n P ch).map (·.1)->_kj h (_qsp P (_j h n P ch) (_j h n P ch).length) d (_qs9 h)=none)
 | 0,P,ch,t0,pk,ht,hn=>by
  refine ⟨fun t row e=>by simp [_j] at e,pk,fun d h1 h2=>?_⟩
  have:=_Zs (P:=P) (show (_Ky h ch).length=0 by omega)
  cases hq:_kj h P d (_qs9 h) with
  | none=>exact hq
  | some r =>
   have:=_Jg h1 (by simpa [_j] using h2) hq
   rw [‹_Q h P ch=[]›] at this; cases this
 | n + 1,P,ch,t0,pk,ht,hn=>by
  cases ho:_Y (_Q h P ch) with
  | none =>
   have e:_j h (n + 1) P ch=[]:=by simp only [_j,ho]
   rw [e];refine ⟨fun t row e=>by simp at e,pk,fun d h1 h2=>?_⟩;cases hq:_kj h P d (_qs9 h) with
   | none=>exact hq
   | some r =>
    have:=_Jg h1 (by simpa using h2) hq
    rw [_Zv ho] at this; cases this
  | some o =>
   have e:_j h (n + 1) P ch=(o.1,o.2,_jo h P o.1 o.2) :: _j h n (_jo h P o.1 o.2) (ch++[o.1]):=by simp only [_j,ho]
   rw [e];obtain ⟨s1,s2⟩:=_qhn k pk (by omega) ho;have lt:=_qed s1.liked s1.new;obtain ⟨i1,i2,i3⟩:=_zl k n (_jo h P o.1 o.2) (ch++[o.1]) (t0 + 1) s2 (by omega) (by simp only at lt; omega);refine ⟨fun t row et=>?_,?_,fun d h1 h2=>?_⟩
   ·cases t with
    | zero =>
     have er:(o.1,o.2,_jo h P o.1 o.2)=row:=by simpa using et
     subst er;exact ⟨by rw [_z0]; exact pk,by rw [_z0]; simpa using s1⟩
    | succ t =>
     obtain ⟨j1,j2⟩:=i1 t row (by simpa using et);refine ⟨?_,?_⟩
     ·have:t0 + (t + 1)=t0 + 1 + t:=by omega
      rw [this]; exact j1
     ·have ee:ch++(((o.1,o.2,_jo h P o.1 o.2) :: _j h n (_jo h P o.1 o.2) (ch++[o.1])).take (t + 1)).map (·.1)=(ch++[o.1])++((_j h n (_jo h P o.1 o.2) (ch++[o.1])).take t).map (·.1):=by simp
      rw [ee]; exact j2
   ·have:t0 + ((o.1,o.2,_jo h P o.1 o.2) :: _j h n (_jo h P o.1 o.2) (ch++[o.1])).length=t0 + 1 + (_j h n (_jo h P o.1 o.2) (ch++[o.1])).length:=by simp; omega
    rw [this];exact i2
   ·exact i3 d h1 (by simpa using h2)
theorem _jm {h:List _qu2}:∀ (n:Nat) (P:List Rat) (ch:List Int),((_j h n P ch).map (·.1)).Nodup/\∀ c∈(_j h n P ch).map (·.1),c ∉ ch/\c∈_k h
 | 0,P,ch=>by simp [_j]
 | n + 1,P,ch=>by
  cases ho:_Y (_Q h P ch) with
  | none=>simp [_j,ho]
  | some o =>
   have e:_j h (n + 1) P ch=(o.1,o.2,_jo h P o.1 o.2) :: _j h n (_jo h P o.1 o.2) (ch++[o.1]):=by simp only [_j,ho]
   rw [e];obtain ⟨w1,w2,_⟩:=_vk (_j0 ho);obtain ⟨i1,i2⟩:=_jm n (_jo h P o.1 o.2) (ch++[o.1]);refine ⟨List.nodup_cons.mpr ⟨fun hm=>(i2 _ hm).1 (by simp),i1⟩,fun c hc=>?_⟩;rcases List.mem_cons.mp hc with e | hc
   ·subst e; exact ⟨w2,w1⟩
   ·exact ⟨fun hm=>(i2 c hc).1 (by simp [hm]),(i2 c hc).2⟩
theorem _qd6 (p:Nat->Bool) (f:Nat->Rat):∀ l:List Nat,_z l (fun i=>if p i=true then f i else 0)=_z (l.filter p) f
 | []=>rfl
 | i :: l=>by
  rw [_q,_qd6 p f l];cases hp:p i with
  | true=>rw [List.filter_cons_of_pos (by simp [hp]),_q]; simp
  | false=>rw [List.filter_cons_of_neg (by simp [hp])]; simp; grind
def totP (h:List _qu2) (P:List Rat):Rat:=_z (List.range h.length) fun i=>(wAt h i:Rat) * pAt P i
theorem _qfw {h:List _qu2} {P:List Rat} (hl:P.length=h.length) (c:Int) (r:Rat):totP h P=totP h (_jo h P c r) + pays (_qtw h [c]) (fun i=>(wAt h i:Rat)) (pAt P) r:=by
 unfold totP pays;rw [_Q2,<- _qd6,<- _v2];apply _D;intro i hi;have hi':i < P.length:=by rw [hl]; exact List.mem_range.mp hi
 rw [_Zq hi'];split <;> grind
theorem _qaq {h:List _qu2} (k:okW h):∀ (n:Nat) (P:List Rat) (ch:List Int) (t0:Nat),PurOk h t0 P->t0 + n <= 18->((_j h n P ch).length:Rat) * (_qs9 h:Rat) <= totP h P
 | 0,P,ch,t0,pk,ht=>by
  have:(0:Rat) <= totP h P:=_jj fun i hi=>by
   have h1:(0:Rat) <= (wAt h i:Rat):=by exact_mod_cast k.at0 i
   exact Rat.mul_nonneg h1 (pk.nonneg i)
  simp only [_j,List.length_nil];have e:(((0:Nat):Rat))=0:=rfl;rw [e]; grind
 | n + 1,P,ch,t0,pk,ht=>by
  cases ho:_Y (_Q h P ch) with
  | none =>
   have:(0:Rat) <= totP h P:=_jj fun i hi=>by
    have h1:(0:Rat) <= (wAt h i:Rat):=by exact_mod_cast k.at0 i
    exact Rat.mul_nonneg h1 (pk.nonneg i)
   have e0:_j h (n + 1) P ch=[]:=by simp only [_j,ho]
   rw [e0];have e:((([]:List _qu1).length:Nat):Rat)=0:=rfl;rw [e]; grind
  | some o =>
   have e:_j h (n + 1) P ch=(o.1,o.2,_jo h P o.1 o.2) :: _j h n (_jo h P o.1 o.2) (ch++[o.1]):=by simp only [_j,ho]
   rw [e];obtain ⟨s1,s2⟩:=_qhn k pk (by omega) ho;have ih:=_qaq k n (_jo h P o.1 o.2) (ch++[o.1]) (t0 + 1) s2 (by omega);have hN:=_j3 k (_Xf s1.liked);have hp:=(_v6 k pk.len pk.size (by omega) s1.liked hN s1.rate).1;rw [_qfw pk.len o.1 o.2];simp only at hp;rw [hp];have el:((((o.1,o.2,_jo h P o.1 o.2) :: _j h n (_jo h P o.1 o.2) (ch++[o.1])).length:Nat):Rat)=((_j h n (_jo h P o.1 o.2) (ch++[o.1])).length:Rat) + 1:=by simp
   rw [el];grind
theorem le_lt {a b c:Rat} (h:a <= b) (h':b < c):a < c:=by grind
theorem lt_le {a b c:Rat} (h:a < b) (h':b <= c):a < c:=by grind
theorem _Vo {h:List _qu2} (kh:okH h) {d:Int} (hd:d ∉ _k h):_qtw h [d]=[]:=by
 apply List.eq_nil_iff_forall_not_mem.mpr;intro i hi;have hi':=_v h [d] i hi;have hl:=_wp hi d (by simp);rw [_qv hi'] at hl;have hm:=getElem_mem hi';apply hd;refine List.mem_filter.mpr ⟨kh.mem hm (_j1.mp hl),List.any_eq_true.mpr ⟨_,hm,hl⟩⟩
theorem _qfe {h:List _qu2} (kh:okH h) (k:okW h) (hne:h ≠ []) {t:Nat} {P:List Rat} (pk:PurOk h t P) (ht:t <= 18) {d:Int} {x:Rat} (hx:d∈_k h->∀ r',_kj h P d (_qs9 h)=some r'->x < r') :
  _z (_qtw h [d]) (fun i=>(wAt h i:Rat) * min (pAt P i) x) < (_qs9 h:Rat):=by
 have hN:=_j3 k hne;have hNr:(0:Rat) < (_qs9 h:Rat):=by exact_mod_cast hN
 have hw:∀ i,(0:Rat) <= (wAt h i:Rat):=fun i=>by exact_mod_cast k.at0 i
 by_cases hd:d∈_k h
 ·cases hq:_kj h P d (_qs9 h) with
  | none =>
   have h1:=_Vg k pk.len pk.size ht hd hN hq;exact le_lt (_qjb (l:=_qtw h [d]) (p:=pAt P) hw x) h1
  | some r' =>
   obtain ⟨p1,⟨i,hi,p2⟩,_⟩:=_v6 k pk.len pk.size ht hd hN hq;have hwi:(0:Rat) < (wAt h i:Rat):=by
    have:=k.at1 (_v h [d] i hi)
    exact_mod_cast (by omega:0 < wAt h i)
   exact _qds hw p1 hi hwi p2 x (hx hd r' hq)
 ·rw [_Vo kh hd,_jt]; exact hNr
theorem _qf0 {h:List _qu2} (kh:okH h) (k:okW h) (hne:h ≠ []) {t:Nat} {P:List Rat} (pk:PurOk h t P) (ht:t <= 18) {d:Int} (hx:d∈_k h->_kj h P d (_qs9 h)=none) :
  _z (_qtw h [d]) (fun i=>(wAt h i:Rat) * pAt P i) < (_qs9 h:Rat):=by
 have hN:=_j3 k hne
 by_cases hd:d∈_k h
 ·exact _Vg k pk.len pk.size ht hd hN (hx hd)
 ·rw [_Vo kh hd,_jt]; exact_mod_cast hN
theorem _qc8 {h:List _qu2} (kh:okH h) (k:okW h) (hne:h ≠ []) (seats:Int) (hse:1 <= seats/\seats <= 6) (R:List _qu1) (hR:_j h 6 (_i h seats) []=R) (s:List Int) (hs:s.Sublist six) (hs0:s ≠ []) (g:List Nat) (hg:g.Sublist (List.range h.length)) (hga:∀ i∈g,∀ c∈s,lkB h i c=true) (hfew:∀ i∈g,((R.map (·.1)).filter fun c=>lkB h i c).length < s.length):_Yu h seats (s.length:Int) g=false:=by
 have hN:=_j3 k hne;have hNr:(0:Rat) < (_qs9 h:Rat):=by exact_mod_cast hN
 have hw:∀ i,(0:Rat) <= (wAt h i:Rat):=fun i=>by exact_mod_cast k.at0 i
 have pk0:PurOk h 1 (_i h seats):=⟨by simp [_i],_js h (by omega) hse.2⟩;have hlc:(_Ky h []).length <= 6:=le_trans (length_filter_le _ _) (_P h);obtain ⟨r1,r2,r3⟩:=_zl k 6 (_i h seats) [] 1 pk0 (by omega) hlc;have hn:=(_jm (h:=h) 6 (_i h seats) []).1;rw [hR] at r1 r2 r3 hn;have hlen:R.length <= 6:=by
  have hsub:∀ c∈R.map (·.1),c∈_k h:=fun c hc=>by
   have:=(_jm (h:=h) 6 (_i h seats) []).2 c (by rw [hR]; exact hc)
   exact this.2
  have:=_qn hn hsub
  have h6:=_P h;simp at this; omega
 have row:∀ t c r,(R.map fun q=>(q.1,q.2.1))[t]?=some (c,r)->∃ Q,R[t]?=some (c,r,Q):=fun t c r e=>by
  rw [getElem?_map] at e;cases hq:R[t]? with
  | none=>rw [hq] at e; cases e
  | some q =>
   rw [hq] at e;have e:=Option.some.inj e;obtain ⟨q1,q2,q3⟩:=q;cases e;exact ⟨q3,hq⟩
 have tlt:∀ t q,R[t]?=some q->t < R.length:=fun t q e=>(List.getElem?_eq_some_iff.mp e).1;have hnot:∀ d,(∀ q∈R.map (fun q=>(q.1,q.2.1)),q.1 ≠ d)->d ∉ R.map (·.1):=fun d hd hm=>by
  obtain ⟨q,hq,e⟩:=List.mem_map.mp hm;exact hd (q.1,q.2.1) (List.mem_map.mpr ⟨q,hq,rfl⟩) e
 have main:=_Q4 (n:=h.length) (w:=fun i=>(wAt h i:Rat)) (lk:=lkB h) (k:=(seats:Rat)) (N:=(_qs9 h:Rat)) hw (by exact_mod_cast (by omega:0 <= seats)) hNr
  (R.map fun q=>(q.1,q.2.1)) (fun t i=>pAt (_qsp (_i h seats) R t) i)
  (fun i hi=>by
   show pAt (_qsp (_i h seats) R 0) i=_;rw [_z0];unfold _i pAt;simp [hi])
  (fun t c r e i hi=>by
   obtain ⟨Q,eq⟩:=row t c r e;obtain ⟨j1,j2⟩:=r1 t _ eq;show pAt (_qsp (_i h seats) R (t + 1)) i=_;rw [_Jd _ _ _ _ eq,j2.paid,_Zq (by rw [j1.len]; exact hi)])
  (fun t c r e d hd x hx=>by
   obtain ⟨Q,eq⟩:=row t c r e;obtain ⟨j1,j2⟩:=r1 t _ eq;have hdn:=hnot d hd;have ht:=tlt t _ eq
   have:=_qfe kh k hne j1 (by omega) (d:=d) (x:=x) fun hdl r' hr'=>lt_le hx (j2.least d r' hdl (by
    rw [nil_append];intro hm;exact hdn (((take_sublist t R).map _).subset hm)) hr')
   rw [_Q2] at this;exact this)
  (fun d hd=>by
   have hdn:=hnot d hd
   have:=_qf0 kh k hne r2 (by omega) (d:=d) fun hdl=>r3 d hdl (by simpa using hdn)
   rw [_Q2] at this;rw [length_map];exact this)
  (fun t i hi=>by
   show 0 <= pAt (_qsp (_i h seats) R t) i;rcases Nat.lt_or_ge t R.length with ht | ht
   ·exact (r1 t R[t] (by simp [ht])).1.nonneg i
   ·rcases Nat.eq_or_lt_of_le ht with e | ht
    ·rw [<- e]; exact r2.nonneg i
    ·have z:_qsp (_i h seats) R t=[]:=by
      clear r1 r2 r3 hn hlen row tlt hnot hfew hR;generalize _i h seats=P
      induction R generalizing P t with
      | nil=>cases t with
       | zero=>simp at ht
       | succ t=>rfl
      | cons q R ih=>cases t with
       | zero=>simp at ht
       | succ t=>exact ih t (by simp at ht; omega) (by simp at ht; omega) q.2.2
     rw [z];unfold pAt; simp)
  s (_zm (List.Pairwise.sublist hs _v3)) (List.length_pos_iff.mpr hs0) g hg hga (fun i hi=>by
   have:=hfew i hi
   rw [List.filter_map,length_map] at this ⊢;exact this)
 unfold _Yu;have hb:¬ ((s.length:Int) * _qs9 h <= seats * wG h g):=fun hle=>by
  have h1:((s.length:Int):Rat) * (_qs9 h:Rat) <= (seats:Rat) * (wG h g:Rat):=by exact_mod_cast hle
  rw [_qc0] at h1;have e:((s.length:Int):Rat)=(s.length:Rat):=rfl;rw [e] at h1;exact absurd main (Rat.not_lt.mpr h1)
 simp only [decide_eq_false hb,Bool.and_false]
theorem _Jz {h:List _qu2} (k:okW h) (hne:h ≠ []) (seats:Int) (hse:1 <= seats/\seats <= 6):((_j h 6 (_i h seats) []).length:Int) <= seats:=by
 have pk0:PurOk h 1 (_i h seats):=⟨by simp [_i],_js h (by omega) hse.2⟩;have h1:=_qaq k 6 (_i h seats) [] 1 pk0 (by omega);have hN:=_j3 k hne;have hNr:(0:Rat) < (_qs9 h:Rat):=by exact_mod_cast hN
 have e:totP h (_i h seats)=(seats:Rat) * (_qs9 h:Rat):=by
  unfold totP;rw [_Kc,_qc0]
  have:_z (List.range h.length) (fun i=>(wAt h i:Rat) * pAt (_i h seats) i)=_z (List.range h.length) (fun i=>(wAt h i:Rat) * (seats:Rat)):=by
   apply _D;intro i hi;have hi':=List.mem_range.mp hi
   have:pAt (_i h seats) i=(seats:Rat):=by unfold _i pAt; simp [hi']
   rw [this]
  rw [this,_qy];grind
 rw [e] at h1;have h2:=Rat.le_of_mul_le_mul_right h1 hNr
 exact_mod_cast h2
theorem _qie (R:List (Int × Rat × List Rat)) (hl:R.length <= 1000):_qd [_zb R]=some (_g (R.map (·.1))):=by
 have hc:_ji (geN 0) qT (oE (f2 dIx (_qt7 0) (fC (.int 0)))) (R.map _qsl) [none]=some (R.map fun r=>O.sh (.int r.1)):=by
  have:=_l (inj:=_qsl) (g:=geN 0) (c:=qT) (e:=oE (f2 dIx (_qt7 0) (fC (.int 0)))) (fun ρ=>∃ d,ρ=[d]) (fun _=>true) (fun r=>O.sh (.int r.1)) R [none] ⟨_,rfl⟩ (by
   rintro r _ ρ ⟨d,rfl⟩
   have:dIx (_qsl r) (.int 0)=some (.int r.1):=_qcn
   exact ⟨_,rfl,⟨_,rfl⟩,rfl,fun _=>by simp [this]⟩)
  rwa [List.filter_eq_self.mpr (by simp)] at this
 have hd:oDs (R.map fun r=>O.sh (.int r.1))=some ((R.map (·.1)).map .int):=by
  have:=_qt (f:=fun r:Int × Rat × List Rat=>O.sh (.int r.1)) (g:=fun r=>D.int r.1) (fun p=>by simp) R
  rw [this,map_map]; rfl
 have lg:_kv (_zb R)=some (R.map _qsl):=rfl;have hl':R.length <= 100000:=by omega
 simp [_qd,_qsk,_qsi,ini,_zh,_qa,mkD,lg,hl',_qu4,hc,hd,_Jh,-map_map]
theorem _qg5 (R:List _qu1):shp 20 (_zb R)=true:=by
 unfold _zb;rw [_qho];refine _Wj.mpr fun d hd=>?_;obtain ⟨r,_,rfl⟩:=List.mem_map.mp hd
 have:_qsg 17 (r.2.2.map frD)=true:=_Wj.mpr fun d hd=>by
  obtain ⟨q,_,rfl⟩:=List.mem_map.mp hd;simp [frD]
 simp [_qsl,frD,_Z,this]
theorem _qg6 (R:List _qu1):dEq (_zb R) (.lst [])=some (.bl (decide (R=[]))):=by
 have e:eqD (_zb R) (.lst [])=decide (R=[]):=by cases R <;> simp [_zb,eqD,_qtb]
 simp [dEq,_qg5,e]
theorem _qk3 (P:List Rat) (R:List _qu1) (hR:R ≠ []):dIx (_zb R) (.int (-1))=some (_qsl (R.getLast hR))/\_qsp P R R.length=(R.getLast hR).2.2:=by
 have hl:0 < R.length:=List.length_pos_iff.mpr hR;have hg:R[R.length - 1]?=some (R.getLast hR):=by rw [List.getLast_eq_getElem,getElem?_eq_getElem]
 refine ⟨?_,?_⟩
 ·have hi:ixP R.length (-1)=some (R.length - 1):=by
   unfold ixP;rw [if_neg (by omega),if_pos (by omega)];congr 1; omega
  simp only [dIx,_zb,atP,length_map,hi,Option.bind_some,getElem?_map,hg,Option.map_some]
 ·have:=_Jd P R (R.length - 1) _ hg
  rwa [show R.length - 1 + 1=R.length by omega] at this
theorem _qeu (h:List _qu2) (hh:h.length <= 100) (seats:Int):_B [_t h,.int seats]=some (_Z (_i h seats)):=by
 have fr:frD (seats:Rat)=.tup [.int seats,.int 1]:=by simp [frD]
 have hc:_ji (geN 0) qT (oE (_qt8 (_d (_qt7 1) (_d (fC (.int 1)) _qty)))) (h.map _xy) [none,some (.int seats)]=some (h.map fun _=>O.sh (frD (seats:Rat))):=by
  have:=_l (inj:=_xy) (g:=geN 0) (c:=qT) (e:=oE (_qt8 (_d (_qt7 1) (_d (fC (.int 1)) _qty)))) (fun ρ=>∃ d,ρ=[d,some (.int seats)]) (fun _=>true) (fun _=>O.sh (frD (seats:Rat))) h [none,some (.int seats)] ⟨_,rfl⟩ (by
   rintro p _ ρ ⟨d,rfl⟩;exact ⟨_,rfl,⟨_,rfl⟩,rfl,fun _=>by simp [_qu4,fr]⟩)
  rwa [List.filter_eq_self.mpr (by simp)] at this
 have hd:oDs (h.map fun _=>O.sh (frD (seats:Rat)))=some ((_i h seats).map frD):=by
  rw [_qt (g:=fun _=>frD (seats:Rat)) (fun _=>by simp) h];simp [_i,List.map_const']
 have hh':h.length <= 100000:=by omega
 simp [_B,_qsk,_qsi,ini,_xh,_qa,mkD,hh',_qu4,hc,hd];rfl
theorem _qmt (h:List _qu2) (hh:h.length <= 100) (seats:Int) (R:List _qu1):_q1 [_t h,.int seats,_zb R]=some (_Z (_qsp (_i h seats) R R.length)):=by
 have en:=_qg6 R;have f:=_qeu h hh seats
 by_cases hR:R=[]
 ·rw [decide_eq_true hR] at en
  have ep:_qsp (_i h seats) R R.length=_i h seats:=by rw [hR]; exact _z0 _ _
  rw [ep];simp [_q1,_qsk,_qsi,ini,_x6,en,f,_qu4]
 ·rw [decide_eq_false hR] at en
  obtain ⟨l1,l2⟩:=_qk3 (_i h seats) R hR;have x2:dIx (_qsl (R.getLast hR)) (.int 2)=some (_Z (R.getLast hR).2.2):=rfl;rw [l2];generalize R.getLast hR=last at *;simp [_q1,_qsk,_qsi,ini,_x6,en,l1,x2,_qu4]
@[irreducible] def _n (h:List _qu2) (seats:Int):List _qu1:=_j h 6 (_i h seats) []
@[irreducible] def _xj (h:List _qu2) (seats:Int):List _qu1:=_j2 h seats 6 (_qsp (_i h seats) (_n h seats) (_n h seats).length) (_wa ((_n h seats).map (·.1)))
@[irreducible] def _qs (h:List _qu2) (seats:Int):List Int:=_wa ((_n h seats).map (·.1)++(_xj h seats).map (·.1))
theorem _jc (h:List _qu2) (seats:Int):_n h seats=_j h 6 (_i h seats) []:=by unfold _n; rfl
theorem _Jl (h:List _qu2) (seats:Int):_xj h seats=_j2 h seats 6 (_qsp (_i h seats) (_n h seats) (_n h seats).length) (_wa ((_n h seats).map (·.1))):=by unfold _xj; rfl
theorem _wk (h:List _qu2) (seats:Int):_qs h seats=_wa ((_n h seats).map (·.1)++(_xj h seats).map (·.1)):=by unfold _qs; rfl
theorem _Z6 {l:List Int} (hl:l.length < 64):_qi7 [_g l]=some ((_wa l).map .int):=by
 simp only [_qi7,_g,_Ji,Option.bind_some,hl,if_true]
theorem _k9 (l:List Int):(_wa l).length=l.length:=(_qm l).length_eq
theorem _Yz {h:List _qu2} {seats:Int}:∀ (n:Nat) (P:List Rat) (ch:List Int),(_j2 h seats n P ch).length <= n
 | 0,P,ch=>by simp [_j2]
 | n + 1,P,ch=>by
  cases ho:_Y (_jv h P ch seats) with
  | none=>simp only [_j2,ho]; simp
  | some o =>
   have:=_Yz (h:=h) (seats:=seats) n (_u h P o) (ch++[o.1])
   simp only [_j2,ho,length_cons];omega
theorem _wc {h:List _qu2}:∀ (n:Nat) (P:List Rat) (ch:List Int),(_j h n P ch).length <= n
 | 0,P,ch=>by simp [_j]
 | n + 1,P,ch=>by
  cases ho:_Y (_Q h P ch) with
  | none=>simp only [_j,ho]; simp
  | some o =>
   have:=_wc (h:=h) n (_jo h P o.1 o.2) (ch++[o.1])
   simp only [_j,ho,length_cons];omega
theorem _Xr {h:List _qu2} (k:okW h) (seats:Int) (hse:0 <= seats/\seats <= 6):PurOk h (1 + (_n h seats).length) (_qsp (_i h seats) (_n h seats) (_n h seats).length)/\(∀ d∈_k h,d ∉ (_n h seats).map (·.1)->_kj h (_qsp (_i h seats) (_n h seats) (_n h seats).length) d (_qs9 h)=none):=by
 have pk0:PurOk h 1 (_i h seats):=⟨by simp [_i],_js h hse.1 hse.2⟩;have hlc:(_Ky h []).length <= 6:=le_trans (length_filter_le _ _) (_P h);obtain ⟨r1,r2,r3⟩:=_zl k 6 (_i h seats) [] 1 pk0 (by omega) hlc;rw [<- _jc] at r2 r3;exact ⟨r2,fun d h1 h2=>r3 d h1 (by rw [nil_append]; exact h2)⟩
theorem _qfc (h:List _qu2) (kh:okH h) (k:okW h) (seats:Int) (hse:0 <= seats/\seats <= 6):_Ku [_t h,.int seats]=some (.tup [_g (_qs h seats),_zb (_n h seats),_zb (_xj h seats)]):=by
 have ro:_vm [_t h,.int seats]=some (_zb (_n h seats)):=by rw [_jc]; exact _qar h kh k seats hse.1 hse.2
 have l1:(_n h seats).length <= 6:=by rw [_jc]; exact _wc 6 _ _
 have l2:(_xj h seats).length <= 6:=by rw [_Jl]; exact _Yz 6 _ _
 have c1:=_qie (_n h seats) (by omega);have c2:=_qie (_xj h seats) (by omega);have hh:=k.len;have la:=_qmt h (by omega) seats (_n h seats);obtain ⟨e1,_⟩:=_Xr k seats hse;have h12:1 + (_n h seats).length <= 12:=by omega
 have hs6:(_wa ((_n h seats).map (·.1))).length <= 6:=by rw [_k9,length_map]; exact l1
 have gr:=_qep h kh k (_qsp (_i h seats) (_n h seats) (_n h seats).length) e1.len e1.size h12 (_wa ((_n h seats).map (·.1))) hs6 seats hse.2;rw [<- _Jl] at gr;have s1:=_Z6 (l:=(_n h seats).map (·.1)) (by simp; omega);have s2:=_Z6 (l:=(_n h seats).map (·.1)++(_xj h seats).map (·.1)) (by simp; omega);have eB:_wa ((_n h seats).map (·.1)++(_xj h seats).map (·.1))=_qs h seats:=(_wk h seats).symm;rw [eB] at s2;have hcat:_qtj (_g ((_n h seats).map (·.1))) (_g ((_xj h seats).map (·.1)))=some (((_n h seats).map (·.1)++(_xj h seats).map (·.1)).map .int):=by
  have:((_n h seats).map (·.1)).length + ((_xj h seats).map (·.1)).length <= 100000:=by simp; omega
  simp only [_qtj,_g,length_map,_qu4] at this ⊢;rw [if_pos this,map_append]
 generalize _qsp (_i h seats) (_n h seats) (_n h seats).length=P at *;generalize _n h seats=B at *;generalize _xj h seats=A at *;generalize _qs h seats=M at *;have z1:∀ l:List Int,oD (ow (l.map .int))=some (_g l):=fun l=>_Vu l;generalize hCB:B.map (·.1)++A.map (·.1)=CB at *;generalize B.map (·.1)=CA at *;generalize A.map (·.1)=CC at *;generalize _wa CA=SA at *;have im1:imm (_g CA)=false:=by simp [_g]
 have im2:imm (_zb B)=false:=by simp [_zb]
 have im3:imm (_zb A)=false:=by simp [_zb]
 simp [_Ku,_qsk,_qsi,ini,_qfo,ro,c1,c2,la,gr,s1,s2,hcat,z1,im1,im2,im3,_qu4]
section
variable {h:List _qu2} (kh:okH h) (k:okW h) (hne:h ≠ []) (seats:Int) (hse:1 <= seats/\seats <= 6)
include kh k hne hse
theorem _qhi:(∀ q∈_qsp (_i h seats) (_n h seats) (_n h seats).length,(0:Rat) <= q)/\∀ c∈_k h,c ∉ _wa ((_n h seats).map (·.1))->_qsf h (_qsp (_i h seats) (_n h seats) (_n h seats).length) c <= (_qs9 h:Rat):=by
 obtain ⟨e1,e2⟩:=_Xr k seats ⟨by omega,hse.2⟩;have l1:(_n h seats).length <= 6:=by rw [_jc]; exact _wc 6 _ _
 refine ⟨fun q hq=>?_,fun c hc hn=>?_⟩
 ·obtain ⟨D,d1,d2,d3⟩:=e1.size
  exact (d3 q hq).2.1
 ·have hn':c ∉ (_n h seats).map (·.1):=fun m=>hn ((_qm _).mem_iff.mpr m)
  have:=_qf0 kh k hne e1 (by omega) (d:=c) fun _=>e2 c hc hn'
  have e:_qsf h (_qsp (_i h seats) (_n h seats) (_n h seats).length) c=_z (_qtw h [c]) (fun i=>(wAt h i:Rat) * pAt (_qsp (_i h seats) (_n h seats) (_n h seats).length) i):=rfl;rw [e];exact Rat.le_of_lt this
theorem _qcs:((_xj h seats).map (·.1)).Nodup/\∀ c∈(_xj h seats).map (·.1),c∈_k h/\c ∉ (_n h seats).map (·.1):=by
 obtain ⟨i1,i2⟩:=_qhi kh k hne seats hse;obtain ⟨e1,_⟩:=_Xr k seats ⟨by omega,hse.2⟩;have hn:=_Zw k seats 6 e1.len i1 i2;have hr:=_wh k seats 6 _ _ e1.len i1 i2;rw [<- _Jl] at hn hr;refine ⟨hn,fun c hc=>?_⟩;obtain ⟨row,hm,rfl⟩:=List.mem_map.mp hc;obtain ⟨t,ht,et⟩:=getElem_of_mem hm;have hg:(_xj h seats)[t]?=some (row.1,row.2.1,row.2.2):=by rw [getElem?_eq_getElem ht,et]
 obtain ⟨_,_,_,_,q1,q2,_⟩:=hr t _ _ _ hg;exact ⟨q1,fun m=>q2 ((_qm _).mem_iff.mpr m)⟩
theorem _Z1:(_qs h seats).Pairwise (· < ·)/\(∀ c∈_qs h seats,c∈_k h)/\(∀ c∈(_n h seats).map (·.1),c∈_qs h seats)/\((_qs h seats).length:Int)=(if ((_k h).length:Int) < seats then ((_k h).length:Int) else seats):=by
 obtain ⟨a1,a2⟩:=_qcs kh k hne seats hse;have b0:=_jm (h:=h) 6 (_i h seats) [];have hcount:=_Jz k hne seats hse;rw [<- _jc] at b0 hcount;obtain ⟨b1,b2⟩:=b0;have hgf:=_Xj (h:=h) seats 6 (_qsp (_i h seats) (_n h seats) (_n h seats).length) (_wa ((_n h seats).map (·.1))) (by omega);have hgl:=_Y0 (h:=h) seats 6 (_qsp (_i h seats) (_n h seats) (_n h seats).length) (_wa ((_n h seats).map (·.1)));rw [<- _Jl,_k9,length_map] at hgf hgl;have hnd:((_n h seats).map (·.1)++(_xj h seats).map (·.1)).Nodup:=List.nodup_append.mpr ⟨b1,a1,fun x hx y hy e=>(a2 y hy).2 (e ▸ hx)⟩;have hmem:∀ c,c∈_qs h seats ↔ c∈(_n h seats).map (·.1) \/ c∈(_xj h seats).map (·.1):=fun c=>by
  rw [_wk,(_qm _).mem_iff,List.mem_append]
 have hlk:∀ c∈_qs h seats,c∈_k h:=fun c hc=>by
  rcases (hmem c).mp hc with m | m
  ·exact (b2 c m).2
  ·exact (a2 c m).1
 have hn':(_qs h seats).Nodup:=by rw [_wk]; exact (_qm _).nodup_iff.mpr hnd
 have hr:(_qs h seats).Pairwise (· < ·):=by
  have hs:(_qs h seats).Pairwise (· <= ·):=by rw [_wk]; exact _Qa _
  exact (hs.and hn').imp fun {a b} ⟨h1,h2⟩=>by omega
 have hlen:(_qs h seats).length=(_n h seats).length + (_xj h seats).length:=by rw [_wk,_k9]; simp
 have hLn:(_k h).Nodup:=_zm (List.Pairwise.sublist (_wf h) _v3);have u1:(_qs h seats).length <= (_k h).length:=_K hn' hlk;have u2:((_n h seats).length:Int) + (_xj h seats).length <= seats:=by
  rcases hgl with e | e
  ·rw [e]; simpa using hcount
  ·exact e
 refine ⟨hr,hlk,fun c hc=>(hmem c).mpr (.inl hc),?_⟩;rcases hgf with e | e
 ·split <;> omega
 ·have u3:(_k h).length <= (_qs h seats).length:=_K hLn fun c hc=>(hmem c).mpr (by
   rcases e c hc with m | m
   ·exact .inl ((_qm _).mem_iff.mp m)
   ·exact .inr m)
  split <;> omega
end
abbrev Ent:=Int × List Rat
def _qtc (e:Ent):D:=.tup [.int e.1,_Z e.2]
def _qsq (pp:List Ent):D:=.lst (pp.map _qtc)
@[simp] theorem _qb6 (pp:List Ent):_kv (_qsq pp)=some (pp.map _qtc):=rfl
structure PaperOk (h:List _qu2) (t:Nat) (pp:List Ent):Prop where
 cand:∀ e∈pp,0 <= e.1/\e.1 <= 5
 nodup:(pp.map (·.1)).Nodup
 len:∀ e∈pp,e.2.length=h.length
 sized:_zu t (pp.flatMap (·.2))
 small:pp.length <= 6
theorem _Xh (i:Int):_jz [.int i]=some (.bl true):=by simp [_jz,_qsk,_qsi,ini,_Xw]
theorem _qej (c:Int) (h:0 <= c/\c <= 5):_q7 [.int c]=some (.bl true):=by
 simp [_q7,_qsk,_qsi,ini,_z9,_Xh,h.1,h.2]
theorem _Yx (q:Rat) (h:0 <= q):_jq [frD q]=some (.bl true):=by
 have x0:dIx (frD q) (.int 0)=some (.int q.num):=rfl;have x1:dIx (frD q) (.int 1)=some (.int q.den):=rfl;have i1:_qsx "tuple" (frD q)=some (.bl true):=rfl;have d1:_qtg [frD q]=some (.int 2):=rfl;have h0:0 <= q.num:=Rat.num_nonneg.mpr h;have h1:(1:Int) <= (q.den:Int):=by have:=q.den_pos; omega
 have g:=_qkg q.num q.den;have e:Int.gcd q.num (q.den:Int)=1:=q.reduced;rw [e] at g;simp [_jq,_qsk,_qsi,ini,_Qn,i1,d1,x0,x1,_Xh,h0,h1,g]
theorem _qei (P:List Rat) (hp:∀ q∈P,(0:Rat) <= q) (hl:P.length <= 1000):_q6 [_Z P,.int (P.length:Int)]=some (.bl true):=by
 have hc:_ji (geN 0) qT (oE (_A 1 _jq (_d (_qt7 0) _qty))) (P.map frD) [none]=some (P.map fun _=>O.sh (.bl true)):=by
  have:=_l (inj:=frD) (g:=geN 0) (c:=qT) (e:=oE (_A 1 _jq (_d (_qt7 0) _qty))) (fun ρ=>∃ d,ρ=[d]) (fun _=>true) (fun _=>O.sh (.bl true)) P [none] ⟨_,rfl⟩ (by
   rintro q hq ρ ⟨d,rfl⟩
   have:=_Yx q (hp q hq)
   exact ⟨_,rfl,⟨_,rfl⟩,rfl,fun _=>by simp [this]⟩)
  rwa [List.filter_eq_self.mpr (by simp)] at this
 have hd:oDs (P.map fun _=>O.sh (.bl true))=some (P.map fun _=>D.bl true):=_qt (fun c=>by simp) P;have hb:_qcr (P.map fun _=>D.bl true)=some (P.map fun _=>true):=_xf (fun _:Rat=>true) P;have i1:_qsx "list" (_Z P)=some (.bl true):=rfl;have d1:_qtg [_Z P]=some (.int P.length):=by simp [_Z]
 have hl':P.length <= 100000:=by omega
 simp [_q6,_qsk,_qsi,ini,_z8,i1,d1,_qa,mkD,hl',_qu4,hc,hd,_qtk,hb]
theorem _qcl (h:List _qu2) (hh:h.length <= 100) (e:Ent) (h1:0 <= e.1/\e.1 <= 5) (h2:e.2.length=h.length) (h3:∀ q∈e.2,(0:Rat) <= q):_vs [_qtc e,.int (h.length:Int)]=some (.bl true):=by
 have x0:dIx (_qtc e) (.int 0)=some (.int e.1):=rfl;have x1:dIx (_qtc e) (.int 1)=some (_Z e.2):=rfl;have i1:_qsx "tuple" (_qtc e)=some (.bl true):=rfl;have d1:_qtg [_qtc e]=some (.int 2):=rfl;have c:=_qej e.1 h1;have l:=_qei e.2 h3 (by omega);rw [h2] at l;simp [_vs,_qsk,_qsi,ini,_Xy,i1,d1,x0,x1,c,l]
theorem _Jb {t:Nat} {P:List Rat} (h:_zu t P):∀ q∈P,(0:Rat) <= q:=by
 obtain ⟨D,_,_,h3⟩:=h;exact fun q hq=>(h3 q hq).2.1
theorem _v9 {h:List _qu2} {t:Nat} {pp:List Ent} (k:PaperOk h t pp) {e:Ent} (he:e∈pp):_zu t e.2:=k.sized.sub fun q hq=>List.mem_flatMap.mpr ⟨e,he,hq⟩
theorem _qck (h:List _qu2) (hh:h.length <= 100) {t:Nat} (pp:List Ent) (k:PaperOk h t pp):_vr [_qsq pp,.int (h.length:Int)]=some (.bl true):=by
 have i1:_qsx "list" (_qsq pp)=some (.bl true):=rfl;obtain ⟨ρ',e1,c,e2⟩:=_ju (inj:=_qtc) (g:=gN 3) (b:=_k3) (fun pre ρ=>∃ c,ρ=[some (.sh (_qsq pp)),some (.sh (.int (h.length:Int))),some (ow ((pre.map (·.1)).map .int)),c]) pp [some (.sh (_qsq pp)),some (.sh (.int (h.length:Int))),some (ow []),none] ⟨_,rfl⟩ (by
  rintro pre e post ρ hpp ⟨c,rfl⟩;have he:e∈pp:=by rw [hpp]; simp
  have en:=_qcl h hh e (k.cand e he) (k.len e he) (_Jb (_v9 k he));have x0:dIx (_qtc e) (.int 0)=some (.int e.1):=rfl;have hno:has (pre.map (·.1)) e.1=false:=by
   have hn:=k.nodup;rw [hpp,map_append,map_cons,List.nodup_append] at hn;cases hq:has (pre.map (·.1)) e.1 with
   | false=>rfl
   | true=>exact absurd rfl (hn.2.2 e.1 (_j1.mp hq) e.1 (by simp))
  have hpl:pre.length <= 6:=by have:=congrArg List.length hpp; have:=k.small; simp at *; omega
  have ga:_qt5 (.sh (.int e.1)) (ow ((pre.map (·.1)).map .int))=some (ow ((pre.map (·.1)).map .int++[.int e.1])):=_qbg (by simp [_qu4]; omega);have em:((pre++[e]).map (·.1)).map D.int=(pre.map (·.1)).map .int++[.int e.1]:=by simp
  rw [em];generalize pre.map (·.1)=M at *;have fo:D.lst (M.map .int)=_g M:=rfl;simp [_qu6,_k3,en,x0,fo,hno,ga])
 simp [_vr,_qsk,_qsi,ini,_Xx,i1,_qu4,_qtu,e1,e2]
structure PaysR (h:List _qu2) (seats:Int) (pp:List Ent):Prop where
 zero:∀ e∈pp,∀ i,i < h.length->lkB h i e.1=false->pAt e.2 i=0
 price:∀ e∈pp,_qsf h e.2 e.1=(_qs9 h:Rat)
 left:∀ i,i < h.length->0 <= (seats:Rat) - (pp.map fun e=>pAt e.2 i).sum
 less:∀ c∈_k h,c ∉ pp.map (·.1)->_z (_qtw h [c]) (fun i=>(wAt h i:Rat) * ((seats:Rat) - (pp.map fun e=>pAt e.2 i).sum)) < (_qs9 h:Rat)
theorem _qfx (b:Nat):_qsc b 0=0:=by simp [_qsc]
theorem _Yw (h:List _qu2) (k:okW h) (c:Int) (P:List Rat) {t:Nat} (hs:_zu t P) (ht:t <= 20) (hl:P.length=h.length) (hz:∀ i,i < h.length->lkB h i c=false->pAt P i=0) (hp:_qsf h P c=(_qs9 h:Rat)):_jp [_t h,.int c,_Z P]=some (.bl true):=by
 have hh:=k.len;have l1:=_z1 h c (by omega);rw [_Z3] at l1;have hlen:=_jg h [c];have b1:=_qbr P hs ht;have hb:=hs.cb ht;have t1:=_qaj P hs ht (cb P) hb (by omega);have hTz:∀ x∈P.map (_qsc (cb P)),Sz 3600 x:=fun x hx=>by
  obtain ⟨q,hq,rfl⟩:=List.mem_map.mp hx;exact hs.top ht hq hb
 have w1:=_Jn h k (P.map (_qsc (cb P))) hTz (_qtw h [c]) (_v h [c]) (fun i hi=>by simp; have:=_v h [c] i hi; omega) (by omega);have w2:=_xl h (by omega);have hN:=_Zh k;have zN:Sz 77 (_qs9 h):=by show _ < _; omega
 have zb:Sz 1700 ((cb P:Nat):Int):=by show _ < _; rw [Int.natAbs_natCast]; exact hb
 have m1:=_q9 (zN.big (by decide)) (zb.big (by decide));have hr:_qsm 0 h.length=(List.range h.length).map fun (i:Nat)=>D.int (0 + (i:Int)):=rfl;have hcs:_ji (geN 0) (qV (f2 _Q8 (_qt7 0) (_qt7 1))) (oE (_qt7 0)) (_qsm 0 h.length) [none,some (plD (_qtw h [c]))]=some (((List.range h.length).filter fun i=>!_qsz (_qtw h [c]) i).map fun (i:Nat)=>O.sh (.int (i:Int))):=by
  rw [hr];exact _l (inj:=fun (i:Nat)=>D.int (0 + (i:Int))) (fun ρ=>∃ d,ρ=[d,some (plD (_qtw h [c]))]) (fun i=>!_qsz (_qtw h [c]) i) (fun (i:Nat)=>O.sh (.int (i:Int))) (List.range h.length) _ ⟨_,rfl⟩ (by
   rintro i hi ρ ⟨d,rfl⟩;exact ⟨_,rfl,⟨_,rfl⟩,by simp [plD,_qgy],fun _=>by simp⟩)
 obtain ⟨st,hst⟩:∃ st,(List.range h.length).filter (fun i=>!_qsz (_qtw h [c]) i)=st:=⟨_,rfl⟩;rw [hst] at hcs;have hstm:∀ i∈st,i < h.length/\pAt P i=0:=fun i hi=>by
  rw [<- hst] at hi;obtain ⟨a,b⟩:=List.mem_filter.mp hi;have hi':=List.mem_range.mp a;refine ⟨hi',hz i hi' ?_⟩;rw [_qen hi'] at b;simpa using b
 have hstl:st.length <= 100000:=by
  have:st.length <= h.length:=by rw [<- hst]; exact le_trans (length_filter_le _ _) (by simp)
  omega
 have lst1:_kv (plD st)=some (st.map fun (i:Nat)=>D.int (i:Int)):=by simp [plD]
 have hca:_ji (geN 0) qT (oE (f2 dEq (f2 dIx (_qt7 1) (_qt7 0)) (fC (.int 0)))) (st.map fun (i:Nat)=>D.int (i:Int)) [none,some (_g (P.map (_qsc (cb P))))]=some (st.map fun _=>O.sh (.bl true)):=by
  have:=_l (inj:=fun (i:Nat)=>D.int (i:Int)) (g:=geN 0) (c:=qT) (e:=oE (f2 dEq (f2 dIx (_qt7 1) (_qt7 0)) (fC (.int 0)))) (fun ρ=>∃ d,ρ=[d,some (_g (P.map (_qsc (cb P))))]) (fun _=>true) (fun _=>O.sh (.bl true)) st [none,some (_g (P.map (_qsc (cb P))))] ⟨_,rfl⟩ (by
   rintro i hi ρ ⟨d,rfl⟩;obtain ⟨a,b⟩:=hstm i hi;have hx:=_qb8 (l:=P.map (_qsc (cb P))) (i:=i) (by simp; omega);have hv:(P.map (_qsc (cb P)))[i]'(by simp; omega)=0:=by
    rw [getElem_map]
    have:P[i]'(by omega)=0:=by rw [<- b,pAt,_qv (by omega)]
    rw [this,_qfx]
   rw [hv] at hx;refine ⟨_,rfl,⟨_,rfl⟩,rfl,fun _=>?_⟩;clear hv;generalize P.map (_qsc (cb P))=T at *;simp [hx])
  rwa [List.filter_eq_self.mpr (by simp)] at this
 have hd:oDs (st.map fun (i:Nat)=>O.sh (.int (i:Int)))=some (st.map fun (i:Nat)=>D.int (i:Int)):=_qt (fun p=>by simp) st;have ho:_qst (st.map fun (i:Nat)=>O.sh (.int (i:Int)))=true:=_J8 (fun _=>by simp) st;have hd2:oDs (st.map fun _=>O.sh (.bl true))=some (st.map fun _=>D.bl true):=_qt (fun c=>by simp) st;have hb2:_qcr (st.map fun _=>D.bl true)=some (st.map fun _=>true):=_xf (fun _:Nat=>true) st;have heq:_qs8 h (P.map (_qsc (cb P))) (_qtw h [c])=_qs9 h * (cb P:Nat):=by
  have e:=_qai h P (cb P) (fun q hq=>_qhb hq) (_qtw h [c]) (fun i hi=>by have:=_v h [c] i hi; omega);have e3:_z (_qtw h [c]) (fun i=>(wAt h i:Rat) * pAt P i)=(_qs9 h:Rat):=hp;rw [e3] at e;have e2:((_qs9 h * ((cb P:Nat):Int):Int):Rat)=(_qs9 h:Rat) * ((cb P:Nat):Rat):=by simp [_xa]
  rw [<- e2] at e
  exact_mod_cast e
 have pf:=_kt (_qtw h [c]);have pf2:=_kt st;have hn:(h.length:Int) <= 100000:=by omega
 have iT:imm (_g (P.map (_qsc (cb P))))=false:=by simp
 generalize P.map (_qsc (cb P))=T at *;simp [_jp,_qsk,_qsi,ini,_Qm,l1,b1,t1,_qe6,_qu4,hn,mkD,pf,hcs,ho,hd,pf2,_qa,lst1,hstl,hca,hd2,_qtk,hb2,w1,w2,m1,heq]
def _qtv (pp:List Ent):List Rat:=pp.flatMap (·.2)
theorem _qk8 (P:List Rat):_qsy (P.map frD)=true:=_Yy.mpr fun d m=>by obtain ⟨q,_,rfl⟩:=List.mem_map.mp m; simp
theorem _qfq {h:List _qu2} {t:Nat}:∀ {pp:List Ent},(∀ e∈pp,e.2.length=h.length)->(_qtv pp).length=pp.length * h.length
 | [],_=>by simp [_qtv]
 | e :: pp,k=>by
  have h1:=k e (by simp);have h2:=_qfq (t:=t) (pp:=pp) fun x m=>k x (by simp [m]);simp only [_qtv,List.flatMap_cons,length_append,length_cons] at h2 ⊢;rw [h1,h2,Nat.add_mul,Nat.one_mul,Nat.add_comm]
theorem _qhc (h:List _qu2) (hh:h.length <= 100) {t:Nat} (ht:t <= 20) (pp:List Ent) (k:PaperOk h t pp):_qb [_qsq pp]=some (.int (cb (_qtv pp):Nat)):=by
 obtain ⟨ρ',e1,c,c',e2⟩:=_ju (inj:=_qtc) (g:=gTp [(gN 2),(gN 3)]) (b:=_je) (fun pre ρ=>∃ c c',ρ=[some (.sh (_qsq pp)),some (ow ((_qtv pre).map frD)),c,c']) pp [some (.sh (_qsq pp)),some (ow []),none,none] ⟨_,_,rfl⟩ (by
  rintro pre e post ρ hpp ⟨c,c',rfl⟩;have he:e∈pp:=by rw [hpp]; simp
  have hl:=k.len e he;have hpl:pre.length <= 6:=by have:=congrArg List.length hpp; have:=k.small; simp at *; omega
  have ha:(_qtv pre).length=pre.length * h.length:=_qfq (t:=t) fun x m=>k.len x (by rw [hpp]; simp [m]);have hb:(_qtv pre).length <= 600:=by
   rw [ha];exact le_trans (Nat.mul_le_mul hpl hh) (by decide)
  have hg:gTp [(gN 2),(gN 3)] (_qtc e) [some (.sh (_qsq pp)),some (ow ((_qtv pre).map frD)),c,c']=some [some (.sh (_qsq pp)),some (ow ((_qtv pre).map frD)),some (.sh (.int e.1)),some (.sh (_Z e.2))]:=rfl;have em:_qtv (pre++[e])=_qtv pre++e.2:=by simp [_qtv]
  rw [em];have hll:(_qtv pre).length + e.2.length <= _qu4:=by simp only [_qu4]; omega
  have im:=_qk8 e.2;generalize _qtv pre=M at *;simp only [_qu6,hg];simp [_je,bExt,_qsr,_Z,im,atO,gExt,ow,hll,-map_append]
  simp)
 have b1:=_qbr (_qtv pp) k.sized ht;have fo:D.lst ((_qtv pp).map frD)=_Z (_qtv pp):=rfl;generalize _qtv pp=M at *;simp [_qb,_qsk,_qsi,ini,_j9,_qu4,_qtu,e1,e2,fo,b1]
def _qsb (b:Nat) (pp:List Ent) (i:Nat):Int:=(pp.map fun e=>_qsc b (pAt e.2 i)).sum
def _zc (n:Nat) (seats:Int) (b:Nat) (pp:List Ent):List Int:=(List.range n).map fun i=>seats * (b:Int) - _qsb b pp i
theorem _Wh (h:List _qu2) (hh:h.length <= 100) {t:Nat} (ht:t <= 20) (pp:List Ent) (k:PaperOk h t pp) (seats:Int) (hse:seats.natAbs < 2 ^ 63) (b:Nat) (hb:b < 2 ^ 1700):_zo [_t h,.int seats,_qsq pp,.int (b:Int)]=some (_g (_zc h.length seats b pp)):=by
 have mm:_qte (.int seats) (.int (b:Int))=some (.int (seats * (b:Int))):=_qf4 hse;have hc0:_ji (geN 0) qT (oE (f2 _qte (_qt7 1) (_qt7 2))) (h.map _xy) [none,some (.int seats),some (.int (b:Int))]=some (h.map fun _=>O.sh (.int (seats * (b:Int)))):=by
  have:=_l (inj:=_xy) (g:=geN 0) (c:=qT) (e:=oE (f2 _qte (_qt7 1) (_qt7 2))) (fun ρ=>∃ d,ρ=[d,some (.int seats),some (.int (b:Int))]) (fun _=>true) (fun _=>O.sh (.int (seats * (b:Int)))) h [none,some (.int seats),some (.int (b:Int))] ⟨_,rfl⟩ (by
   rintro p _ ρ ⟨d,rfl⟩;exact ⟨_,rfl,⟨_,rfl⟩,rfl,fun _=>by simp [mm]⟩)
  rwa [List.filter_eq_self.mpr (by simp)] at this
 have e0:(h.map fun _=>O.sh (.int (seats * (b:Int))))=(_zc h.length seats b []).map fun n=>O.sh (.int n):=by
  apply ext_getElem
  ·simp [_zc]
  ·intro i h1 h2; simp [_zc,_qsb]
 rw [e0] at hc0;have hl':h.length <= 100000:=by omega
 have hd:∀ T:List Int,oDs (T.map fun n=>O.sh (.int n))=some (T.map .int):=fun T=>_qt (fun p=>by simp) T;have ho:∀ T:List Int,_qst (T.map fun n=>O.sh (.int n))=true:=fun T=>_J8 (fun p=>by simp) T;have fo:∀ T:List Int,D.lst (T.map .int)=_g T:=fun _=>rfl;obtain ⟨ρ',e1,c5,c6,e2⟩:=_ju (inj:=_qtc) (g:=gTp [(gN 5),(gN 6)]) (b:=_vy) (fun pre ρ=>∃ c c',ρ=[some (.sh (_t h)),some (.sh (.int seats)),some (.sh (_qsq pp)),some (.sh (.int (b:Int))),some (.lst ((_zc h.length seats b pre).map fun n=>O.sh (.int n))),c,c']) pp [some (.sh (_t h)),some (.sh (.int seats)),some (.sh (_qsq pp)),some (.sh (.int (b:Int))),some (.lst ((_zc h.length seats b []).map fun n=>O.sh (.int n))),none,none] ⟨_,_,rfl⟩ (by
  rintro pre e post ρ hpp ⟨c,c',rfl⟩;have he:e∈pp:=by rw [hpp]; simp
  have hl:=k.len e he;have t1:=_qaj e.2 (_v9 k he) ht b hb (by omega);have hg:gTp [(gN 5),(gN 6)] (_qtc e) [some (.sh (_t h)),some (.sh (.int seats)),some (.sh (_qsq pp)),some (.sh (.int (b:Int))),some (.lst ((_zc h.length seats b pre).map fun n=>O.sh (.int n))),c,c']=some [some (.sh (_t h)),some (.sh (.int seats)),some (.sh (_qsq pp)),some (.sh (.int (b:Int))),some (.lst ((_zc h.length seats b pre).map fun n=>O.sh (.int n))),some (.sh (.int e.1)),some (.sh (_Z e.2))]:=rfl;have zp:_qs7 ((_zc h.length seats b pre).map D.int) ((e.2.map (_qsc b)).map D.int)=(List.range h.length).map fun i=>D.tup [.int (seats * (b:Int) - _qsb b pre i),.int (_qsc b (pAt e.2 i))]:=by
   unfold _qs7;apply ext_getElem
   ·simp [_zc,hl]
   ·intro i h1 h2
    simp [hl] at h2;simp [_zc,pAt,show i < e.2.length by omega]
  have hcz:_ji (_qt4 [(geN 0),(geN 1)]) qT (oE (f2 dSub (_qt7 0) (_qt7 1))) (_qs7 ((_zc h.length seats b pre).map D.int) ((e.2.map (_qsc b)).map D.int)) [none,none]=some ((_zc h.length seats b (pre++[e])).map fun n=>O.sh (.int n)):=by
   rw [zp]
   have:=_l (inj:=fun i:Nat=>D.tup [.int (seats * (b:Int) - _qsb b pre i),.int (_qsc b (pAt e.2 i))]) (g:=_qt4 [(geN 0),(geN 1)]) (c:=qT) (e:=oE (f2 dSub (_qt7 0) (_qt7 1))) (fun ρ=>∃ d d',ρ=[d,d']) (fun _=>true) (fun i=>O.sh (.int (seats * (b:Int) - _qsb b (pre++[e]) i))) (List.range h.length) [none,none] ⟨_,_,rfl⟩ (by
    rintro i hi ρ ⟨d,d',rfl⟩;refine ⟨[some (.int (seats * (b:Int) - _qsb b pre i)),some (.int (_qsc b (pAt e.2 i)))],rfl,⟨_,_,rfl⟩,rfl,fun _=>?_⟩
    have:_qsb b (pre++[e]) i=_qsb b pre i + _qsc b (pAt e.2 i):=by simp [_qsb]
    rw [this]
    simp
    omega)
   rw [List.filter_eq_self.mpr (by simp)] at this;rw [this,_zc,map_map];rfl
  have hlen:(_zc h.length seats b pre).length <= 100000:=by simp [_zc]; omega
  have hlen2:(e.2.map (_qsc b)).length <= 100000:=by simp; omega
  generalize _zc h.length seats b (pre++[e])=T2 at *;generalize _zc h.length seats b pre=T1 at *;generalize e.2.map (_qsc b)=T3 at *;simp only [_qu6,hg];simp [_vy,hd,ho,fo,t1,_qcg,mkD,_qu4,hlen,hlen2,hcz])
 generalize _zc h.length seats b []=T0 at *;generalize _zc h.length seats b pp=T1 at *;simp [_zo,_qsk,_qsi,ini,_Ql,_qa,mkD,hl',_qu4,hc0,ho,_qtu,e1,e2,hd,fo]
theorem _qgf (h:List _qu2) (kh:okH h) (hh:h.length <= 100) (pp:List Ent) (hp:pp.length <= 1000):_Xb [_t h,_qsq pp]=some (_g ((_k h).filter fun c=>!has (pp.map (·.1)) c)):=by
 have hc:_ji (geN 0) qT (oE (f2 dIx (_qt7 0) (fC (.int 0)))) (pp.map _qtc) [none]=some ((pp.map (·.1)).map fun n=>O.sh (.int n)):=by
  have:=_l (inj:=_qtc) (g:=geN 0) (c:=qT) (e:=oE (f2 dIx (_qt7 0) (fC (.int 0)))) (fun ρ=>∃ d,ρ=[d]) (fun _=>true) (fun e=>O.sh (.int e.1)) pp [none] ⟨_,rfl⟩ (by
   rintro e _ ρ ⟨d,rfl⟩
   have:dIx (_qtc e) (.int 0)=some (.int e.1):=rfl
   exact ⟨_,rfl,⟨_,rfl⟩,rfl,fun _=>by simp [this]⟩)
  rw [List.filter_eq_self.mpr (by simp)] at this;rw [this,map_map];rfl
 have hd:∀ T:List Int,oDs (T.map fun n=>O.sh (.int n))=some (T.map .int):=fun T=>_qt (fun p=>by simp) T;have ho:∀ T:List Int,_qst (T.map fun n=>O.sh (.int n))=true:=fun T=>_J8 (fun p=>by simp) T;have fo:∀ T:List Int,D.lst (T.map .int)=_g T:=fun _=>rfl;have lk:=_Zu h kh hh;have hc2:_ji (geN 0) (qV (f2 _Q8 (_qt7 0) (_qt7 1))) (oE (_qt7 0)) ((_k h).map D.int) [none,some (_g (pp.map (·.1)))]=some (((_k h).filter fun c=>!has (pp.map (·.1)) c).map fun n=>O.sh (.int n)) :=
  _l (inj:=D.int) (fun ρ=>∃ d,ρ=[d,some (_g (pp.map (·.1)))]) (fun c=>!has (pp.map (·.1)) c) (fun n=>O.sh (.int n)) (_k h) _ ⟨_,rfl⟩ (by
   rintro c _ ρ ⟨d,rfl⟩;exact ⟨_,rfl,⟨_,rfl⟩,by simp,fun _=>by simp⟩)
 have h1:pp.length <= 100000:=by omega
 have h2:(_k h).length <= 100000:=by have:=_P h; omega
 generalize pp.map (·.1)=M at *;simp [_Xb,_qsk,_qsi,ini,_qaa,_qa,mkD,h1,_qu4,hc,hd,ho,fo,lk,h2,hc2]
theorem _qis {b:Nat} {pp:List Ent} (hb:∀ e∈pp,∀ q∈e.2,q.den ∣ b) {i:Nat} (hi:∀ e∈pp,i < e.2.length):(_qsb b pp i:Rat)=(pp.map fun e=>pAt e.2 i).sum * (b:Rat):=by
 induction pp with
 | nil=>simp [_qsb]
 | cons e pp ih =>
  have h1:=ih (fun x m=>hb x (by simp [m])) (fun x m=>hi x (by simp [m]));have e1:_qsb b (e :: pp) i=_qsc b (pAt e.2 i) + _qsb b pp i:=by simp [_qsb]
  have e2:=_qd2 (hb e (by simp) _ (_R (hi e (by simp))));rw [e1];have e3:((_qsc b (pAt e.2 i) + _qsb b pp i:Int):Rat)=(_qsc b (pAt e.2 i):Rat) + (_qsb b pp i:Rat):=by simp
  rw [e3,e2,h1,map_cons,sum_cons];grind
structure PaysL (h:List _qu2) (seats:Int) (pp:List Ent):Prop where
 zero:∀ e∈pp,∀ i,i < h.length->lkB h i e.1=false->pAt e.2 i=0
 price:∀ e∈pp,_qsf h e.2 e.1=(_qs9 h:Rat)
 left:∀ i,i < h.length->0 <= (seats:Rat) - (pp.map fun e=>pAt e.2 i).sum
def lessP (h:List _qu2) (seats:Int) (pp:List Ent):Prop:=∀ c∈_k h,c ∉ pp.map (·.1)->_z (_qtw h [c]) (fun i=>(wAt h i:Rat) * ((seats:Rat) - (pp.map fun e=>pAt e.2 i).sum)) < (_qs9 h:Rat)
theorem _qgv (h:List _qu2) (kh:okH h) (k:okW h) {t:Nat} (ht:t <= 20) (pp:List Ent) (ok:PaperOk h t pp) (seats:Int) (hse:1 <= seats/\seats <= 6) (py:PaysL h seats pp):∃ b:Bool,_O [_t h,.int seats,_qsq pp]=some (.bl b)/\(b=true ↔ lessP h seats pp):=by
 have hh:=k.len;have hs1:seats.natAbs < 2 ^ 63:=lt_of_le_of_lt (show _ <= 6 by omega) (by decide);have b1:=_qhc h (by omega) ht pp ok;have hb:cb (_qtv pp) < 2 ^ 1700:=ok.sized.cb ht;have hbp:=_qa3 (_qtv pp);have hdv:∀ e∈pp,∀ q∈e.2,q.den ∣ cb (_qtv pp):=fun e he q hq=>_qhb (List.mem_flatMap.mpr ⟨e,he,hq⟩);have tl:=_Wh h (by omega) ht pp ok seats hs1 (cb (_qtv pp)) hb;have ot:=_qgf h kh (by omega) pp (by have:=ok.small; omega);have w2:=_xl h (by omega);have hN:=_Zh k;have zN:Sz 77 (_qs9 h):=by show _ < _; omega
 have zb:Sz 1700 ((cb (_qtv pp):Nat):Int):=by show _ < _; rw [Int.natAbs_natCast]; exact hb
 have m1:=_q9 (zN.big (by decide)) (zb.big (by decide));generalize hB:cb (_qtv pp)=B at *;have hBr:(0:Rat) < (B:Rat):=by exact_mod_cast hbp
 have tr:∀ i,i < h.length->((seats * (B:Int) - _qsb B pp i:Int):Rat)=((seats:Rat) - (pp.map fun e=>pAt e.2 i).sum) * (B:Rat):=fun i hi=>by
  have e1:=_qis hdv (i:=i) fun e he=>by rw [ok.len e he]; exact hi
  have e2:((seats * (B:Int) - _qsb B pp i:Int):Rat)=(seats:Rat) * (B:Rat) - (_qsb B pp i:Rat):=by simp [_xa]
  rw [e2,e1];grind
 have nn:∀ i,i < h.length->0 <= seats * (B:Int) - _qsb B pp i:=fun i hi=>by
  have h1:=Rat.mul_nonneg (py.left i hi) (Rat.le_of_lt hBr);rw [<- tr i hi] at h1
  exact_mod_cast h1
 have tn:∀ i,i < h.length->0 <= _qsb B pp i:=fun i hi=>by
  have:∀ l:List Ent,(∀ e∈l,e∈pp)->0 <= _qsb B l i:=by
   intro l
   induction l with
   | nil=>intro _; simp [_qsb]
   | cons e l ih =>
    intro hl;have h1:=ih fun x m=>hl x (by simp [m]);have he:=hl e (by simp);have hq:=_Jb (_v9 ok he) _ (_R (P:=e.2) (i:=i) (by rw [ok.len e he]; exact hi));have h0:0 <= _qsc B (pAt e.2 i):=Int.mul_nonneg (Rat.num_nonneg.mpr hq) (Int.natCast_nonneg _);have e1:_qsb B (e :: l) i=_qsc B (pAt e.2 i) + _qsb B l i:=by simp [_qsb]
    omega
  exact this pp fun _ m=>m
 have hTl:(_zc h.length seats B pp).length=h.length:=by simp [_zc]
 have hTm:∀ x∈_zc h.length seats B pp,0 <= x/\Sz 3600 x:=fun x hx=>by
  obtain ⟨i,hi,rfl⟩:=List.mem_map.mp hx;have hi':=List.mem_range.mp hi;refine ⟨nn i hi',?_⟩;have zs:Sz 1703 (seats * (B:Int)):=by
   have:Sz 3 seats:=by show _ < _; omega
   exact (this.mul zb).mono (by decide)
  exact (zs.le (by have:=nn i hi'; have:=tn i hi'; omega)).mono (by decide)
 have hTa:∀ i,i < h.length->tAt (_zc h.length seats B pp) i=seats * (B:Int) - _qsb B pp i:=fun i hi=>by
  rw [tAt,_qv (by omega)];simp [_zc]
 obtain ⟨O1,hO1⟩:∃ O1,(_k h).filter (fun c=>!has (pp.map (·.1)) c)=O1:=⟨_,rfl⟩;have hOm:∀ c∈O1,c∈_k h/\c ∉ pp.map (·.1):=fun c hc=>by
  rw [<- hO1] at hc;obtain ⟨hcl,hcn⟩:=List.mem_filter.mp hc;exact ⟨hcl,fun m=>by rw [_j1.mpr m] at hcn; simp at hcn⟩
 have hl2:O1.length <= 100000:=by rw [<- hO1]; exact le_trans (length_filter_le _ _) (by have:=_P h; omega)
 rw [hO1] at ot;have hc1:_ji (geN 0) qT (oE (f2 dGe (_qt7 0) (fC (.int 0)))) ((_zc h.length seats B pp).map D.int) [none]=some ((_zc h.length seats B pp).map fun _=>O.sh (.bl true)):=by
  have:=_l (inj:=D.int) (g:=geN 0) (c:=qT) (e:=oE (f2 dGe (_qt7 0) (fC (.int 0)))) (fun ρ=>∃ d,ρ=[d]) (fun _=>true) (fun _=>O.sh (.bl true)) (_zc h.length seats B pp) [none] ⟨_,rfl⟩ (by
   rintro x hx ρ ⟨d,rfl⟩
   have:=(hTm x hx).1
   exact ⟨_,rfl,⟨_,rfl⟩,rfl,fun _=>by simp [this]⟩)
  rwa [List.filter_eq_self.mpr (by simp)] at this
 have tt:∀ {α:Type} (l:List α),oDs (l.map fun _=>O.sh (.bl true))=some (l.map fun _=>D.bl true):=fun l=>_qt (fun c=>by simp) l;have tb:∀ {α:Type} (l:List α),_qcr (l.map fun _=>D.bl true)=some (l.map fun _=>true):=fun l=>_xf (fun _=>true) l;have hiff:∀ c∈O1,(_qs8 h (_zc h.length seats B pp) (_qtw h [c]) < _qs9 h * (B:Int) ↔ _z (_qtw h [c]) (fun i=>(wAt h i:Rat) * ((seats:Rat) - (pp.map fun e=>pAt e.2 i).sum)) < (_qs9 h:Rat)):=fun c hc=>by
  have e:(_qs8 h (_zc h.length seats B pp) (_qtw h [c]):Rat)=_z (_qtw h [c]) (fun i=>(wAt h i:Rat) * ((seats:Rat) - (pp.map fun e=>pAt e.2 i).sum)) * (B:Rat):=by
   unfold _qs8;rw [_qbc,map_map,<- _qy];unfold _z;refine congrArg List.sum (map_congr_left fun i hi=>?_);have hi':=_v h [c] i hi;simp only [Function.comp_def];rw [hTa i hi'];have e4:((wAt h i * (seats * (B:Int) - _qsb B pp i):Int):Rat)=(wAt h i:Rat) * ((seats * (B:Int) - _qsb B pp i:Int):Rat):=by simp
   rw [e4,tr i hi',Rat.mul_assoc]
  have e5:(_qs9 h:Rat) * (B:Rat)=((_qs9 h * (B:Int):Int):Rat):=by simp [_xa]
  rw [<- Rat.intCast_lt_intCast,e,<- e5];refine ⟨fun z=>?_,fun z=>Rat.mul_lt_mul_of_pos_right z hBr⟩;false_or_by_contra;rename_i y
  have:=Rat.mul_le_mul_of_nonneg_right (Rat.not_lt.mp y) (Rat.le_of_lt hBr)
  grind
 have hc2:_ji (geN 0) qT (oE (f2 dLt (_A 3 _q5 (_d (_qt7 2) (_d (_qt7 3) (_d (fL (_Xa 2 _X (_d (_qt7 2) (_d (_qt7 0) _qty)))) _qty)))) (_qt7 1))) ((O1.map D.int)) [none,some (.int (_qs9 h * (B:Int))),some (_t h),some (_g (_zc h.length seats B pp))]=some (O1.map fun c=>O.sh (.bl (decide (_qs8 h (_zc h.length seats B pp) (_qtw h [c]) < _qs9 h * (B:Int))))):=by
  have:=_l (inj:=D.int) (g:=geN 0) (c:=qT) (e:=(oE (f2 dLt (_A 3 _q5 (_d (_qt7 2) (_d (_qt7 3) (_d (fL (_Xa 2 _X (_d (_qt7 2) (_d (_qt7 0) _qty)))) _qty)))) (_qt7 1)))) (fun ρ=>∃ d,ρ=[d,some (.int (_qs9 h * (B:Int))),some (_t h),some (_g (_zc h.length seats B pp))]) (fun _=>true) (fun c=>O.sh (.bl (decide (_qs8 h (_zc h.length seats B pp) (_qtw h [c]) < _qs9 h * (B:Int))))) O1 [none,some (.int (_qs9 h * (B:Int))),some (_t h),some (_g (_zc h.length seats B pp))] ⟨_,rfl⟩ (by
   rintro c hc ρ ⟨d,rfl⟩;obtain ⟨hcl,hcn'⟩:=hOm c hc;have l1:=_z1 h c (by omega);rw [_Z3] at l1;have pf:=_kt (_qtw h [c]);have hlen:=_jg h [c];have w1:=_Jn h k (_zc h.length seats B pp) (fun x hx=>(hTm x hx).2) (_qtw h [c]) (_v h [c]) (fun i hi=>by rw [hTl]; exact _v h [c] i hi) (by omega);refine ⟨_,rfl,⟨_,rfl⟩,rfl,fun _=>?_⟩;generalize _zc h.length seats B pp=T at *;simp [l1,pf,w1])
  rwa [List.filter_eq_self.mpr (by simp)] at this
 have hl1:(_zc h.length seats B pp).length <= 100000:=by rw [hTl]; omega
 refine ⟨O1.all fun c=>decide (_qs8 h (_zc h.length seats B pp) (_qtw h [c]) < _qs9 h * (B:Int)),?_,?_⟩
 ·have tb2:=_xf (fun c=>decide (_qs8 h (_zc h.length seats B pp) (_qtw h [c]) < _qs9 h * (B:Int))) O1
  have td2:oDs (O1.map fun c=>O.sh (.bl (decide (_qs8 h (_zc h.length seats B pp) (_qtw h [c]) < _qs9 h * (B:Int)))))=some (O1.map fun c=>D.bl (decide (_qs8 h (_zc h.length seats B pp) (_qtw h [c]) < _qs9 h * (B:Int)))):=_qt (fun c=>by simp) O1;have ea:∀ f:Int->Bool,((O1.map f).all id)=O1.all f:=fun f=>by rw [all_map]; rfl
  generalize _zc h.length seats B pp=T at *;generalize (fun c=>decide (_qs8 h T (_qtw h [c]) < _qs9 h * (B:Int)))=ff at *;simp [_O,_qsk,_qsi,ini,_jd,b1,tl,w2,m1,_qa,mkD,hl1,_qu4,hc1,tt,_qtk,tb,ot,hl2,hc2,td2,tb2,-all_eq_true,-all_map]
  simp
 ·rw [all_eq_true]
  refine ⟨fun z c hc hn=>(hiff c ?_).mp (of_decide_eq_true (z c ?_)),fun z c hc=>decide_eq_true ((hiff c hc).mpr (z c (hOm c hc).1 (hOm c hc).2))⟩ <;>
  ·rw [<- hO1]
   refine List.mem_filter.mpr ⟨hc,?_⟩;cases hh:has (pp.map (·.1)) c with
   | true=>exact absurd (_j1.mp hh) hn
   | false=>rfl
theorem _qhu (h:List _qu2) (kh:okH h) (k:okW h) {t:Nat} (ht:t <= 20) (pp:List Ent) (ok:PaperOk h t pp) (seats:Int) (hse:1 <= seats/\seats <= 6) (py:PaysL h seats pp):∃ b:Bool,_qci [_t h,.int seats,_qsq pp]=some (.bl b)/\(b=true ↔ lessP h seats pp):=by
 have hh:=k.len;have p1:=_qck h (by omega) pp ok;obtain ⟨b,l1,l2⟩:=_qgv h kh k ht pp ok seats hse py;refine ⟨b,?_,l2⟩;have hc:_ji (_qt4 [(geN 0),(geN 1)]) qT (oE (_A 3 _jp (_d (_qt7 2) (_d (_qt7 0) (_d (_qt7 1) _qty))))) (pp.map _qtc) [none,none,some (_t h)]=some (pp.map fun _=>O.sh (.bl true)):=by
  have:=_l (inj:=_qtc) (g:=_qt4 [(geN 0),(geN 1)]) (c:=qT) (e:=oE (_A 3 _jp (_d (_qt7 2) (_d (_qt7 0) (_d (_qt7 1) _qty))))) (fun ρ=>∃ d d',ρ=[d,d',some (_t h)]) (fun _=>true) (fun _=>O.sh (.bl true)) pp [none,none,some (_t h)] ⟨_,_,rfl⟩ (by
   rintro e he ρ ⟨d,d',rfl⟩;have ib:=_Yw h k e.1 e.2 (_v9 ok he) ht (ok.len e he) (py.zero e he) (py.price e he);refine ⟨[some (.int e.1),some (_Z e.2),some (_t h)],rfl,⟨_,_,rfl⟩,rfl,fun _=>by simp [ib]⟩)
  rwa [List.filter_eq_self.mpr (by simp)] at this
 have tt:oDs (pp.map fun _=>O.sh (.bl true))=some (pp.map fun _=>D.bl true):=_qt (fun c=>by simp) pp;have tb:_qcr (pp.map fun _=>D.bl true)=some (pp.map fun _=>true):=_xf (fun _=>true) pp;have hl:pp.length <= 100000:=by have:=ok.small; omega
 simp [_qci,_qsk,_qsi,ini,_ql5,p1,_qa,mkD,hl,_qu4,hc,tt,_qtk,tb,l1]
def _qtd (P Q:List Rat):List Rat:=(List.range P.length).map fun i=>pAt P i - pAt Q i
def payO (r:Int × List Rat):O:=.tup [.sh (.int r.1),ow (r.2.map frD)]
def payD (r:Int × List Rat):D:=.tup [.int r.1,.lst (r.2.map frD)]
def _qj7 (P0:List Rat) (R:List _qu1) (t:Nat):Int × List Rat:=((R.getD t (0,0,[])).1,_qtd (_qsp P0 R t) (R.getD t (0,0,[])).2.2)
def _ki (P0:List Rat) (R:List _qu1) (n:Nat):List (Int × List Rat):=(List.range n).map (_qj7 P0 R)
theorem _qdo (P0:List Rat) (R:List _qu1) (n:Nat):_ki P0 R (n + 1)=_ki P0 R n++[_qj7 P0 R n]:=by simp [_ki,List.range_succ]
structure RF (h:List _qu2) (P0:List Rat) (R:List _qu1):Prop where
 p0:P0.length=h.length
 lenR:R.length <= 6
 len:∀ t row,R[t]?=some row->(_qsp P0 R t).length=h.length/\row.2.2.length=h.length
 bd:∀ t row,R[t]?=some row->(∀ q∈_qsp P0 R t,Bd 2000 2000 q)/\∀ q∈row.2.2,Bd 2000 2000 q
 dif:∀ t row,R[t]?=some row->∀ q∈_qtd (_qsp P0 R t) row.2.2,0 <= q/\Bd 2000 2000 q
theorem _qg9 {h:List _qu2} (kh:okH h) (k:okW h) (hne:h ≠ []) (seats:Int) (hse:1 <= seats/\seats <= 6):RF h (_i h seats) (_j h 6 (_i h seats) []):=by
 have hs:=_js h (seats:=seats) (by omega) hse.2;have hl:(_i h seats).length=h.length:=by simp [_i]
 have hlc:(_Ky h []).length <= 6:=le_trans (length_filter_le _ _) (_P h);obtain ⟨r1,r2,r3⟩:=_zl k 6 (_i h seats) [] 1 ⟨hl,hs⟩ (by decide) hlc;have hc:=_Jz k hne seats hse;have hN:=_j3 k hne;generalize _j h 6 (_i h seats) []=R at *;have hR:R.length <= 6:=by omega
 have ht:∀ t row,R[t]?=some row->1 + t <= 18:=fun t row e=>by
  have:=(List.getElem?_eq_some_iff.mp e).1; omega
 refine ⟨hl,hR,fun t row e=>?_,fun t row e=>?_,fun t row e q hq=>?_⟩
 ·obtain ⟨a,b⟩:=r1 t row e
  exact ⟨a.len,by rw [b.paid,_Vk]; exact a.len⟩
 ·obtain ⟨a,b⟩:=r1 t row e
  have hz:=_J3 k a.len a.size (ht t row e) b.liked hN b.rate;refine ⟨fun q hq=>(a.size.bd (by have:=ht t row e; omega) hq).mono (by decide) (by decide),fun q hq=>?_⟩;rw [b.paid] at hq;exact (hz.bd (by have:=ht t row e; omega) hq).mono (by decide) (by decide)
 ·obtain ⟨a,b⟩:=r1 t row e
  have rb:=_qdt k a.len a.size (ht t row e) b.liked hN b.rate;obtain ⟨_,_,r0,_⟩:=_v6 k a.len a.size (ht t row e) b.liked hN b.rate;obtain ⟨i,hi,rfl⟩:=List.mem_map.mp hq;have hi:=List.mem_range.mp hi;have pn:=a.nonneg i;have pb:Bd 2000 2000 (pAt (_qsp (_i h seats) R t) i):=(a.size.bd (by have:=ht t row e; omega) (_R hi)).mono (by decide) (by decide);rw [b.paid,_Zq hi];split
  ·have e1:pAt (_qsp (_i h seats) R t) i - (pAt (_qsp (_i h seats) R t) i - min (pAt (_qsp (_i h seats) R t) i) row.2.1)=min (pAt (_qsp (_i h seats) R t) i) row.2.1:=by grind
   rw [e1]
   by_cases hle:pAt (_qsp (_i h seats) R t) i <= row.2.1
   ·have e2:min (pAt (_qsp (_i h seats) R t) i) row.2.1=pAt (_qsp (_i h seats) R t) i:=by grind
    rw [e2]; exact ⟨pn,pb⟩
   ·have e2:min (pAt (_qsp (_i h seats) R t) i) row.2.1=row.2.1:=by grind
    rw [e2]; exact ⟨Rat.le_of_lt r0,rb⟩
  ·have e1:∀ x:Rat,x - x=0:=fun x=>by grind
   rw [e1];exact ⟨Rat.le_refl,by decide,by decide⟩
theorem _qil {P Q:List Rat} (hl:P.length=Q.length):_qs7 (P.map frD) (Q.map frD)=(List.range P.length).map fun i=>D.tup [frD (pAt P i),frD (pAt Q i)]:=by
 apply ext_getElem
 ·simp [_qs7,hl]
 ·intro i h1 h2
  have hi:i < P.length:=by simpa using h2
  have hi':i < Q.length:=by omega
  simp [_qs7,hi,hi',pAt]
theorem _qks {P Q:List Rat} (hl:P.length=Q.length) (hP:∀ q∈P,Bd 2000 2000 q) (hQ:∀ q∈Q,Bd 2000 2000 q) :
  _ji (_qt4 [(geN 0),(geN 1)]) qT (oE (_A 2 _vp (_d (_qt7 0) (_d (_qt7 1) _qty)))) (_qs7 (P.map frD) (Q.map frD)) [none,none]=some (((_qtd P Q).map frD).map O.sh):=by
 rw [_qil hl]
 have:=_l (inj:=fun i=>D.tup [frD (pAt P i),frD (pAt Q i)]) (g:=_qt4 [(geN 0),(geN 1)]) (c:=qT) (e:=oE (_A 2 _vp (_d (_qt7 0) (_d (_qt7 1) _qty)))) (fun ρ=>∃ a b,ρ=[a,b]) (fun _=>true) (fun i=>O.sh (frD (pAt P i - pAt Q i))) (List.range P.length) [none,none] ⟨_,_,rfl⟩ (by
  rintro i hi ρ ⟨a,b,rfl⟩;have hi:=List.mem_range.mp hi;have m:=_qi2 (hP _ (_R hi)) (hQ _ (_R (by omega:i < Q.length)));exact ⟨_,rfl,⟨_,_,rfl⟩,rfl,fun _=>by simp [m]⟩)
 rw [this,List.filter_eq_self.mpr (by simp)];simp [_qtd]
theorem _qok (r:Int × List Rat):oD (payO r)=some (payD r):=by simp [payO,payD]
theorem _qi9 (l:List Rat):_qsy (l.map frD)=true:=by
 induction l with
 | nil=>simp
 | cons q l ih=>simp [ih,frD]
theorem _qel (P:List Rat):imm (_Z P)=false:=by simp [_Z]
theorem R_at {α:Type} {R pre post:List α} {a:α} (e:R=pre++a :: post):R[pre.length]?=some a:=by rw [e]; simp
theorem _qbf {α:Type} {R:List α} {t:Nat} {a d:α} (e:R[t]?=some a):R.getD t d=a:=by simp [List.getD,e]
theorem _qjc (h:List _qu2) (kh:okH h) (k:okW h) (seats:Int) (hse:1 <= seats/\seats <= 6) (R:List _qu1) (hR:_j h 6 (_i h seats) []=R) (F:RF h (_i h seats) R) :
  _vn [_t h,.int seats]=some (.lst ((_ki (_i h seats) R R.length).map payO)):=by
 have hr:=_qar h kh k seats (by omega) hse.2;rw [hR] at hr;have hf:=_qeu h (by have:=k.len; omega) seats;have hlR:=F.lenR;obtain ⟨ρ',e1,x4,x5,x6,rfl⟩:=_ju (inj:=_qsl) (g:=gTp [(gN 4),(gN 5),(gN 6)]) (b:=_k1) (fun pre ρ=>∃ x4 x5 x6:Option O,ρ=[some (.sh (_t h)),some (.sh (.int seats)),some (.sh (_Z (_qsp (_i h seats) R pre.length))),some (.lst ((_ki (_i h seats) R pre.length).map payO)),x4,x5,x6]) R
  [some (.sh (_t h)),some (.sh (.int seats)),some (.sh (_Z (_i h seats))),some (.lst []),none,none,none] ⟨none,none,none,by simp [_z0,_ki]⟩ (by
   rintro pre a post ρ e ⟨x4,x5,x6,rfl⟩;have ha:=R_at e;have hpl:pre.length < 6:=by have:=(List.getElem?_eq_some_iff.mp ha).1; omega
   obtain ⟨l1,l2⟩:=F.len _ _ ha;obtain ⟨b1,b2⟩:=F.bd _ _ ha;have hc:=_qks (l1.trans l2.symm) b1 b2;have hs:=_Jd (_i h seats) R _ _ ha;have hlen:(pre++[a]).length=pre.length + 1:=by simp
   have er:_qj7 (_i h seats) R pre.length=(a.1,_qtd (_qsp (_i h seats) R pre.length) a.2.2):=by unfold _qj7; rw [_qbf ha]
   rw [hlen,hs,_qdo,er];have hll:(_ki (_i h seats) R pre.length).length < 100000:=by simp [_ki]; omega
   have hh:=k.len;generalize _ki (_i h seats) R pre.length=W at *;generalize _qsp (_i h seats) R pre.length=P at *;obtain ⟨c,r,Q⟩:=a;simp only at l2 hc b2 ⊢;have hP:P.length <= 100000:=by omega
   have hQ:Q.length <= 100000:=by omega
   have hg:gTp [(gN 4),(gN 5),(gN 6)] (_qsl (c,r,Q)) [some (.sh (_t h)),some (.sh (.int seats)),some (.sh (_Z P)),some (.lst (W.map payO)),x4,x5,x6]=some [some (.sh (_t h)),some (.sh (.int seats)),some (.sh (_Z P)),some (.lst (W.map payO)),some (.sh (.int c)),some (.sh (frD r)),some (.sh (_Z Q))]:=rfl;have ho:_qcg [none,none] (_qt7 2) (_qt7 6) (_qt4 [(geN 0),(geN 1)]) qT (oE (_A 2 _vp (_d (_qt7 0) (_d (_qt7 1) _qty)))) [none,none,some (_Z P),none,some (.int c),none,some (_Z Q)]=some (ow ((_qtd P Q).map frD)):=by
    simp [_qcg,_Z,_qu4,hP,hQ,mkD,hc,ow,-map_map]
   have im:_qst [O.sh (.int c),ow ((_qtd P Q).map frD)]=true:=by simp [_qi9]
   simp only [_qu6,hg];simp [_k1,ho,im,_qi9,_qt5,_qu4,hll,payO,_qel])
 have hd:D.lst (R.map _qsl)=_zb R:=rfl;simp [_vn,_qsi,ini,_Xv,hf,hr,_zb,_qtu,_qu4,ow,e1,-map_map]
def Good (t D:Nat) (P:List Rat):Prop:=0 < D/\D < 2 ^ (80 * t + 1)/\∀ q∈P,_qu3 D q/\0 <= q/\q <= ((t * 2 ^ 80:Nat):Rat)
theorem _qh2 {h:List _qu2} (k:okW h) {P:List Rat} (hl:P.length=h.length) {t D:Nat} (hg:Good t D P) (ht:t <= 18) {c:Int} (hc:c∈_k h) {N:Int} (hN:0 < N) {r:Rat} (e:_kj h P c N=some r) :
  ∃ V:Nat,0 < V/\Good (t + 1) (V * D) (_jo h P c r)/\_qu3 (V * D) r/\0 < r:=by
 have hs:_zu t P:=⟨D,hg⟩;obtain ⟨_,⟨i,hi,hri⟩,hr0,V,v0,v1,vo⟩:=_v6 k hl hs ht hc hN e;obtain ⟨d1,d2,d3⟩:=hg;have hbD:_qtp h P c ∣ D:=_qa4 fun q hq=>(d3 q (_W2 hl hq)).1.den;have ov:_qu3 (V * D) r:=vo.dvd (Nat.mul_dvd_mul_left V hbD);refine ⟨V,v0,⟨mul_pos v0 d1,?_,fun q hq=>?_⟩,ov,hr0⟩
 ·have:V * D < 2 ^ 77 * 2 ^ (80 * t + 1):=Nat.mul_lt_mul'' (lt_of_le_of_lt v1 (by decide)) d2
  rw [<- pow_add] at this;exact lt_of_lt_of_le this (pow_le_pow_right (by decide) (by omega))
 ·have hle:((t * 2 ^ 80:Nat):Rat) <= (((t + 1) * 2 ^ 80:Nat):Rat):=by exact_mod_cast mul_le_mul_right _ (le_succ t)
  obtain ⟨j,hj,rfl⟩:=List.mem_map.mp hq;have hj':=List.mem_range.mp hj;obtain ⟨o1,o2,o3⟩:=d3 _ (_R hj');have o1':_qu3 (V * D) (pAt P j):=o1.dvd ⟨V,mul_comm _ _⟩;split
  ·refine ⟨o1'.sub (o1'.mn ov),?_,?_⟩ <;> grind
  ·exact ⟨o1',o2,Rat.le_trans o3 hle⟩
theorem _Kh (P:List Rat) (row:_qu1) (R:List _qu1) (n:Nat):_ki P (row :: R) (n + 1)=(row.1,_qtd P row.2.2) :: _ki row.2.2 R n:=by
 unfold _ki;rw [List.range_succ_eq_map,map_cons,map_map];congr 1
theorem _qkt {P Q:List Rat} {i:Nat} (hi:i < P.length):pAt (_qtd P Q) i=pAt P i - pAt Q i:=by
 unfold _qtd;exact _qeq _ hi
theorem _Zm {h:List _qu2} (k:okW h) (hN:0 < _qs9 h):∀ (n:Nat) (P:List Rat) (ch:List Int) (t D:Nat),P.length=h.length->Good t D P->t + n <= 18 ->
  ∃ D',D ∣ D'/\0 < D'/\D' < 2 ^ (80 * (t + n) + 1)/\∀ e∈_ki P (_j h n P ch) (_j h n P ch).length,Good (t + n) D' e.2
 | 0,P,ch,t,D,hl,hg,ht=>⟨D,Nat.dvd_refl _,hg.1,hg.2.1,by simp [_j,_ki]⟩
 | n + 1,P,ch,t,D,hl,hg,ht=>by
  cases ho:_Y (_Q h P ch) with
  | none =>
   have e:_j h (n + 1) P ch=[]:=by simp only [_j,ho]
   rw [e];exact ⟨D,Nat.dvd_refl _,hg.1,lt_of_lt_of_le hg.2.1 (pow_le_pow_right (by decide) (by omega)),by simp [_ki]⟩
  | some o =>
   have e:_j h (n + 1) P ch=(o.1,o.2,_jo h P o.1 o.2) :: _j h n (_jo h P o.1 o.2) (ch++[o.1]):=by simp only [_j,ho]
   obtain ⟨w1,w2,w3⟩:=_vk (_j0 ho);obtain ⟨V,v0,g1,o1,r0⟩:=_qh2 k hl hg (by omega) w1 hN w3;obtain ⟨D',g2,g3,g4,g5⟩:=_Zm k hN n (_jo h P o.1 o.2) (ch++[o.1]) (t + 1) (V * D) (by rw [_Vk]; exact hl) g1 (by omega);have e2:t + 1 + n=t + (n + 1):=by omega
   rw [e2] at g4 g5;refine ⟨D',dvd_trans ⟨V,mul_comm _ _⟩ g2,g3,g4,fun en hen=>?_⟩;rw [e,length_cons,_Kh] at hen;rcases List.mem_cons.mp hen with rfl | hen
   ·refine ⟨g3,g4,fun q hq=>?_⟩
    obtain ⟨j,hj,rfl⟩:=List.mem_map.mp hq;have hj':=List.mem_range.mp hj;obtain ⟨p1,p2,p3⟩:=hg.2.2 _ (_R hj');have p1':_qu3 D' (pAt P j):=p1.dvd (dvd_trans ⟨V,mul_comm _ _⟩ g2);have r1':_qu3 D' o.2:=o1.dvd g2;have hle:((t * 2 ^ 80:Nat):Rat) <= (((t + (n + 1)) * 2 ^ 80:Nat):Rat):=by exact_mod_cast mul_le_mul_right _ (Nat.le_add_right t (n + 1))
    rw [_Zq hj'];split
    ·have e1:pAt P j - (pAt P j - min (pAt P j) o.2)=min (pAt P j) o.2:=by grind
     rw [e1];exact ⟨p1'.mn r1',by grind,by grind⟩
    ·have e1:∀ x:Rat,x - x=0:=fun x=>by grind
     rw [e1];exact ⟨_vf D' 0,Rat.le_refl,by grind⟩
   ·exact g5 en hen
theorem _Ys {i:Nat}:∀ (n:Nat) (R:List _qu1) (P:List Rat),n <= R.length->(∀ t row,R[t]?=some row->i < (_qsp P R t).length)->pAt P i - ((_ki P R n).map fun e=>pAt e.2 i).sum=pAt (_qsp P R n) i
 | 0,R,P,_,_=>by rw [_z0]; simp [_ki]; grind
 | n + 1,[],_,h,_=>by simp at h
 | n + 1,row :: R,P,hn,hl=>by
  have h0:i < P.length:=by have:=hl 0 row rfl; rwa [_z0] at this
  have ih:=_Ys (i:=i) n R row.2.2 (by simpa using hn) fun t r e=>hl (t + 1) r (by simpa using e);rw [_Kh,map_cons,sum_cons];show _=pAt (_qsp row.2.2 R n) i;rw [<- ih];simp only [_qkt h0];grind
theorem _D {l:List Nat} {f g:Nat->Rat} (h:∀ i∈l,f i=g i):_z l f=_z l g:=by
 unfold _z;rw [map_congr_left h]
structure Paper (h:List _qu2) (seats:Int) (pp:List Ent) (E:List Rat):Prop where
 ok:PaperOk h 7 pp
 pays:PaysR h seats pp
 left:∀ i,i < h.length->(seats:Rat) - (pp.map fun e=>pAt e.2 i).sum=pAt E i
 lenE:E.length=h.length
 szE:_zu 7 E
 part:∀ pre post:List Ent,pp=pre++post->∀ i,i < h.length->Bd 2000 2000 ((seats:Rat) - (pre.map fun e=>pAt e.2 i).sum)
theorem _qiv {s t:Nat} {P:List Rat} (h:_zu s P) (hst:s <= t):_zu t P:=by
 obtain ⟨D,d1,d2,d3⟩:=h;exact ⟨D,d1,lt_of_lt_of_le d2 (pow_le_pow_right (by decide) (by omega)),fun q hq=>⟨(d3 q hq).1,(d3 q hq).2.1,Rat.le_trans (d3 q hq).2.2 (by exact_mod_cast mul_le_mul_right _ hst)⟩⟩
theorem _qjz (h:List _qu2) {c:Int} (hc:c∈_k h):0 <= c/\c <= 5:=by
 have:=(_wf h).subset hc
 simp [six] at this;omega
theorem _qet {h:List _qu2} {seats:Int} {i:Nat} (hi:i < h.length):pAt (_i h seats) i=(seats:Rat):=by
 simp [pAt,_i,hi]
theorem _Wz {h:List _qu2} (kh:okH h) (k:okW h) (hne:h ≠ []) (seats:Int) (hse:1 <= seats/\seats <= 6) (R:List _qu1) (hR:_j h 6 (_i h seats) []=R) (F:RF h (_i h seats) R) :
  ∃ E,Paper h seats (_ki (_i h seats) R R.length) E:=by
 have hN:=_j3 k hne;have hl:(_i h seats).length=h.length:=by simp [_i]
 obtain ⟨D0,dd0⟩:=_js h (seats:=seats) (by omega) hse.2;obtain ⟨D,_,d1,d2,d3⟩:=_Zm k hN 6 (_i h seats) [] 1 D0 hl dd0 (by decide);have hs:=_js h (seats:=seats) (by omega) hse.2;have hlc:(_Ky h []).length <= 6:=le_trans (length_filter_le _ _) (_P h);obtain ⟨r1,r2,r3⟩:=_zl k 6 (_i h seats) [] 1 ⟨hl,hs⟩ (by decide) hlc;obtain ⟨nd,ndl⟩:=_jm (h:=h) 6 (_i h seats) [];rw [hR] at d3 r1 r2 r3 nd ndl;have hlR:=F.lenR;have hmap:(_ki (_i h seats) R R.length).map (·.1)=R.map (·.1):=by
  apply ext_getElem
  ·simp [_ki]
  ·intro t h1 h2
   have ht:t < R.length:=by simpa using h2
   simp [_ki,_qj7,ht]
 have mem:∀ e∈_ki (_i h seats) R R.length,∃ t row,R[t]?=some row/\e=(row.1,_qtd (_qsp (_i h seats) R t) row.2.2):=by
  intro e he;obtain ⟨t,ht,rfl⟩:=List.mem_map.mp he;have e':=getElem?_eq_getElem (List.mem_range.mp ht);exact ⟨t,_,e',by unfold _qj7; rw [_qbf e']⟩
 have lft:∀ i,i < h.length->(seats:Rat) - ((_ki (_i h seats) R R.length).map fun e=>pAt e.2 i).sum=pAt (_qsp (_i h seats) R R.length) i:=fun i hi=>by
  rw [<- _qet (h:=h) (seats:=seats) hi];exact _Ys R.length R (_i h seats) (le_refl _) fun t row e=>by rw [(F.len t row e).1]; exact hi
 refine ⟨_qsp (_i h seats) R R.length,⟨fun e he=>?_,by rw [hmap]; exact nd,fun e he=>?_,⟨D,d1,d2,fun q hq=>?_⟩,by simp [_ki]; exact hlR⟩,⟨fun e he i hi hb=>?_,fun e he=>?_,fun i hi=>?_,fun c hc hn=>?_⟩,lft,r2.len,_qiv r2.size (by omega),fun pre post e i hi=>?_⟩
 ·obtain ⟨t,row,er,rfl⟩:=mem e he
  exact _qjz h (r1 t row er).2.liked
 ·obtain ⟨t,row,er,rfl⟩:=mem e he
  simp [_qtd,(F.len t row er).1]
 ·obtain ⟨e,he,hq⟩:=List.mem_flatMap.mp hq
  exact (d3 e he).2.2 q hq
 ·obtain ⟨t,row,er,rfl⟩:=mem e he
  obtain ⟨a,b⟩:=r1 t row er;have hi':i < (_qsp (_i h seats) R t).length:=by rw [a.len]; exact hi
  show pAt (_qtd _ _) i=0;rw [_qkt hi',b.paid,_Zq hi'];have hb:lkB h i row.1=false:=hb;rw [hb,if_neg Bool.false_ne_true];grind
 ·obtain ⟨t,row,er,rfl⟩:=mem e he
  obtain ⟨a,b⟩:=r1 t row er;have ht:1 + t <= 18:=by have:=(List.getElem?_eq_some_iff.mp er).1; omega
  obtain ⟨rs,_⟩:=_v6 k a.len a.size ht b.liked hN b.rate;rw [<- rs];unfold _qsf pays;refine _D fun i hi=>?_;have hi1:=_v h [row.1] i hi;have hi':i < (_qsp (_i h seats) R t).length:=by rw [a.len]; exact hi1
  have hb:lkB h i row.1=true:=by
   rw [_Q2] at hi;exact (List.mem_filter.mp hi).2
  show (wAt h i:Rat) * pAt (_qtd _ _) i=_;rw [_qkt hi',b.paid,_Zq hi',if_pos hb];grind
 ·rw [lft i hi]; exact r2.nonneg i
 ·rw [hmap] at hn
  have rn:=r3 c hc (by simpa using hn)
  have:=_Vg k r2.len r2.size (by omega) hc hN rn
  rw [_D (g:=fun i=>(wAt h i:Rat) * pAt (_qsp (_i h seats) R R.length) i) fun i hi=>by rw [lft i (_v h [c] i hi)]];exact this
 ·have hpl:pre.length <= R.length:=by have:=congrArg List.length e; simp [_ki] at this; omega
  have ep:pre=_ki (_i h seats) R pre.length:=by
   have:pre=(_ki (_i h seats) R R.length).take pre.length:=by rw [e]; simp
   rw [this];simp only [_ki,<- map_take,List.take_range,length_map,List.length_range]
  have hs2:=_Ys (i:=i) pre.length R (_i h seats) hpl fun t row e=>by rw [(F.len t row e).1]; exact hi
  rw [<- ep,_qet hi] at hs2;rw [hs2];have pk:PurOk h (1 + pre.length) (_qsp (_i h seats) R pre.length):=by
   by_cases hz:pre.length < R.length
   ·exact (r1 _ _ (getElem?_eq_getElem hz)).1
   ·rw [show pre.length=R.length by omega]; exact r2
  exact (pk.size.bd (by omega) (_R (by rw [pk.len]; exact hi))).mono (by decide) (by decide)
theorem _qh1 {h:List _qu2} (kh:okH h) (k:okW h) (hne:h ≠ []) (seats:Int) (hse:1 <= seats/\seats <= 6) (G:List (Int × Rat × List Rat)) (hG:_j2 h seats 6 (List.replicate h.length 0) []=G) (mem:List Int) (hm:∀ c,c∈mem ↔ c∈G.map (·.1)) (s f:List Int) (hs:s.Sublist six) (hf:f∈_qki s mem):_Yu h seats (s.length:Int) (_qt1 h mem s f)=false:=by
 generalize hP0:List.replicate h.length (0:Rat)=P0 at hG;have hl0:P0.length=h.length:=by rw [<- hP0]; simp
 have hz0:∀ q∈P0,q=(0:Rat):=fun q hq=>by rw [<- hP0] at hq; exact List.eq_of_mem_replicate hq
 have hP:∀ q∈P0,(0:Rat) <= q:=fun q hq=>by rw [hz0 q hq]; exact Rat.le_refl
 have hN0:0 <= _qs9 h:=(_Zh k).1;have hsum0:∀ c,_qsf h P0 c=0:=by
  intro c;unfold _qsf
  have:∀ l:List Nat,(∀ i∈l,i < P0.length)->_z l (fun i=>(wAt h i:Rat) * pAt P0 i)=0:=by
   intro l
   induction l with
   | nil=>intro _; rfl
   | cons i l ih =>
    intro hi;rw [_q,ih fun j m=>hi j (by simp [m]),hz0 _ (_R (hi i (by simp)))];grind
  exact this _ fun i hi=>by have:=_v h [c] i hi; omega
 have hinv:∀ c∈_k h,c ∉ ([]:List Int)->_qsf h P0 c <= (_qs9 h:Rat):=fun c _ _=>by
  rw [hsum0]; exact_mod_cast hN0
 have hrows:=_wh k seats 6 P0 [] hl0 hP hinv;have hnd:=_Zw k seats 6 hl0 hP hinv (ch:=[]);have hfull:=_Xj (h:=h) seats 6 P0 [] (by simp; omega);have hle:=_Y0 (h:=h) seats 6 P0 [];rw [hG] at hrows hnd hfull hle;cases hb:_Yu h seats (s.length:Int) (_qt1 h mem s f) with
 | false=>rfl
 | true =>
  exfalso;have hb':=hb;simp only [_Yu,Bool.and_eq_true,Bool.not_eq_true',decide_eq_false_iff_not,decide_eq_true_eq] at hb';obtain ⟨hgne,hbig⟩:=hb';have h2:(f.length:Int)=_Yo s mem:=by simpa using (List.mem_filter.mp hf).2
  have h3:_Yo s mem <= (s.length:Int) - 1:=by unfold _Yo; split <;> omega
  have hflt:f.length < s.length:=by omega
  have hsn:s.Nodup:=_zm (List.Pairwise.sublist hs _v3);generalize hgg:_qt1 h mem s f=g at *;have hgs:g.Sublist (List.range h.length):=by
   rw [<- hgg];exact List.filter_sublist.trans filter_sublist
  have hga:∀ i∈g,i∈_qtw h s:=fun i hi=>by rw [<- hgg] at hi; exact (List.mem_filter.mp hi).1
  have hgf:∀ i∈g,∀ c∈mlk h mem i,c∈f:=fun i hi c hc=>by
   rw [<- hgg] at hi;exact _j1.mp (List.all_eq_true.mp (List.mem_filter.mp hi).2 c hc)
  have lkA:∀ i c,i < h.length->lkB h i c=has (h.getD i (0,[])).2 c:=fun i c hi=>by
   unfold lkB;rw [getElem?_eq_getElem hi,_qv hi];simp [atB,_j7]
  have hlk:∀ i∈g,∀ c∈s,lkB h i c=true:=fun i hi c hc=>by
   rw [lkA i c (_v h s i (hga i hi))];exact _wp (hga i hi) c hc
  have hin:∀ i∈g,∀ c∈G.map (·.1),lkB h i c=true->c∈f:=fun i hi c hc hl=>by
   rw [lkA i c (_v h s i (hga i hi))] at hl;exact hgf i hi c (_qb5.mpr ⟨(hm c).mpr hc,hl⟩)
  rcases hfull with hfull | hfull
  ·
   have hlen:(G.length:Int)=seats:=by
    rcases hle with e | e
    ·rw [e] at hfull; simp at hfull; omega
    ·simp at hfull e; omega
   have hNpos:0 < _qs9 h:=by
    rw [_Kc]
    have:=_Wf k (g:=List.range h.length) (by simpa using hne) (fun i hi=>List.mem_range.mp hi)
    omega
   have hNr:_z (List.range h.length) (fun i=>(wAt h i:Rat))=(_qs9 h:Rat):=by rw [<- _qc0,<- _Kc]
   have getG:∀ (t:Nat) (c:Int) (x:Rat),(G.map fun r=>(r.1,r.2.1))[t]?=some (c,x)->∃ Q,G[t]?=some (c,x,Q):=by
    intro t c x e;rw [getElem?_map] at e;cases hq:G[t]? with
    | none=>rw [hq] at e; cases e
    | some r =>
     rw [hq] at e;simp only [Option.map_some,Option.some.injEq,Prod.mk.injEq] at e;exact ⟨r.2.2,by rw [<- e.1,<- e.2]⟩
   have hfst:(G.map fun r=>(r.1,r.2.1)).map (·.1)=G.map (·.1):=by rw [map_map]; rfl
   have main:=_Qd (n:=h.length) (w:=fun i=>(wAt h i:Rat)) (lk:=lkB h) (fun i=>by exact_mod_cast k.at0 i) (by rw [hNr]; exact_mod_cast hNpos)
    (G.map fun r=>(r.1,r.2.1)) (by rw [hfst]; exact hnd) (fun t i=>pAt (_J1 P0 G t) i)
    (fun i hi=>hz0 _ (_R (by omega)))
    (fun t i ht hi=>by
     simp only [length_map] at ht;cases t with
     | zero=>exact hP _ (_R (by show i < P0.length; omega))
     | succ t =>
      have e:=getElem?_eq_getElem (l:=G) (i:=t) (by omega);obtain ⟨r1,r2,r3,r4,_⟩:=hrows t _ _ _ e;have e2:_J1 P0 G (t + 1)=_u h (_J1 P0 G t) ((G[t]).1,(G[t]).2.1):=by
       simp only [_J1,e,Option.map_some,getD_some];exact r3
      show 0 <= pAt (_J1 P0 G (t + 1)) i;rw [e2];exact _Q1 r1 r4 _ (_R (by rw [_Xt,r2]; exact hi)))
    (fun q hq=>by
     obtain ⟨r,hr,rfl⟩:=List.mem_map.mp hq;obtain ⟨t,ht,rfl⟩:=getElem_of_mem hr;exact (hrows t _ _ _ (getElem?_eq_getElem ht)).2.2.2.1)
    (fun t c x e i hi=>by
     obtain ⟨Q,eQ⟩:=getG t c x e;obtain ⟨r1,r2,r3,r4,_⟩:=hrows t c x Q eQ;have e2:_J1 P0 G (t + 1)=_u h (_J1 P0 G t) (c,x):=by
      simp only [_J1,eQ,Option.map_some,getD_some];exact r3
     show pAt (_J1 P0 G (t + 1)) i=if lkB h i c=true then 0 else pAt (_J1 P0 G t) i + x
     rw [e2,_qbu (by rw [r2]; exact hi),_qen hi])
    (fun t c x e=>by
     obtain ⟨Q,eQ⟩:=getG t c x e;obtain ⟨r1,r2,r3,r4,r5,r6,r7,r8,r9⟩:=hrows t c x Q eQ;rw [hNr];exact (_Wi h (_J1 P0 G t) c x).trans r8)
    (fun t c x e d hd=>by
     obtain ⟨Q,eQ⟩:=getG t c x e;obtain ⟨r1,r2,r3,r4,r5,r6,r7,r8,r9⟩:=hrows t c x Q eQ;rw [hNr];show _z (_qtw h [d]) (fun i=>(wAt h i:Rat) * (pAt (_J1 P0 G t) i + x)) <= _;rw [_Wi h (_J1 P0 G t) d x]
     by_cases hdl:d∈_k h
     ·refine r9 d hdl (by simp) fun hm=>?_
      obtain ⟨r,hr,e⟩:=List.mem_map.mp hm;exact hd (r.1,r.2.1) (List.mem_map.mpr ⟨r,List.mem_of_mem_take hr,rfl⟩) e
     ·have he:_qtw h [d]=[]:=by
       refine List.filter_eq_nil_iff.mpr fun i hi hb=>?_;have hl:=List.mem_range.mp hi;rw [getElem?_eq_getElem hl] at hb;have hb':has h[i].2 d=true:=by simpa [atB,_j7] using hb
       have hd6:d∈six:=kh.mem (getElem_mem hl) (_j1.mp hb');exact hdl (List.mem_filter.mpr ⟨hd6,List.any_eq_true.mpr ⟨h[i],getElem_mem hl,hb'⟩⟩)
      have h0:_qsf h (_J1 P0 G t) d=0:=by unfold _qsf; rw [he]; rfl
      have h1:(wG h (_qtw h [d]):Rat)=0:=by rw [he]; rfl
      rw [h0,h1]
      have:(0:Rat) <= (_qs9 h:Rat):=by exact_mod_cast hN0
      grind)
    (by simp; omega)
    s hsn (by omega) f hflt g hgs hlk (fun i hi q hq hl=>by
     obtain ⟨r,hr,rfl⟩:=List.mem_map.mp hq;exact hin i hi r.1 (List.mem_map.mpr ⟨r,hr,rfl⟩) hl)
   rw [hNr,<- _qc0,length_map] at main;have e1:((G.length:Nat):Rat)=(seats:Rat):=by rw [<- _xa,hlen]
   rw [e1] at main;have e2:((seats * wG h g:Int):Rat)=(seats:Rat) * (wG h g:Rat):=by simp
   have e3:(((s.length:Int) * _qs9 h:Int):Rat)=(s.length:Rat) * (_qs9 h:Rat):=by simp [_xa]
   rw [<- e2,<- e3] at main
   have:=Rat.intCast_lt_intCast.mp main
   omega
  ·
   obtain ⟨i,hi⟩:=List.exists_mem_of_ne_nil _ hgne;have hil:=_v h s i (hga i hi)
   have:s.length <= f.length:=_K hsn fun c hc=>by
    have hl:=hlk i hi c hc;have hl':=hl;rw [lkA i c hil,_qv hil] at hl';have hcl:c∈_k h:=List.mem_filter.mpr ⟨hs.subset hc,List.any_eq_true.mpr ⟨h[i],getElem_mem hil,hl'⟩⟩;rcases hfull c hcl with m | m
    ·simp at m
    ·exact hin i hi c m hl
   omega
theorem lkA {h:List _qu2} {i:Nat} (hi:i < h.length) (c:Int):lkB h i c=has (h.getD i (0,[])).2 c:=by
 unfold lkB;rw [getElem?_eq_getElem hi,_qv hi];simp [atB,_j7]
def _qlz (pp:List Ent):List (Int × (Nat->Rat)):=pp.map fun e=>(e.1,pAt e.2)
theorem _qap (pp:List Ent) (i:Nat):MB.tot (_qlz pp) i=(pp.map fun e=>pAt e.2 i).sum:=by
 unfold MB.tot _qlz;rw [map_map];rfl
theorem _Z0 {h:List _qu2} {seats:Int} {s:List Int} {g:List Nat} (hc:_ja h seats s g=true):_Yu h seats (s.length:Int) g=true:=by
 obtain ⟨q1,q2,q3,q4⟩:=_kc.mp hc;simp only [_Yu,Bool.and_eq_true,Bool.not_eq_true',decide_eq_false_iff_not,decide_eq_true_eq];exact ⟨q2,q4⟩
section
variable {h:List _qu2} (kh:okH h) (kw:okW h) (hne:h ≠ []) {seats:Int} (hse:1 <= seats/\seats <= 6)
include kh kw hne hse
theorem _qgc {t:Nat} {pp:List Ent} (ok:PaperOk h t pp) (py:PaysL h seats pp) (le:lessP h seats pp) {mem:List Int} (hm:∀ c,c∈mem ↔ c∈pp.map (·.1)):_Wc h seats mem=none:=by
 cases hf:_Wc h seats mem with
 | none=>rfl
 | some s =>
  exfalso;obtain ⟨f,_,f1,f2,_,f4⟩:=_Vl hf;obtain ⟨q1,q2,q3,q4⟩:=_kc.mp f2;have hsub:=_ws f4;have h2:(f.length:Int)=_Yo s mem:=by simpa using (List.mem_filter.mp f1).2
  have h3:_Yo s mem <= (s.length:Int) - 1:=by unfold _Yo; split <;> omega
  have hN:=_j3 kw hne;have rsum:∀ e∈pp,_z (List.range h.length) (fun i=>(wAt h i:Rat) * pAt e.2 i)=(_qs9 h:Rat):=fun e he=>by
   rw [<- py.price e he];unfold _qsf;rw [_Q2]
   have:∀ l:List Nat,(∀ i∈l,i < h.length)->_z l (fun i=>(wAt h i:Rat) * pAt e.2 i)=_z (l.filter fun i=>lkB h i e.1) fun i=>(wAt h i:Rat) * pAt e.2 i:=by
    intro l
    induction l with
    | nil=>intro _; rfl
    | cons i l ih =>
     intro hl;rw [_q,ih fun j hj=>hl j (by simp [hj]),filter_cons];cases hb:lkB h i e.1 with
     | true=>rw [if_pos rfl,_q]
     | false =>
      rw [if_neg Bool.false_ne_true,py.zero e he i (hl i (by simp)) hb];grind
   exact this _ fun i hi=>List.mem_range.mp hi
  have main:=_Q6 (n:=h.length) (w:=fun i=>(wAt h i:Rat)) (lk:=lkB h) (k:=(seats:Rat)) (N:=(_qs9 h:Rat)) (fun i=>by exact_mod_cast kw.at0 i) (by exact_mod_cast hN) (_qlz pp)
   (by have : (_qlz pp).map (·.1) = pp.map (·.1) := by unfold _qlz; rw [map_map]; rfl
       rw [this]; exact ok.nodup)
   (fun q hq i hi=>by
    obtain ⟨e,he,rfl⟩:=List.mem_map.mp hq;exact _Jb (_v9 ok he) _ (_R (by rw [ok.len e he]; exact hi)))
   (fun q hq i hi hlk=>by
    obtain ⟨e,he,rfl⟩:=List.mem_map.mp hq;exact py.zero e he i hi hlk)
   (fun q hq=>by
    obtain ⟨e,he,rfl⟩:=List.mem_map.mp hq;exact rsum e he)
   (fun i hi=>by
    rw [_qap]
    have:=py.left i hi
    grind)
   (fun d hd=>by
    have hdn:d ∉ pp.map (·.1):=fun hm=>by
     obtain ⟨e,he,e2⟩:=List.mem_map.mp hm;exact hd (e.1,pAt e.2) (List.mem_map.mpr ⟨e,he,rfl⟩) e2
    by_cases hd6:d∈_k h
    ·have:=le d hd6 hdn
     rw [_Q2] at this;simp only [_qap];exact this
    ·have he:=_Vo kh hd6
     rw [_Q2] at he;rw [he,_jt]
     exact_mod_cast hN)
   s (_zm (List.Pairwise.sublist hsub _v3)) (List.length_pos_iff.mpr q1) f (by omega) (_qt1 h mem s f) (List.filter_sublist.trans filter_sublist) (fun i hi c hc=>by
    have hi':=q3 i hi;rw [lkA (_v h s i hi') c];exact _wp hi' c hc) (fun i hi q hq hlk=>by
    obtain ⟨e,he,rfl⟩:=List.mem_map.mp hq;have hi':=q3 i hi;have hlk:lkB h i e.1=true:=hlk;rw [lkA (_v h s i hi')] at hlk;exact _j1.mp (List.all_eq_true.mp (List.mem_filter.mp hi).2 e.1 (_qb5.mpr ⟨(hm e.1).mpr (List.mem_map.mpr ⟨e,he,rfl⟩),hlk⟩)))
  rw [<- _qc0] at main;have e2:((seats * wG h (_qt1 h mem s f):Int):Rat)=(seats:Rat) * (wG h (_qt1 h mem s f):Rat):=by simp
  have e3:(((s.length:Int) * _qs9 h:Int):Rat)=(s.length:Rat) * (_qs9 h:Rat):=by simp [_xa]
  rw [<- e2,<- e3] at main
  have:=Rat.intCast_lt_intCast.mp main
  omega
theorem _qh0 {mem:List Int} (hm:∀ c,c∈mem ↔ c∈(_j2 h seats 6 (List.replicate h.length 0) []).map (·.1)):_Wc h seats mem=none:=by
 cases hf:_Wc h seats mem with
 | none=>rfl
 | some s =>
  exfalso;obtain ⟨f,_,f1,f2,_,f4⟩:=_Vl hf
  have:=_qh1 kh kw hne seats hse _ rfl mem hm s f (_ws f4) f1
  rw [_Z0 f2] at this;cases this
theorem _qfb:_qk2 h seats (_qs h seats)=none:=by
 refine List.find?_eq_none.mpr fun s hs hc=>?_;obtain ⟨q1,q2,q3,q4⟩:=_kc.mp hc;have bf:=_Z1 kh kw hne seats hse;have nd:((_n h seats).map (·.1)).Nodup:=by rw [_jc]; exact (_jm 6 _ _).1
 have:=_qc8 kh kw hne seats hse (_n h seats) (by rw [_jc]) s (_ws hs) q1 (_qt2 h (_qs h seats) s) (List.filter_sublist.trans filter_sublist) (fun i hi c hc=>by
  rw [lkA (_v h s i (q3 i hi))];exact _wp (q3 i hi) c hc) (fun i hi=>by
  have h1:((mlk h (_qs h seats) i).length:Int) < (s.length:Int):=by simpa using (List.mem_filter.mp hi).2
  have h2:(((_n h seats).map (·.1)).filter fun c=>lkB h i c).length <= (mlk h (_qs h seats) i).length:=_K (List.Nodup.sublist filter_sublist nd) fun c hc=>by
   obtain ⟨c1,c2⟩:=List.mem_filter.mp hc;rw [lkA (_v h s i (q3 i hi))] at c2;exact _qb5.mpr ⟨bf.2.2.1 c c1,c2⟩
  omega)
 rw [_Z0 hc] at this;cases this
end
theorem _qlw (l:List Int):oDs (l.map fun n=>O.sh (.int n))=some (l.map .int):=_qt (fun p=>by simp) l
theorem _qlb (l:List Int):oD (.lst (l.map fun n=>O.sh (.int n)))=some (_g l):=by rw [_J9,_qlw]; rfl
theorem pay_L (pp:List Ent):oD (.lst (pp.map payO))=some (_qsq pp):=by
 rw [_J9,_qt (fun p=>_qok p) pp]; rfl
theorem _qbk (pp:List Ent):_ji (geN 0) qT (oE (f2 dIx (_qt7 0) (fC (.int 0)))) (pp.map _qtc) [none]=some ((pp.map (·.1)).map fun n=>O.sh (.int n)):=by
 have:=_l (inj:=_qtc) (g:=geN 0) (c:=qT) (e:=oE (f2 dIx (_qt7 0) (fC (.int 0)))) (fun ρ=>∃ d,ρ=[d]) (fun _=>true) (fun r=>O.sh (.int r.1)) pp [none] ⟨_,rfl⟩ (by
  rintro r _ ρ ⟨d,rfl⟩
  have:dIx (_qtc r) (.int 0)=some (.int r.1):=_qcn
  exact ⟨_,rfl,⟨_,rfl⟩,rfl,fun _=>by simp [this]⟩)
 rw [List.filter_eq_self.mpr (by simp)] at this;rw [this,map_map];rfl
theorem _K8 (R:List _qu1):_ji (geN 0) qT (oE (f2 dIx (_qt7 0) (fC (.int 0)))) (R.map _qsl) [none]=some ((R.map (·.1)).map fun n=>O.sh (.int n)):=by
 have:=_l (inj:=_qsl) (g:=geN 0) (c:=qT) (e:=oE (f2 dIx (_qt7 0) (fC (.int 0)))) (fun ρ=>∃ d,ρ=[d]) (fun _=>true) (fun r=>O.sh (.int r.1)) R [none] ⟨_,rfl⟩ (by
  rintro r _ ρ ⟨d,rfl⟩
  have:dIx (_qsl r) (.int 0)=some (.int r.1):=_qcn
  exact ⟨_,rfl,⟨_,rfl⟩,rfl,fun _=>by simp [this]⟩)
 rw [List.filter_eq_self.mpr (by simp)] at this;rw [this,map_map];rfl
theorem _qj6 {f:Ent->Rat} {l m:List Ent} (hs:l.Sublist m):(∀ e∈m,0 <= f e)->(l.map f).sum <= (m.map f).sum:=by
 induction hs with
 | slnil=>intro _; exact Rat.le_refl
 | cons a _ ih =>
  intro h;have h1:=ih fun e he=>h e (by simp [he]);have h2:=h a (by simp);rw [map_cons,sum_cons];grind
 | cons_cons a _ ih =>
  intro h;have h1:=ih fun e he=>h e (by simp [he]);rw [map_cons,sum_cons,map_cons,sum_cons];grind
theorem _qn3 (pp:List Ent) (j:Nat):(pp.take j++pp.drop (j + 1)).Sublist pp:=by
 have h1:(pp.drop (j + 1)).Sublist (pp.drop j):=by
  rw [show pp.drop (j + 1)=(pp.drop j).drop 1 by rw [List.drop_drop]];exact List.drop_sublist _ _
 have:=List.Sublist.append (List.Sublist.refl (pp.take j)) h1
 rwa [List.take_append_drop] at this
theorem _qn4 {h:List _qu2} {t:Nat} {pp qq:List Ent} (hs:qq.Sublist pp) (ok:PaperOk h t pp):PaperOk h t qq:=by
 refine ⟨fun e he=>ok.cand e (hs.subset he),List.Nodup.sublist (hs.map _) ok.nodup,fun e he=>ok.len e (hs.subset he),ok.sized.sub fun q hq=>?_,le_trans hs.length_le ok.small⟩;obtain ⟨e,he,hq⟩:=List.mem_flatMap.mp hq;exact List.mem_flatMap.mpr ⟨e,hs.subset he,hq⟩
theorem _qew {h:List _qu2} {t:Nat} {seats:Int} {pp qq:List Ent} (hs:qq.Sublist pp) (ok:PaperOk h t pp) (py:PaysL h seats pp):PaysL h seats qq:=by
 refine ⟨fun e he=>py.zero e (hs.subset he),fun e he=>py.price e (hs.subset he),fun i hi=>?_⟩;have h1:=py.left i hi;have h2:=_qj6 (f:=fun e=>pAt e.2 i) hs fun e he=>_Jb (_v9 ok he) _ (_R (by rw [ok.len e he]; exact hi));grind
section
variable {h:List _qu2} (kh:okH h) (kw:okW h) (hne:h ≠ []) {seats:Int} (hse:1 <= seats/\seats <= 6)
include kh kw hne hse
theorem _qcj:_xr [_t h,.int seats,_g ((_j h 6 (_i h seats) []).map (·.1))]=some (.bl true):=by
 have hh:=kw.len;have hs1:seats.natAbs < 2 ^ 63:=lt_of_le_of_lt (show _ <= 6 by omega) (by decide);have F:=_qg9 kh kw hne seats hse;obtain ⟨E,pa⟩:=_Wz kh kw hne seats hse _ rfl F;have pf:=_qjc h kh kw seats hse _ rfl F;have hmap:(_ki (_i h seats) (_j h 6 (_i h seats) []) (_j h 6 (_i h seats) []).length).map (·.1)=(_j h 6 (_i h seats) []).map (·.1):=by
  apply ext_getElem
  ·simp [_ki]
  ·intro t h1 h2
   have ht:t < (_j h 6 (_i h seats) []).length:=by simpa using h2
   simp [_ki,_qj7,ht]
 generalize _ki (_i h seats) (_j h 6 (_i h seats) []) (_j h 6 (_i h seats) []).length=pp at *;generalize (_j h 6 (_i h seats) []).map (·.1)=C at *;have pl:PaysL h seats pp:=⟨pa.pays.zero,pa.pays.price,pa.pays.left⟩;obtain ⟨b,pb,pi⟩:=_qhu h kh kw (by decide) pp pa.ok seats hse pl;have hb:b=true:=pi.mpr pa.pays.less;subst hb;have sm:=pa.ok.small;have oP:=pay_L pp;have lp:=_qb6 pp;have hl1:pp.length <= 100000:=by omega
 have hr:∀ m:Nat,_qsm 0 m=(List.range m).map fun (i:Nat)=>D.int (0 + (i:Int)):=fun _=>rfl;obtain ⟨ρ',e3,y3,y4,y5,y6,g3,rfl⟩:=_ju (inj:=fun (i:Nat)=>D.int (0 + (i:Int))) (g:=gN 4) (b:=_jf) (fun pre ρ=>∃ y3 y4 y5 y6:Option O,y3.bind oD=some (_qsq pp)/\ρ=[some (.sh (_t h)),some (.sh (.int seats)),some (.sh (_g C)),y3,y4,y5,y6]) (List.range pp.length)
  [some (.sh (_t h)),some (.sh (.int seats)),some (.sh (_g C)),some (.lst (pp.map payO)),none,none,none] ⟨_,_,_,_,by simpa using oP,rfl⟩ (by
   rintro pre j post ρ e ⟨y3,y4,y5,y6,g3,rfl⟩;have ct:_qtm (pp.map _qtc) none (some (j:Int))=(pp.take j).map _qtc:=by rw [_qa0,map_take]
   have cf:_qtm (pp.map _qtc) (some ((j:Int) + 1)) none=(pp.drop (j + 1)).map _qtc:=by
    rw [show (j:Int) + 1=((j + 1:Nat):Int) by simp,_qkv,List.map_drop]
   have hsub:=_qn3 pp j;have cat:_qtj (.lst ((pp.take j).map _qtc)) (.lst ((pp.drop (j + 1)).map _qtc))=some ((pp.take j++pp.drop (j + 1)).map _qtc):=by
    have:(pp.take j++pp.drop (j + 1)).length <= pp.length:=hsub.length_le
    rw [length_append] at this;simp only [_qtj,length_map,_qu4];rw [if_pos (by omega),map_append]
   obtain ⟨b2,pb2,pi2⟩:=_qhu h kh kw (by decide) _ (_qn4 hsub pa.ok) seats hse (_qew hsub pa.ok pl);have over2:b2=true->_Wc h seats (_wa ((pp.take j++pp.drop (j + 1)).map (·.1)))=none:=fun z=>_qgc kh kw hne hse (_qn4 hsub pa.ok) (_qew hsub pa.ok pl) (pi2.mp z) fun c=>(_qm _).mem_iff;have ql:(pp.take j++pp.drop (j + 1)).length <= 6:=le_trans hsub.length_le sm;generalize hqq:pp.take j++pp.drop (j + 1)=qq at *;have ec:=_qbk qq;have ed:=_qlb (qq.map (·.1));have so:=_Z6 (l:=qq.map (·.1)) (by rw [length_map]; omega);have ov:=_qay h kh (by omega) seats hs1 (_wa (qq.map (·.1))) (by rw [_k9,length_map]; exact ql);have isn:=_qk7 (h:=h) (seats:=seats) (mem:=_wa (qq.map (·.1)));have lq:=_qb6 qq;have oq:oD (ow (qq.map _qtc))=some (_qsq qq):=by simp [_qsq]
   have fq:fzc (some (ow (qq.map _qtc)))=some (.sh (_qsq qq)):=by simp only [fzc,oq]
   have hl2:(qq.map _qtc).length <= 100000:=by rw [length_map]; omega
   have w1:∀ ds:List D,oD (ow ds)=some (.lst ds):=fun ds=>by simp
   have os:∀ l:List Int,oD (ow (l.map .int))=some (_g l):=fun l=>by simp [_g]
   have fz3:fzc y3=some (.sh (_qsq pp)):=by
    cases y3 with
    | none=>cases g3
    | some o =>
     have g3:oD o=some (_qsq pp):=g3;simp only [fzc,g3]
   generalize _wa (qq.map (·.1))=SQ at *;generalize qq.map (·.1)=CQ at *;generalize (pp.take j).map _qtc=A1 at *;generalize (pp.drop (j + 1)).map _qtc=A2 at *;have im:_qsy (qq.map _qtc)=true \/ _qsy (qq.map _qtc)=false:=by cases _qsy (qq.map _qtc) <;> simp
   have eq1:D.lst (qq.map _qtc)=_qsq qq:=rfl;have eq2:D.lst (SQ.map D.int)=_g SQ:=rfl;generalize qq.map _qtc=QE at *;have hgoal:_qu6 (gN 4) _jf (D.int (0 + (j:Int))) [some (.sh (_t h)),some (.sh (.int seats)),some (.sh (_g C)),y3,y4,y5,y6] (fun ρ=>∃ y3 y4 y5 y6:Option O,y3.bind oD=some (_qsq pp)/\ρ=[some (.sh (_t h)),some (.sh (.int seats)),some (.sh (_g C)),y3,y4,y5,y6]):=by
    cases b2 with
    | false =>
     rcases im with im | im <;> simp [im,_qu6,_jf,oSl,ptE,ptN,g3,fz3,lp,ct,cf,cat,w1,_qa,mkD,lq,hl2,_qu4,ec,ed,so,fq,oq,eq1,eq2,pb2,-_J9]
    | true =>
     have o2:=over2 rfl;rw [o2] at isn;rcases im with im | im <;> simp [im,_qu6,_jf,oSl,ptE,ptN,g3,fz3,lp,ct,cf,cat,w1,_qa,mkD,lq,hl2,_qu4,ec,ed,so,fq,oq,os,eq1,eq2,pb2,ov,isn,-_J9]
   exact hgoal)
 rw [<- hr] at e3;have ec:=_qbk pp;rw [hmap] at ec;have ed:=_qlb C;have ne:dNe (_g C) (_g C)=some (.bl false):=by simp
 have isn:_qth (.bl true) (.bl true)=some (.bl false):=rfl;have dl:_qtg [_qsq pp]=some (.int (pp.length:Int)):=by simp [_qsq]
 have hz:(-1000000:Int) <= (pp.length:Int)/\(pp.length:Int) <= 1000000:=by omega
 generalize pp.map payO=PO at *;simp [_xr,_qsk,_qsi,ini,_k5,pf,oP,pb,isn,_qa,mkD,lp,hl1,_qu4,ec,ed,ne,bForR,dl,hz.1,hz.2,e3,-_J9]
end
theorem wat0 {h:List _qu2} (kw:okW h):∀ i,0 <= wAt h i:=fun i=>kw.at0 i
theorem _Vq {h:List _qu2} (kw:okW h) {seats:Int} (h0:0 <= seats) {mem:List Int} (nd:mem.Nodup) (hf:_qk2 h seats mem=none):_Wc h seats mem=none:=by
 cases ho:_Wc h seats mem with
 | none=>rfl
 | some s=>exact absurd hf (_qge (wat0 kw) h0 nd ho)
theorem _qgt {h:List _qu2} (kw:okW h) {seats:Int} (h0:0 <= seats) {mem:List Int} (nd:mem.Nodup) (hf:_qk2 h seats mem=none):_qlu h seats mem=none:=by
 cases ho:_qlu h seats mem with
 | none=>rfl
 | some s=>exact absurd (_Vq kw h0 nd hf) (_qfz (wat0 kw) h0 ho)
theorem _qcx {h:List _qu2} (kh:okH h) (kw:okW h) {seats:Int} (hse:1 <= seats/\seats <= 6) {mem:List Int} (nd:mem.Nodup) (hm:mem.length <= 6) (c:Int):_qr [_t h,.int seats,_g mem,.int c]=some (.bl true):=by
 have hh:=kw.len;have hs1:seats.natAbs < 2 ^ 63:=lt_of_le_of_lt (show _ <= 6 by omega) (by decide);have fc:_ji (geN 0) (qV (f2 dNe (_qt7 0) (_qt7 1))) (oE (_qt7 0)) (mem.map D.int) [none,some (.int c)]=some ((mem.filter fun d=>decide (d ≠ c)).map fun d=>O.sh (.int d)) :=
  _l (inj:=D.int) (g:=geN 0) (c:=qV (f2 dNe (_qt7 0) (_qt7 1))) (e:=oE (_qt7 0)) (fun ρ=>∃ d,ρ=[d,some (.int c)]) (fun d=>decide (d ≠ c)) (fun d=>O.sh (.int d)) mem [none,some (.int c)] ⟨_,rfl⟩ (by
   rintro d _ ρ ⟨d',rfl⟩;refine ⟨_,rfl,⟨_,rfl⟩,?_,fun _=>by simp⟩
   simp
   rw [Bool.eq_iff_iff]; simp)
 have nl:(mem.filter fun d=>decide (d ≠ c)).Nodup:=List.Nodup.sublist filter_sublist nd;have ll:(mem.filter fun d=>decide (d ≠ c)).length <= 6:=le_trans (length_filter_le _ _) hm;generalize mem.filter (fun d=>decide (d ≠ c))=L at *;have lo:=_qi4 h kh (by omega) seats hs1 L (by omega);have ov:=_qay h kh (by omega) seats hs1 L ll;have oL:=_qlb L;have iL:_qst (L.map fun n=>O.sh (.int n))=true:=_J8 (fun _=>by simp) L;have fL':fzc (some (.lst (L.map fun n=>O.sh (.int n))))=some (.sh (_g L)):=by simp only [fzc,oL]
 have lL:∀ l:List Int,_Zd [_g l]=some (l.map .int):=fun l=>by simp [_Zd,_g]
 have w1:∀ l:List Int,oD (ow (l.map .int))=some (_g l):=fun l=>by simp [_g]
 have lm:_kv (_g mem)=some (mem.map .int):=rfl;have hm1:mem.length <= 100000:=by omega
 cases hf:_qk2 h seats L with
 | none =>
  have o1:=_Vq kw (by omega) nl hf;have ld:_qgu h seats L=.non:=by unfold _qgu; rw [hf]
  have isO:=_qmw (h:=h) (seats:=seats) (mem:=L);rw [o1] at isO;rw [ld] at lo;have i0:dIs .non .non=some (.bl true):=rfl;simp [_qr,_qsk,_qsi,ini,_xi,_qa,mkD,lm,hm1,_qu4,fc,iL,oL,fL',lL,w1,lo,i0,ov,isO,-_J9]
 | some s =>
  have ld:_qgu h seats L=.tup [_g s,plD (_qt2 h L s)]:=by unfold _qgu; rw [hf]
  rw [ld] at lo;have hc:_ja h seats s (_qt2 h L s)=true:=find?_some (p:=fun s=>_ja h seats s (_qt2 h L s)) hf;have hss:=_ws (List.mem_of_find?_eq_some hf);have hsl:s.length <= 6:=hss.length_le;have gl:=_qeo h L s;have cl:=_Xp h seats s (_qt2 h L s) (by omega) (by omega) (by omega) hs1;rw [hc] at cl;have few:∀ i∈_qt2 h L s,((h.getD i (0,[])).2.filter (has L)).length < s.length:=fun i hi=>by
   obtain ⟨g1,g2⟩:=List.mem_filter.mp hi;have hi':=_v h s i g1;have h1:((mlk h L i).length:Int) < (s.length:Int):=by simpa using g2
   have hnd:(h.getD i (0,[])).2.Nodup:=by
    rw [_qv hi'];exact (kh _ (getElem_mem hi')).nodup (by decide)
   have h2:((h.getD i (0,[])).2.filter (has L)).length <= (mlk h L i).length:=_K (List.Nodup.sublist filter_sublist hnd) fun x hx=>by
    obtain ⟨x1,x2⟩:=List.mem_filter.mp hx;exact _qb5.mpr ⟨_j1.mp x2,_j1.mpr x1⟩
   omega
  have glt:∀ i∈_qt2 h L s,i < h.length:=fun i hi=>_v h s i (List.mem_filter.mp hi).1;have lP:∀ g:List Nat,_Zd [plD g]=some (g.map fun (i:Nat)=>D.int (i:Int)):=fun g=>by simp [_Zd,plD,_g]
  have w2:∀ g:List Nat,oD (ow (g.map fun (i:Nat)=>D.int (i:Int)))=some (plD g):=fun g=>by simp [plD,_g]
  have i0:dIs (.tup [_g s,plD (_qt2 h L s)]) .non=some (.bl false):=rfl;have dls:_qtg [_g s]=some (.int (s.length:Int)):=by simp [_g]
  have im1:imm (.tup [_g s,plD (_qt2 h L s)])=false:=rfl;have pl:=_qja (_qt2 h L s);obtain ⟨ρ',e3,y8,rfl⟩:=_ju (inj:=fun (i:Nat)=>D.int (i:Int)) (g:=gN 8) (b:=_xw) (fun pre ρ=>∃ y8:Option O,ρ=[some (.sh (_t h)),some (.sh (.int seats)),some (.sh (_g mem)),some (.sh (.int c)),some (.sh (_g L)),some (.sh (.tup [_g s,plD (_qt2 h L s)])),some (.sh (_g s)),some (.sh (plD (_qt2 h L s))),y8]) (_qt2 h L s)
   [some (.sh (_t h)),some (.sh (.int seats)),some (.sh (_g mem)),some (.sh (.int c)),some (.sh (_g L)),some (.sh (.tup [_g s,plD (_qt2 h L s)])),some (.sh (_g s)),some (.sh (plD (_qt2 h L s))),none] ⟨_,rfl⟩ (by
    rintro pre i post ρ e ⟨y8,rfl⟩;have him:i∈_qt2 h L s:=by rw [e]; simp
    have hi:=glt i him;have ix:=_K0 hi;have x1:dIx (_xy h[i]) (.int 1)=some (_g h[i].2):=rfl;have fw:=few i him;rw [_qv hi] at fw;have hl6:h[i].2.length <= 100000:=by
     have:=(kh _ (getElem_mem hi)).length_le
     have e6:six.length=6:=rfl;omega
    have oc:_ji (geN 0) (qV (f2 dIn (_qt7 0) (_qt7 1))) (oE (_qt7 0)) (h[i].2.map D.int) [none,some (_g L)]=some ((h[i].2.filter (has L)).map fun c=>O.sh (.int c)):=by
     exact _l (inj:=D.int) (g:=geN 0) (c:=qV (f2 dIn (_qt7 0) (_qt7 1))) (e:=oE (_qt7 0)) (fun ρ=>∃ d,ρ=[d,some (_g L)]) (fun c=>has L c) (fun c=>O.sh (.int c)) h[i].2 [none,some (_g L)] ⟨_,rfl⟩ (by
      rintro c _ ρ ⟨d,rfl⟩;exact ⟨_,rfl,⟨_,rfl⟩,by simp,fun _=>by simp⟩)
    have od:=_qlb (h[i].2.filter (has L));have lp:_kv (_g h[i].2)=some (h[i].2.map .int):=rfl;generalize h[i].2.filter (has L)=on at *;generalize h[i]=p at *;have dlo:_qtg [_g on]=some (.int (on.length:Int)):=by simp [_g]
    have nge:¬ s.length <= on.length:=by omega
    simp [_qu6,_xw,ix,x1,_qa,mkD,lp,hl6,_qu4,oc,od,dlo,dls,nge,-_J9])
  generalize hG:_qt2 h L s=G at *;simp [_qr,_qsk,_qsi,ini,_xi,_qa,mkD,lm,hm1,_qu4,fc,iL,oL,fL',lL,w1,lo,i0,im1,bUnp,gTp,gT,lP,w2,cl,_qtu,pl,e3,-_J9]
section
variable {ns:List Int} {h:List _qu2} (kh:okH h) (kw:okW h) (hne:h ≠ []) {seats:Int} (hse:1 <= seats/\seats <= 6)
include kh kw hne hse
theorem _qi6 (x1:Option O) (h1:x1.bind oD=some (_t h)) (x6:Option O):∃ ρ,_qfl [some (.sh (_g ns)),x1,some (.sh (.int seats)),some (.sh (_g (_qs h seats))),some (.sh (_zb (_n h seats))),some (.sh (_zb (_xj h seats))),x6,none,none]=some (.rt (.sh (.bl true)) ρ):=by
 have hh:=kw.len;have hs1:seats.natAbs < 2 ^ 63:=lt_of_le_of_lt (show _ <= 6 by omega) (by decide);have bf:=_Z1 kh kw hne seats hse;have nd:(_qs h seats).Nodup:=_zm bf.1;have ml:(_qs h seats).length <= 6:=by
  have:=bf.2.2.2
  have:=_P h
  split at * <;> omega
 have lf:=_qfb kh kw hne hse;have of:=_Vq kw (by omega) nd lf;have sf:=_qgt kw (by omega) nd lf;have lo:=_qi4 h kh (by omega) seats hs1 (_qs h seats) (by omega);have so:=_qlt h kh (by omega) seats hs1 (_qs h seats) (by omega);have ov:=_qay h kh (by omega) seats hs1 (_qs h seats) ml;have ld:_qgu h seats (_qs h seats)=.non:=by unfold _qgu; rw [lf]
 have sd:_qlv h seats (_qs h seats)=.non:=by unfold _qlv; rw [sf]
 have od:_qdz h seats (_qs h seats)=.non:=by unfold _qdz; rw [of]
 rw [ld] at lo;rw [sd] at so;rw [od] at ov;have lpa:=_qcj kh kw hne hse;have bl:(_n h seats).length <= 6:=by rw [_jc]; exact _wc 6 _ _
 have eB:_n h seats=_j h 6 (_i h seats) []:=_jc h seats;rw [<- eB] at lpa;have gr:=_qgz h kh kw seats hse.2;have gl:(_j2 h seats 6 (List.replicate h.length 0) []).length <= 6:=_Yz 6 _ _;have og:=_qh0 kh kw hne hse (mem:=_wa ((_j2 h seats 6 (List.replicate h.length 0) []).map (·.1))) fun c=>(_qm _).mem_iff;have srt:=_Z6 (l:=(_j2 h seats 6 (List.replicate h.length 0) []).map (·.1)) (by rw [length_map]; omega);have ov2:=_qay h kh (by omega) seats hs1 (_wa ((_j2 h seats 6 (List.replicate h.length 0) []).map (·.1))) (by rw [_k9,length_map]; exact gl);have od2:_qdz h seats (_wa ((_j2 h seats 6 (List.replicate h.length 0) []).map (·.1)))=.non:=by unfold _qdz; rw [og]
 rw [od2] at ov2;have wo:=fun c=>_qcx kh kw hse nd ml c;generalize _j2 h seats 6 (List.replicate h.length 0) []=G at *;generalize _qs h seats=M at *;generalize _n h seats=B at *;generalize _xj h seats=A at *;have fz1:fzc x1=some (.sh (_t h)):=by
  cases x1 with
  | none=>cases h1
  | some o =>
   have h1:oD o=some (_t h):=h1;simp only [fzc,h1]
 have lL:∀ l:List Int,_Zd [_g l]=some (l.map .int):=fun l=>by simp [_Zd,_g]
 have w1:∀ l:List Int,oD (ow (l.map .int))=some (_g l):=fun l=>by simp [_g]
 have i0:_qth .non .non=some (.bl false):=rfl;have lp:∀ x6:Option O,_qt6 (gN 6) _qbw [.non,.non] [some (.sh (_g ns)),some (.sh (_t h)),some (.sh (.int seats)),some (.sh (_g M)),some (.sh (_zb B)),some (.sh (_zb A)),x6,none,none]=some (.nx [some (.sh (_g ns)),some (.sh (_t h)),some (.sh (.int seats)),some (.sh (_g M)),some (.sh (_zb B)),some (.sh (_zb A)),some (.sh .non),none,none]):=fun x6=>by
  rw [_K2 rfl (.inl (by simp [_qbw,i0]; rfl)),_K2 rfl (.inl (by simp [_qbw,i0]; rfl)),_qkh]
 have cB:=_K8 B;have cG:=_K8 G;have lB:_kv (_zb B)=some (B.map _qsl):=rfl;have lG:_kv (_zb G)=some (G.map _qsl):=rfl;have e1:B.length <= 100000:=by omega
 have e2:G.length <= 100000:=by omega
 have oB:=_qlb (B.map (·.1));have oG:=_qlb (G.map (·.1));have iB:_qst ((B.map (·.1)).map fun n=>O.sh (.int n))=true:=_J8 (fun _=>by simp) _;have cut3:_qtm (M.map D.int) none (some 3)=(M.take 3).map .int:=by rw [show (3:Int)=((3:Nat):Int) from rfl,_qa0,map_take]
 have lM:_kv (_g M)=some (M.map .int):=rfl;obtain ⟨ρ',e3,y8,rfl⟩:=_ju (inj:=D.int) (g:=gN 8) (b:=_qfm) (fun pre ρ=>∃ y8:Option O,ρ=[some (.sh (_g ns)),some (.sh (_t h)),some (.sh (.int seats)),some (.sh (_g M)),some (.sh (_zb B)),some (.sh (_zb A)),some (.sh .non),some (.lst ((B.map (·.1)).map fun n=>O.sh (.int n))),y8]) (M.take 3)
  [some (.sh (_g ns)),some (.sh (_t h)),some (.sh (.int seats)),some (.sh (_g M)),some (.sh (_zb B)),some (.sh (_zb A)),some (.sh .non),some (.lst ((B.map (·.1)).map fun n=>O.sh (.int n))),none] ⟨_,rfl⟩ (by
   rintro pre d post ρ e ⟨y8,rfl⟩;have w:=wo d;simp [_qu6,_qfm,w])
 generalize B.map (·.1)=CB at *;generalize _wa (G.map (·.1))=SG at *;generalize G.map (·.1)=CG at *;generalize (M.take 3).map D.int=M3 at *;have w3:∀ ds:List D,oD (ow ds)=some (.lst ds):=fun ds=>by simp
 have eq3:∀ l:List Int,D.lst (l.map D.int)=_g l:=fun l=>rfl;apply Exists.intro;simp [_qfl,_qii,_qtu,h1,fz1,lL,w1,lo,so,_qu4,lp,_qa,mkD,lB,lG,e1,e2,cB,cG,iB,oB,oG,ov,i0,lpa,gr,srt,eq3,ov2,oSl,ptE,ptN,lM,cut3,e3,-_J9];rfl
end
theorem law_true (ns:List Int) (hn:ns.length <= 63):_qi3 [.lst (ns.map .int)]=some (.bl true):=by
 rw [_Jh];have k0:_U [_g ns,.int 0]=some (.int (cellOf ns 0)):=_qid ns 0 (by decide);have k1:_U [_g ns,.int 1]=some (.int (cellOf ns 1)):=_qid ns 1 (by decide);generalize cellOf ns 0=c0 at k0;generalize cellOf ns 1=c1 at k1;have u1:=_qll c1;have sl:_qtm (ns.map D.int) (some 2) (some 8)=((ns.take 8).drop 2).map .int:=by
  rw [show (2:Int)=((2:Nat):Int) from rfl,show (8:Int)=((8:Nat):Int) from rfl,_qkw,List.map_drop,map_take]
 have hcl:((ns.take 8).drop 2).length <= 6:=by simp; omega
 generalize (ns.take 8).drop 2=cells at sl hcl;have hp:=_qmx cells (_qc1 c1) (by omega);have hok:=_qkc cells (_qc1 c1);obtain ⟨up,ul⟩:=_qip c1;have hpo:=_qgx cells (_qc1 c1) up;have P72:P18 + 1 < 2 ^ 72:=by decide
 have hle:∀ p∈cells.map (_Kn (_qc1 c1)),p.1 <= P18 + 1:=fun p m=>by
  obtain ⟨n,_,rfl⟩:=List.mem_map.mp m;show _k8 n (_qc1 c1) <= P18 + 1;unfold _k8;split
  ·have:=Int.fmod_lt_of_pos (n.fdiv 7) _qby
   omega
  ·have h5:=Int.fmod_lt_of_pos ((_kk n).fdiv 192) (b:=6) (by decide)
   have h6:=Int.fmod_nonneg_of_pos ((_kk n).fdiv 192) (b:=6) (by decide)
   have:_qc1 c1 * (1 + ((_kk n).fdiv 192).fmod 6) <= P17 * 6:=Int.mul_le_mul ul (by omega) (by omega) (Int.le_of_lt _qft)
   exact Int.le_trans this (by decide)
 have hlen:(cells.map (_Kn (_qc1 c1))).length <= 6:=by simp; omega
 generalize cells.map (_Kn (_qc1 c1))=h at hp hlen hok hpo hle;have m6:_qtf (.int c0) (.int 6)=some (.int (c0.fmod 6)):=_x2 (by decide);have s0:=Int.fmod_nonneg_of_pos c0 (b:=6) (by decide);have s1:=Int.fmod_lt_of_pos c0 (b:=6) (by decide);generalize hseat:1 + c0.fmod 6=seats;have h6:1 <= seats/\seats <= 6:=by omega
 have eh:dEq (_t h) (.lst [])=some (.bl (decide (h=[]))):=_qh8 h []
 by_cases ch:h=[]
 ·rw [decide_eq_true ch] at eh
  have mP:_qtf (.int c1) (.int P18)=some (.int (c1.fmod P18)):=_x2 _qnu;have p0:=Int.fmod_nonneg_of_pos c1 _qby;have p1:=Int.fmod_lt_of_pos c1 _qby;have ef:D.lst [.tup [.int (1 + c1.fmod P18),.lst [.int 0,.int 1,.int 2]]]=_t [(1 + c1.fmod P18,[0,1,2])]:=rfl;have kh:okH [(1 + c1.fmod P18,[0,1,2])]:=fun p m=>by simp at m; rw [m]; show ([0,1,2]:List Int).Sublist six; decide
  have kw:okW [(1 + c1.fmod P18,[0,1,2])]:=⟨fun p m=>by simp at m; subst m; show 1 <= 1 + c1.fmod P18; omega,fun p m=>by simp at m; subst m; show 1 + c1.fmod P18 < 2 ^ 72; omega,by simp⟩;have hb:=_qfc _ kh kw seats ⟨by omega,h6.2⟩;have ho:oD (O.lst [O.tup [.sh (.int (1 + c1.fmod P18)),ow [.int 0,.int 1,.int 2]]])=some (_t [(1 + c1.fmod P18,[0,1,2])]):=by simp [ef]
  have hfz:fzc (some (O.lst [O.tup [.sh (.int (1 + c1.fmod P18)),ow [.int 0,.int 1,.int 2]]]))=some (.sh (_t [(1 + c1.fmod P18,[0,1,2])])):=by simp only [fzc,ho]
  obtain ⟨ρ',l4⟩:=_qi6 (ns:=ns) kh kw (by simp) h6 (some (.sh (_t [(1 + c1.fmod P18,[0,1,2])]))) rfl none;generalize hh:([(1 + c1.fmod P18,[0,1,2])]:List _qu2)=h1 at *;generalize _qs h1 seats=M at *;generalize _n h1 seats=B at *;generalize _xj h1 seats=A at *;have im1:imm (_g M)=false:=by simp [_g]
  simp [_qi3,_qsk,_qsi,ini,b_law,k0,k1,oSl,ptE,sl,_Jh,u1,hp,m6,hseat,_qu4,eh,pw18,mP,_qfs,ho,hfz,hb,bUnp,gTp,gT,l4,-_J9]
 ·have kw:okW h:=⟨hpo,fun p m=>by have:=hle p m; omega,by omega⟩
  have hb:=_qfc _ hok kw seats ⟨by omega,h6.2⟩;obtain ⟨ρ',l4⟩:=_qi6 (ns:=ns) hok kw ch h6 (some (.sh (_t h))) rfl none;generalize _qs h seats=M at *;generalize _n h seats=B at *;generalize _xj h seats=A at *;simp [_qi3,_qsk,_qsi,ini,b_law,k0,k1,oSl,ptE,sl,_Jh,u1,hp,m6,hseat,_qu4,eh,ch,hb,bUnp,gTp,gT,l4,-_J9]
end L_k80
namespace L_k80
open PySem PySem.Spec PyProof.Rows L2 DL
def top (i:Nat):Stmt:=PySem.Challenge.pw_pursebench_k80_whole_all_judges_agree.main.body.getD i (.Pass ⟨0,0,0,0⟩)
abbrev _ks:Stmt:=top 63
abbrev _w5:Stmt:=top 64
abbrev _w6:Stmt:=top 66
abbrev _w4:Stmt:=top 65
abbrev _w7:Stmt:=top 62
abbrev _zy:Stmt:=top 31
abbrev _qdn:Stmt:=top 17
abbrev _qdj:Stmt:=top 20
abbrev _wy:Stmt:=top 1
abbrev _kp:Stmt:=top 7
abbrev _Ww:Stmt:=top 6
abbrev _Wu:Stmt:=top 5
abbrev _Vd:Stmt:=top 13
abbrev _x9:Stmt:=top 18
abbrev _w0:Stmt:=top 19
abbrev _wz:Stmt:=top 2
abbrev _qdg:Stmt:=top 14
abbrev _qj1:Stmt:=top 28
abbrev _qdi:Stmt:=top 4
abbrev _Wt:Stmt:=top 33
abbrev _qdh:Stmt:=top 16
abbrev _zv:Stmt:=top 30
abbrev _qj4:Stmt:=top 29
abbrev _Wr:Stmt:=top 32
abbrev _za:Stmt:=top 37
abbrev _Vc:Stmt:=top 3
abbrev _qj0:Stmt:=top 22
abbrev _qdf:Stmt:=top 25
abbrev _qj2:Stmt:=top 15
abbrev _x7:Stmt:=top 26
abbrev _qdk:Stmt:=top 23
abbrev _ve:Stmt:=top 36
abbrev _qdm:Stmt:=top 35
abbrev _x8:Stmt:=top 43
abbrev _qdl:Stmt:=top 39
abbrev _Ve:Stmt:=top 45
abbrev _Jv:Stmt:=top 42
abbrev _Jt:Stmt:=top 40
abbrev _xo:Stmt:=top 44
abbrev _kq:Stmt:=top 46
abbrev _vd:Stmt:=top 41
abbrev _Ju:Stmt:=top 49
abbrev _Jw:Stmt:=top 12
abbrev _zx:Stmt:=top 58
abbrev _w3:Stmt:=top 60
abbrev _zw:Stmt:=top 59
abbrev _Jy:Stmt:=top 57
abbrev _Jx:Stmt:=top 56
abbrev _w2:Stmt:=top 51
abbrev _j5:Stmt:=top 53
abbrev _w1:Stmt:=top 54
abbrev _Ws:Stmt:=top 55
abbrev _q4:Stmt:=top 52
abbrev _qj3:Stmt:=top 50
abbrev _kr:Stmt:=top 68
abbrev _Wv:Stmt:=top 24
abbrev _zz:Stmt:=top 67
abbrev _qj5:Stmt:=top 69
structure Txt (mg:Str->Option Value):Prop where
 z_abs:mg "abs"=none
 z_all:mg "all"=none
 z_bool:mg "bool"=none
 z_enumerate:mg "enumerate"=none
 z_int:mg "int"=none
 z_isinstance:mg "isinstance"=none
 z_len:mg "len"=none
 z_list:mg "list"=none
 z_min:mg "min"=none
 z_range:mg "range"=none
 z_set:mg "set"=none
 z_sorted:mg "sorted"=none
 z_sum:mg "sum"=none
 z_tuple:mg "tuple"=none
 z_zip:mg "zip"=none
 c_LAST_CANDIDATE:∃ t,mg "LAST_CANDIDATE"=some (.int 5 t)
section
variable {P:Program} {w:World} {K:Frag} {mg:Str->Option Value} {base:Heap}
theorem _Kg:FnScope ["number"] ["number"] (defScope _ks):=fsc
theorem _Kr {f:Addr} {fd:FuncData} (F:Fun K "_law_marks" "_law_marks" _ks f fd) (T:Txt mg) :FnOk P w K mg base CX0 1 f fd ["number"] (spD K 1 _xs) :=
 FnOk.d (fnO F _Kg (k:=0) (n:=1) (m:=1) (b:=_k6) rfl rfl fun cdv A outer s H E hr =>
  (_f (_p (DO.m _ (_s (cl:=_) (N':=["candidate","number"]) (js:=[none,some 0]) (by o_reads) (by exact (pi_range1 rfl T.z_range (_a _h _e))) (fun _ _ _ q=>_qf6 q) (by exact fun _ _ _ _ _=>(_m 0 (pgc 0))) (by exact fun _ _ _ _ _=>(_q8 (_V (_kg hr.units) _kf (_qh op_modN _x0 (_qh _vi _vg (_b 1 (pv 1)) (_qw (DO.de (_zd (_qf3 (ns:=[1,2,4,8,16,32]) rfl))) (_b 0 (pv 0)) (fun _ _=>rfl))) _h) _h (nomark _)))) (by exact fun _ _ _ _ _=>(DE.o (_b 0 (pv 0)))))))))
theorem _jl:FnScope ["number","unit","cell","marks","weight"] ["number","unit"] (defScope _w5):=fsc
theorem _Yj {f:Addr} {fd:FuncData} (F:Fun K "_law_pile" "_law_pile" _w5 f fd) (T:Txt mg) (G__law_marks:Fn P w K mg base 1 "_law_marks" ["number"] (spD K 1 _xs)):FnOk P w K mg base CX0 2 f fd ["number","unit"] (spD K 2 _qe) :=
 FnOk.d (fnO F _jl (k:=1) (n:=2) (m:=5) (b:=_xk) rfl rfl fun cdv A outer s H E hr =>
  (_c (_r 2 (ps_set (i:=2) _jl.nd rfl (.inl rfl) (DE.m _ (_qh op_modN _x0 (_qh _M _L (_b 0 (pv 0)) _h) _h))))
   (_c (_r 3 (ps_set (i:=3) _jl.nd rfl (.inl rfl) (DE.m _ (_G G__law_marks (hm hr) rfl (_a (_b 2 (pv 2)) _e)))))
   (_c (_ka (_V (_kg hr.units) _kf (_qh op_modN _x0 (_qh _vi _vg (_b 2 (pv 2)) _h) _h) _h (nomark _)) (_f (_r 3 (ps_set (i:=3) _jl.nd rfl (.inl rfl) (DO.m _ (_qna (_b 3 (pv 3)) _Vx (_Qg _h)))))) _F)
   (_c (_r 4 (ps_set (i:=4) _jl.nd rfl (.inl rfl) (DE.m _ (_qh _M _L (_b 1 (pv 1)) (_qh _vj _vh _h (_qh op_modN _x0 (_qh _vi _vg (_b 2 (pv 2)) _h) _h))))))
   (_c (_ka (_V (_kg hr.units) _kf (_qh op_modN _x0 (_qh _vi _vg (_b 2 (pv 2)) _h) _h) _h (nomark _)) (_f (_r 4 (ps_set (i:=4) _jl.nd rfl (.inl rfl) (DE.m _ (_qh _vj _vh _h (_qh op_modN _x0 (_qh _vi _vg (_b 0 (pv 0)) _h) (_qh op_pow _qe0 _h _h))))))) _F)
   (_f (_p (DE.m _ (_Qh (_a (_b 4 (pv 4)) (_a (_b 3 (pv 3)) _e))))))))))))
theorem _Wp:FnScope ["cells","unit"] ["cells","unit"] (defScope _w6):=fsc
theorem _Yk {f:Addr} {fd:FuncData} (F:Fun K "_law_heap" "_law_heap" _w6 f fd) (T:Txt mg) (G__law_pile:Fn P w K mg base 2 "_law_pile" ["number","unit"] (spD K 2 _qe)):FnOk P w K mg base CX0 3 f fd ["cells","unit"] (spD K 2 _zr) :=
 FnOk.d (fnO F _Wp (k:=2) (n:=2) (m:=2) (b:=_Qq) rfl rfl fun cdv A outer s H E hr =>
  (_f (_p (DO.m _ (_s (cl:=_) (N':=["number","unit"]) (js:=[none,some 1]) (by o_reads) (by exact (pi_list (_b 0 (pv 0)))) (fun _ _ _ q=>_o q) (by exact fun _ _ _ _ _=>(_m 0 (pgc 0))) (by exact fun _ _ _ _ _=>_C) (by exact fun _ _ _ _ _=>(DE.o (_G G__law_pile (hm hr) rfl (_a (_b 0 (pv 0)) (_a (_b 1 (pv 1)) _e))))))))))
theorem _Wo:FnScope ["number"] ["number"] (defScope _w4):=fsc
theorem _Yi {f:Addr} {fd:FuncData} (F:Fun K "_law_unit" "_law_unit" _w4 f fd) (T:Txt mg) :FnOk P w K mg base CX0 1 f fd ["number"] (spD K 1 _zq) :=
 FnOk.d (fnO F _Wo (k:=0) (n:=1) (m:=1) (b:=_Qp) rfl rfl fun cdv A outer s H E hr =>
  (_f (_p (DE.m _ (_qw (DO.de (_zd (_a _h (_a (_qh _vj _vh _h (_qh op_modN _x0 (_qh _vi _vg (_b 0 (pv 0)) _h) _h)) (_a (_qh _vj _vh _h (_qh op_modN _x0 (_qh _vi _vg (_b 0 (pv 0)) _h) (_qh op_pow _qe0 _h _h))) _e))))) (_qh op_modN _x0 (_b 0 (pv 0)) _h) (fun _ _=>rfl))))))
theorem _Wq:FnScope ["script","k"] ["script","k"] (defScope _w7):=fsc
theorem _Yl {f:Addr} {fd:FuncData} (F:Fun K "_law_cell" "_law_cell" _w7 f fd) (T:Txt mg) :FnOk P w K mg base CX0 1 f fd ["script","k"] (spD K 2 _U) :=
 FnOk.d (fnO F _Wq (k:=0) (n:=2) (m:=2) (b:=_zt) rfl rfl fun cdv A outer s H E hr =>
  (_c (_ka (_V op_lt _qe1 (_b 1 (pv 1)) (_w call_len_seq _H rfl T.z_len _z5 (_a (_b 0 (pv 0)) _e)) (nomark _)) (_f (_p (DE.m _ (_qw (_b 0 (pv 0)) (_b 1 (pv 1)) (fun _ _=>rfl))))) _F)
   (_c (_ka (_V (_kg hr.units) _kf (_b 0 (pv 0)) (DO.de (_zd _e)) (nomark _)) (_f (_p (DE.m _ (_qh _vj _vh (_qh _M _L (_qh _M _L (_b 1 (pv 1)) (_b 1 (pv 1))) _h) (_qh _M _L _h (_b 1 (pv 1))))))) _F)
   (_f (_p (DE.m _ (_qh op_modN _x0 (_qh _M _L (_qh _vj _vh (_qh _vj _vh (_qw (_b 0 (pv 0)) (_qh op_modN _x0 (_b 1 (pv 1)) (_w call_len_seq _H rfl T.z_len _z5 (_a (_b 0 (pv 0)) _e))) (fun _ _=>rfl)) (_qh _M _L (_qh _M _L (_b 1 (pv 1)) (_b 1 (pv 1))) _h)) _h) _h) _h)))))))
theorem _X7:FnScope ["heap","seats"] ["heap","seats"] (defScope _zy):=fsc
theorem _Zb {f:Addr} {fd:FuncData} (F:Fun K "first_purses" "first_purses" _zy f fd) (T:Txt mg) :FnOk P w K mg base CX0 1 f fd ["heap","seats"] (spD K 2 _B) :=
 FnOk.d (fnO F _X7 (k:=0) (n:=2) (m:=2) (b:=_xh) rfl rfl fun cdv A outer s H E hr =>
  (_f (_p (DO.m _ (_s (cl:=_) (N':=["pile","seats"]) (js:=[none,some 1]) (by o_reads) (by exact (pi_list (_b 0 (pv 0)))) (fun _ _ _ q=>_o q) (by exact fun _ _ _ _ _=>(_m 0 (pgc 0))) (by exact fun _ _ _ _ _=>_C) (by exact fun _ _ _ _ _=>(DE.o (_Qh (_a (_b 1 (pv 1)) (_a _h _e))))))))))
theorem _qiz:FnScope ["one","other"] ["one","other"] (defScope _qdn):=fsc
theorem _qjq {f:Addr} {fd:FuncData} (F:Fun K "below" "below" _qdn f fd) (T:Txt mg) :FnOk P w K mg base CX0 1 f fd ["one","other"] (spD K 2 _Qx) :=
 FnOk.d (fnO F _qiz (k:=0) (n:=2) (m:=2) (b:=_qfp) rfl rfl fun cdv A outer s H E hr =>
  (_f (_p (DE.m _ (_vw op_lt _qe1 (_qh _M _L (_qw (_b 0 (pv 0)) _h (fun _ _=>rfl)) (_qw (_b 1 (pv 1)) _h (fun _ _=>rfl))) (_qh _M _L (_qw (_b 1 (pv 1)) _h (fun _ _=>rfl)) (_qw (_b 0 (pv 0)) _h (fun _ _=>rfl))) (nomark _))))))
theorem _Z9:FnScope ["offers","found","offer"] ["offers"] (defScope _qdj):=fsc
theorem _qjm {f:Addr} {fd:FuncData} (F:Fun K "least" "least" _qdj f fd) (T:Txt mg) (G_below:Fn P w K mg base 1 "below" ["one","other"] (spD K 2 _Qx)):FnOk P w K mg base CX0 2 f fd ["offers"] (spD K 1 _vq) :=
 FnOk.d (fnO F _Z9 (k:=1) (n:=1) (m:=3) (b:=_qfk) rfl rfl fun cdv A outer s H E hr =>
  (_c (_r 1 (ps_set (i:=1) _Z9.nd rfl (.inl rfl) (DE.m _ _kz)))
   (_c (_vu PassesOwn.never rfl (_b 0 (pv 0)) (_N 2 (pg_name (i:=2) _Z9.nd rfl (.inl rfl))) (_f (_ka (DW.dt (_qko (_V _qjh _qjf (_b 1 (pv 1)) _kz (nomark _)) (_Y5 (_zs (_G G_below (hm hr) rfl (_a (_qw (_b 2 (pv 2)) _h (fun _ _=>rfl)) (_a (_qw (_b 1 (pv 1)) _h (fun _ _=>rfl)) _e))))))) (_f (_r 1 (ps_set (i:=1) _Z9.nd rfl (.inl rfl) (DE.m _ (_b 2 (pv 2)))))) _F)))
   (_f (_p (DE.m _ (_b 1 (pv 1))))))))
theorem _Wk:FnScope ["heap"] ["heap"] (defScope _wy):=fsc
theorem _Yc {f:Addr} {fd:FuncData} (F:Fun K "weight_of" "weight_of" _wy f fd) (T:Txt mg) :FnOk P w K mg base CX0 1 f fd ["heap"] (spD K 1 _I) :=
 FnOk.d (fnO F _Wk (k:=0) (n:=1) (m:=1) (b:=_Qi) rfl rfl fun cdv A outer s H E hr =>
  (_f (_p (DE.m _ (_w (_V1 rfl) _V0 rfl T.z_sum _ql2 (_a (DO.de (_s (cl:=_) (N':=["weight","marks"]) (js:=[none,none]) (by o_reads) (by exact (pi_list (_b 0 (pv 0)))) (fun _ _ _ q=>_o q) (by exact fun _ _ _ _ _=>(_Xn rfl (_qk (_m 0 (pgc 0)) (_qk (_m 1 (pgc 1)) _ky)))) (by exact fun _ _ _ _ _=>_C) (by exact fun _ _ _ _ _=>(DE.o (_b 0 (pv 0)))))) _e))))))
theorem _Ke:FnScope ["pile","some"] ["pile","some"] (defScope _kp):=fsc
theorem _Ko {f:Addr} {fd:FuncData} (F:Fun K "likes_each" "likes_each" _kp f fd) (T:Txt mg) :FnOk P w K mg base CX0 1 f fd ["pile","some"] (spD K 2 _q0) :=
 FnOk.d (fnO F _Ke (k:=0) (n:=2) (m:=2) (b:=_k2) rfl rfl fun cdv A outer s H E hr =>
  (_f (_p (DE.m _ (_w (_x4 rfl) _x3 rfl T.z_all _K9 (_a (DO.de (_s (cl:=_) (N':=["candidate","pile"]) (js:=[none,some 0]) (by o_reads) (by exact (pi_list (_b 1 (pv 1)))) (fun _ _ _ q=>_o q) (by exact fun _ _ _ _ _=>(_m 0 (pgc 0))) (by exact fun _ _ _ _ _=>_C) (by exact fun _ _ _ _ _=>(DE.o (_vw (_Yb (_qem hr)) _W9 (_b 0 (pv 0)) (_qw (_b 1 (pv 1)) _h (fun _ _=>rfl)) (by rfl)))))) _e))))))
theorem _qg3:FnScope ["heap","some"] ["heap","some"] (defScope _Ww):=fsc
theorem _qgn {f:Addr} {fd:FuncData} (F:Fun K "agreed" "agreed" _Ww f fd) (T:Txt mg) (G_likes_each:Fn P w K mg base 1 "likes_each" ["pile","some"] (spD K 2 _q0)):FnOk P w K mg base CX0 2 f fd ["heap","some"] (spO K 2 _j6) :=
 fnO F _qg3 (k:=1) (n:=2) (m:=2) (b:=_qae) rfl rfl fun cdv A outer s H E hr =>
  (_f (_p (DO.m _ (_s (cl:=_) (N':=["place","pile","some"]) (js:=[none,none,some 1]) (by o_reads) (by exact (_qht rfl T.z_enumerate (_b 0 (pv 0)))) (fun _ _ _ q=>_qbo q) (by exact fun _ _ _ _ _=>(_Xn rfl (_qk (_m 0 (pgc 0)) (_qk (_m 1 (pgc 1)) _ky)))) (by exact fun _ _ _ _ _=>(_q8 (_zs (_G G_likes_each (hm hr) rfl (_a (_b 1 (pv 1)) (_a (_b 2 (pv 2)) _e)))))) (by exact fun _ _ _ _ _=>(DE.o (_b 0 (pv 0))))))))
theorem _qg1:FnScope ["heap","candidate"] ["heap","candidate"] (defScope _Wu):=fsc
theorem _qgl {f:Addr} {fd:FuncData} (F:Fun K "likers" "likers" _Wu f fd) (T:Txt mg) (G_agreed:Fn P w K mg base 2 "agreed" ["heap","some"] (spO K 2 _j6)):FnOk P w K mg base CX0 3 f fd ["heap","candidate"] (spO K 2 _X) :=
 fnO F _qg1 (k:=2) (n:=2) (m:=2) (b:=_qac) rfl rfl fun cdv A outer s H E hr =>
  (_f (_p (DO.m _ (_Ka G_agreed (hm hr) rfl (_a (_b 0 (pv 0)) (_a (DO.de (_zd (_a (_b 1 (pv 1)) _e))) _e))))))
theorem _zk:FnScope ["one","other","greater","rest","remainder"] ["one","other"] (defScope _Vd):=fsc
theorem _qe3 {f:Addr} {fd:FuncData} (F:Fun K "divisor" "divisor" _Vd f fd) (T:Txt mg) :FnOk P w K mg base CX0 1 f fd ["one","other"] (spD K 2 _xc) :=
 FnOk.d (fnO F _zk (k:=0) (n:=2) (m:=5) (b:=_V6) rfl rfl fun cdv A outer s H E hr =>
  (_c (_r 2 (ps_set (i:=2) _zk.nd rfl (.inl rfl) (DE.m _ (_w call_abs _qbt rfl T.z_abs _qnn (_a (_b 0 (pv 0)) _e)))))
   (_c (_r 3 (ps_set (i:=3) _zk.nd rfl (.inl rfl) (DE.m _ (_w call_abs _qbt rfl T.z_abs _qnn (_a (_b 1 (pv 1)) _e)))))
   (_c (_Y6 PassesOwn.never (_V (_qgh hr.units) _qgg (_b 3 (pv 3)) _h (nomark _)) (_c (_r 4 (ps_set (i:=4) _zk.nd rfl (.inl rfl) (DE.m _ (_qh op_modN _x0 (_b 2 (pv 2)) (_b 3 (pv 3))))))
   (_c (_r 2 (ps_set (i:=2) _zk.nd rfl (.inl rfl) (DE.m _ (_b 3 (pv 3)))))
   (_f (_r 3 (ps_set (i:=3) _zk.nd rfl (.inl rfl) (DE.m _ (_b 4 (pv 4)))))))))
   (_f (_p (DE.m _ (_b 2 (pv 2)))))))))
theorem _ql:FnScope ["fractions","bottom","top","own"] ["fractions"] (defScope _x9):=fsc
theorem _J6 {f:Addr} {fd:FuncData} (F:Fun K "common_bottom" "common_bottom" _x9 f fd) (T:Txt mg) (G_divisor:Fn P w K mg base 1 "divisor" ["one","other"] (spD K 2 _xc)):FnOk P w K mg base CX0 2 f fd ["fractions"] (spD K 1 _y) :=
 FnOk.d (fnO F _ql (k:=1) (n:=1) (m:=4) (b:=_zg) rfl rfl fun cdv A outer s H E hr =>
  (_c (_r 1 (ps_set (i:=1) _ql.nd rfl (.inl rfl) (DE.m _ _h)))
   (_c (_vu PassesOwn.never rfl (_b 0 (pv 0)) (_K4 rfl (_qg (_N 2 (pg_name (i:=2) _ql.nd rfl (.inl rfl))) (_qg (_N 3 (pg_name (i:=3) _ql.nd rfl (.inl rfl))) _Q0))) (_f (_r 1 (ps_set (i:=1) _ql.nd rfl (.inl rfl) (DE.m _ (_qh _M _L (_b 1 (pv 1)) (_qh _vi _vg (_b 3 (pv 3)) (_G G_divisor (hm hr) rfl (_a (_b 1 (pv 1)) (_a (_b 3 (pv 3)) _e))))))))))
   (_f (_p (DE.m _ (_b 1 (pv 1))))))))
theorem _Wm:FnScope ["bottom","fractions"] ["bottom","fractions"] (defScope _w0):=fsc
theorem _Ye {f:Addr} {fd:FuncData} (F:Fun K "tops_over" "tops_over" _w0 f fd) (T:Txt mg) :FnOk P w K mg base CX0 1 f fd ["bottom","fractions"] (spD K 2 _S) :=
 FnOk.d (fnO F _Wm (k:=0) (n:=2) (m:=2) (b:=_Qk) rfl rfl fun cdv A outer s H E hr =>
  (_f (_p (DO.m _ (_s (cl:=_) (N':=["top","own","bottom"]) (js:=[none,none,some 0]) (by o_reads) (by exact (pi_list (_b 1 (pv 1)))) (fun _ _ _ q=>_o q) (by exact fun _ _ _ _ _=>(_Xn rfl (_qk (_m 0 (pgc 0)) (_qk (_m 1 (pgc 1)) _ky)))) (by exact fun _ _ _ _ _=>_C) (by exact fun _ _ _ _ _=>(DE.o (_qh _M _L (_b 0 (pv 0)) (_qh _vi _vg (_b 2 (pv 2)) (_b 1 (pv 1)))))))))))
theorem _Wl:FnScope ["heap","places"] ["heap","places"] (defScope _wz):=fsc
theorem _Yd {f:Addr} {fd:FuncData} (F:Fun K "weight_at" "weight_at" _wz f fd) (T:Txt mg) :FnOk P w K mg base CX0 1 f fd ["heap","places"] (spD K 2 _qp) :=
 FnOk.d (fnO F _Wl (k:=0) (n:=2) (m:=2) (b:=_Qj) rfl rfl fun cdv A outer s H E hr =>
  (_f (_p (DE.m _ (_w (_V1 rfl) _V0 rfl T.z_sum _ql2 (_a (DO.de (_s (cl:=_) (N':=["place","heap"]) (js:=[none,some 0]) (by o_reads) (by exact (pi_list (_b 1 (pv 1)))) (fun _ _ _ q=>_o q) (by exact fun _ _ _ _ _=>(_m 0 (pgc 0))) (by exact fun _ _ _ _ _=>_C) (by exact fun _ _ _ _ _=>(DE.o (_qw (_qw (_b 1 (pv 1)) (_b 0 (pv 0)) (fun _ _=>rfl)) _h (fun _ _=>rfl)))))) _e))))))
theorem _Wn:FnScope ["top","bottom","common"] ["top","bottom"] (defScope _qdg):=fsc
theorem _qjj {f:Addr} {fd:FuncData} (F:Fun K "share" "share" _qdg f fd) (T:Txt mg) (G_divisor:Fn P w K mg base 1 "divisor" ["one","other"] (spD K 2 _xc)):FnOk P w K mg base CX0 2 f fd ["top","bottom"] (spD K 2 _vl) :=
 FnOk.d (fnO F _Wn (k:=1) (n:=2) (m:=3) (b:=_qfh) rfl rfl fun cdv A outer s H E hr =>
  (_c (_ka (_V (_kg hr.units) _kf (_b 1 (pv 1)) _h (nomark _)) (_f _qkp) _F)
   (_c (_r 2 (ps_set (i:=2) _Wn.nd rfl (.inl rfl) (DE.m _ (_G G_divisor (hm hr) rfl (_a (_b 0 (pv 0)) (_a (_b 1 (pv 1)) _e))))))
   (_c (_ka (_V op_lt _qe1 (_b 1 (pv 1)) _h (nomark _)) (_f (_r 2 (ps_set (i:=2) _Wn.nd rfl (.inl rfl) (DE.m _ (de_un un_neg _qhl (_b 2 (pv 2))))))) _F)
   (_f (_p (DE.m _ (_Qh (_a (_qh _vi _vg (_b 0 (pv 0)) (_b 2 (pv 2))) (_a (_qh _vi _vg (_b 1 (pv 1)) (_b 2 (pv 2))) _e))))))))))
theorem _kh:FnScope ["heap","purses","candidate","price","places","bottom","tops","rest","weight","top","place"] ["heap","purses","candidate","price"] (defScope _qj1):=fsc
theorem _qmh {f:Addr} {fd:FuncData} (F:Fun K "rate" "rate" _qj1 f fd) (T:Txt mg) (G_likers:Fn P w K mg base 3 "likers" ["heap","candidate"] (spO K 2 _X)) (G_common_bottom:Fn P w K mg base 2 "common_bottom" ["fractions"] (spD K 1 _y)) (G_tops_over:Fn P w K mg base 1 "tops_over" ["bottom","fractions"] (spD K 2 _S)) (G_weight_at:Fn P w K mg base 1 "weight_at" ["heap","places"] (spD K 2 _qp)) (G_share:Fn P w K mg base 2 "share" ["top","bottom"] (spD K 2 _vl)):FnOk P w K mg base CX0 4 f fd ["heap","purses","candidate","price"] (spD K 4 _Yq) :=
 FnOk.d (fnO F _kh (k:=3) (n:=4) (m:=11) (b:=_qhg) rfl rfl fun cdv A outer s H E hr =>
  (_c (_r 4 (ps_set (i:=4) _kh.nd rfl (.inl rfl) (DO.m _ (_Ka G_likers (hm hr) rfl (_a (_b 0 (pv 0)) (_a (_b 2 (pv 2)) _e))))))
   (_c (_r 5 (ps_set (i:=5) _kh.nd rfl (.inl rfl) (DE.m _ (_G G_common_bottom (hm hr) rfl (_a (DO.de (_s (cl:=_) (N':=["place","purses"]) (js:=[none,some 1]) (by o_reads) (by exact (pi_list (_b 4 (pv 4)))) (fun _ _ _ q=>_o q) (by exact fun _ _ _ _ _=>(_m 0 (pgc 0))) (by exact fun _ _ _ _ _=>_C) (by exact fun _ _ _ _ _=>(DE.o (_qw (_b 1 (pv 1)) (_b 0 (pv 0)) (fun _ _=>rfl)))))) _e)))))
   (_c (_r 6 (ps_set (i:=6) _kh.nd rfl (.inl rfl) (DE.m _ (_G G_tops_over (hm hr) rfl (_a (_b 5 (pv 5)) (_a (DO.de (_s (cl:=_) (N':=["place","purses"]) (js:=[none,some 1]) (by o_reads) (by exact (pi_list (_b 4 (pv 4)))) (fun _ _ _ q=>_o q) (by exact fun _ _ _ _ _=>(_m 0 (pgc 0))) (by exact fun _ _ _ _ _=>_C) (by exact fun _ _ _ _ _=>(DE.o (_qw (_b 1 (pv 1)) (_b 0 (pv 0)) (fun _ _=>rfl)))))) _e))))))
   (_c (_r 7 (ps_set (i:=7) _kh.nd rfl (.inl rfl) (DE.m _ (_qh _M _L (_b 3 (pv 3)) (_b 5 (pv 5))))))
   (_c (_r 8 (ps_set (i:=8) _kh.nd rfl (.inl rfl) (DE.m _ (_G G_weight_at (hm hr) rfl (_a (_b 0 (pv 0)) (_a (_b 4 (pv 4)) _e))))))
   (_c (_vu PassesOwn.never rfl (DO.de (_Y7 rfl rfl rfl T.z_sorted T.z_zip (_a (_b 6 (pv 6)) (_a (_b 4 (pv 4)) _e)))) (_K4 rfl (_qg (_N 9 (pg_name (i:=9) _kh.nd rfl (.inl rfl))) (_qg (_N 10 (pg_name (i:=10) _kh.nd rfl (.inl rfl))) _Q0))) (_c (_ka (_V op_le _qje (_b 7 (pv 7)) (_qh _M _L (_b 8 (pv 8)) (_b 9 (pv 9))) (nomark _)) (_f (_p (DE.m _ (_G G_share (hm hr) rfl (_a (_b 7 (pv 7)) (_a (_qh _M _L (_b 8 (pv 8)) (_b 5 (pv 5))) _e)))))) _F)
   (_c (_r 7 (ps_set (i:=7) _kh.nd rfl (.inl rfl) (DE.m _ (_qh op_sub _Zr (_b 7 (pv 7)) (_qh _M _L (_qw (_qw (_b 0 (pv 0)) (_b 10 (pv 10)) (fun _ _=>rfl)) _h (fun _ _=>rfl)) (_b 9 (pv 9)))))))
   (_f (_r 8 (ps_set (i:=8) _kh.nd rfl (.inl rfl) (DE.m _ (_qh op_sub _Zr (_b 8 (pv 8)) (_qw (_qw (_b 0 (pv 0)) (_b 10 (pv 10)) (fun _ _=>rfl)) _h (fun _ _=>rfl))))))))))
   (_f (_p (DE.m _ _kz))))))))))
theorem _Z8:FnScope ["heap","found","weight","marks"] ["heap"] (defScope _qdi):=fsc
theorem _qjl {f:Addr} {fd:FuncData} (F:Fun K "liked" "liked" _qdi f fd) (T:Txt mg) :FnOk P w K mg base CX0 1 f fd ["heap"] (spO K 1 _xb) :=
 fnO F _Z8 (k:=0) (n:=1) (m:=4) (b:=_qfj) rfl rfl fun cdv A outer s H E hr =>
  (_c (_r 1 (ps_set (i:=1) _Z8.nd rfl (.inl rfl) (DO.m _ (_zd _e))))
   (_c (_vu PassesOwn.never rfl (_b 0 (pv 0)) (_K4 rfl (_qg (_N 2 (pg_name (i:=2) _Z8.nd rfl (.inl rfl))) (_qg (_N 3 (pg_name (i:=3) _Z8.nd rfl (.inl rfl))) _Q0))) (_f (_qn9 (i:=1) (ps_expr (pe_bm PySem.F.plainAttrs_list PySem.F.slot_list_extend PySem.F.type_list_extend _Ks (_Qz (pv 1)) (pa_cons (_b 3 (pv 3)) pa_nil))))))
   (_f (_p (DO.m _ (_Y8 rfl rfl rfl T.z_sorted T.z_set (_b 1 (pv 1))))))))
theorem _Jc:FnScope ["heap","purses","rows","chosen","price","rated"] ["heap","purses","rows"] (defScope _Wt):=fsc
theorem _qgk {f:Addr} {fd:FuncData} (F:Fun K "offers" "offers" _Wt f fd) (T:Txt mg) (G_weight_of:Fn P w K mg base 1 "weight_of" ["heap"] (spD K 1 _I)) (G_rate:Fn P w K mg base 4 "rate" ["heap","purses","candidate","price"] (spD K 4 _Yq)) (G_liked:Fn P w K mg base 1 "liked" ["heap"] (spO K 1 _xb)):FnOk P w K mg base CX0 5 f fd ["heap","purses","rows"] (spD K 3 _vo) :=
 FnOk.d (fnO F _Jc (k:=4) (n:=3) (m:=6) (b:=_qab) rfl rfl fun cdv A outer s H E hr =>
  (_c (_r 3 (ps_set (i:=3) _Jc.nd rfl (.inr rfl) (DO.m _ (_s (cl:=_) (N':=["row"]) (js:=[none]) (by o_reads) (by exact (pi_list (_b 2 (pv 2)))) (fun _ _ _ q=>_o q) (by exact fun _ _ _ _ _=>(_m 0 (pgc 0))) (by exact fun _ _ _ _ _=>_C) (by exact fun _ _ _ _ _=>(DE.o (_qw (_b 0 (pv 0)) _h (fun _ _=>rfl))))))))
   (_c (_r 4 (ps_set (i:=4) _Jc.nd rfl (.inr rfl) (DE.m _ (_G G_weight_of (hm hr) rfl (_a (_b 0 (pv 0)) _e)))))
   (_c (_vv (i:=5) (cl:=_) (N':=["candidate","heap","purses","price","chosen"]) (js:=[none,some 0,some 1,some 4,some 3]) (by o_reads) (by exact (pi_list (DO.de (_Ka G_liked (hm hr) rfl (_a (_b 0 (pv 0)) _e))))) (fun _ _ _ q=>_o q) (by exact fun _ _ _ _ _=>(_m 0 (pgc 0))) (by exact fun _ _ _ _ _=>(_q8 (_V (_Jf (_qem hr)) _Je (_b 0 (pv 0)) (_b 4 (pv 4)) (by rfl)))) (by exact fun _ _ _ _ _=>(DE.o (_Qh (_a (_b 0 (pv 0)) (_a (_G G_rate (hm hr) rfl (_a (_b 1 (pv 1)) (_a (_b 2 (pv 2)) (_a (_b 0 (pv 0)) (_a (_b 3 (pv 3)) _e))))) _e))))) _Jc.nd rfl rfl rfl)
   (_f (_p (DO.m _ (_s (cl:=_) (N':=["offer"]) (js:=[none]) (by o_reads) (by exact (pi_list (_b 5 (pv 5)))) (fun _ _ _ q=>_o q) (by exact fun _ _ _ _ _=>(_m 0 (pgc 0))) (by exact fun _ _ _ _ _=>(_q8 (_V _Qv _Qu (_qw (_b 0 (pv 0)) _h (fun _ _=>rfl)) _kz (nomark _)))) (by exact fun _ _ _ _ _=>(DE.o (_b 0 (pv 0))))))))))))
theorem _qiy:FnScope ["one","other"] ["one","other"] (defScope _qdh):=fsc
theorem _qjk {f:Addr} {fd:FuncData} (F:Fun K "minus" "minus" _qdh f fd) (T:Txt mg) (G_share:Fn P w K mg base 2 "share" ["top","bottom"] (spD K 2 _vl)):FnOk P w K mg base CX0 3 f fd ["one","other"] (spD K 2 _vp) :=
 FnOk.d (fnO F _qiy (k:=2) (n:=2) (m:=2) (b:=_qfi) rfl rfl fun cdv A outer s H E hr =>
  (_f (_p (DE.m _ (_G G_share (hm hr) rfl (_a (_qh op_sub _Zr (_qh _M _L (_qw (_b 0 (pv 0)) _h (fun _ _=>rfl)) (_qw (_b 1 (pv 1)) _h (fun _ _=>rfl))) (_qh _M _L (_qw (_b 1 (pv 1)) _h (fun _ _=>rfl)) (_qw (_b 0 (pv 0)) _h (fun _ _=>rfl)))) (_a (_qh _M _L (_qw (_b 0 (pv 0)) _h (fun _ _=>rfl)) (_qw (_b 1 (pv 1)) _h (fun _ _=>rfl))) _e)))))))
theorem _X3:FnScope ["purse","due"] ["purse","due"] (defScope _zv):=fsc
theorem _X8 {f:Addr} {fd:FuncData} (F:Fun K "purse_behind" "purse_behind" _zv f fd) (T:Txt mg) (G_below:Fn P w K mg base 1 "below" ["one","other"] (spD K 2 _Qx)) (G_minus:Fn P w K mg base 3 "minus" ["one","other"] (spD K 2 _vp)):FnOk P w K mg base CX0 4 f fd ["purse","due"] (spD K 2 _qq) :=
 FnOk.d (fnO F _X3 (k:=3) (n:=2) (m:=2) (b:=_xg) rfl rfl fun cdv A outer s H E hr =>
  (_c (_ka (_zs (_G G_below (hm hr) rfl (_a (_b 0 (pv 0)) (_a (_b 1 (pv 1)) _e)))) (_f (_p (DE.m _ (_Qh (_a _h (_a _h _e)))))) _F)
   (_f (_p (DE.m _ (_G G_minus (hm hr) rfl (_a (_b 0 (pv 0)) (_a (_b 1 (pv 1)) _e))))))))
theorem _qdd:FnScope ["heap","purses","candidate","due","behind","place"] ["heap","purses","candidate","due"] (defScope _qj4):=fsc
theorem _qmk {f:Addr} {fd:FuncData} (F:Fun K "paid" "paid" _qj4 f fd) (T:Txt mg) (G_purse_behind:Fn P w K mg base 4 "purse_behind" ["purse","due"] (spD K 2 _qq)) (G_likers:Fn P w K mg base 3 "likers" ["heap","candidate"] (spO K 2 _X)):FnOk P w K mg base CX0 5 f fd ["heap","purses","candidate","due"] (spD K 4 _qeb) :=
 FnOk.d (fnO F _qdd (k:=4) (n:=4) (m:=6) (b:=_ql6) rfl rfl fun cdv A outer s H E hr =>
  (_c (_r 4 (ps_set (i:=4) _qdd.nd rfl (.inl rfl) (DO.m _ (_xe call_list_of _jb rfl T.z_list _vx (_a (_b 1 (pv 1)) _e)))))
   (_c (_vu PassesOwn.never rfl (DO.de (_Ka G_likers (hm hr) rfl (_a (_b 0 (pv 0)) (_a (_b 2 (pv 2)) _e)))) (_N 5 (pg_name (i:=5) _qdd.nd rfl (.inl rfl))) (_f (_qpd (i:=4) (ps_asg (DE.m _ (_G G_purse_behind (hm hr) rfl (_a (_qw (_b 1 (pv 1)) (_b 5 (pv 5)) (fun _ _=>rfl)) (_a (_b 3 (pv 3)) _e)))) (pg_sub (_Qz (pv 4)) (_b 5 (pv 5)) set_list)))))
   (_f (_p (DE.m _ (_b 4 (pv 4))))))))
theorem _v4:FnScope ["heap","seats","purses","rows","offer"] ["heap","seats"] (defScope _Wr):=fsc
theorem _qgi {f:Addr} {fd:FuncData} (F:Fun K "rounds" "rounds" _Wr f fd) (T:Txt mg) (G_first_purses:Fn P w K mg base 1 "first_purses" ["heap","seats"] (spD K 2 _B)) (G_least:Fn P w K mg base 2 "least" ["offers"] (spD K 1 _vq)) (G_offers:Fn P w K mg base 5 "offers" ["heap","purses","rows"] (spD K 3 _vo)) (G_paid:Fn P w K mg base 5 "paid" ["heap","purses","candidate","due"] (spD K 4 _qeb)):FnOk P w K mg base CX0 6 f fd ["heap","seats"] (spD K 2 _vm) :=
 FnOk.d (fnO F _v4 (k:=5) (n:=2) (m:=5) (b:=_qa8) rfl rfl fun cdv A outer s H E hr =>
  (_c (_r 2 (ps_set (i:=2) _v4.nd rfl (.inl rfl) (DE.m _ (_G G_first_purses (hm hr) rfl (_a (_b 0 (pv 0)) (_a (_b 1 (pv 1)) _e))))))
   (_c (_r 3 (ps_set (i:=3) _v4.nd rfl (.inl rfl) (DO.m _ (_zd _e))))
   (_c (_r 4 (ps_set (i:=4) _v4.nd rfl (.inl rfl) (DE.m _ (_G G_least (hm hr) rfl (_a (_G G_offers (hm hr) rfl (_a (_b 0 (pv 0)) (_a (_b 2 (pv 2)) (_a (_b 3 (pv 3)) _e)))) _e)))))
   (_c (_Y6 PassesOwn.never (_V _Qv _Qu (_b 4 (pv 4)) _kz (nomark _)) (_c (_r 2 (ps_set (i:=2) _v4.nd rfl (.inl rfl) (DE.m _ (_G G_paid (hm hr) rfl (_a (_b 0 (pv 0)) (_a (_b 2 (pv 2)) (_a (_qw (_b 4 (pv 4)) _h (fun _ _=>rfl)) (_a (_qw (_b 4 (pv 4)) _h (fun _ _=>rfl)) _e))))))))
   (_c (_qf1 (i:=3) (ps_expr (pe_bm PySem.F.plainAttrs_list PySem.F.slot_list_append PySem.F.type_list_append mt_append (_Qz (pv 3)) (pa_cons (DE.m _ (_Qh (_a (_qw (_b 4 (pv 4)) _h (fun _ _=>rfl)) (_a (_qw (_b 4 (pv 4)) _h (fun _ _=>rfl)) (_a (_b 2 (pv 2)) _e))))) pa_nil))))
   (_f (_r 4 (ps_set (i:=4) _v4.nd rfl (.inl rfl) (DE.m _ (_G G_least (hm hr) rfl (_a (_G G_offers (hm hr) rfl (_a (_b 0 (pv 0)) (_a (_b 2 (pv 2)) (_a (_b 3 (pv 3)) _e)))) _e)))))))))
   (_f (_p (DE.m _ (_b 3 (pv 3))))))))))
theorem _Js:FnScope ["rows"] ["rows"] (defScope _za):=fsc
theorem _J7 {f:Addr} {fd:FuncData} (F:Fun K "candidates_of" "candidates_of" _za f fd) (T:Txt mg) :FnOk P w K mg base CX0 1 f fd ["rows"] (spD K 1 _qd) :=
 FnOk.d (fnO F _Js (k:=0) (n:=1) (m:=1) (b:=_zh) rfl rfl fun cdv A outer s H E hr =>
  (_f (_p (DO.m _ (_s (cl:=_) (N':=["row"]) (js:=[none]) (by o_reads) (by exact (pi_list (_b 0 (pv 0)))) (fun _ _ _ q=>_o q) (by exact fun _ _ _ _ _=>(_m 0 (pgc 0))) (by exact fun _ _ _ _ _=>_C) (by exact fun _ _ _ _ _=>(DE.o (_qw (_b 0 (pv 0)) _h (fun _ _=>rfl)))))))))
theorem _qdc:FnScope ["heap","amounts","places"] ["heap","amounts","places"] (defScope _Vc):=fsc
theorem _qe2 {f:Addr} {fd:FuncData} (F:Fun K "weighed" "weighed" _Vc f fd) (T:Txt mg) :FnOk P w K mg base CX0 1 f fd ["heap","amounts","places"] (spD K 3 _q5) :=
 FnOk.d (fnO F _qdc (k:=0) (n:=3) (m:=3) (b:=_V3) rfl rfl fun cdv A outer s H E hr =>
  (_f (_p (DE.m _ (_w (_V1 rfl) _V0 rfl T.z_sum _ql2 (_a (DO.de (_s (cl:=_) (N':=["place","amounts","heap"]) (js:=[none,some 1,some 0]) (by o_reads) (by exact (pi_list (_b 2 (pv 2)))) (fun _ _ _ q=>_o q) (by exact fun _ _ _ _ _=>(_m 0 (pgc 0))) (by exact fun _ _ _ _ _=>_C) (by exact fun _ _ _ _ _=>(DE.o (_qh _M _L (_qw (_qw (_b 2 (pv 2)) (_b 0 (pv 0)) (fun _ _=>rfl)) _h (fun _ _=>rfl)) (_qw (_b 1 (pv 1)) (_b 0 (pv 0)) (fun _ _=>rfl))))))) _e))))))
theorem _qan:FnScope ["heap","purses","candidate","places","bottom","missing"] ["heap","purses","candidate"] (defScope _qj0):=fsc
theorem _qmg {f:Addr} {fd:FuncData} (F:Fun K "wait" "wait" _qj0 f fd) (T:Txt mg) (G_likers:Fn P w K mg base 3 "likers" ["heap","candidate"] (spO K 2 _X)) (G_common_bottom:Fn P w K mg base 2 "common_bottom" ["fractions"] (spD K 1 _y)) (G_weight_of:Fn P w K mg base 1 "weight_of" ["heap"] (spD K 1 _I)) (G_weighed:Fn P w K mg base 1 "weighed" ["heap","amounts","places"] (spD K 3 _q5)) (G_tops_over:Fn P w K mg base 1 "tops_over" ["bottom","fractions"] (spD K 2 _S)) (G_share:Fn P w K mg base 2 "share" ["top","bottom"] (spD K 2 _vl)) (G_weight_at:Fn P w K mg base 1 "weight_at" ["heap","places"] (spD K 2 _qp)):FnOk P w K mg base CX0 4 f fd ["heap","purses","candidate"] (spD K 3 _Yp) :=
 FnOk.d (fnO F _qan (k:=3) (n:=3) (m:=6) (b:=_qhf) rfl rfl fun cdv A outer s H E hr =>
  (_c (_r 3 (ps_set (i:=3) _qan.nd rfl (.inl rfl) (DO.m _ (_Ka G_likers (hm hr) rfl (_a (_b 0 (pv 0)) (_a (_b 2 (pv 2)) _e))))))
   (_c (_r 4 (ps_set (i:=4) _qan.nd rfl (.inl rfl) (DE.m _ (_G G_common_bottom (hm hr) rfl (_a (_b 1 (pv 1)) _e)))))
   (_c (_r 5 (ps_set (i:=5) _qan.nd rfl (.inl rfl) (DE.m _ (_qh op_sub _Zr (_qh _M _L (_G G_weight_of (hm hr) rfl (_a (_b 0 (pv 0)) _e)) (_b 4 (pv 4))) (_G G_weighed (hm hr) rfl (_a (_b 0 (pv 0)) (_a (_G G_tops_over (hm hr) rfl (_a (_b 4 (pv 4)) (_a (_b 1 (pv 1)) _e))) (_a (_b 3 (pv 3)) _e))))))))
   (_c (_ka (_V op_le _qje (_b 5 (pv 5)) _h (nomark _)) (_f (_p (DE.m _ (_Qh (_a _h (_a _h _e)))))) _F)
   (_f (_p (DE.m _ (_G G_share (hm hr) rfl (_a (_b 5 (pv 5)) (_a (_qh _M _L (_G G_weight_at (hm hr) rfl (_a (_b 0 (pv 0)) (_a (_b 3 (pv 3)) _e))) (_b 4 (pv 4))) _e)))))))))))
theorem _qix:FnScope ["heap","purses","chosen","seats"] ["heap","purses","chosen","seats"] (defScope _qdf):=fsc
theorem _qji {f:Addr} {fd:FuncData} (F:Fun K "waits" "waits" _qdf f fd) (T:Txt mg) (G_wait:Fn P w K mg base 4 "wait" ["heap","purses","candidate"] (spD K 3 _Yp)) (G_liked:Fn P w K mg base 1 "liked" ["heap"] (spO K 1 _xb)):FnOk P w K mg base CX0 5 f fd ["heap","purses","chosen","seats"] (spD K 4 _Qw) :=
 FnOk.d (fnO F _qix (k:=4) (n:=4) (m:=4) (b:=_qbv) rfl rfl fun cdv A outer s H E hr =>
  (_c (_ka (_V op_ge _Ya (_w call_len_seq _H rfl T.z_len _z5 (_a (_b 2 (pv 2)) _e)) (_b 3 (pv 3)) (nomark _)) (_f (_p (DO.m _ (_zd _e)))) _F)
   (_f (_p (DO.m _ (_s (cl:=_) (N':=["candidate","heap","purses","chosen"]) (js:=[none,some 0,some 1,some 2]) (by o_reads) (by exact (pi_list (DO.de (_Ka G_liked (hm hr) rfl (_a (_b 0 (pv 0)) _e))))) (fun _ _ _ q=>_o q) (by exact fun _ _ _ _ _=>(_m 0 (pgc 0))) (by exact fun _ _ _ _ _=>(_q8 (_V (_Jf (_qem hr)) _Je (_b 0 (pv 0)) (_b 3 (pv 3)) (by rfl)))) (by exact fun _ _ _ _ _=>(DE.o (_Qh (_a (_b 0 (pv 0)) (_a (_G G_wait (hm hr) rfl (_a (_b 1 (pv 1)) (_a (_b 2 (pv 2)) (_a (_b 0 (pv 0)) _e)))) _e)))))))))))
theorem _qlx:FnScope ["one","other"] ["one","other"] (defScope _qj2):=fsc
theorem _qmi {f:Addr} {fd:FuncData} (F:Fun K "plus" "plus" _qj2 f fd) (T:Txt mg) (G_share:Fn P w K mg base 2 "share" ["top","bottom"] (spD K 2 _vl)):FnOk P w K mg base CX0 3 f fd ["one","other"] (spD K 2 _Kt) :=
 FnOk.d (fnO F _qlx (k:=2) (n:=2) (m:=2) (b:=_ql4) rfl rfl fun cdv A outer s H E hr =>
  (_f (_p (DE.m _ (_G G_share (hm hr) rfl (_a (_qh _vj _vh (_qh _M _L (_qw (_b 0 (pv 0)) _h (fun _ _=>rfl)) (_qw (_b 1 (pv 1)) _h (fun _ _=>rfl))) (_qh _M _L (_qw (_b 1 (pv 1)) _h (fun _ _=>rfl)) (_qw (_b 0 (pv 0)) _h (fun _ _=>rfl)))) (_a (_qh _M _L (_qw (_b 0 (pv 0)) _h (fun _ _=>rfl)) (_qw (_b 1 (pv 1)) _h (fun _ _=>rfl))) _e)))))))
theorem _vc:FnScope ["heap","purses","offer","places"] ["heap","purses","offer"] (defScope _x7):=fsc
theorem _J4 {f:Addr} {fd:FuncData} (F:Fun K "purses_behind" "purses_behind" _x7 f fd) (T:Txt mg) (G_likers:Fn P w K mg base 3 "likers" ["heap","candidate"] (spO K 2 _X)) (G_plus:Fn P w K mg base 3 "plus" ["one","other"] (spD K 2 _Kt)):FnOk P w K mg base CX0 4 f fd ["heap","purses","offer"] (spD K 3 _qu) :=
 FnOk.d (fnO F _vc (k:=3) (n:=3) (m:=4) (b:=_ze) rfl rfl fun cdv A outer s H E hr =>
  (_c (_r 3 (ps_set (i:=3) _vc.nd rfl (.inr rfl) (DO.m _ (_Ka G_likers (hm hr) rfl (_a (_b 0 (pv 0)) (_a (_qw (_b 2 (pv 2)) _h (fun _ _=>rfl)) _e))))))
   (_f (_p (DO.m _ (_s (cl:=_) (N':=["place","purse","places","offer"]) (js:=[none,none,some 3,some 2]) (by o_reads) (by exact (_qht rfl T.z_enumerate (_b 1 (pv 1)))) (fun _ _ _ q=>_qbo q) (by exact fun _ _ _ _ _=>(_Xn rfl (_qk (_m 0 (pgc 0)) (_qk (_m 1 (pgc 1)) _ky)))) (by exact fun _ _ _ _ _=>_C) (by exact fun _ _ _ _ _=>(DE.o (de_if (_V (_Yb (_qem hr)) _W9 (_b 0 (pv 0)) (_b 2 (pv 2)) (by rfl)) (_Qh (_a _h (_a _h _e))) (_G G_plus (hm hr) rfl (_a (_b 1 (pv 1)) (_a (_qw (_b 3 (pv 3)) _h (fun _ _=>rfl)) _e))))))))))))
theorem _wx:FnScope ["heap","purses","members","seats","chosen","rows","offer"] ["heap","purses","members","seats"] (defScope _qdk):=fsc
theorem _qjn {f:Addr} {fd:FuncData} (F:Fun K "grown" "grown" _qdk f fd) (T:Txt mg) (G_least:Fn P w K mg base 2 "least" ["offers"] (spD K 1 _vq)) (G_waits:Fn P w K mg base 5 "waits" ["heap","purses","chosen","seats"] (spD K 4 _Qw)) (G_purses_behind:Fn P w K mg base 4 "purses_behind" ["heap","purses","offer"] (spD K 3 _qu)):FnOk P w K mg base CX0 6 f fd ["heap","purses","members","seats"] (spD K 4 _Xd) :=
 FnOk.d (fnO F _wx (k:=5) (n:=4) (m:=7) (b:=_qfn) rfl rfl fun cdv A outer s H E hr =>
  (_c (_r 4 (ps_set (i:=4) _wx.nd rfl (.inl rfl) (DO.m _ (_xe call_list_of _jb rfl T.z_list _vx (_a (_b 2 (pv 2)) _e)))))
   (_c (_r 5 (ps_set (i:=5) _wx.nd rfl (.inl rfl) (DO.m _ (_zd _e))))
   (_c (_r 6 (ps_set (i:=6) _wx.nd rfl (.inl rfl) (DE.m _ (_G G_least (hm hr) rfl (_a (_G G_waits (hm hr) rfl (_a (_b 0 (pv 0)) (_a (_b 1 (pv 1)) (_a (_b 4 (pv 4)) (_a (_b 3 (pv 3)) _e))))) _e)))))
   (_c (_Y6 PassesOwn.never (_V _Qv _Qu (_b 6 (pv 6)) _kz (nomark _)) (_c (_r 1 (ps_set (i:=1) _wx.nd rfl (.inl rfl) (DE.m _ (_G G_purses_behind (hm hr) rfl (_a (_b 0 (pv 0)) (_a (_b 1 (pv 1)) (_a (_b 6 (pv 6)) _e)))))))
   (_c (_qf1 (i:=5) (ps_expr (pe_bm PySem.F.plainAttrs_list PySem.F.slot_list_append PySem.F.type_list_append mt_append (_Qz (pv 5)) (pa_cons (DE.m _ (_Qh (_a (_qw (_b 6 (pv 6)) _h (fun _ _=>rfl)) (_a (_qw (_b 6 (pv 6)) _h (fun _ _=>rfl)) (_a (_b 1 (pv 1)) _e))))) pa_nil))))
   (_c (_qf1 (i:=4) (ps_expr (pe_bm PySem.F.plainAttrs_list PySem.F.slot_list_append PySem.F.type_list_append mt_append (_Qz (pv 4)) (pa_cons (DE.m _ (_qw (_b 6 (pv 6)) _h (fun _ _=>rfl))) pa_nil))))
   (_f (_r 6 (ps_set (i:=6) _wx.nd rfl (.inl rfl) (DE.m _ (_G G_least (hm hr) rfl (_a (_G G_waits (hm hr) rfl (_a (_b 0 (pv 0)) (_a (_b 1 (pv 1)) (_a (_b 4 (pv 4)) (_a (_b 3 (pv 3)) _e))))) _e))))))))))
   (_f (_p (DE.m _ (_b 5 (pv 5))))))))))
theorem _Va:FnScope ["heap","seats","rows"] ["heap","seats","rows"] (defScope _ve):=fsc
theorem _Vn {f:Addr} {fd:FuncData} (F:Fun K "last_purses" "last_purses" _ve f fd) (T:Txt mg) (G_first_purses:Fn P w K mg base 1 "first_purses" ["heap","seats"] (spD K 2 _B)):FnOk P w K mg base CX0 2 f fd ["heap","seats","rows"] (spD K 3 _q1) :=
 FnOk.d (fnO F _Va (k:=1) (n:=3) (m:=3) (b:=_x6) rfl rfl fun cdv A outer s H E hr =>
  (_c (_ka (_V (_kg hr.units) _kf (_b 2 (pv 2)) (DO.de (_zd _e)) (nomark _)) (_f (_p (DE.m _ (_G G_first_purses (hm hr) rfl (_a (_b 0 (pv 0)) (_a (_b 1 (pv 1)) _e)))))) _F)
   (_f (_p (DE.m _ (_qw (_qw (_b 2 (pv 2)) (de_un un_neg _qhl _h) (fun _ _=>rfl)) _h (fun _ _=>rfl)))))))
theorem _Vb:FnScope ["heap","seats","bought","chosen","added"] ["heap","seats"] (defScope _qdm):=fsc
theorem _qjp {f:Addr} {fd:FuncData} (F:Fun K "bench" "bench" _qdm f fd) (T:Txt mg) (G_rounds:Fn P w K mg base 6 "rounds" ["heap","seats"] (spD K 2 _vm)) (G_candidates_of:Fn P w K mg base 1 "candidates_of" ["rows"] (spD K 1 _qd)) (G_grown:Fn P w K mg base 6 "grown" ["heap","purses","members","seats"] (spD K 4 _Xd)) (G_last_purses:Fn P w K mg base 2 "last_purses" ["heap","seats","rows"] (spD K 3 _q1)):FnOk P w K mg base CX0 7 f fd ["heap","seats"] (spD K 2 _Ku) :=
 FnOk.d (fnO F _Vb (k:=6) (n:=2) (m:=5) (b:=_qfo) rfl rfl fun cdv A outer s H E hr =>
  (_c (_r 2 (ps_set (i:=2) _Vb.nd rfl (.inl rfl) (DE.m _ (_G G_rounds (hm hr) rfl (_a (_b 0 (pv 0)) (_a (_b 1 (pv 1)) _e))))))
   (_c (_r 3 (ps_set (i:=3) _Vb.nd rfl (.inl rfl) (DE.m _ (_G G_candidates_of (hm hr) rfl (_a (_b 2 (pv 2)) _e)))))
   (_c (_r 4 (ps_set (i:=4) _Vb.nd rfl (.inl rfl) (DE.m _ (_G G_grown (hm hr) rfl (_a (_b 0 (pv 0)) (_a (_G G_last_purses (hm hr) rfl (_a (_b 0 (pv 0)) (_a (_b 1 (pv 1)) (_a (_b 2 (pv 2)) _e)))) (_a (DO.de (_Vy _z4 _z3 rfl T.z_sorted _kd (_a (_b 3 (pv 3)) _e))) (_a (_b 1 (pv 1)) _e))))))))
   (_f (_p (DO.m _ (_qbl (_xu (_Vy _z4 _z3 rfl T.z_sorted _kd (_a (DO.de (do_op _qb0 _qaz (_b 3 (pv 3)) (_G G_candidates_of (hm hr) rfl (_a (_b 4 (pv 4)) _e)))) _e)) (_xu (DE.o (_b 2 (pv 2))) (_xu (DE.o (_b 4 (pv 4))) _Zy)))))))))))
theorem _Jr:FnScope ["heap","place","members"] ["heap","place","members"] (defScope _x8):=fsc
theorem _J5 {f:Addr} {fd:FuncData} (F:Fun K "members_liked" "members_liked" _x8 f fd) (T:Txt mg) :FnOk P w K mg base CX0 1 f fd ["heap","place","members"] (spD K 3 _x) :=
 FnOk.d (fnO F _Jr (k:=0) (n:=3) (m:=3) (b:=_zf) rfl rfl fun cdv A outer s H E hr =>
  (_f (_p (DO.m _ (_s (cl:=_) (N':=["member","heap","place"]) (js:=[none,some 0,some 1]) (by o_reads) (by exact (pi_list (_b 2 (pv 2)))) (fun _ _ _ q=>_o q) (by exact fun _ _ _ _ _=>(_m 0 (pgc 0))) (by exact fun _ _ _ _ _=>(_q8 (_V (_Yb (_qem hr)) _W9 (_b 0 (pv 0)) (_qw (_qw (_b 1 (pv 1)) (_b 2 (pv 2)) (fun _ _=>rfl)) _h (fun _ _=>rfl)) (by rfl)))) (by exact fun _ _ _ _ _=>(DE.o (_b 0 (pv 0)))))))))
theorem _qde:FnScope ["heap","seats","some","group","agreeing"] ["heap","seats","some","group"] (defScope _qdl):=fsc
theorem _qjo {f:Addr} {fd:FuncData} (F:Fun K "claim" "claim" _qdl f fd) (T:Txt mg) (G_agreed:Fn P w K mg base 2 "agreed" ["heap","some"] (spO K 2 _j6)) (G_weight_at:Fn P w K mg base 1 "weight_at" ["heap","places"] (spD K 2 _qp)) (G_weight_of:Fn P w K mg base 1 "weight_of" ["heap"] (spD K 1 _I)):FnOk P w K mg base CX0 3 f fd ["heap","seats","some","group"] (spD K 4 _xq) :=
 FnOk.d (fnO F _qde (k:=2) (n:=4) (m:=5) (b:=_Z2) rfl rfl fun cdv A outer s H E hr =>
  (_c (_ka (DW.dt (_qko (_V (_kg hr.units) _kf (_w call_len_seq _H rfl T.z_len _z5 (_a (_b 2 (pv 2)) _e)) _h (nomark _)) (_Y5 (_V (_kg hr.units) _kf (_w call_len_seq _H rfl T.z_len _z5 (_a (_b 3 (pv 3)) _e)) _h (nomark _))))) (_f (_p (DE.m _ _Zf))) _F)
   (_c (_r 4 (ps_set (i:=4) _qde.nd rfl (.inr rfl) (DO.m _ (_Ka G_agreed (hm hr) rfl (_a (_b 0 (pv 0)) (_a (_b 2 (pv 2)) _e))))))
   (_c (_ka (_Xm (_zs (_w (_x4 rfl) _x3 rfl T.z_all _K9 (_a (DO.de (_s (cl:=_) (N':=["place","agreeing"]) (js:=[none,some 4]) (by o_reads) (by exact (pi_list (_b 3 (pv 3)))) (fun _ _ _ q=>_o q) (by exact fun _ _ _ _ _=>(_m 0 (pgc 0))) (by exact fun _ _ _ _ _=>_C) (by exact fun _ _ _ _ _=>(DE.o (_vw (_Yb (_qem hr)) _W9 (_b 0 (pv 0)) (_b 1 (pv 1)) (by rfl)))))) _e)))) (_f (_p (DE.m _ _Zf))) _F)
   (_f (_p (DE.m _ (_vw op_ge _Ya (_qh _M _L (_b 1 (pv 1)) (_G G_weight_at (hm hr) rfl (_a (_b 0 (pv 0)) (_a (_b 3 (pv 3)) _e)))) (_qh _M _L (_w call_len_seq _H rfl T.z_len _z5 (_a (_b 2 (pv 2)) _e)) (_G G_weight_of (hm hr) rfl (_a (_b 0 (pv 0)) _e))) (nomark _)))))))))
theorem _wb:FnScope ["candidates","found","candidate"] ["candidates"] (defScope _Ve):=fsc
theorem _qe4 {f:Addr} {fd:FuncData} (F:Fun K "choices" "choices" _Ve f fd) (T:Txt mg) :FnOk P w K mg base CX0 1 f fd ["candidates"] (spD K 1 _xd) :=
 FnOk.d (fnO F _wb (k:=0) (n:=1) (m:=3) (b:=_V7) rfl rfl fun cdv A outer s H E hr =>
  (_c (_r 1 (ps_set (i:=1) _wb.nd rfl (.inl rfl) (DO.m _ (_qib (_xu (_zd _e) _Zy)))))
   (_c (_vu PassesOwn.never rfl (_b 0 (pv 0)) (_N 2 (pg_name (i:=2) _wb.nd rfl (.inr rfl))) (_f (_r 1 (ps_set (i:=1) _wb.nd rfl (.inl rfl) (DO.m _ (do_op _qb0 _qaz (_b 1 (pv 1)) (DO.de (_s (cl:=_) (N':=["some","candidate"]) (js:=[none,some 2]) (by o_reads) (by exact (pi_list (_b 1 (pv 1)))) (fun _ _ _ q=>_o q) (by exact fun _ _ _ _ _=>(_m 0 (pgc 0))) (by exact fun _ _ _ _ _=>_C) (by exact fun _ _ _ _ _=>(do_op _qb0 _qaz (_b 0 (pv 0)) (DO.de (_zd (_a (_b 1 (pv 1)) _e)))))))))))))
   (_f (_p (DE.m _ (_b 1 (pv 1))))))))
theorem _wv:FnScope ["heap","seats","members","some","group"] ["heap","seats","members"] (defScope _Jv):=fsc
theorem _qcb {f:Addr} {fd:FuncData} (F:Fun K "left_out" "left_out" _Jv f fd) (T:Txt mg) (G_members_liked:Fn P w K mg base 1 "members_liked" ["heap","place","members"] (spD K 3 _x)) (G_agreed:Fn P w K mg base 2 "agreed" ["heap","some"] (spO K 2 _j6)) (G_claim:Fn P w K mg base 3 "claim" ["heap","seats","some","group"] (spD K 4 _xq)) (G_choices:Fn P w K mg base 1 "choices" ["candidates"] (spD K 1 _xd)) (G_liked:Fn P w K mg base 1 "liked" ["heap"] (spO K 1 _xb)):FnOk P w K mg base CX0 4 f fd ["heap","seats","members"] (spD K 3 _jy) :=
 FnOk.d (fnO F _wv (k:=3) (n:=3) (m:=5) (b:=_wm) rfl rfl fun cdv A outer s H E hr =>
  (_c (_vu PassesOwn.never rfl (_G G_choices (hm hr) rfl (_a (DO.de (_Ka G_liked (hm hr) rfl (_a (_b 0 (pv 0)) _e))) _e)) (_N 3 (pg_name (i:=3) _wv.nd rfl (.inr rfl))) (_c (_vv (i:=4) (cl:=_) (N':=["place","some","heap","members"]) (js:=[none,some 3,some 0,some 2]) (by o_reads) (by exact (pi_list (DO.de (_Ka G_agreed (hm hr) rfl (_a (_b 0 (pv 0)) (_a (_b 3 (pv 3)) _e)))))) (fun _ _ _ q=>_o q) (by exact fun _ _ _ _ _=>(_m 0 (pgc 0))) (by exact fun _ _ _ _ _=>(_q8 (_V op_lt _qe1 (_w call_len_seq _H rfl T.z_len _z5 (_a (_G G_members_liked (hm hr) rfl (_a (_b 2 (pv 2)) (_a (_b 0 (pv 0)) (_a (_b 3 (pv 3)) _e)))) _e)) (_w call_len_seq _H rfl T.z_len _z5 (_a (_b 1 (pv 1)) _e)) (nomark _)))) (by exact fun _ _ _ _ _=>(DE.o (_b 0 (pv 0)))) _wv.nd rfl rfl rfl)
   (_f (_ka (_zs (_G G_claim (hm hr) rfl (_a (_b 0 (pv 0)) (_a (_b 1 (pv 1)) (_a (_b 3 (pv 3)) (_a (_b 4 (pv 4)) _e)))))) (_f (_p (DE.m _ (_Qh (_a (_b 3 (pv 3)) (_a (_b 4 (pv 4)) _e)))))) _F))))
   (_f (_p (DE.m _ _kz)))))
theorem _wu:FnScope ["heap","seats","members","candidate","group"] ["heap","seats","members"] (defScope _Jt):=fsc
theorem _qc9 {f:Addr} {fd:FuncData} (F:Fun K "shut_out" "shut_out" _Jt f fd) (T:Txt mg) (G_members_liked:Fn P w K mg base 1 "members_liked" ["heap","place","members"] (spD K 3 _x)) (G_likers:Fn P w K mg base 3 "likers" ["heap","candidate"] (spO K 2 _X)) (G_claim:Fn P w K mg base 3 "claim" ["heap","seats","some","group"] (spD K 4 _xq)) (G_liked:Fn P w K mg base 1 "liked" ["heap"] (spO K 1 _xb)):FnOk P w K mg base CX0 4 f fd ["heap","seats","members"] (spD K 3 _zp) :=
 FnOk.d (fnO F _wu (k:=3) (n:=3) (m:=5) (b:=_wl) rfl rfl fun cdv A outer s H E hr =>
  (_c (_vu PassesOwn.never rfl (DO.de (_Ka G_liked (hm hr) rfl (_a (_b 0 (pv 0)) _e))) (_N 3 (pg_name (i:=3) _wu.nd rfl (.inl rfl))) (_c (_vv (i:=4) (cl:=_) (N':=["place","heap","members"]) (js:=[none,some 0,some 2]) (by o_reads) (by exact (pi_list (DO.de (_Ka G_likers (hm hr) rfl (_a (_b 0 (pv 0)) (_a (_b 3 (pv 3)) _e)))))) (fun _ _ _ q=>_o q) (by exact fun _ _ _ _ _=>(_m 0 (pgc 0))) (by exact fun _ _ _ _ _=>(_q8 (_V (_kg hr.units) _kf (_G G_members_liked (hm hr) rfl (_a (_b 1 (pv 1)) (_a (_b 0 (pv 0)) (_a (_b 2 (pv 2)) _e)))) (DO.de (_zd _e)) (nomark _)))) (by exact fun _ _ _ _ _=>(DE.o (_b 0 (pv 0)))) _wu.nd rfl rfl rfl)
   (_f (_ka (_zs (_G G_claim (hm hr) rfl (_a (_b 0 (pv 0)) (_a (_b 1 (pv 1)) (_a (DO.de (_zd (_a (_b 3 (pv 3)) _e))) (_a (_b 4 (pv 4)) _e)))))) (_f (_p (DO.m _ (_qbl (_xu (_zd (_a (_b 3 (pv 3)) _e)) (_xu (DE.o (_b 4 (pv 4))) _Zy)))))) _F))))
   (_f (_p (DE.m _ _kz)))))
theorem _Q3:FnScope ["heap","place","members","few"] ["heap","place","members","few"] (defScope _xo):=fsc
theorem _Q5 {f:Addr} {fd:FuncData} (F:Fun K "likes_no_other" "likes_no_other" _xo f fd) (T:Txt mg) (G_members_liked:Fn P w K mg base 1 "members_liked" ["heap","place","members"] (spD K 3 _x)):FnOk P w K mg base CX0 2 f fd ["heap","place","members","few"] (spD K 4 _T) :=
 FnOk.d (fnO F _Q3 (k:=1) (n:=4) (m:=4) (b:=_xv) rfl rfl fun cdv A outer s H E hr =>
  (_f (_p (DE.m _ (_w (_x4 rfl) _x3 rfl T.z_all _K9 (_a (DO.de (_s (cl:=_) (N':=["member","few"]) (js:=[none,some 3]) (by o_reads) (by exact (pi_list (_G G_members_liked (hm hr) rfl (_a (_b 0 (pv 0)) (_a (_b 1 (pv 1)) (_a (_b 2 (pv 2)) _e)))))) (fun _ _ _ q=>_o q) (by exact fun _ _ _ _ _=>(_m 0 (pgc 0))) (by exact fun _ _ _ _ _=>_C) (by exact fun _ _ _ _ _=>(DE.o (_vw (_Yb (_qem hr)) _W9 (_b 0 (pv 0)) (_b 1 (pv 1)) (by rfl)))))) _e))))))
theorem _Kf:FnScope ["candidates","many"] ["candidates","many"] (defScope _kq):=fsc
theorem _Kp {f:Addr} {fd:FuncData} (F:Fun K "choices_of" "choices_of" _kq f fd) (T:Txt mg) (G_choices:Fn P w K mg base 1 "choices" ["candidates"] (spD K 1 _xd)):FnOk P w K mg base CX0 2 f fd ["candidates","many"] (spD K 2 _jr) :=
 FnOk.d (fnO F _Kf (k:=1) (n:=2) (m:=2) (b:=_k4) rfl rfl fun cdv A outer s H E hr =>
  (_f (_p (DO.m _ (_s (cl:=_) (N':=["some","many"]) (js:=[none,some 1]) (by o_reads) (by exact (pi_list (_G G_choices (hm hr) rfl (_a (_b 0 (pv 0)) _e)))) (fun _ _ _ q=>_o q) (by exact fun _ _ _ _ _=>(_m 0 (pgc 0))) (by exact fun _ _ _ _ _=>(_q8 (_V (_kg hr.units) _kf (_w call_len_seq _H rfl T.z_len _z5 (_a (_b 0 (pv 0)) _e)) (_b 1 (pv 1)) (nomark _)))) (by exact fun _ _ _ _ _=>(DE.o (_b 0 (pv 0)))))))))
theorem _q3:FnScope ["heap","seats","members","some","agreeing","few","group"] ["heap","seats","members"] (defScope _vd):=fsc
theorem _Vm {f:Addr} {fd:FuncData} (F:Fun K "passed_over" "passed_over" _vd f fd) (T:Txt mg) (G_agreed:Fn P w K mg base 2 "agreed" ["heap","some"] (spO K 2 _j6)) (G_claim:Fn P w K mg base 3 "claim" ["heap","seats","some","group"] (spD K 4 _xq)) (G_likes_no_other:Fn P w K mg base 2 "likes_no_other" ["heap","place","members","few"] (spD K 4 _T)) (G_choices_of:Fn P w K mg base 2 "choices_of" ["candidates","many"] (spD K 2 _jr)) (G_choices:Fn P w K mg base 1 "choices" ["candidates"] (spD K 1 _xd)) (G_liked:Fn P w K mg base 1 "liked" ["heap"] (spO K 1 _xb)):FnOk P w K mg base CX0 4 f fd ["heap","seats","members"] (spD K 3 _E) :=
 FnOk.d (fnO F _q3 (k:=3) (n:=3) (m:=7) (b:=_x5) rfl rfl fun cdv A outer s H E hr =>
  (_c (_vu PassesOwn.never rfl (_G G_choices (hm hr) rfl (_a (DO.de (_Ka G_liked (hm hr) rfl (_a (_b 0 (pv 0)) _e))) _e)) (_N 3 (pg_name (i:=3) _q3.nd rfl (.inl rfl))) (_c (_r 4 (ps_set (i:=4) _q3.nd rfl (.inl rfl) (DO.m _ (_Ka G_agreed (hm hr) rfl (_a (_b 0 (pv 0)) (_a (_b 3 (pv 3)) _e))))))
   (_f (_ka (_zs (_G G_claim (hm hr) rfl (_a (_b 0 (pv 0)) (_a (_b 1 (pv 1)) (_a (_b 3 (pv 3)) (_a (_b 4 (pv 4)) _e)))))) (_f (_vu PassesOwn.never rfl (_G G_choices_of (hm hr) rfl (_a (_b 2 (pv 2)) (_a (_w (call_min2 rfl) _qf8 rfl T.z_min _qpl (_a (_qh op_sub _Zr (_w call_len_seq _H rfl T.z_len _z5 (_a (_b 3 (pv 3)) _e)) _h) (_a (_w call_len_seq _H rfl T.z_len _z5 (_a (_b 2 (pv 2)) _e)) _e))) _e))) (_N 5 (pg_name (i:=5) _q3.nd rfl (.inr rfl))) (_c (_vv (i:=6) (cl:=_) (N':=["place","heap","members","few"]) (js:=[none,some 0,some 2,some 5]) (by o_reads) (by exact (pi_list (_b 4 (pv 4)))) (fun _ _ _ q=>_o q) (by exact fun _ _ _ _ _=>(_m 0 (pgc 0))) (by exact fun _ _ _ _ _=>(_q8 (_zs (_G G_likes_no_other (hm hr) rfl (_a (_b 1 (pv 1)) (_a (_b 0 (pv 0)) (_a (_b 2 (pv 2)) (_a (_b 3 (pv 3)) _e)))))))) (by exact fun _ _ _ _ _=>(DE.o (_b 0 (pv 0)))) _q3.nd rfl rfl rfl)
   (_f (_ka (_zs (_G G_claim (hm hr) rfl (_a (_b 0 (pv 0)) (_a (_b 1 (pv 1)) (_a (_b 3 (pv 3)) (_a (_b 6 (pv 6)) _e)))))) (_f (_p (DE.m _ (_Qh (_a (_b 3 (pv 3)) (_a (_b 6 (pv 6)) _e)))))) _F))))) _F))))
   (_f (_p (DE.m _ _kz)))))
theorem _jk:FnScope ["heap","seats","purses","paper","candidate","due","behind"] ["heap","seats"] (defScope _Ju):=fsc
theorem _qca {f:Addr} {fd:FuncData} (F:Fun K "paper_of" "paper_of" _Ju f fd) (T:Txt mg) (G_first_purses:Fn P w K mg base 1 "first_purses" ["heap","seats"] (spD K 2 _B)) (G_minus:Fn P w K mg base 3 "minus" ["one","other"] (spD K 2 _vp)) (G_rounds:Fn P w K mg base 6 "rounds" ["heap","seats"] (spD K 2 _vm)):FnOk P w K mg base CX0 7 f fd ["heap","seats"] (spO K 2 _vn) :=
 fnO F _jk (k:=6) (n:=2) (m:=7) (b:=_Xv) rfl rfl fun cdv A outer s H E hr =>
  (_c (_r 2 (ps_set (i:=2) _jk.nd rfl (.inl rfl) (DE.m _ (_G G_first_purses (hm hr) rfl (_a (_b 0 (pv 0)) (_a (_b 1 (pv 1)) _e))))))
   (_c (_r 3 (ps_set (i:=3) _jk.nd rfl (.inl rfl) (DO.m _ (_zd _e))))
   (_c (_vu PassesOwn.never rfl (_G G_rounds (hm hr) rfl (_a (_b 0 (pv 0)) (_a (_b 1 (pv 1)) _e))) (_K4 rfl (_qg (_N 4 (pg_name (i:=4) _jk.nd rfl (.inl rfl))) (_qg (_N 5 (pg_name (i:=5) _jk.nd rfl (.inl rfl))) (_qg (_N 6 (pg_name (i:=6) _jk.nd rfl (.inl rfl))) _Q0)))) (_c (_qf1 (i:=3) (ps_expr (pe_bm PySem.F.plainAttrs_list PySem.F.slot_list_append PySem.F.type_list_append mt_append (_Qz (pv 3)) (pa_cons (DO.m _ (_qbl (_xu (DE.o (_b 4 (pv 4))) (_xu (_s (cl:=_) (N':=["before","after"]) (js:=[none,none]) (by o_reads) (by exact (_qhs rfl T.z_zip (_a (_b 2 (pv 2)) (_a (_b 6 (pv 6)) _e)))) (fun _ _ _ q=>_qf5 q) (by exact fun _ _ _ _ _=>(_Xn rfl (_qk (_m 0 (pgc 0)) (_qk (_m 1 (pgc 1)) _ky)))) (by exact fun _ _ _ _ _=>_C) (by exact fun _ _ _ _ _=>(DE.o (_G G_minus (hm hr) rfl (_a (_b 0 (pv 0)) (_a (_b 1 (pv 1)) _e)))))) _Zy)))) pa_nil))))
   (_f (_r 2 (ps_set (i:=2) _jk.nd rfl (.inl rfl) (DE.m _ (_b 6 (pv 6))))))))
   (_f (_p (_qnc (pv 3)))))))
theorem _qc6:FnScope ["thing"] ["thing"] (defScope _Jw):=fsc
theorem _qcc {f:Addr} {fd:FuncData} (F:Fun K "is_whole" "is_whole" _Jw f fd) (T:Txt mg) :FnOk P w K mg base CX0 1 f fd ["thing"] (spD K 1 _jz) :=
 FnOk.d (fnO F _qc6 (k:=0) (n:=1) (m:=1) (b:=_Xw) rfl rfl fun cdv A outer s H E hr =>
  (_f (_p (DE.m _ (_Q7 (_qcm _qmv rfl T.z_isinstance rfl T.z_int _qpm (_b 0 (pv 0))) (_Y9 (_qpe (_qcm _qk4 rfl T.z_isinstance rfl T.z_bool _qnm (_b 0 (pv 0))))))))))
theorem _X6:FnScope ["thing"] ["thing"] (defScope _zx):=fsc
theorem _Za {f:Addr} {fd:FuncData} (F:Fun K "is_candidate" "is_candidate" _zx f fd) (T:Txt mg) (G_is_whole:Fn P w K mg base 1 "is_whole" ["thing"] (spD K 1 _jz)):FnOk P w K mg base CX0 2 f fd ["thing"] (spD K 1 _q7) :=
 FnOk.d (fnO F _X6 (k:=1) (n:=1) (m:=1) (b:=_z9) rfl rfl fun cdv A outer s H E hr =>
  (_f (_p (DE.m _ (_Q7 (_G G_is_whole (hm hr) rfl (_a (_b 0 (pv 0)) _e)) (_Q7 (_vw op_ge _Ya (_b 0 (pv 0)) _h (nomark _)) (_Y9 (_vw op_le _qje (_b 0 (pv 0)) (_qnd rfl T.c_LAST_CANDIDATE) (nomark _)))))))))
theorem _ko:FnScope ["thing","top","bottom"] ["thing"] (defScope _w3):=fsc
theorem _Yh {f:Addr} {fd:FuncData} (F:Fun K "is_amount" "is_amount" _w3 f fd) (T:Txt mg) (G_is_whole:Fn P w K mg base 1 "is_whole" ["thing"] (spD K 1 _jz)) (G_divisor:Fn P w K mg base 1 "divisor" ["one","other"] (spD K 2 _xc)):FnOk P w K mg base CX0 2 f fd ["thing"] (spD K 1 _jq) :=
 FnOk.d (fnO F _ko (k:=1) (n:=1) (m:=3) (b:=_Qn) rfl rfl fun cdv A outer s H E hr =>
  (_c (_ka (DW.dt (_qko (_Xm (_zs (_qcm _qb7 rfl T.z_isinstance rfl T.z_tuple _qf9 (_b 0 (pv 0))))) (_Y5 (_V (_qgh hr.units) _qgg (_w call_len_seq _H rfl T.z_len _z5 (_a (_b 0 (pv 0)) _e)) _h (nomark _))))) (_f (_p (DE.m _ _Zf))) _F)
   (_c (_r 1 (ps_set (i:=1) _ko.nd rfl (.inl rfl) (DE.m _ (_qw (_b 0 (pv 0)) _h (fun _ _=>rfl)))))
   (_c (_r 2 (ps_set (i:=2) _ko.nd rfl (.inl rfl) (DE.m _ (_qw (_b 0 (pv 0)) _h (fun _ _=>rfl)))))
   (_c (_ka (DW.dt (_qko (_Xm (_zs (_G G_is_whole (hm hr) rfl (_a (_b 1 (pv 1)) _e)))) (_Y5 (_Xm (_zs (_G G_is_whole (hm hr) rfl (_a (_b 2 (pv 2)) _e))))))) (_f (_p (DE.m _ _Zf))) _F)
   (_f (_p (DE.m _ (_Q7 (_vw op_ge _Ya (_b 1 (pv 1)) _h (nomark _)) (_Q7 (_vw op_ge _Ya (_b 2 (pv 2)) _h (nomark _)) (_Y9 (_vw (_kg hr.units) _kf (_G G_divisor (hm hr) rfl (_a (_b 1 (pv 1)) (_a (_b 2 (pv 2)) _e))) _h (nomark _)))))))))))))
theorem _X5:FnScope ["thing","many"] ["thing","many"] (defScope _zw):=fsc
theorem _X9 {f:Addr} {fd:FuncData} (F:Fun K "is_paid_list" "is_paid_list" _zw f fd) (T:Txt mg) (G_is_amount:Fn P w K mg base 2 "is_amount" ["thing"] (spD K 1 _jq)):FnOk P w K mg base CX0 3 f fd ["thing","many"] (spD K 2 _q6) :=
 FnOk.d (fnO F _X5 (k:=2) (n:=2) (m:=2) (b:=_z8) rfl rfl fun cdv A outer s H E hr =>
  (_f (_p (DE.m _ (_Q7 (_qcm _qef rfl T.z_isinstance rfl T.z_list _vx (_b 0 (pv 0))) (_Q7 (_vw (_kg hr.units) _kf (_w call_len_seq _H rfl T.z_len _z5 (_a (_b 0 (pv 0)) _e)) (_b 1 (pv 1)) (nomark _)) (_Y9 (_w (_x4 rfl) _x3 rfl T.z_all _K9 (_a (DO.de (_s (cl:=_) (N':=["part"]) (js:=[none]) (by o_reads) (by exact (pi_list (_b 0 (pv 0)))) (fun _ _ _ q=>_o q) (by exact fun _ _ _ _ _=>(_m 0 (pgc 0))) (by exact fun _ _ _ _ _=>_C) (by exact fun _ _ _ _ _=>(DE.o (_G G_is_amount (hm hr) rfl (_a (_b 0 (pv 0)) _e)))))) _e)))))))))
theorem _qc7:FnScope ["thing","many"] ["thing","many"] (defScope _Jy):=fsc
theorem _qce {f:Addr} {fd:FuncData} (F:Fun K "is_entry" "is_entry" _Jy f fd) (T:Txt mg) (G_is_candidate:Fn P w K mg base 2 "is_candidate" ["thing"] (spD K 1 _q7)) (G_is_paid_list:Fn P w K mg base 3 "is_paid_list" ["thing","many"] (spD K 2 _q6)):FnOk P w K mg base CX0 4 f fd ["thing","many"] (spD K 2 _vs) :=
 FnOk.d (fnO F _qc7 (k:=3) (n:=2) (m:=2) (b:=_Xy) rfl rfl fun cdv A outer s H E hr =>
  (_f (_p (DE.m _ (_Q7 (_qcm _qb7 rfl T.z_isinstance rfl T.z_tuple _qf9 (_b 0 (pv 0))) (_Q7 (_vw (_kg hr.units) _kf (_w call_len_seq _H rfl T.z_len _z5 (_a (_b 0 (pv 0)) _e)) _h (nomark _)) (_Q7 (_G G_is_candidate (hm hr) rfl (_a (_qw (_b 0 (pv 0)) _h (fun _ _=>rfl)) _e)) (_Y9 (_G G_is_paid_list (hm hr) rfl (_a (_qw (_b 0 (pv 0)) _h (fun _ _=>rfl)) (_a (_b 1 (pv 1)) _e)))))))))))
theorem _ww:FnScope ["thing","many","seen","entry"] ["thing","many"] (defScope _Jx):=fsc
theorem _qcd {f:Addr} {fd:FuncData} (F:Fun K "is_paper" "is_paper" _Jx f fd) (T:Txt mg) (G_is_entry:Fn P w K mg base 4 "is_entry" ["thing","many"] (spD K 2 _vs)):FnOk P w K mg base CX0 5 f fd ["thing","many"] (spD K 2 _vr) :=
 FnOk.d (fnO F _ww (k:=4) (n:=2) (m:=4) (b:=_Xx) rfl rfl fun cdv A outer s H E hr =>
  (_c (_ka (_Xm (_zs (_qcm _qef rfl T.z_isinstance rfl T.z_list _vx (_b 0 (pv 0))))) (_f (_p (DE.m _ _Zf))) _F)
   (_c (_r 2 (ps_set (i:=2) _ww.nd rfl (.inl rfl) (DO.m _ (_zd _e))))
   (_c (_vu PassesOwn.never rfl (_b 0 (pv 0)) (_N 3 (pg_name (i:=3) _ww.nd rfl (.inl rfl))) (_c (_ka (DW.dt (_qko (_Xm (_zs (_G G_is_entry (hm hr) rfl (_a (_b 3 (pv 3)) (_a (_b 1 (pv 1)) _e))))) (_Y5 (_V (_Yb (_qem hr)) _W9 (_qw (_b 3 (pv 3)) _h (fun _ _=>rfl)) (_b 2 (pv 2)) (by rfl))))) (_f (_p (DE.m _ _Zf))) _F)
   (_f (_qf1 (i:=2) (ps_expr (pe_bm PySem.F.plainAttrs_list PySem.F.slot_list_append PySem.F.type_list_append mt_append (_Qz (pv 2)) (pa_cons (DE.m _ (_qw (_b 3 (pv 3)) _h (fun _ _=>rfl))) pa_nil)))))))
   (_f (_p (DE.m _ _Zf)))))))
theorem _xn:FnScope ["heap","candidate","amounts","places","bottom","tops","strangers"] ["heap","candidate","amounts"] (defScope _w2):=fsc
theorem _Yg {f:Addr} {fd:FuncData} (F:Fun K "is_bought" "is_bought" _w2 f fd) (T:Txt mg) (G_likers:Fn P w K mg base 3 "likers" ["heap","candidate"] (spO K 2 _X)) (G_common_bottom:Fn P w K mg base 2 "common_bottom" ["fractions"] (spD K 1 _y)) (G_tops_over:Fn P w K mg base 1 "tops_over" ["bottom","fractions"] (spD K 2 _S)) (G_weighed:Fn P w K mg base 1 "weighed" ["heap","amounts","places"] (spD K 3 _q5)) (G_weight_of:Fn P w K mg base 1 "weight_of" ["heap"] (spD K 1 _I)):FnOk P w K mg base CX0 4 f fd ["heap","candidate","amounts"] (spD K 3 _jp) :=
 FnOk.d (fnO F _xn (k:=3) (n:=3) (m:=7) (b:=_Qm) rfl rfl fun cdv A outer s H E hr =>
  (_c (_r 3 (ps_set (i:=3) _xn.nd rfl (.inr rfl) (DO.m _ (_Ka G_likers (hm hr) rfl (_a (_b 0 (pv 0)) (_a (_b 1 (pv 1)) _e))))))
   (_c (_r 4 (ps_set (i:=4) _xn.nd rfl (.inl rfl) (DE.m _ (_G G_common_bottom (hm hr) rfl (_a (_b 2 (pv 2)) _e)))))
   (_c (_r 5 (ps_set (i:=5) _xn.nd rfl (.inr rfl) (DE.m _ (_G G_tops_over (hm hr) rfl (_a (_b 4 (pv 4)) (_a (_b 2 (pv 2)) _e))))))
   (_c (_vv (i:=6) (cl:=_) (N':=["place","places"]) (js:=[none,some 3]) (by o_reads) (by exact (pi_range1 rfl T.z_range (_a (_w call_len_seq _H rfl T.z_len _z5 (_a (_b 0 (pv 0)) _e)) _e))) (fun _ _ _ q=>_qf6 q) (by exact fun _ _ _ _ _=>(_m 0 (pgc 0))) (by exact fun _ _ _ _ _=>(_q8 (_V (_Jf (_qem hr)) _Je (_b 0 (pv 0)) (_b 1 (pv 1)) (by rfl)))) (by exact fun _ _ _ _ _=>(DE.o (_b 0 (pv 0)))) _xn.nd rfl rfl rfl)
   (_f (_p (DE.m _ (_Q7 (_w (_x4 rfl) _x3 rfl T.z_all _K9 (_a (DO.de (_s (cl:=_) (N':=["place","tops"]) (js:=[none,some 5]) (by o_reads) (by exact (pi_list (_b 6 (pv 6)))) (fun _ _ _ q=>_o q) (by exact fun _ _ _ _ _=>(_m 0 (pgc 0))) (by exact fun _ _ _ _ _=>_C) (by exact fun _ _ _ _ _=>(DE.o (_vw (_kg hr.units) _kf (_qw (_b 1 (pv 1)) (_b 0 (pv 0)) (fun _ _=>rfl)) _h (nomark _)))))) _e)) (_Y9 (_vw (_kg hr.units) _kf (_G G_weighed (hm hr) rfl (_a (_b 0 (pv 0)) (_a (_b 5 (pv 5)) (_a (_b 3 (pv 3)) _e)))) (_qh _M _L (_G G_weight_of (hm hr) rfl (_a (_b 0 (pv 0)) _e)) (_b 4 (pv 4))) (nomark _))))))))))))
theorem _qo:FnScope ["paper","fractions","candidate","amounts"] ["paper"] (defScope _j5):=fsc
theorem _Qb {f:Addr} {fd:FuncData} (F:Fun K "bottom_of_paper" "bottom_of_paper" _j5 f fd) (T:Txt mg) (G_common_bottom:Fn P w K mg base 2 "common_bottom" ["fractions"] (spD K 1 _y)):FnOk P w K mg base CX0 3 f fd ["paper"] (spD K 1 _qb) :=
 FnOk.d (fnO F _qo (k:=2) (n:=1) (m:=4) (b:=_j9) rfl rfl fun cdv A outer s H E hr =>
  (_c (_r 1 (ps_set (i:=1) _qo.nd rfl (.inl rfl) (DO.m _ (_zd _e))))
   (_c (_vu PassesOwn.never rfl (_b 0 (pv 0)) (_K4 rfl (_qg (_N 2 (pg_name (i:=2) _qo.nd rfl (.inl rfl))) (_qg (_N 3 (pg_name (i:=3) _qo.nd rfl (.inl rfl))) _Q0))) (_f (_qn9 (i:=1) (ps_expr (pe_bm PySem.F.plainAttrs_list PySem.F.slot_list_extend PySem.F.type_list_extend _Ks (_Qz (pv 1)) (pa_cons (_b 3 (pv 3)) pa_nil))))))
   (_f (_p (DE.m _ (_G G_common_bottom (hm hr) rfl (_a (_b 1 (pv 1)) _e))))))))
theorem _xm:FnScope ["heap","seats","paper","bottom","left","candidate","amounts"] ["heap","seats","paper","bottom"] (defScope _w1):=fsc
theorem _Yf {f:Addr} {fd:FuncData} (F:Fun K "tops_left" "tops_left" _w1 f fd) (T:Txt mg) (G_tops_over:Fn P w K mg base 1 "tops_over" ["bottom","fractions"] (spD K 2 _S)):FnOk P w K mg base CX0 2 f fd ["heap","seats","paper","bottom"] (spD K 4 _zo) :=
 FnOk.d (fnO F _xm (k:=1) (n:=4) (m:=7) (b:=_Ql) rfl rfl fun cdv A outer s H E hr =>
  (_c (_vv (i:=4) (cl:=_) (N':=["pile","seats","bottom"]) (js:=[none,some 1,some 3]) (by o_reads) (by exact (pi_list (_b 0 (pv 0)))) (fun _ _ _ q=>_o q) (by exact fun _ _ _ _ _=>(_m 0 (pgc 0))) (by exact fun _ _ _ _ _=>_C) (by exact fun _ _ _ _ _=>(DE.o (_qh _M _L (_b 1 (pv 1)) (_b 2 (pv 2))))) _xm.nd rfl rfl rfl)
   (_c (_vu PassesOwn.never rfl (_b 2 (pv 2)) (_K4 rfl (_qg (_N 5 (pg_name (i:=5) _xm.nd rfl (.inl rfl))) (_qg (_N 6 (pg_name (i:=6) _xm.nd rfl (.inl rfl))) _Q0))) (_f (_vv (i:=4) (cl:=_) (N':=["one","other"]) (js:=[none,none]) (by o_reads) (by exact (_qhs rfl T.z_zip (_a (_b 4 (pv 4)) (_a (_G G_tops_over (hm hr) rfl (_a (_b 3 (pv 3)) (_a (_b 6 (pv 6)) _e))) _e)))) (fun _ _ _ q=>_qf5 q) (by exact fun _ _ _ _ _=>(_Xn rfl (_qk (_m 0 (pgc 0)) (_qk (_m 1 (pgc 1)) _ky)))) (by exact fun _ _ _ _ _=>_C) (by exact fun _ _ _ _ _=>(DE.o (_qh op_sub _Zr (_b 0 (pv 0)) (_b 1 (pv 1))))) _xm.nd rfl rfl rfl)))
   (_f (_p (DE.m _ (_b 4 (pv 4))))))))
theorem _qao:FnScope ["heap","paper","chosen"] ["heap","paper"] (defScope _Ws):=fsc
theorem _qgj {f:Addr} {fd:FuncData} (F:Fun K "others" "others" _Ws f fd) (T:Txt mg) (G_liked:Fn P w K mg base 1 "liked" ["heap"] (spO K 1 _xb)):FnOk P w K mg base CX0 2 f fd ["heap","paper"] (spD K 2 _Xb) :=
 FnOk.d (fnO F _qao (k:=1) (n:=2) (m:=3) (b:=_qaa) rfl rfl fun cdv A outer s H E hr =>
  (_c (_r 2 (ps_set (i:=2) _qao.nd rfl (.inr rfl) (DO.m _ (_s (cl:=_) (N':=["entry"]) (js:=[none]) (by o_reads) (by exact (pi_list (_b 1 (pv 1)))) (fun _ _ _ q=>_o q) (by exact fun _ _ _ _ _=>(_m 0 (pgc 0))) (by exact fun _ _ _ _ _=>_C) (by exact fun _ _ _ _ _=>(DE.o (_qw (_b 0 (pv 0)) _h (fun _ _=>rfl))))))))
   (_f (_p (DO.m _ (_s (cl:=_) (N':=["candidate","chosen"]) (js:=[none,some 2]) (by o_reads) (by exact (pi_list (DO.de (_Ka G_liked (hm hr) rfl (_a (_b 0 (pv 0)) _e))))) (fun _ _ _ q=>_o q) (by exact fun _ _ _ _ _=>(_m 0 (pgc 0))) (by exact fun _ _ _ _ _=>(_q8 (_V (_Jf (_qem hr)) _Je (_b 0 (pv 0)) (_b 1 (pv 1)) (by rfl)))) (by exact fun _ _ _ _ _=>(DE.o (_b 0 (pv 0))))))))))
theorem _W:FnScope ["heap","seats","paper","bottom","left","price"] ["heap","seats","paper"] (defScope _q4):=fsc
theorem _ku {f:Addr} {fd:FuncData} (F:Fun K "leaves_too_little" "leaves_too_little" _q4 f fd) (T:Txt mg) (G_bottom_of_paper:Fn P w K mg base 3 "bottom_of_paper" ["paper"] (spD K 1 _qb)) (G_tops_left:Fn P w K mg base 2 "tops_left" ["heap","seats","paper","bottom"] (spD K 4 _zo)) (G_weight_of:Fn P w K mg base 1 "weight_of" ["heap"] (spD K 1 _I)) (G_weighed:Fn P w K mg base 1 "weighed" ["heap","amounts","places"] (spD K 3 _q5)) (G_likers:Fn P w K mg base 3 "likers" ["heap","candidate"] (spO K 2 _X)) (G_others:Fn P w K mg base 2 "others" ["heap","paper"] (spD K 2 _Xb)):FnOk P w K mg base CX0 4 f fd ["heap","seats","paper"] (spD K 3 _O) :=
 FnOk.d (fnO F _W (k:=3) (n:=3) (m:=6) (b:=_jd) rfl rfl fun cdv A outer s H E hr =>
  (_c (_r 3 (ps_set (i:=3) _W.nd rfl (.inl rfl) (DE.m _ (_G G_bottom_of_paper (hm hr) rfl (_a (_b 2 (pv 2)) _e)))))
   (_c (_r 4 (ps_set (i:=4) _W.nd rfl (.inr rfl) (DE.m _ (_G G_tops_left (hm hr) rfl (_a (_b 0 (pv 0)) (_a (_b 1 (pv 1)) (_a (_b 2 (pv 2)) (_a (_b 3 (pv 3)) _e))))))))
   (_c (_r 5 (ps_set (i:=5) _W.nd rfl (.inr rfl) (DE.m _ (_qh _M _L (_G G_weight_of (hm hr) rfl (_a (_b 0 (pv 0)) _e)) (_b 3 (pv 3))))))
   (_f (_p (DE.m _ (_Q7 (_w (_x4 rfl) _x3 rfl T.z_all _K9 (_a (DO.de (_s (cl:=_) (N':=["top"]) (js:=[none]) (by o_reads) (by exact (pi_list (_b 4 (pv 4)))) (fun _ _ _ q=>_o q) (by exact fun _ _ _ _ _=>(_m 0 (pgc 0))) (by exact fun _ _ _ _ _=>_C) (by exact fun _ _ _ _ _=>(DE.o (_vw op_ge _Ya (_b 0 (pv 0)) _h (nomark _)))))) _e)) (_Y9 (_w (_x4 rfl) _x3 rfl T.z_all _K9 (_a (DO.de (_s (cl:=_) (N':=["other","price","heap","left"]) (js:=[none,some 5,some 0,some 4]) (by o_reads) (by exact (pi_list (_G G_others (hm hr) rfl (_a (_b 0 (pv 0)) (_a (_b 2 (pv 2)) _e))))) (fun _ _ _ q=>_o q) (by exact fun _ _ _ _ _=>(_m 0 (pgc 0))) (by exact fun _ _ _ _ _=>_C) (by exact fun _ _ _ _ _=>(DE.o (_vw op_lt _qe1 (_G G_weighed (hm hr) rfl (_a (_b 2 (pv 2)) (_a (_b 3 (pv 3)) (_a (DO.de (_Ka G_likers (hm hr) rfl (_a (_b 2 (pv 2)) (_a (_b 0 (pv 0)) _e)))) _e)))) (_b 1 (pv 1)) (nomark _)))))) _e)))))))))))
theorem _qly:FnScope ["heap","seats","paper"] ["heap","seats","paper"] (defScope _qj3):=fsc
theorem _qmj {f:Addr} {fd:FuncData} (F:Fun K "pays" "pays" _qj3 f fd) (T:Txt mg) (G_is_paper:Fn P w K mg base 5 "is_paper" ["thing","many"] (spD K 2 _vr)) (G_is_bought:Fn P w K mg base 4 "is_bought" ["heap","candidate","amounts"] (spD K 3 _jp)) (G_leaves_too_little:Fn P w K mg base 4 "leaves_too_little" ["heap","seats","paper"] (spD K 3 _O)):FnOk P w K mg base CX0 6 f fd ["heap","seats","paper"] (spD K 3 _qci) :=
 FnOk.d (fnO F _qly (k:=5) (n:=3) (m:=3) (b:=_ql5) rfl rfl fun cdv A outer s H E hr =>
  (_c (_ka (_Xm (_zs (_G G_is_paper (hm hr) rfl (_a (_b 2 (pv 2)) (_a (_w call_len_seq _H rfl T.z_len _z5 (_a (_b 0 (pv 0)) _e)) _e))))) (_f (_p (DE.m _ _Zf))) _F)
   (_c (_ka (_Xm (_zs (_w (_x4 rfl) _x3 rfl T.z_all _K9 (_a (DO.de (_s (cl:=_) (N':=["candidate","amounts","heap"]) (js:=[none,none,some 0]) (by o_reads) (by exact (pi_list (_b 2 (pv 2)))) (fun _ _ _ q=>_o q) (by exact fun _ _ _ _ _=>(_Xn rfl (_qk (_m 0 (pgc 0)) (_qk (_m 1 (pgc 1)) _ky)))) (by exact fun _ _ _ _ _=>_C) (by exact fun _ _ _ _ _=>(DE.o (_G G_is_bought (hm hr) rfl (_a (_b 2 (pv 2)) (_a (_b 0 (pv 0)) (_a (_b 1 (pv 1)) _e)))))))) _e)))) (_f (_p (DE.m _ _Zf))) _F)
   (_f (_p (DE.m _ (_G G_leaves_too_little (hm hr) rfl (_a (_b 0 (pv 0)) (_a (_b 1 (pv 1)) (_a (_b 2 (pv 2)) _e))))))))))
theorem _jw:FnScope ["heap","seats","chosen","paper","k","fewer","left"] ["heap","seats","chosen"] (defScope _kr):=fsc
theorem _Kq {f:Addr} {fd:FuncData} (F:Fun K "_law_paper" "_law_paper" _kr f fd) (T:Txt mg) (G_paper_of:Fn P w K mg base 7 "paper_of" ["heap","seats"] (spO K 2 _vn)) (G_pays:Fn P w K mg base 6 "pays" ["heap","seats","paper"] (spD K 3 _qci)) (G_passed_over:Fn P w K mg base 4 "passed_over" ["heap","seats","members"] (spD K 3 _E)):FnOk P w K mg base CX0 8 f fd ["heap","seats","chosen"] (spD K 3 _xr) :=
 FnOk.d (fnO F _jw (k:=7) (n:=3) (m:=7) (b:=_k5) rfl rfl fun cdv A outer s H E hr =>
  (_c (_r 3 (ps_set (i:=3) _jw.nd rfl (.inl rfl) (DO.m _ (_Ka G_paper_of (hm hr) rfl (_a (_b 0 (pv 0)) (_a (_b 1 (pv 1)) _e))))))
   (_c (_ka (DW.dt (_qko (_V _Qv _Qu (_G G_pays (hm hr) rfl (_a (_b 0 (pv 0)) (_a (_b 1 (pv 1)) (_a (_b 3 (pv 3)) _e)))) _Zf (nomark _)) (_Y5 (_V (_qgh hr.units) _qgg (DO.de (_s (cl:=_) (N':=["row"]) (js:=[none]) (by o_reads) (by exact (pi_list (_b 3 (pv 3)))) (fun _ _ _ q=>_o q) (by exact fun _ _ _ _ _=>(_m 0 (pgc 0))) (by exact fun _ _ _ _ _=>_C) (by exact fun _ _ _ _ _=>(DE.o (_qw (_b 0 (pv 0)) _h (fun _ _=>rfl)))))) (_b 2 (pv 2)) (nomark _))))) (_f (_p (DE.m _ _Zf))) _F)
   (_c (_qkq PassesOwn.never rfl rfl T.z_range (_a (_w call_len_seq _H rfl T.z_len _z5 (_a (_b 3 (pv 3)) _e)) _e) (_N 4 (pg_name (i:=4) _jw.nd rfl (.inl rfl))) (_c (_r 5 (ps_set (i:=5) _jw.nd rfl (.inl rfl) (DO.m _ (do_op _qb0 _qaz (DO.de (_qna (_b 3 (pv 3)) _Vx (_Qg (_b 4 (pv 4))))) (DO.de (_qna (_b 3 (pv 3)) (_Qg (_qh _vj _vh (_b 4 (pv 4)) _h)) _Vx))))))
   (_c (_r 6 (ps_set (i:=6) _jw.nd rfl (.inl rfl) (DO.m _ (_Vy _z4 _z3 rfl T.z_sorted _kd (_a (DO.de (_s (cl:=_) (N':=["row"]) (js:=[none]) (by o_reads) (by exact (pi_list (_b 5 (pv 5)))) (fun _ _ _ q=>_o q) (by exact fun _ _ _ _ _=>(_m 0 (pgc 0))) (by exact fun _ _ _ _ _=>_C) (by exact fun _ _ _ _ _=>(DE.o (_qw (_b 0 (pv 0)) _h (fun _ _=>rfl)))))) _e)))))
   (_f (_ka (DW.dt (_qpc (_zs (_G G_pays (hm hr) rfl (_a (_b 0 (pv 0)) (_a (_b 1 (pv 1)) (_a (_b 5 (pv 5)) _e))))) (_qn7 (_V _Qv _Qu (_G G_passed_over (hm hr) rfl (_a (_b 0 (pv 0)) (_a (_b 1 (pv 1)) (_a (_b 6 (pv 6)) _e)))) _kz (nomark _))))) (_f (_p (DE.m _ _Zf))) _F)))))
   (_f (_p (DE.m _ _Zf)))))))
theorem _qg2:FnScope ["heap","seats"] ["heap","seats"] (defScope _Wv):=fsc
theorem _qgm {f:Addr} {fd:FuncData} (F:Fun K "growth" "growth" _Wv f fd) (T:Txt mg) (G_grown:Fn P w K mg base 6 "grown" ["heap","purses","members","seats"] (spD K 4 _Xd)):FnOk P w K mg base CX0 7 f fd ["heap","seats"] (spD K 2 _Xc) :=
 FnOk.d (fnO F _qg2 (k:=6) (n:=2) (m:=2) (b:=_qad) rfl rfl fun cdv A outer s H E hr =>
  (_f (_p (DE.m _ (_G G_grown (hm hr) rfl (_a (_b 0 (pv 0)) (_a (DO.de (_s (cl:=_) (N':=["pile"]) (js:=[none]) (by o_reads) (by exact (pi_list (_b 0 (pv 0)))) (fun _ _ _ q=>_o q) (by exact fun _ _ _ _ _=>(_m 0 (pgc 0))) (by exact fun _ _ _ _ _=>_C) (by exact fun _ _ _ _ _=>(DE.o (_Qh (_a _h (_a _h _e))))))) (_a (DO.de (_zd _e)) (_a (_b 1 (pv 1)) _e)))))))))
theorem _qc:FnScope ["heap","seats","members","candidate","left","found","some","group","place"] ["heap","seats","members","candidate"] (defScope _zz):=fsc
theorem _Zc {f:Addr} {fd:FuncData} (F:Fun K "_law_without" "_law_without" _zz f fd) (T:Txt mg) (G_left_out:Fn P w K mg base 4 "left_out" ["heap","seats","members"] (spD K 3 _jy)) (G_passed_over:Fn P w K mg base 4 "passed_over" ["heap","seats","members"] (spD K 3 _E)) (G_claim:Fn P w K mg base 3 "claim" ["heap","seats","some","group"] (spD K 4 _xq)):FnOk P w K mg base CX0 5 f fd ["heap","seats","members","candidate"] (spD K 4 _qr) :=
 FnOk.d (fnO F _qc (k:=4) (n:=4) (m:=9) (b:=_xi) rfl rfl fun cdv A outer s H E hr =>
  (_c (_r 4 (ps_set (i:=4) _qc.nd rfl (.inr rfl) (DO.m _ (_s (cl:=_) (N':=["other","candidate"]) (js:=[none,some 3]) (by o_reads) (by exact (pi_list (_b 2 (pv 2)))) (fun _ _ _ q=>_o q) (by exact fun _ _ _ _ _=>(_m 0 (pgc 0))) (by exact fun _ _ _ _ _=>(_q8 (_V (_qgh hr.units) _qgg (_b 0 (pv 0)) (_b 1 (pv 1)) (nomark _)))) (by exact fun _ _ _ _ _=>(DE.o (_b 0 (pv 0))))))))
   (_c (_r 5 (ps_set (i:=5) _qc.nd rfl (.inl rfl) (DE.m _ (_G G_left_out (hm hr) rfl (_a (_b 0 (pv 0)) (_a (_b 1 (pv 1)) (_a (DO.de (_xe call_list_of _jb rfl T.z_list _vx (_a (_b 4 (pv 4)) _e))) _e)))))))
   (_c (_ka (_V _qjh _qjf (_b 5 (pv 5)) _kz (nomark _)) (_f (_p (DE.m _ (_vw _qjh _qjf (_G G_passed_over (hm hr) rfl (_a (_b 0 (pv 0)) (_a (_b 1 (pv 1)) (_a (DO.de (_xe call_list_of _jb rfl T.z_list _vx (_a (_b 4 (pv 4)) _e))) _e)))) _kz (nomark _))))) _F)
   (_c (_qn8 (ps_asg (_b 5 (pv 5)) (_K4 rfl (_qg (_N 6 (pg_name (i:=6) _qc.nd rfl (.inl rfl))) (_qg (_N 7 (pg_name (i:=7) _qc.nd rfl (.inl rfl))) _Q0)))))
   (_c (_ka (_Xm (_zs (_G G_claim (hm hr) rfl (_a (_b 0 (pv 0)) (_a (_b 1 (pv 1)) (_a (DO.de (_xe call_list_of _jb rfl T.z_list _vx (_a (_b 6 (pv 6)) _e))) (_a (DO.de (_xe call_list_of _jb rfl T.z_list _vx (_a (_b 7 (pv 7)) _e))) _e))))))) (_f (_p (DE.m _ _Zf))) _F)
   (_c (_vu PassesOwn.never rfl (_b 7 (pv 7)) (_N 8 (pg_name (i:=8) _qc.nd rfl (.inl rfl))) (_f (_ka (_V op_ge _Ya (_w call_len_seq _H rfl T.z_len _z5 (_a (DO.de (_s (cl:=_) (N':=["other","left"]) (js:=[none,some 4]) (by o_reads) (by exact (pi_list (_qw (_qw (_b 0 (pv 0)) (_b 8 (pv 8)) (fun _ _=>rfl)) _h (fun _ _=>rfl)))) (fun _ _ _ q=>_o q) (by exact fun _ _ _ _ _=>(_m 0 (pgc 0))) (by exact fun _ _ _ _ _=>(_q8 (_V (_Yb (_qem hr)) _W9 (_b 0 (pv 0)) (_b 1 (pv 1)) (by rfl)))) (by exact fun _ _ _ _ _=>(DE.o (_b 0 (pv 0)))))) _e)) (_w call_len_seq _H rfl T.z_len _z5 (_a (_b 6 (pv 6)) _e)) (nomark _)) (_f (_p (DE.m _ _Zf))) _F)))
   (_f (_p (DE.m _ _Zf))))))))))
theorem _X4:FnScope ["script","heap","seats","members","rows","more","found","chosen","candidate"] ["script"] (defScope _qj5):=fsc
theorem _qon {f:Addr} {fd:FuncData} (F:Fun K "law" "law" _qj5 f fd) (T:Txt mg) (G__law_heap:Fn P w K mg base 3 "_law_heap" ["cells","unit"] (spD K 2 _zr)) (G__law_unit:Fn P w K mg base 1 "_law_unit" ["number"] (spD K 1 _zq)) (G__law_cell:Fn P w K mg base 1 "_law_cell" ["script","k"] (spD K 2 _U)) (G_bench:Fn P w K mg base 7 "bench" ["heap","seats"] (spD K 2 _Ku)) (G_left_out:Fn P w K mg base 4 "left_out" ["heap","seats","members"] (spD K 3 _jy)) (G_shut_out:Fn P w K mg base 4 "shut_out" ["heap","seats","members"] (spD K 3 _zp)) (G_passed_over:Fn P w K mg base 4 "passed_over" ["heap","seats","members"] (spD K 3 _E)) (G__law_paper:Fn P w K mg base 8 "_law_paper" ["heap","seats","chosen"] (spD K 3 _xr)) (G_growth:Fn P w K mg base 7 "growth" ["heap","seats"] (spD K 2 _Xc)) (G__law_without:Fn P w K mg base 5 "_law_without" ["heap","seats","members","candidate"] (spD K 4 _qr)):FnOk P w K mg base CX0 9 f fd ["script"] (spD K 1 _qi3) :=
 FnOk.d (fnO F _X4 (k:=8) (n:=1) (m:=9) (b:=b_law) rfl rfl fun cdv A outer s H E hr =>
  (_c (_r 1 (ps_set (i:=1) _X4.nd rfl (.inl rfl) (DE.m _ (_G G__law_heap (hm hr) rfl (_a (DO.de (_qna (_b 0 (pv 0)) (_Qg _h) (_Qg _h))) (_a (_G G__law_unit (hm hr) rfl (_a (_G G__law_cell (hm hr) rfl (_a (_b 0 (pv 0)) (_a _h _e))) _e)) _e))))))
   (_c (_ka (_V (_kg hr.units) _kf (_b 1 (pv 1)) (DO.de (_zd _e)) (nomark _)) (_f (_r 1 (ps_set (i:=1) _X4.nd rfl (.inl rfl) (DO.m _ (_qib (_xu (_qbl (_xu (DE.o (_qh _vj _vh _h (_qh op_modN _x0 (_G G__law_cell (hm hr) rfl (_a (_b 0 (pv 0)) (_a _h _e))) (_qh op_pow _qe0 _h _h)))) (_xu (_zd (_qf3 (ns:=[0,1,2]) rfl)) _Zy))) _Zy)))))) _F)
   (_c (_r 2 (ps_set (i:=2) _X4.nd rfl (.inl rfl) (DE.m _ (_qh _vj _vh _h (_qh op_modN _x0 (_G G__law_cell (hm hr) rfl (_a (_b 0 (pv 0)) (_a _h _e))) _h)))))
   (_c (_qn8 (ps_asg (_G G_bench (hm hr) rfl (_a (_b 1 (pv 1)) (_a (_b 2 (pv 2)) _e))) (_K4 rfl (_qg (_N 3 (pg_name (i:=3) _X4.nd rfl (.inl rfl))) (_qg (_N 4 (pg_name (i:=4) _X4.nd rfl (.inl rfl))) (_qg (_N 5 (pg_name (i:=5) _X4.nd rfl (.inl rfl))) _Q0))))))
   (_c (_vu PassesOwn.never rfl (DO.de (_zd (_a (_G G_left_out (hm hr) rfl (_a (_b 1 (pv 1)) (_a (_b 2 (pv 2)) (_a (DO.de (_xe call_list_of _jb rfl T.z_list _vx (_a (_b 3 (pv 3)) _e))) _e)))) (_a (_G G_shut_out (hm hr) rfl (_a (_b 1 (pv 1)) (_a (_b 2 (pv 2)) (_a (DO.de (_xe call_list_of _jb rfl T.z_list _vx (_a (_b 3 (pv 3)) _e))) _e)))) _e)))) (_N 6 (pg_name (i:=6) _X4.nd rfl (.inl rfl))) (_f (_ka (_V _Qv _Qu (_b 6 (pv 6)) _kz (nomark _)) (_f (_p (DE.m _ _Zf))) _F)))
   (_c (_vv (i:=7) (cl:=_) (N':=["row"]) (js:=[none]) (by o_reads) (by exact (pi_list (_b 4 (pv 4)))) (fun _ _ _ q=>_o q) (by exact fun _ _ _ _ _=>(_m 0 (pgc 0))) (by exact fun _ _ _ _ _=>_C) (by exact fun _ _ _ _ _=>(DE.o (_qw (_b 0 (pv 0)) _h (fun _ _=>rfl)))) _X4.nd rfl rfl rfl)
   (_c (_ka (DW.dt (_qko (_V _Qv _Qu (_G G_passed_over (hm hr) rfl (_a (_b 1 (pv 1)) (_a (_b 2 (pv 2)) (_a (DO.de (_xe call_list_of _jb rfl T.z_list _vx (_a (_b 3 (pv 3)) _e))) _e)))) _kz (nomark _)) (_Y5 (_Xm (_zs (_G G__law_paper (hm hr) rfl (_a (_b 1 (pv 1)) (_a (_b 2 (pv 2)) (_a (_b 7 (pv 7)) _e))))))))) (_f (_p (DE.m _ _Zf))) _F)
   (_c (_ka (_V _Qv _Qu (_G G_passed_over (hm hr) rfl (_a (_b 1 (pv 1)) (_a (_b 2 (pv 2)) (_a (DO.de (_Vy _z4 _z3 rfl T.z_sorted _kd (_a (DO.de (_s (cl:=_) (N':=["row"]) (js:=[none]) (by o_reads) (by exact (pi_list (_G G_growth (hm hr) rfl (_a (_b 1 (pv 1)) (_a (_b 2 (pv 2)) _e))))) (fun _ _ _ q=>_o q) (by exact fun _ _ _ _ _=>(_m 0 (pgc 0))) (by exact fun _ _ _ _ _=>_C) (by exact fun _ _ _ _ _=>(DE.o (_qw (_b 0 (pv 0)) _h (fun _ _=>rfl)))))) _e))) _e)))) _kz (nomark _)) (_f (_p (DE.m _ _Zf))) _F)
   (_c (_vu PassesOwn.never rfl (DO.de (_qna (_b 3 (pv 3)) _Vx (_Qg _h))) (_N 8 (pg_name (i:=8) _X4.nd rfl (.inl rfl))) (_f (_ka (_Xm (_zs (_G G__law_without (hm hr) rfl (_a (_b 1 (pv 1)) (_a (_b 2 (pv 2)) (_a (_b 3 (pv 3)) (_a (_b 8 (pv 8)) _e))))))) (_f (_p (DE.m _ _Zf))) _F)))
   (_f (_p (DE.m _ _Zf)))))))))))))
end
def Dn (K:Frag) (x:Str) (st:Stmt):Prop:=∃ (f:Addr) (od an:Option Addr) (sl:Array (Option Value)) (oc kV dc pm cd ct:Value),nsIn K mainGlobals x=some (some (.ref f))/\K.lookup f=some ⟨oc,od,.func (fnOf x x (defArgs st) (defBody st) (defScope st) .none kV dc pm an cd ct),sl⟩/\codeIn K cd x=true/\keepIn K (.ref f)=true
theorem dm {K:Frag} {x:Str} {st:Stmt} {f:Addr} {od an:Option Addr} {sl:Array (Option Value)} {oc kV dc pm cd ct:Value} (a:nsIn K mainGlobals x=some (some (.ref f))) (l:K.lookup f=some ⟨oc,od,.func (fnOf x x (defArgs st) (defBody st) (defScope st) .none kV dc pm an cd ct),sl⟩) (c:codeIn K cd x=true) (k:keepIn K (.ref f)=true):Dn K x st:=⟨f,od,an,sl,oc,kV,dc,pm,cd,ct,a,l,c,k⟩
theorem dn {P:Program} {w:World} {K:Frag} {mg:Str->Option Value} {base h:Heap} (X:K.In h) (G:h.Ns mainGlobals mg) {x:Str} {st:Stmt} {k:Nat} {ps:List Str} {sp:Sp} (d:Dn K x st) (ok:∀ {f:Addr} {fd:FuncData},Fun K x x st f fd->FnOk P w K mg base CX0 k f fd ps sp) (b:∀ (kV doc pm:Value) (an:Option Addr) (cdv ct:Value) (us:List Value),us.length=ps.length->bindArgs (fnOf x x (defArgs st) (defBody st) (defScope st) .none kV doc pm an cdv ct) ⟨us,[]⟩=pure (ps.zip us)):Fn P w K mg base k x ps sp:=by
 obtain ⟨f,od,an,sl,oc,kV,dc,pm,cd,ct,a,l,c,kk⟩:=d;have F:=fun_mk (st:=st) l c kk;exact ⟨_,_,ok F,mg_of X G a,kk,F.binds (ps:=ps) b⟩
theorem dn1 {P:Program} {w:World} {K:Frag} {mg:Str->Option Value} {base h:Heap} (X:K.In h) (G:h.Ns mainGlobals mg) {x p0:Str} {st:Stmt} {k:Nat} {sp:Sp} (d:Dn K x st) (ok:∀ {f:Addr} {fd:FuncData},Fun K x x st f fd->FnOk P w K mg base CX0 k f fd [p0] sp) (b:∀ (kV doc pm:Value) (an:Option Addr) (cdv ct:Value) a0,bindArgs (fnOf x x (defArgs st) (defBody st) (defScope st) .none kV doc pm an cdv ct) ⟨[a0],[]⟩=pure ([p0].zip [a0])):Fn P w K mg base k x [p0] sp :=
 dn X G d ok fun _ _ _ _ _ _ us hl=>by
  obtain ⟨a0,rfl⟩:=List.length_eq_one_iff.mp hl;exact b _ _ _ _ _ _ a0
theorem dn2 {P:Program} {w:World} {K:Frag} {mg:Str->Option Value} {base h:Heap} (X:K.In h) (G:h.Ns mainGlobals mg) {x p0 p1:Str} {st:Stmt} {k:Nat} {sp:Sp} (d:Dn K x st) (ok:∀ {f:Addr} {fd:FuncData},Fun K x x st f fd->FnOk P w K mg base CX0 k f fd [p0,p1] sp) (b:∀ (kV doc pm:Value) (an:Option Addr) (cdv ct:Value) a0 a1,bindArgs (fnOf x x (defArgs st) (defBody st) (defScope st) .none kV doc pm an cdv ct) ⟨[a0,a1],[]⟩=pure ([p0,p1].zip [a0,a1])):Fn P w K mg base k x [p0,p1] sp :=
 dn X G d ok fun _ _ _ _ _ _ us hl=>by
  cases us with
  | nil=>cases hl
  | cons a0 us =>
   obtain ⟨a1,rfl⟩:=List.length_eq_one_iff.mp (Nat.succ.inj hl);exact b _ _ _ _ _ _ a0 a1
theorem dn3 {P:Program} {w:World} {K:Frag} {mg:Str->Option Value} {base h:Heap} (X:K.In h) (G:h.Ns mainGlobals mg) {x p0 p1 p2:Str} {st:Stmt} {k:Nat} {sp:Sp} (d:Dn K x st) (ok:∀ {f:Addr} {fd:FuncData},Fun K x x st f fd->FnOk P w K mg base CX0 k f fd [p0,p1,p2] sp) (b:∀ (kV doc pm:Value) (an:Option Addr) (cdv ct:Value) a0 a1 a2,bindArgs (fnOf x x (defArgs st) (defBody st) (defScope st) .none kV doc pm an cdv ct) ⟨[a0,a1,a2],[]⟩=pure ([p0,p1,p2].zip [a0,a1,a2])):Fn P w K mg base k x [p0,p1,p2] sp :=
 dn X G d ok fun _ _ _ _ _ _ us hl=>by
  cases us with
  | nil=>cases hl
  | cons a0 us =>
   cases us with
   | nil=>cases hl
   | cons a1 us =>
    obtain ⟨a2,rfl⟩:=List.length_eq_one_iff.mp (Nat.succ.inj (Nat.succ.inj hl));exact b _ _ _ _ _ _ a0 a1 a2
theorem dn4 {P:Program} {w:World} {K:Frag} {mg:Str->Option Value} {base h:Heap} (X:K.In h) (G:h.Ns mainGlobals mg) {x p0 p1 p2 p3:Str} {st:Stmt} {k:Nat} {sp:Sp} (d:Dn K x st) (ok:∀ {f:Addr} {fd:FuncData},Fun K x x st f fd->FnOk P w K mg base CX0 k f fd [p0,p1,p2,p3] sp) (b:∀ (kV doc pm:Value) (an:Option Addr) (cdv ct:Value) a0 a1 a2 a3,bindArgs (fnOf x x (defArgs st) (defBody st) (defScope st) .none kV doc pm an cdv ct) ⟨[a0,a1,a2,a3],[]⟩=pure ([p0,p1,p2,p3].zip [a0,a1,a2,a3])):Fn P w K mg base k x [p0,p1,p2,p3] sp :=
 dn X G d ok fun _ _ _ _ _ _ us hl=>by
  cases us with
  | nil=>cases hl
  | cons a0 us =>
   cases us with
   | nil=>cases hl
   | cons a1 us =>
    cases us with
    | nil=>cases hl
    | cons a2 us =>
     obtain ⟨a3,rfl⟩:=List.length_eq_one_iff.mp (Nat.succ.inj (Nat.succ.inj (Nat.succ.inj hl)));exact b _ _ _ _ _ _ a0 a1 a2 a3
theorem all_mk {l:PySem.W.OpenLaw} {w:World} {K:Frag} {h:Heap} {mg:Str->Option Value} {fa:Addr} (X:K.In h) (G:h.Ns mainGlobals mg) (hfa:mg "law"=some (.ref fa)) (d0:Dn K "_law_marks" _ks) (d1:Dn K "_law_pile" _w5) (d2:Dn K "_law_heap" _w6) (d3:Dn K "_law_unit" _w4) (d4:Dn K "_law_cell" _w7) (d5:Dn K "first_purses" _zy) (d6:Dn K "below" _qdn) (d7:Dn K "least" _qdj) (d8:Dn K "weight_of" _wy) (d9:Dn K "likes_each" _kp) (d10:Dn K "agreed" _Ww) (d11:Dn K "likers" _Wu) (d12:Dn K "divisor" _Vd) (d13:Dn K "common_bottom" _x9) (d14:Dn K "tops_over" _w0) (d15:Dn K "weight_at" _wz) (d16:Dn K "share" _qdg) (d17:Dn K "rate" _qj1) (d18:Dn K "liked" _qdi) (d19:Dn K "offers" _Wt) (d20:Dn K "minus" _qdh) (d21:Dn K "purse_behind" _zv) (d22:Dn K "paid" _qj4) (d23:Dn K "rounds" _Wr) (d24:Dn K "candidates_of" _za) (d25:Dn K "weighed" _Vc) (d26:Dn K "wait" _qj0) (d27:Dn K "waits" _qdf) (d28:Dn K "plus" _qj2) (d29:Dn K "purses_behind" _x7) (d30:Dn K "grown" _qdk) (d31:Dn K "last_purses" _ve) (d32:Dn K "bench" _qdm) (d33:Dn K "members_liked" _x8) (d34:Dn K "claim" _qdl) (d35:Dn K "choices" _Ve) (d36:Dn K "left_out" _Jv) (d37:Dn K "shut_out" _Jt) (d38:Dn K "likes_no_other" _xo) (d39:Dn K "choices_of" _kq) (d40:Dn K "passed_over" _vd) (d41:Dn K "paper_of" _Ju) (d42:Dn K "is_whole" _Jw) (d43:Dn K "is_candidate" _zx) (d44:Dn K "is_amount" _w3) (d45:Dn K "is_paid_list" _zw) (d46:Dn K "is_entry" _Jy) (d47:Dn K "is_paper" _Jx) (d48:Dn K "is_bought" _w2) (d49:Dn K "bottom_of_paper" _j5) (d50:Dn K "tops_left" _w1) (d51:Dn K "others" _Ws) (d52:Dn K "leaves_too_little" _q4) (d53:Dn K "pays" _qj3) (d54:Dn K "_law_paper" _kr) (d55:Dn K "growth" _Wv) (d56:Dn K "_law_without" _zz) (d57:Dn K "law" _qj5) (z0:nsIn K mainGlobals "abs"=some none) (z1:nsIn K mainGlobals "all"=some none) (z2:nsIn K mainGlobals "bool"=some none) (z3:nsIn K mainGlobals "enumerate"=some none) (z4:nsIn K mainGlobals "int"=some none) (z5:nsIn K mainGlobals "isinstance"=some none) (z6:nsIn K mainGlobals "len"=some none) (z7:nsIn K mainGlobals "list"=some none) (z8:nsIn K mainGlobals "min"=some none) (z9:nsIn K mainGlobals "range"=some none) (z10:nsIn K mainGlobals "set"=some none) (z11:nsIn K mainGlobals "sorted"=some none) (z12:nsIn K mainGlobals "sum"=some none) (z13:nsIn K mainGlobals "tuple"=some none) (z14:nsIn K mainGlobals "zip"=some none) {tk0:Tok} (y0:nsIn K mainGlobals "LAST_CANDIDATE"=some (some (.int 5 tk0))) :
  ∃ fd:FuncData,(∀ (s:Shared) (v:Value),BindsTo s fd ⟨[v],[]⟩ [("script",v)])/\∀ base:Heap,K.In base->base.Ns mainGlobals mg->FnOk l.prog w K mg base CX0 9 fa fd ["script"] (spD K 1 _qi3):=by
 obtain ⟨f,od,an,sl,oc,kV,dc,pm,cd,ct,a,l1,c,kk⟩:=d57;have e:=hfa.symm.trans (mg_of X G a);cases e;have T:Txt mg:=⟨mg_none_of X G z0,mg_none_of X G z1,mg_none_of X G z2,mg_none_of X G z3,mg_none_of X G z4,mg_none_of X G z5,mg_none_of X G z6,mg_none_of X G z7,mg_none_of X G z8,mg_none_of X G z9,mg_none_of X G z10,mg_none_of X G z11,mg_none_of X G z12,mg_none_of X G z13,mg_none_of X G z14,⟨_,mg_of X G y0⟩⟩;have F:=fun_mk (st:=_qj5) l1 c kk;refine ⟨fnOf "law" "law" (defArgs _qj5) (defBody _qj5) (defScope _qj5) .none kV dc pm an cd ct,fun s v=>.of_eq rfl,fun base _ _=>?_⟩;have D1:=@dn1 l.prog w K mg base h X G;have D2:=@dn2 l.prog w K mg base h X G;have D3:=@dn3 l.prog w K mg base h X G;have D4:=@dn4 l.prog w K mg base h X G;have G__law_marks:=D1 d0 (fun F=>_Kr F T) fun _ _ _ _ _ _ _ =>rfl;have G__law_pile:=D2 d1 (fun F=>_Yj F T G__law_marks) fun _ _ _ _ _ _ _ _ =>rfl;have G__law_heap:=D2 d2 (fun F=>_Yk F T G__law_pile) fun _ _ _ _ _ _ _ _ =>rfl;have G__law_unit:=D1 d3 (fun F=>_Yi F T) fun _ _ _ _ _ _ _ =>rfl;have G__law_cell:=D2 d4 (fun F=>_Yl F T) fun _ _ _ _ _ _ _ _ =>rfl;have G_first_purses:=D2 d5 (fun F=>_Zb F T) fun _ _ _ _ _ _ _ _ =>rfl;have G_below:=D2 d6 (fun F=>_qjq F T) fun _ _ _ _ _ _ _ _ =>rfl;have G_least:=D1 d7 (fun F=>_qjm F T G_below) fun _ _ _ _ _ _ _ =>rfl;have G_weight_of:=D1 d8 (fun F=>_Yc F T) fun _ _ _ _ _ _ _ =>rfl;have G_likes_each:=D2 d9 (fun F=>_Ko F T) fun _ _ _ _ _ _ _ _ =>rfl;have G_agreed:=D2 d10 (fun F=>_qgn F T G_likes_each) fun _ _ _ _ _ _ _ _ =>rfl;have G_likers:=D2 d11 (fun F=>_qgl F T G_agreed) fun _ _ _ _ _ _ _ _ =>rfl;have G_divisor:=D2 d12 (fun F=>_qe3 F T) fun _ _ _ _ _ _ _ _ =>rfl;have G_common_bottom:=D1 d13 (fun F=>_J6 F T G_divisor) fun _ _ _ _ _ _ _ =>rfl;have G_tops_over:=D2 d14 (fun F=>_Ye F T) fun _ _ _ _ _ _ _ _ =>rfl;have G_weight_at:=D2 d15 (fun F=>_Yd F T) fun _ _ _ _ _ _ _ _ =>rfl;have G_share:=D2 d16 (fun F=>_qjj F T G_divisor) fun _ _ _ _ _ _ _ _ =>rfl;have G_rate:=D4 d17 (fun F=>_qmh F T G_likers G_common_bottom G_tops_over G_weight_at G_share) fun _ _ _ _ _ _ _ _ _ _ =>rfl;have G_liked:=D1 d18 (fun F=>_qjl F T) fun _ _ _ _ _ _ _ =>rfl;have G_offers:=D3 d19 (fun F=>_qgk F T G_weight_of G_rate G_liked) fun _ _ _ _ _ _ _ _ _ =>rfl;have G_minus:=D2 d20 (fun F=>_qjk F T G_share) fun _ _ _ _ _ _ _ _ =>rfl;have G_purse_behind:=D2 d21 (fun F=>_X8 F T G_below G_minus) fun _ _ _ _ _ _ _ _ =>rfl;have G_paid:=D4 d22 (fun F=>_qmk F T G_purse_behind G_likers) fun _ _ _ _ _ _ _ _ _ _ =>rfl;have G_rounds:=D2 d23 (fun F=>_qgi F T G_first_purses G_least G_offers G_paid) fun _ _ _ _ _ _ _ _ =>rfl;have G_candidates_of:=D1 d24 (fun F=>_J7 F T) fun _ _ _ _ _ _ _ =>rfl;have G_weighed:=D3 d25 (fun F=>_qe2 F T) fun _ _ _ _ _ _ _ _ _ =>rfl;have G_wait:=D3 d26 (fun F=>_qmg F T G_likers G_common_bottom G_weight_of G_weighed G_tops_over G_share G_weight_at) fun _ _ _ _ _ _ _ _ _ =>rfl;have G_waits:=D4 d27 (fun F=>_qji F T G_wait G_liked) fun _ _ _ _ _ _ _ _ _ _ =>rfl;have G_plus:=D2 d28 (fun F=>_qmi F T G_share) fun _ _ _ _ _ _ _ _ =>rfl;have G_purses_behind:=D3 d29 (fun F=>_J4 F T G_likers G_plus) fun _ _ _ _ _ _ _ _ _ =>rfl;have G_grown:=D4 d30 (fun F=>_qjn F T G_least G_waits G_purses_behind) fun _ _ _ _ _ _ _ _ _ _ =>rfl;have G_last_purses:=D3 d31 (fun F=>_Vn F T G_first_purses) fun _ _ _ _ _ _ _ _ _ =>rfl;have G_bench:=D2 d32 (fun F=>_qjp F T G_rounds G_candidates_of G_grown G_last_purses) fun _ _ _ _ _ _ _ _ =>rfl;have G_members_liked:=D3 d33 (fun F=>_J5 F T) fun _ _ _ _ _ _ _ _ _ =>rfl;have G_claim:=D4 d34 (fun F=>_qjo F T G_agreed G_weight_at G_weight_of) fun _ _ _ _ _ _ _ _ _ _ =>rfl;have G_choices:=D1 d35 (fun F=>_qe4 F T) fun _ _ _ _ _ _ _ =>rfl;have G_left_out:=D3 d36 (fun F=>_qcb F T G_members_liked G_agreed G_claim G_choices G_liked) fun _ _ _ _ _ _ _ _ _ =>rfl;have G_shut_out:=D3 d37 (fun F=>_qc9 F T G_members_liked G_likers G_claim G_liked) fun _ _ _ _ _ _ _ _ _ =>rfl;have G_likes_no_other:=D4 d38 (fun F=>_Q5 F T G_members_liked) fun _ _ _ _ _ _ _ _ _ _ =>rfl;have G_choices_of:=D2 d39 (fun F=>_Kp F T G_choices) fun _ _ _ _ _ _ _ _ =>rfl;have G_passed_over:=D3 d40 (fun F=>_Vm F T G_agreed G_claim G_likes_no_other G_choices_of G_choices G_liked) fun _ _ _ _ _ _ _ _ _ =>rfl;have G_paper_of:=D2 d41 (fun F=>_qca F T G_first_purses G_minus G_rounds) fun _ _ _ _ _ _ _ _ =>rfl;have G_is_whole:=D1 d42 (fun F=>_qcc F T) fun _ _ _ _ _ _ _ =>rfl;have G_is_candidate:=D1 d43 (fun F=>_Za F T G_is_whole) fun _ _ _ _ _ _ _ =>rfl;have G_is_amount:=D1 d44 (fun F=>_Yh F T G_is_whole G_divisor) fun _ _ _ _ _ _ _ =>rfl;have G_is_paid_list:=D2 d45 (fun F=>_X9 F T G_is_amount) fun _ _ _ _ _ _ _ _ =>rfl;have G_is_entry:=D2 d46 (fun F=>_qce F T G_is_candidate G_is_paid_list) fun _ _ _ _ _ _ _ _ =>rfl;have G_is_paper:=D2 d47 (fun F=>_qcd F T G_is_entry) fun _ _ _ _ _ _ _ _ =>rfl;have G_is_bought:=D3 d48 (fun F=>_Yg F T G_likers G_common_bottom G_tops_over G_weighed G_weight_of) fun _ _ _ _ _ _ _ _ _ =>rfl;have G_bottom_of_paper:=D1 d49 (fun F=>_Qb F T G_common_bottom) fun _ _ _ _ _ _ _ =>rfl;have G_tops_left:=D4 d50 (fun F=>_Yf F T G_tops_over) fun _ _ _ _ _ _ _ _ _ _ =>rfl;have G_others:=D2 d51 (fun F=>_qgj F T G_liked) fun _ _ _ _ _ _ _ _ =>rfl;have G_leaves_too_little:=D3 d52 (fun F=>_ku F T G_bottom_of_paper G_tops_left G_weight_of G_weighed G_likers G_others) fun _ _ _ _ _ _ _ _ _ =>rfl;have G_pays:=D3 d53 (fun F=>_qmj F T G_is_paper G_is_bought G_leaves_too_little) fun _ _ _ _ _ _ _ _ _ =>rfl;have G__law_paper:=D3 d54 (fun F=>_Kq F T G_paper_of G_pays G_passed_over) fun _ _ _ _ _ _ _ _ _ =>rfl;have G_growth:=D2 d55 (fun F=>_qgm F T G_grown) fun _ _ _ _ _ _ _ _ =>rfl;have G__law_without:=D4 d56 (fun F=>_Zc F T G_left_out G_passed_over G_claim) fun _ _ _ _ _ _ _ _ _ _ =>rfl;exact _qon F T G__law_heap G__law_unit G__law_cell G_bench G_left_out G_shut_out G_passed_over G__law_paper G_growth G__law_without
theorem walk {l:PySem.W.OpenLaw} {qq:Program} {loose:List Str} {XP:(Str->Option Value)->Heap->Prop} {YP:World->Heap->Prop} {d:DefRec} {K:Params->Frag} (hlaw:∀ ns:List Int,ns.length <= 63->_qi3 [.lst (ns.map .int)]=some (.bl true)) (hn:l.most=some 63) (hdf:d.params.defaults=[])
  (hY:∀ (w:World) (h:Heap),YP w h->(K w.params).In h)
  (F:∀ (w:World) (mg:Str->Option Value) (fa:Addr) (h:Heap),(K w.params).In h->h.Ns mainGlobals mg->mg d.name=some (.ref fa) ->
   ∃ fd:FuncData,(∀ (s:Shared) (u:Value),BindsTo s fd ⟨[u],[]⟩ [("script",u)])/\∀ base:Heap,(K w.params).In base->base.Ns mainGlobals mg->FnOk l.prog w (K w.params) mg base CX0 9 fa fd ["script"] (spD (K w.params) 1 _qi3)) :
  PySem.W.WalkO qq loose XP YP l.row.toRowW d [] (fun f vs=>PySem.call f vs) :=
 DL._qhj (n:=63) (k:=9) (x:="script") (CX:=fun _=>CX0) (sp:=fun w=>spD (K w.params) 1 _qi3) hn (by decide) hdf ⟨rfl,by decide,by decide⟩ hY F (fun _ _ a ns hl hS=>_qox (hlaw ns hl) hS) fun _ _ _ _ _ z=>z
end L_k80
namespace PySem.W.Fast
theorem tw14420212091737804331:True:=⟨⟩
theorem tw10004595880344396658:True:=⟨⟩
theorem tw17161840061281144861:True:=⟨⟩
theorem tw12468783648855053495:True:=⟨⟩
theorem tw4292622882065121002:True:=⟨⟩
theorem tw14522879640857009781:True:=⟨⟩
theorem tw16263072693377752311:True:=⟨⟩
theorem tw1112223178858305779:True:=⟨⟩
theorem tw4254610542579642558:True:=⟨⟩
theorem tw1850047384016395916:True:=⟨⟩
theorem tw7625679989858705998:True:=⟨⟩
theorem tw14022690748942506689:True:=⟨⟩
theorem tw13173119899953989067:True:=⟨⟩
theorem tw12236918234121543758:True:=⟨⟩
theorem tw5139565144632787007:True:=⟨⟩
theorem tw4666415798049521044:True:=⟨⟩
theorem tw16842578072756028004:True:=⟨⟩
theorem tw16620554621374521947:True:=⟨⟩
theorem tw4138553159548727831:True:=⟨⟩
theorem tw15112555076072970527:True:=⟨⟩
theorem tw10685267523125524689:True:=⟨⟩
theorem tw4694535498737425919:True:=⟨⟩
theorem tw9643938551704768131:True:=⟨⟩
theorem tw16053388853616703431:True:=⟨⟩
theorem tw11138392814546441026:True:=⟨⟩
theorem tw7928005985780927151:True:=⟨⟩
theorem tw4969974908318893345:True:=⟨⟩
theorem tw3071961441453812470:True:=⟨⟩
theorem tw2371351047572236679:True:=⟨⟩
theorem tw6563139130917391631:True:=⟨⟩
theorem tw16622442462896567589:True:=⟨⟩
theorem tw2947072048236264518:True:=⟨⟩
theorem tw15228351133916090878:True:=⟨⟩
theorem tw2402963583368773302:True:=⟨⟩
theorem tw1461174530149439833:True:=⟨⟩
theorem tw10036390028602614125:True:=⟨⟩
theorem tw11733113548294442037:True:=⟨⟩
theorem tw14671442155180179984:True:=⟨⟩
theorem tw11624624549758098898:True:=⟨⟩
theorem tw10374914104599639895:True:=⟨⟩
theorem tw5825529557764223826:True:=⟨⟩
theorem tw15101801338763593558:True:=⟨⟩
theorem tw5012357766580463321:True:=⟨⟩
theorem tw9907343417883556014:True:=⟨⟩
theorem tw13301457981555590555:True:=⟨⟩
end PySem.W.Fast
open PySem PySem.W PyProof.Rows
set_option maxRecDepth 100000 in
set_option maxHeartbeats 0 in
theorem PySem.Challenge.cw_pursebench_k80_whole_all_judges_agree_holds : PySem.Challenge.rw_pursebench_k80_whole_all_judges_agree.Holds := by
 w_on; o_law; k_head; (case hw=>w_witness2)
 k_fill
 refine L_k80.walk (l:=PySem.Challenge.rw_pursebench_k80_whole_all_judges_agree) L_k80.law_true rfl rfl (fun w h Y=>PySem.W.kIn_of Y) ?F
 case F =>
  intro w mg fa h KX G hmg
  refine' L_k80.all_mk KX G hmg ?_ ?_ ?_ ?_ ?_ ?_ ?_ ?_ ?_ ?_ ?_ ?_ ?_ ?_ ?_ ?_ ?_ ?_ ?_ ?_ ?_ ?_ ?_ ?_ ?_ ?_ ?_ ?_ ?_ ?_ ?_ ?_ ?_ ?_ ?_ ?_ ?_ ?_ ?_ ?_ ?_ ?_ ?_ ?_ ?_ ?_ ?_ ?_ ?_ ?_ ?_ ?_ ?_ ?_ ?_ ?_ ?_ ?_ ?_ ?_ ?_ ?_ ?_ ?_ ?_ ?_ ?_ ?_ ?_ ?_ ?_ ?_ ?_ ?_
  all_goals first | (refine' L_k80.dm ?a ?l ?c ?k; (case a=>k_is); (case l=>k_is); (case c=>k_is); (case k=>k_is)) | k_is | skip
