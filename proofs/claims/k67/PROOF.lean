import PyProof.Rows.All
import Wide.All
import OpenK.AllK
import Wide.FinOn
import PyProof.EqAt
import PyProof.EqKinds
import PyProof.TupleCall
import KE.KDictSum
import KE.KRevIter
import KE.KEqDict
import PySem.Str
import PyProof.StrWalks
import KE.KIntText
import KE.IntTextLaws
import PyProof.StrLawsReplace
import PySem.Challenge.RW_pursebench_k67_rows_answered
set_option Elab.async false
set_option linter.all false
local macro_rules | `(tactic| o_shape)=>`(tactic| first | exact Or.inl rfl | exact Or.inr rfl)
local macro_rules | `(tactic| o_reads)=>`(tactic| exact ⟨rfl,rfl,by repeat' (first | exact True.intro | rfl | o_shape | refine ⟨?_,?_⟩),by decide,rfl,by decide⟩)
set_option bootstrap.genMatcherCode false
set_option genSizeOf false
set_option genSizeOfSpec false
open PySem renaming wpAny_bind→Aa, wpAny_pure→Ab, sizeLine→Ad, Program→Af, sizeLine_eq→Ah, mainGlobals→Ak, FuncData→Am, starEach→Ap, wpAny_mono→Av, bootBuiltins→Aw, wpAny_dictEntries→Ba, wpAny_holding→Bc, wpAny_newObj_type→Bh, compareOp→Bi, scanBound→Bj, sysModules→Bo, wpAny_call_entry→Bu, codeAny_builtin→Bx, wpAny_typeNameOfWhole_itemiter→B3, wpAny_typeNameOfWhole_keyiter→B4, relabel→B6, wpAny_Call_Name_kw→Cg, wpAny_rule→Ci, tupleKind_room_in1→Cj, intKind→Co, wpAny_passesOwn→Cu, wpAny_truthy_bool→Cw, binaryOp→Cy, codeAny_mono→C0, behindInMarks→C5, attributeBase→C6, mem_of_lookup→C9, backTo→Dl, IsItemIter→Dp, wpAny_setField_rec→Dq, wpAny_dictEpoch→Ds, foldedSetIterable→Du, sliceBounds→D4, ExceptHandler→Ed, wpAny_execs_nil→El, codeAny→Em, tupleKind→Ep, wpAny_callSpecial?_slot→Es, pyNext→Ex, wpAny_pyIter_list→Ey, relayAll→E3, wpAny_storeSet_of→E4, fits_of_scanBound→E5, wpAny_Call_method→Fb, wpAny_isOneOf_itemiter→Fe, wpAny_notOrdered_dict→Fk, assignEach→Fp, typeIs_str→Fu, keywordEach→F5, letOwnedTupleGo→F8, callerA→Gv, call_meets→G6, setAddHashedIn→G9, wpAny_fieldsOf→He, firstArgMember→Hf, wpAny_missedRemoval_other→Hn, BindsTo→Hs, Keyword→Ht, slot_list_getitem→Hu, wpAny_pyIter_slot→Hw, wpAny_getItem_list_slice→Ic, wpAny_comprehension_free→Ie, plainId_quiet→Ig, wpAny_eqBool_int→Ij, swapsWith→Il, rawInt→Jc, ElemsOf→Ji, setAddHashed→Jj, codeAny_of_tree→Jt, wpAny_isTrue_Compare1→Jw, hashByValue_scannable→J0, weight_type_call_type→J1, wpAny_isOneOf_keyiter→J3, codeAny_handlers_test→J4, GenState→J8, backToKw→Ka, subscripted→Kb, codeAny_call_builtin→Kd, wpAny_runValue→Kf, wpAny_newTuple→Kh, wpAny_setField→Kj, wpAny_field→Kk, wpAny_letGo→Kl, slicePick→Kp, valueAt→Ks, wpAny_handleBy_cons→Kz, wpAny_newList→K4, IsItemIterOut→K5, builtinsNs→K8, pyIter→K9, wpAny_call→Lb, closureFor→Lg, excMatches→Ll, getItem→Ls, assign→Ly, getMethod→Lz, Result→L6, cellsFrom→L7, wpAny_of_eq→Mc, holding→Md, bindArgs→Mf, typeOf→Mg, ReadsAll→Mh, compEnvC→Mi, storeSet→Mj, setField→Ml
open PySem.Heap renaming get?_push_of_some→Ac, lt_size→Ae, get?_push_size→Ag, size_push→Bw, get?_push_ne→E6, get?_update_self→Fi, size_update→Fw, FlyingW→Gx, get?_update_other→Jf
open List renaming mem_cons→Ai, getElem?_eq_some_iff→Aj, mem_map→An, replicate→Au, range→Ay, pairwise_iff_getElem→Be, mem_filter→Bl, mem_append→Bm, mem_singleton→Bp, filter_eq_self→Cb, mem_filterMap→Ce, drop_eq_getElem_cons→Cr, lookup→Cz, mem_range→Dc, filter_cons_of_neg→Di, filter_cons_of_pos→Dj, mem_append_left→D3, getElem?_eq_none_iff→D9, getElem?_append_left→Ea, findIdx?_eq_some_iff_getElem→Eu, getElem?_set_self→Ew, filter_eq_nil_iff→E9, drop_of_length_le→Fc, findIdx_lt_length_of_exists→Ff, nodup_append→Fg, nodup_cons→Gd, mem_zipIdx_iff_getElem?→Gi, replicate_succ→Gk, filter_sublist→Gp, getElem?_append_right→G5, perm_ext_iff_of_nodup→Hd, find?_eq_none→Hh, map_replicate→Hj, findIdx?_eq_none_iff→Hl, mem_of_find?_eq_some→Ho, pairwise_map→Hy, getElem_inj→Ik, ext_getElem→Ir, any_eq_true→Iu, length_eq_zero_iff→Iw, eraseIdx_cons_succ→Iz, pairwise_lt_range→Jg, length_eq_one_iff→Jn, append_nil→Jq, of_mem_zip→Jr, length_nil→Ju, length_replicate→Jy, getElem?_toArray→Jz, getElem?_set_ne→J9, getElem?_of_mem→Kc, findIdx_getElem→Ko, toList_toArray→Kw, length_reverse→K1, getElem?_take→Lh, mem_replicate→Lp
open Bool renaming false_ne_true→Al, false_eq_true→Ao, eq_iff_iff→Ax, and_eq_true→Cd, and_eq_true_iff→C3, or_eq_true→En
open False renaming elim→Aq
open PySem.W renaming findIn→Ar, mroIn→As, mg_none_of→Bf, emptyDict→Bg, instObj→B7, kas_asc→C2, clsIn→C8, plainGet→Dd, typeIn→De, kia_one→Dr, hasDictIn→Dv, looks_mroIn→Eb, excIn→Ec, kas_place→Er, plainOver→Ez, kas_desc→F6, makesIn→F9, OpenLaw→Ge, plainGet_of→Gj, isFn→Gr, lookIn→G3, keepIn→G4, methodObj→Hq, specialIn→Hr, kas_sort→Io, cellsFrom_some→Jd, takerIn→Jp, methodCall_KW→Jx, looks_typeIn→Ki, kas_bin→Kq, hideAll_get→Kt, callWith_K0→Ku, WalkO→K2, of_hideAll→K7, callWith_K→Lc, tail_of_in→Lo, kas_descPart→Lv, codeIn→L8, kas_tail3→Ma, kas_count→Mb, kas_rev→Me
open PySem.SetTable renaming grown→Az, fits_plain_off→Im
open Classical renaming byContradiction→A5
open PySem.F renaming called_set→A7, plainAttrs_str→A8, slot_dict_itemiterator_next→Bk, slot_str_join→By, type_str_join→Bz, slot_dict_keyiterator_next→Ck, plainAttrs_dict→Dh, plainAttrs_list→Dk, excBase_ValueError→D7, slot_dict_itemiterator_iter→Ef, slot_list_append→Ei, type_list_append→Ej, slot_dict_get→Fj, slot_dict_pop→Fm, slot_dict_items_iter→Gg, args_str_split_2→Hg, entry_str_split→Hz, args_dict_get_3→Iv, plain_list_iadd→Iy, slot_dict_items→I0, slot_list_index→Ja, slot_str_split→Jb, entry_dict_get→Jl, slot_dict_iter→Jo, slot_tuple_lt→Jv, type_dict_pop→J5, slot_dict_len→J7, sub_list_frozenset→Ke
open PySem.Heap.SameBut renaming update→A9
open Int renaming fmod_eq_emod_of_nonneg→Bb, emod_lt_of_pos→Bq, emod_nonneg→Ca, eq_ofNat_of_zero_le→Df, toNat_natCast→D2, natAbs_mul→E7, fdiv_eq_ediv_of_nonneg→G2, natAbs_natCast→Ha, gcd→Jk, ediv_mul_cancel→Kx, natCast_nonneg→Lf
open PySem.Builtin.Dict_items renaming ownsTuple→Bn, pairFromOwner→C4, ownedTupleIsFree→Ee, ownedTupleFields→Eg
open PySem.Around renaming under_plainId→Br, under_plain→Lj, under→Lq
open PyProof.Rows.F renaming plain_set_update_loop→Bt, entry_set_update_loop→Dg
open PyProof.Rows renaming callWith_type1→Bv, seqObj→B8, firstMet→Cp, envOfC→E1, AllBare→Fx, room_in_shaped→G7, subscriptTail→Ib, listUpdate_at→Ih, subscriptTail_builtinR→Je, seqEpoch_at→Kg, lt_int→Ky, Subscript_→Ld, listItems_at→Lw, general'→Lx
open PySem.Calls renaming spliced_cons→B0, callWith_builtin→Cc, evalArgs_plain→C1, spliced_nil→Dw, Name_function_global→G1, call_function_entry→Hm
open PySem.Builtin.Str renaming occurrences→B5, strSliceIndices→Gz
open Array renaming getElem?_eq_getElem→Cq, perm_iff_toList_perm→Hb, getElem?_eq_some_iff→Hi, map→Kr, toList_append→K0
open PySem.PassesOwn renaming never→Cv
open PySem.Obj renaming mapSeq→C7, data_mapFields→Eo, putSet→G8, isFreed_of_fields→J2, data_mapDictKeys→Kn, mapFields→K3
open PySem.SeqAt renaming canLay_of_shaped→Dm
open PySem.Builtin.Dict renaming showsAll→Dt, takeOut→Km
open PySem.PyData renaming canLay0→D5, eqv→Fv, eqvAll→Fy, canLayAll0→Hv, depthAll→Js
open Nat renaming pow_le_pow_right→D6, lt_succ_self→Fs, le_mul_of_pos_right→Iq, digitChar→K6, lt_trans→Lu
open PySem.Str renaming ofString→D8, join→Fh
open PySem.Txt renaming join→Eh
open Function renaming comp→Ek
open PySem.Heap.UpToSlots renaming of_keeps→Et
open PySem.SetTable.below renaming go→E2
open Rat renaming normalize_eq_mkRat→E8, mul_le_mul_of_nonneg_left→F7
open PySem.StrLaws renaming glued_eq_join→Fo
open PySem.Shared renaming TypeIs→Fz
open PySem.Builtin.Frozenset renaming updateFrom→Gf
open Ne renaming symm→Gq
open PySem.SetTable.Slot renaming noConfusion→Hk
open Option renaming isSome_iff_exists→Ia, map_eq_some_iff→Jh, isNone_some→Lm, isNone_none→Ln
open List.Pairwise renaming imp_of_mem→Ii
open PySem.W.Looks renaming ld→Ip
open PySem.Builtin.Int renaming intBits→Kv
open PySem.P renaming str_of_int→La
open PySem.Heap.IsSliceOf renaming new→Le
open PySem.Code renaming quiet_builtin→Li, isFrame→Lr
open PySem.W.KasT renaming kasWp→Lk, bind→L9
open List (all_eq_true any_cons filterMap_cons filter_map find?_cons getD_eq_getElem?_getD getElem?_eq_getElem getElem?_map getElem_mem getElem_of_mem length_append length_cons length_filter_le length_map length_take mapM_cons map_append map_congr_left map_cons map_map map_nil mem_append_right mem_cons mem_cons_of_mem mem_cons_self mem_of_getElem? mem_singleton nodup_cons not_mem_nil pairwise_cons pairwise_map size_toArray take_length take_of_length_le take_sublist take_succ_eq_append_getElem)
open Option (getD_none)
open Nat (le_of_lt le_refl le_succ le_trans lt_irrefl lt_of_le_of_lt lt_of_lt_of_le lt_succ_of_lt ne_of_gt ne_of_lt zero_le)
open Array (append_assoc getElem?_eq_none getElem?_toList length_toList)
open PySem.W (Frag codeIn fnOf keepIn mg_none_of mg_of nsIn)
set_option maxRecDepth 100000
namespace L2
open PySem PySem.Spec PyProof.Rows
abbrev Key:=Sum Int Str
def aYn:Key->Value->Bool
 | .inl k,v=>Value.isInt k v
 | .inr x,v=>Value.isStrOf x v
def keyH (w:World):Key->Int
 | .inl k=>hashInt k
 | .inr x=>hashStr w x
theorem aA:∀ {k:Key} {v:Value},aYn k v=true->(∃ i t,k=Sum.inl i/\v=Value.int i t) \/ (∃ x t,k=Sum.inr x/\v=Value.str x t)
 | .inl i,v,h=>by
  obtain ⟨t,e⟩:=Value.isInt_shape (k:=i) (v:=v) h;exact .inl ⟨i,t,rfl,e⟩
 | .inr x,v,h=>by
  obtain ⟨t,e⟩:=Value.isStrOf_shape (x:=x) (v:=v) h;exact .inr ⟨x,t,rfl,e⟩
theorem aZl (i:Int) (t:Tok):aYn (.inl i) (.int i t)=true:=by simp [aYn,Value.isInt]
theorem aZk (x:Str) (t:Tok):aYn (.inr x) (.str x t)=true:=by simp [aYn,Value.isStrOf]
theorem aqdu (a b:Int):decide ((Sum.inl a:Key)=Sum.inl b)=(a == b):=by
 by_cases e:a=b
 ·subst e; simp
 ·have h:¬ (Sum.inl a:Key)=Sum.inl b:=fun q=>e (Sum.inl.inj q)
  rw [decide_eq_false h];exact (beq_eq_false_iff_ne.mpr e).symm
theorem aqdr (a b:Str):decide ((Sum.inr a:Key)=Sum.inr b)=decide (a=b):=by
 by_cases e:a=b
 ·subst e; simp
 ·have h:¬ (Sum.inr a:Key)=Sum.inr b:=fun q=>e (Sum.inr.inj q)
  rw [decide_eq_false h,decide_eq_false e]
theorem aqdt (a:Int) (b:Str):decide ((Sum.inl a:Key)=Sum.inr b)=false:=decide_eq_false (fun q=>nomatch q)
theorem aqds (a:Str) (b:Int):decide ((Sum.inr a:Key)=Sum.inl b)=false:=decide_eq_false (fun q=>nomatch q)
def aF (prog:Af) (w:World):PySem.KeyKind prog w Key where
 is:=aYn
 hash:=keyH w
 inj:=fun v a b ha hb=>by
  rcases aA ha with ⟨i,t,rfl,rfl⟩ | ⟨x,t,rfl,rfl⟩
  ·rcases aA hb with ⟨j,u,rfl,e⟩ | ⟨y,u,rfl,e⟩
   ·injection e with e1 _; rw [e1]
   ·exact nomatch e
  ·rcases aA hb with ⟨j,u,rfl,e⟩ | ⟨y,u,rfl,e⟩
   ·exact nomatch e
   ·injection e with e1 _; rw [e1]
 byValue:=fun k v h=>by
  rcases aA h with ⟨i,t,rfl,rfl⟩ | ⟨x,t,rfl,rfl⟩ <;> rfl
 pyHash:=fun hv h=>by
  rcases aA hv with ⟨i,t,rfl,rfl⟩ | ⟨x,t,rfl,rfl⟩
  ·exact wpAny_pyHash_int h
  ·exact wpAny_pyHash_str h
 eqBool:=fun hu hv h=>by
  rcases aA hu with ⟨i,t,rfl,rfl⟩ | ⟨x,t,rfl,rfl⟩
  ·rcases aA hv with ⟨j,u,rfl,rfl⟩ | ⟨y,u,rfl,rfl⟩
   ·rw [aqdu] at h; exact Ij h
   ·rw [aqdt] at h; exact SeqAt.EqAt.int_str i t y u _ _ _ _ h
  ·rcases aA hv with ⟨j,u,rfl,rfl⟩ | ⟨y,u,rfl,rfl⟩
   ·rw [aqds] at h; exact SeqAt.EqAt.str_int x t j u _ _ _ _ h
   ·rw [aqdr] at h; exact wpAny_eqBool_str h
 «strs»:=fun k x t v h=>by
  rcases aA h with ⟨i,u,rfl,e⟩ | ⟨y,u,rfl,e⟩
  ·exact nomatch e
  ·injection e with e1 _
   subst e1;cases v <;> rfl
theorem awk (prog:Af) (w:World) (i:Int) (t:Tok):(aF prog w).is (.inl i) (.int i t)=true:=aZl i t
theorem awj (prog:Af) (w:World) (x:Str) (t:Tok):(aF prog w).is (.inr x) (.str x t)=true:=aZk x t
inductive V where
 | non | bl (b:Bool) | int (i:Int) | str (x:Str) | byt (b:Array UInt8) | flt (b:UInt64) | ref (a:Addr) | ty (n:String)
 deriving DecidableEq
def aqi8:V->Value->Prop
 | .non,u=>u=Value.none
 | .bl b,u=>u=Value.bool b
 | .int i,u=>∃ t,u=Value.int i t
 | .str x,u=>∃ t,u=Value.str x t
 | .byt b,u=>∃ t,u=Value.bytes b t
 | .flt b,u=>∃ t,u=Value.float b t
 | .ref a,u=>u=Value.ref a
 | .ty n,u=>u=Value.type n
abbrev aqi6:List V->List Value->Prop:=Paired aqi8
theorem aqi6.length {xs:List V} {us:List Value} (r:aqi6 xs us):xs.length=us.length:=Paired.length r
theorem aqi6.get:∀ {xs:List V} {us:List Value} {i:Nat} {x:V},aqi6 xs us->xs[i]?=some x->∃ u,us[i]?=some u/\aqi8 x u
 | _,_,_,_,.nil,e=>by simp at e
 | _,_,0,_,.cons r _,e=>by simp at e; subst e; exact ⟨_,rfl,r⟩
 | _,_,i + 1,x,.cons _ t,e=>by
  obtain ⟨u,h1,h2⟩:=aqi6.get (i:=i) (x:=x) t (by simpa using e);exact ⟨u,by simpa using h1,h2⟩
theorem aqi6.set {x:V} {u:Value} (r:aqi8 x u):∀ {xs:List V} {us:List Value} (i:Nat),aqi6 xs us->aqi6 (xs.set i x) (us.set i u)
 | _,_,_,.nil=>.nil
 | _,_,0,.cons _ t=>.cons r t
 | _,_,i + 1,.cons q t=>.cons q (aqi6.set r i t)
theorem aqi6.append:∀ {xs ys:List V} {us ws:List Value},aqi6 xs us->aqi6 ys ws->aqi6 (xs++ys) (us++ws)
 | _,_,_,_,.nil,s=>s
 | _,_,_,_,.cons r t,s=>.cons r (aqi6.append t s)
theorem aqi6.take:∀ {xs:List V} {us:List Value} (n:Nat),aqi6 xs us->aqi6 (xs.take n) (us.take n)
 | _,_,0,_=>.nil
 | _,_,_ + 1,.nil=>.nil
 | _,_,n + 1,.cons r t=>.cons r (aqi6.take n t)
theorem aqi6.drop:∀ {xs:List V} {us:List Value} (n:Nat),aqi6 xs us->aqi6 (xs.drop n) (us.drop n)
 | _,_,0,r=>r
 | _,_,_ + 1,.nil=>.nil
 | _,_,n + 1,.cons _ t=>aqi6.drop n t
theorem aqi6.none_of:∀ {xs:List V} {us:List Value} {i:Nat},aqi6 xs us->xs[i]?=none->us[i]?=none:=fun {xs us i} r e=>by
 have h1:=r.length;have h2:xs.length <= i:=D9.mp e;exact D9.mpr (by omega)
def aqi9:Option V->Option Value->Prop
 | some v,some u=>aqi8 v u
 | none,none=>True
 | _,_=>False
def KV {κ:Type}:List (κ × V)->List (κ × Value)->Prop:=Paired fun (p:κ × V) (q:κ × Value)=>p.1=q.1/\aqi8 p.2 q.2
def kV:Key->V
 | .inl i=>.int i
 | .inr x=>.str x
inductive HO where
 | lst (xs:List V)
 | tup (xs:List V)
 | dK (kvs:List (Key × V)) | dT (kvs:List (List Key × V))
 | set (S:Int->Bool) (n:Nat)
 | ins (C dx:Addr) (fs:List (Str × V))
 | own (x:Addr)
 | xd (fs:List (Str × V))
 | met (f x:Addr)
 | rng (lo hi:Int)
 | frz (o:Obj) (u:HO)
 | tbl (ps:Array Value)
 | ext (φ:Heap->Prop)
abbrev Hp:=Addr->Option HO
def upd (H:Hp) (a:Addr) (o:HO):Hp:=fun b=>if b=a then some o else H b
theorem cb {H:Hp} {a:Addr} {o:HO}:upd H a o a=some o:=by unfold upd; rw [if_pos rfl]
theorem af {H:Hp} {a b:Addr} {o:HO} (h:b ≠ a):upd H a o b=H b:=by unfold upd; rw [if_neg h]
theorem aqb {H:Hp} {a b:Addr} {o u:HO} (h:H a=some o) (h':H b=some u) (d:o ≠ u):a ≠ b:=by
 intro e; subst e; rw [h] at h'; exact d (Option.some.inj h')
theorem ac {H:Hp} {a b:Addr} {o:HO} (h:H a=some o) (h':H b=none):a ≠ b:=by
 intro e; subst e; rw [h] at h'; cases h'
section
variable (P:Af) (w:World)
def aqx (H:Hp) (h:Heap) (a:Addr):HO->Prop
 | .lst xs=>xs.length <= Ad/\∃ (its:List Value) (n:Nat),aqi6 xs its/\h.get? a=some { cls:=.type "list",data:=.seq its.toArray n }
 | .tup xs=>xs.length <= Ad/\∃ its:List Value,aqi6 xs its/\IsTup h a its.toArray
 | .dK kvs=>kvs.length <= Ad/\(a == Bo)=false/\∃ vs,KV kvs vs/\h.DictOf (aF P w) a vs
 | .dT kvs=>kvs.length <= Ad/\(a == Bo)=false/\∃ xs:List (List Key × Addr × Value),
   Paired (fun (p:List Key × V) (q:List Key × Addr × Value)=>p.1=q.1/\H q.2.1=some (.tup (p.1.map kV))/\aqi8 p.2 q.2.2) kvs xs /\
   ∃ o es ep,h.get? a=some o/\o.ExactDict/\o.data=.dict es ep/\es.toList=xs.map (entryOfKey (Ep (aF P w)))/\(xs.map (·.1)).Nodup
 | .set S n=>h.SetOf (Co P w) a S n
 | .ins C dx fs=>H dx=some (.own a)/\fs.length <= 1000/\dx ≠ a/\h.get? a=some (B7 C dx) /\
   ∃ mA,h.Ns1 dx mA/\(∀ f,aqi9 (fs.lookup f) (mA f))/\PySem.Within mA (fs.map (·.1))
 | .own _=>∃ o,h.get? a=some o
 | .xd fs=>∃ mA,h.Ns1 a mA/\∀ f,aqi9 (fs.lookup f) (mA f)
 | .rng lo hi=>∃ t u v,h.get? a=some { cls:=.type "range",data:=.fields #[.int lo t,.int hi u,.int 1 v] }
 | .frz o u=>h.get? a=some o/\aqx H h a u
 | .tbl ps=>h.get? a=some { cls:=.none,data:=.fields ps }
 | .met f x=>h.get? a=some (Hq (.ref f) (.ref x))
 | .ext φ=>φ h/\(∃ o,h.get? a=some o)/\∀ h1 h2:Heap,φ h1->(∀ o,h1.get? a=some o->h2.get? a=some o)->φ h2
def HOk (H:Hp) (h:Heap):Prop:=∀ a o,H a=some o->aqx P w H h a o
end
section
variable {P:Af} {w:World} {H H':Hp} {h h':Heap} {a:Addr} {o:HO}
theorem aqx.lt (x:aqx P w H h a o):a < h.objs.size:=by
 cases o with
 | lst xs=>obtain ⟨_,_,_,_,e⟩:=x; exact Ae e
 | tup xs=>obtain ⟨_,_,_,p⟩:=x; exact p.lt
 | dK kvs=>obtain ⟨_,_,_,_,o,_,_,e,_⟩:=x; exact Ae e
 | dT kvs=>obtain ⟨_,_,_,_,o,_,_,e,_⟩:=x; exact Ae e
 | set S n=>obtain ⟨o,_,_,_,e,_⟩:=x; exact Ae e
 | ins C dx fs=>obtain ⟨_,_,_,e,_⟩:=x; exact Ae e
 | own y=>obtain ⟨_,e⟩:=x; exact Ae e
 | xd fs=>obtain ⟨_,⟨_,_,_,e,_⟩,_⟩:=x; exact Ae e
 | rng lo hi=>obtain ⟨_,_,_,e⟩:=x; exact Ae e
 | frz ob u=>obtain ⟨e,_⟩:=x; exact Ae e
 | tbl ps=>exact Ae (show h.get? a=some _ from x)
 | met f y=>exact Ae (show h.get? a=some _ from x)
 | ext φ=>obtain ⟨_,⟨_,e⟩,_⟩:=x; exact Ae e
theorem Paired.mapP {α β:Type} {F G:α->β->Prop}:∀ {l₁:List α} {l₂:List β},Paired F l₁ l₂->(∀ a b,F a b->G a b)->Paired G l₁ l₂
 | _,_,.nil,_=>.nil
 | _,_,.cons r t,f=>.cons (f _ _ r) (Paired.mapP t f)
theorem aqx.stay (x:aqx P w H h a o) (k:∀ b u,(b=a \/ H b=some (.own a))->h.get? b=some u->h'.get? b=some u)
  (ho:∀ b,H b=some (.own a)->H' b=some (.own a)) (ht:∀ b xs,H b=some (.tup xs)->H' b=some (.tup xs)):aqx P w H' h' a o:=by
 induction o with
 | lst xs=>obtain ⟨z,its,n,r,e⟩:=x; exact ⟨z,its,n,r,k _ _ (.inl rfl) e⟩
 | tup xs=>obtain ⟨z,its,r,ob,e,c⟩:=x; exact ⟨z,its,r,ob,k _ _ (.inl rfl) e,c⟩
 | dK kvs=>obtain ⟨z,y,vs,r,ob,es,ep,e,c⟩:=x; exact ⟨z,y,vs,r,ob,es,ep,k _ _ (.inl rfl) e,c⟩
 | dT kvs =>
  obtain ⟨z,y,xs,r,ob,es,ep,e,c⟩:=x;exact ⟨z,y,xs,Paired.mapP r fun p q z=>⟨z.1,ht _ _ z.2.1,z.2.2⟩,ob,es,ep,k _ _ (.inl rfl) e,c⟩
 | set S n=>obtain ⟨ob,es,ep,t,e,c⟩:=x; exact ⟨ob,es,ep,t,k _ _ (.inl rfl) e,c⟩
 | ins C dx fs =>
  obtain ⟨d,z,ne,e,mA,⟨od,es,ep,e2,c⟩,r⟩:=x;exact ⟨ho _ d,z,ne,k _ _ (.inl rfl) e,mA,⟨od,es,ep,k _ _ (.inr d) e2,c⟩,r⟩
 | own y=>obtain ⟨ob,e⟩:=x; exact ⟨ob,k _ _ (.inl rfl) e⟩
 | xd fs=>obtain ⟨mA,⟨od,es,ep,e,c⟩,r⟩:=x; exact ⟨mA,⟨od,es,ep,k _ _ (.inl rfl) e,c⟩,r⟩
 | rng lo hi=>obtain ⟨t,u,v,e⟩:=x; exact ⟨t,u,v,k _ _ (.inl rfl) e⟩
 | frz ob u ih=>obtain ⟨e,q⟩:=x; exact ⟨k _ _ (.inl rfl) e,ih q⟩
 | tbl ps =>
  have e:h.get? a=some { cls:=.none,data:=.fields ps }:=x;show h'.get? a=some { cls:=.none,data:=.fields ps };exact k a _ (.inl rfl) e
 | met f y =>
  have e:h.get? a=some (Hq (.ref f) (.ref y)):=x;show h'.get? a=some (Hq (.ref f) (.ref y));exact k a _ (.inl rfl) e
 | ext φ=>obtain ⟨p,⟨o,e⟩,st⟩:=x; exact ⟨st _ _ p fun o q=>k _ _ (.inl rfl) q,⟨o,k _ _ (.inl rfl) e⟩,st⟩
theorem HOk.lt (x:HOk P w H h) (e:H a=some o):a < h.objs.size:=(x a o e).lt
theorem HOk.fresh (x:HOk P w H h) (e:h.objs.size <= a):H a=none:=by
 cases q:H a with
 | none=>rfl
 | some u=>exact absurd (lt_of_lt_of_le (x.lt q) e) (lt_irrefl _)
theorem HOk.kept (x:HOk P w H h) (k:∀ b u,h.get? b=some u->h'.get? b=some u):HOk P w H h':=fun a o e =>
 (x a o e).stay (fun b u _ q=>k b u q) (fun _ q=>q) fun _ _ q=>q
theorem HOk.laid (x:HOk P w H h) (k:∀ b u,h.get? b=some u->h'.get? b=some u) (hp:h.objs.size <= a) (new:aqx P w (upd H a o) h' a o):HOk P w (upd H a o) h':=fun b u e=>by
 have hn:=x.fresh hp
 by_cases hb:b=a
 ·subst hb; rw [cb] at e; cases e; exact new
 ·rw [af hb] at e
  exact (x b u e).stay (fun c v _ q=>k c v q) (fun c q=>by rw [af (ac q hn)]; exact q) fun c xs q=>by rw [af (ac q hn)]; exact q
end
def Rd (H:Hp) (a:Addr) (u:HO):Prop:=H a=some u \/ ∃ o,H a=some (.frz o u)
theorem Rd.of {H:Hp} {a:Addr} {u:HO} (h:H a=some u):Rd H a u:=.inl h
theorem Rd.ok {P:Af} {w:World} {H:Hp} {h:Heap} {a:Addr} {u:HO} (r:Rd H a u) (x:HOk P w H h):aqx P w H h a u:=by
 rcases r with r | ⟨o,r⟩
 ·exact x a u r
 ·obtain ⟨_,q⟩:=x a _ r
  exact q
def Mut:Option HO->Prop
 | some (.lst _)=>True
 | some (.dK _)=>True
 | some (.dT _)=>True
 | some (.set _ _)=>True
 | some (.ins _ _ _)=>True
 | some (.ext _)=>True
 | _=>False
section
variable {P:Af} {w:World} {H:Hp} {h h':Heap} {x e:Addr} {o':HO}
theorem HOk.write (ok:HOk P w H h) (mu:Mut (H x)) (he:e=x \/ H e=some (.own x)) (k:∀ b u,b ≠ e->h.get? b=some u->h'.get? b=some u) (heo:∃ u,h'.get? e=some u)
  (new:aqx P w (upd H x o') h' x o'):HOk P w (upd H x o') h':=fun b u q=>by
 have nown:∀ c y,H c=some (.own y)->c ≠ x:=fun c y r z=>by subst z; rw [r] at mu; exact mu
 have ntup:∀ c xs,H c=some (.tup xs)->c ≠ x:=fun c xs r z=>by subst z; rw [r] at mu; exact mu
 by_cases hb:b=x
 ·subst hb; rw [cb] at q; cases q; exact new
 ·rw [af hb] at q
  by_cases hbe:b=e
  ·have q':H b=some (.own x):=by
    rcases he with z | z
    ·exact absurd (hbe.trans z) hb
    ·rw [hbe]; exact z
   rw [q] at q'; cases q';obtain ⟨v,hv⟩:=heo;exact ⟨v,by rw [hbe]; exact hv⟩
  ·refine (ok b u q).stay (fun c v hc r=>k c v ?_ r) (fun c r=>by rw [af (nown c b r)]; exact r) fun c xs r=>by rw [af (ntup c xs r)]; exact r
   rcases hc with rfl | hc
   ·exact hbe
   ·rintro rfl
    rcases he with z | z
    ·exact nown c b hc z
    ·rw [hc] at z; cases z; exact hb rfl
end
structure Un (fs ex:List Addr) (H H':Hp) (h h':Heap):Prop where
 keep:∀ b o,h.get? b=some o->H b=none->b ∉ fs->b ∉ ex->h'.get? b=some o
 slot:∀ b o,h.get? b=some o->H b=none->b∈fs->b ∉ ex->∃ sl,h'.get? b=some { o with slots:=sl }
 free:∀ b o,h.get? b=some o->H b=none->b ∉ ex->H' b=none
 there:∀ b o,h.get? b=some o->b ∉ ex->∃ o',h'.get? b=some o'
 tups:∀ b xs,H b=some (.tup xs)->H' b=some (.tup xs)
 frzs:∀ b o u,H b=some (.frz o u)->H' b=some (.frz o u)
 tbls:∀ b ps,H b=some (.tbl ps)->∃ more,H' b=some (.tbl (ps++more))
section
variable {fs fs' ex ex':List Addr} {H H1 H2:Hp} {h h1 h2 h':Heap} {a x e:Addr} {o:HO}
theorem Un.any (u:Un fs ex H H1 h h1) {b:Addr} {ob:Obj} (q:h.get? b=some ob) (n:H b=none) (hx:b ∉ ex):∃ sl,h1.get? b=some { ob with slots:=sl }:=by
 by_cases hb:b∈fs
 ·exact u.slot b ob q n hb hx
 ·exact ⟨ob.slots,u.keep b ob q n hb hx⟩
theorem Un.trans (a:Un fs ex H H1 h h1) (b:Un fs ex H1 H2 h1 h2):Un fs ex H H2 h h2 where
 keep:=fun c ob q n hc hx=>b.keep c ob (a.keep c ob q n hc hx) (a.free c ob q n hx) hc hx
 slot:=fun c ob q n hc hx=>by
  obtain ⟨sl,e1⟩:=a.slot c ob q n hc hx;obtain ⟨sl',e2⟩:=b.slot c _ e1 (a.free c ob q n hx) hc hx;exact ⟨sl',e2⟩
 free:=fun c ob q n hx=>by
  obtain ⟨o',e1⟩:=a.there c ob q hx;exact b.free c o' e1 (a.free c ob q n hx) hx
 there:=fun c ob q hx=>by
  obtain ⟨o',e1⟩:=a.there c ob q hx;exact b.there c o' e1 hx
 tups:=fun c xs q=>b.tups c xs (a.tups c xs q)
 frzs:=fun c ob xs q=>b.frzs c ob xs (a.frzs c ob xs q)
 tbls:=fun c ps q=>by
  obtain ⟨m1,e1⟩:=a.tbls c ps q;obtain ⟨m2,e2⟩:=b.tbls c _ e1;exact ⟨m1++m2,by rw [e2,append_assoc]⟩
theorem Un.kept (k:∀ b u,h.get? b=some u->h'.get? b=some u):Un fs ex H H h h' :=
 ⟨fun b ob q _ _ _=>k b ob q,fun b ob q _ _ _=>⟨ob.slots,k b ob q⟩,fun _ _ _ n _=>n,fun b ob q _=>⟨ob,k b ob q⟩,fun _ _ q=>q,fun _ _ _ q=>q,fun _ ps q=>⟨#[],by rw [q]; simp⟩⟩
theorem Un.refl:Un fs ex H H h h:=Un.kept fun _ _ q=>q
theorem Un.laid (k:∀ b u,h.get? b=some u->h'.get? b=some u) (hp:h.objs.size <= a) (hn:H a=none):Un fs ex H (upd H a o) h h' where
 keep:=fun b u q _ _ _=>k b u q
 slot:=fun b u q _ _ _=>⟨u.slots,k b u q⟩
 free:=fun b u q n _=>by rw [af (ne_of_lt (lt_of_lt_of_le (Ae q) hp))]; exact n
 there:=fun b u q _=>⟨u,k b u q⟩
 tups:=fun b xs q=>by rw [af (ac q hn)]; exact q
 frzs:=fun b u xs q=>by rw [af (ac q hn)]; exact q
 tbls:=fun b ps q=>⟨#[],by rw [af (ac q hn),q]; simp⟩
theorem Un.write (mu:Mut (H x)) (he:e=x \/ H e=some (.own x)) (k:∀ b u,b ≠ e->h.get? b=some u->h'.get? b=some u) (heo:∃ u,h'.get? e=some u):Un fs ex H (upd H x o) h h':=by
 have hx:∀ b,H b=none->b ≠ x:=fun b n z=>by subst z; rw [n] at mu; exact mu
 have hb:∀ b,H b=none->b ≠ e:=fun b n z=>by
  subst z;rcases he with r | r
  ·exact hx b n r
  ·rw [n] at r; cases r
 have hm:∀ b u,H b=some u->¬ Mut (some u)->b ≠ x:=fun b u q nm z=>by subst z; rw [q] at mu; exact nm mu
 refine ⟨fun b u q n _ _=>k b u (hb b n) q,fun b u q n _ _=>⟨u.slots,k b u (hb b n) q⟩,fun b u q n _=>by rw [af (hx b n)]; exact n,fun b u q _=>?_,
  fun b xs q=>by rw [af (hm b _ q fun z=>z)]; exact q,fun b u xs q=>by rw [af (hm b _ q fun z=>z)]; exact q,fun b ps q=>⟨#[],by rw [af (hm b _ q fun z=>z),q]; simp⟩⟩
 by_cases hbe:b=e
 ·subst hbe; exact heo
 ·exact ⟨u,k b u hbe q⟩
theorem Un.mono (u:Un fs ex H H1 h h1) (hs:∀ b∈fs,b∈fs') (hx:∀ b∈ex,b∈ex'):Un fs' ex' H H1 h h1 :=
 ⟨fun b ob q n hb he=>u.keep b ob q n (fun z=>hb (hs b z)) fun z=>he (hx b z),fun _ _ q n _ he=>u.any q n fun z=>he (hx _ z),fun b ob q n he=>u.free b ob q n fun z=>he (hx b z),fun b ob q he=>u.there b ob q fun z=>he (hx b z),u.tups,u.frzs,u.tbls⟩
end
def trk (h:Heap) (H:Hp):List Addr:=(Ay h.objs.size).filter fun a=>(H a).isSome
def hidT (h:Heap) (H:Hp):Heap:=PySem.W.hideAll h (trk h H)
theorem aZq (h:Heap) (H:Hp):(hidT h H).objs.size=h.objs.size:=PySem.W.hideAll_size _ _
theorem aW3 {h:Heap} {H:Hp} {b:Addr} {o:Obj} (e:h.get? b=some o) (n:H b=none):(hidT h H).get? b=some o :=
 Kt _ e fun hm=>by
  have q:(H b).isSome=true:=(Bl.mp hm).2;rw [n] at q; simp at q
theorem aqb3 {h:Heap} {H:Hp} {b:Addr} {o:Obj} (e:(hidT h H).get? b=some o):h.get? b=some o/\H b=none:=by
 have e':h.get? b=some o:=K7 (trk h H) e;refine ⟨e',?_⟩;cases q:H b with
 | none=>rfl
 | some x =>
  have hm:b∈trk h H:=Bl.mpr ⟨Dc.mpr (Ae e'),by simp [q]⟩;have z:(hidT h H).get? b=none:=PySem.W.hideAll_none (trk h H) hm;rw [z] at e; cases e
def allNews (g h:Heap) (L:Addr):List (Addr × Obj):=(Ay h.objs.size).filterMap fun a=>if a=L \/ (g.get? a).isSome=true then none else (h.get? a).map fun o=>(a,o)
def aqhg (g h:Heap) (L d:Addr):List (Addr × Obj):=(allNews g h L).filter fun p=>decide (p.1 ≠ d)
structure Mod (K:Frag) (mg:Str->Option Value) (base:Heap):Prop where
 kin:K.In base
 glob:base.Ns Ak mg
 blt:∃ mb,base.Ns K8 mb/\∀ x:Str,x ≠ "__name__"->mb x=Aw x
 nolimit:base.NoLimit
structure Cx where
 prog:Af
 w:World
 K:Frag
 mg:Str->Option Value
 base:Heap
 A:Around
 N:List Str
 s₀:Shared
 H₀:Hp
 env:Env
 outer:List Env
 stack:List Env
 ex:List Addr
 fn:Str->Bool
 calm:Bool
 pn:List (Addr × Obj)
 xe:Value->Shared->Prop
def frs (l:List Env):List Addr:=l.filterMap (·.frame)
abbrev Cx.fs (X:Cx):List Addr:=frs X.outer
def Vis (sc:Scope) (x:Str):Prop:=sc.names.lookup x=some .local \/ sc.names.lookup x=some .cell \/ sc.names.lookup x=some .free
def Loc (sc:Scope) (x:Str):Prop:=sc.names.lookup x=some .local \/ sc.names.lookup x=some .cell
def aqie (env:Env) (h:Heap) (m:Str->Option Value) (x:Str) (u:Value):Prop :=
 (env.kindOf x=some .local/\m x=some u) \/ ((env.kindOf x=some .cell \/ env.kindOf x=some .free)/\∃ c,env.cells.lookup x=some c/\h.IsCell c (some u))
structure Cx.Ok (X:Cx):Prop where
 mod:Mod X.K X.mg X.base
 kind:X.env.scope.kind=.function
 glob:X.env.globals=Ak
 blt:X.env.builtins=K8
 above:X.s₀.heap.objs.size <= X.env.locals
 inj:∀ x y c,X.env.cells.lookup x=some c->X.env.cells.lookup y=some c->x=y
 has:∀ x,(X.env.kindOf x=some .cell \/ X.env.kindOf x=some .free)->∃ c,X.env.cells.lookup x=some c
 cab:∀ x c,X.fn x=true->X.env.cells.lookup x=some c->X.s₀.heap.objs.size <= c
 hd:X.calm=true->X.A.handled=none
 frames:X.A.frames=some X.stack
 stk:X.stack=X.outer \/ (X.stack=X.env :: X.outer/\X.env.frame=some X.env.locals)
 exf:∀ b∈X.ex,b ≠ X.env.locals/\∀ x c,X.env.cells.lookup x=some c->c ≠ b
 bs:∀ b o,X.base.get? b=some o->X.s₀.heap.get? b=some o/\X.H₀ b=none
 bsz:X.base.objs.size <= X.s₀.heap.objs.size
 noex:∀ b o,X.base.get? b=some o->b ∉ X.ex
 exfs:∀ b∈X.ex,b ∉ X.fs
 funs:X.s₀.heap.FunFrames X.base X.outer
 frf:∀ b∈X.fs,X.H₀ b=none
structure Inv (X:Cx) (pins:List (Addr × Obj)) (σ:List (Option V)) (H:Hp) (s:Shared):Prop where
 ok:X.Ok
 os:s.os=X.s₀.os
 bare:Fx s.gens
 base:Un X.fs X.ex X.H₀ H X.s₀.heap s.heap
 loc:∃ m,s.heap.Ns X.env.locals m/\∀ (i:Nat) (x:Str) (v:V),X.N[i]?=some x->σ[i]?=some (some v)->Vis X.env.scope x->∃ u,aqi8 v u/\aqie X.env s.heap m x u
 cell:∀ x c,X.env.cells.lookup x=some c->∃ v,s.heap.IsCell c v
 free:H X.env.locals=none
 freeC:∀ x c,X.env.cells.lookup x=some c->H c=none
 pin:∀ p∈X.pn++pins,s.heap.get? p.1=some p.2/\H p.1=none/\p.1 ≠ X.env.locals/\p.1 ∉ X.fs/\∀ v,p.2.data ≠ .cell v
 hok:HOk X.prog X.w H s.heap
 len:σ.length=X.N.length
section
variable {X:Cx} {pins:List (Addr × Obj)} {σ:List (Option V)} {H H':Hp} {s:Shared} {h':Heap}
theorem Cx.Ok.nofr (ok:X.Ok) {b:Addr} {o:Obj} (e:X.base.get? b=some o):b ∉ X.fs:=fun hb=>by
 have:=(ok.funs.mem hb).1
 rw [e] at this; cases this
theorem Inv.bs (I:Inv X pins σ H s):∀ b o,X.base.get? b=some o->s.heap.get? b=some o/\H b=none:=fun b o e =>
 ⟨I.base.keep b o (I.ok.bs b o e).1 (I.ok.bs b o e).2 (I.ok.nofr e) (I.ok.noex b o e),I.base.free b o (I.ok.bs b o e).1 (I.ok.bs b o e).2 (I.ok.noex b o e)⟩
theorem Inv.bk (I:Inv X pins σ H s):∀ b o,X.base.get? b=some o->s.heap.get? b=some o:=fun b o e=>(I.bs b o e).1
theorem Inv.mod (I:Inv X pins σ H s):Mod X.K X.mg X.base:=I.ok.mod
theorem Inv.kIn (I:Inv X pins σ H s):X.K.In s.heap:=I.ok.mod.kin.keeps I.bk
theorem Inv.nolimit (I:Inv X pins σ H s):s.heap.NoLimit:=I.ok.mod.nolimit.keeps I.bk
theorem Inv.lt (I:Inv X pins σ H s):X.env.locals < s.heap.objs.size:=let ⟨_,hn,_⟩:=I.loc; hn.lt
theorem Inv.sz (I:Inv X pins σ H s):X.s₀.heap.objs.size <= s.heap.objs.size:=le_trans I.ok.above (le_of_lt I.lt)
theorem Inv.nofs (I:Inv X pins σ H s) {a:Addr} (h:s.heap.objs.size <= a):a ∉ X.fs:=fun hb=>by
 obtain ⟨_,o,ho,_⟩:=I.ok.funs.mem hb;exact absurd (lt_of_lt_of_le (Ae ho) (le_trans I.sz h)) (lt_irrefl _)
theorem Inv.cne (I:Inv X pins σ H s):∀ x c,X.env.cells.lookup x=some c->c ≠ X.env.locals:=fun x c e z=>by
 obtain ⟨v,o,ho,hd⟩:=I.cell x c e;obtain ⟨m,⟨o',es,ep,ho',hd',_⟩,_⟩:=I.loc;rw [z,ho'] at ho; cases ho; rw [hd'] at hd; cases hd
theorem Inv.funs (I:Inv X pins σ H s):s.heap.FunFrames X.base X.outer:=by
 have all:∀ (l:List Env),(∀ b∈frs l,b∈X.fs)->X.s₀.heap.FunFrames X.base l->s.heap.FunFrames X.base l:=by
  intro l
  induction l with
  | nil=>intro _ _; trivial
  | cons env r ih =>
   intro hs hl;obtain ⟨hk,⟨L,o,hf,hn,ho,hd⟩,hr⟩:=hl;have hL:L∈X.fs:=hs L (by unfold frs; rw [filterMap_cons,hf]; exact mem_cons_self);obtain ⟨sl,e⟩:=I.base.slot L o ho (I.ok.frf L hL) hL fun z=>I.ok.exfs L z hL;exact ⟨hk,⟨L,_,hf,hn,e,hd⟩,ih (fun b hb=>hs b (by unfold frs; rw [filterMap_cons,hf]; exact mem_cons_of_mem _ hb)) hr⟩
 exact all X.outer (fun _ hb=>hb) I.ok.funs
theorem Inv.stack (I:Inv X pins σ H s):s.heap.FunFrames X.base X.stack:=by
 rcases I.ok.stk with e | ⟨e,hf⟩
 ·rw [e]; exact I.funs
 ·rw [e]
  obtain ⟨m,hn,_⟩:=I.loc;refine .cons (by rw [I.ok.kind]; decide) hf hn ?_ I.funs;exact Heap.get?_none_of_le (le_trans I.ok.bsz I.ok.above)
theorem Inv.stkSub (I:Inv X pins σ H s):∀ b∈frs X.stack,b∈X.env.locals :: X.fs:=fun b hb=>by
 rcases I.ok.stk with e | ⟨e,hf⟩
 ·rw [e] at hb; exact mem_cons_of_mem _ hb
 ·rw [e] at hb
  unfold frs at hb;rw [filterMap_cons,hf] at hb;exact hb
theorem Inv.stkFree (I:Inv X pins σ H s):∀ b∈frs X.stack,H b=none:=fun b hb=>by
 rcases Ai.mp (I.stkSub b hb) with e | hb
 ·rw [e]; exact I.free
 ·obtain ⟨_,o,ho,_⟩:=I.ok.funs.mem hb
  exact I.base.free b o ho (I.ok.frf b hb) fun z=>I.ok.exfs b z hb
theorem Inv.step {g':Array J8} {t':Nat} {d':Drawn} {ch:List Addr} (I:Inv X pins σ H s)
  (hch:∀ b∈ch,(b∈X.ex \/ X.s₀.heap.objs.size <= b)/\b ≠ X.env.locals/\(∀ x c,X.env.cells.lookup x=some c->c ≠ b)/\∀ p∈X.pn++pins,p.1 ≠ b)
  (keep:∀ b o,b ≠ X.env.locals->b ∉ X.fs->b ∉ ch->s.heap.get? b=some o->H b=none->h'.get? b=some o)
  (slot:∀ b o,b ≠ X.env.locals->b∈X.fs->b ∉ ch->s.heap.get? b=some o->H b=none->∃ sl,h'.get? b=some { o with slots:=sl }) (free:∀ b o,b ∉ ch->s.heap.get? b=some o->H b=none->H' b=none)
  (there:∀ b o,b ∉ ch->s.heap.get? b=some o->∃ o',h'.get? b=some o')
  (tups:∀ b xs,H b=some (.tup xs)->H' b=some (.tup xs)) (frzs:∀ b o u,H b=some (.frz o u)->H' b=some (.frz o u)) (tbls:∀ b ps,H b=some (.tbl ps)->∃ more,H' b=some (.tbl (ps++more)))
  (ns:∀ m,s.heap.Ns X.env.locals m->h'.Ns X.env.locals m) (hok:HOk X.prog X.w H' h') (hg:Fx g') :
  Inv X pins σ H' { s with heap:=h',gens:=g',drawn:=d',toks:=t' }:=by
 have neL:∀ b o,X.s₀.heap.get? b=some o->b ≠ X.env.locals:=fun b o e=>ne_of_lt (lt_of_lt_of_le (Ae e) I.ok.above);have neC:∀ b o,X.s₀.heap.get? b=some o->b ∉ X.ex->b ∉ ch:=fun b o e hx hb=>by
  rcases (hch b hb).1 with z | z
  ·exact hx z
  ·exact absurd (lt_of_lt_of_le (Ae e) z) (lt_irrefl _)
 have cellK:∀ x c,X.env.cells.lookup x=some c->∀ v,s.heap.IsCell c v->h'.IsCell c v:=fun x c e v ⟨o,ho,hd⟩=>by
  have nch:c ∉ ch:=fun z=>(hch c z).2.2.1 x c e rfl
  by_cases hc:c∈X.fs
  ·obtain ⟨sl,q⟩:=slot c o (I.cne x c e) hc nch ho (I.freeC x c e)
   exact ⟨_,q,hd⟩
  ·exact ⟨o,keep c o (I.cne x c e) hc nch ho (I.freeC x c e),hd⟩
 refine ⟨I.ok,I.os,hg,⟨fun b o e n hb hx=>?_,fun b o e n hb hx=>?_,fun b o e n hx=>?_,fun b o e hx=>?_,fun b xs e=>tups b xs (I.base.tups b xs e),fun b o xs e=>frzs b o xs (I.base.frzs b o xs e),fun b ps e=>?_⟩,?_,fun x c e=>?_,?_,fun x c e=>?_,fun p hp=>?_,hok,I.len⟩
 ·exact keep b o (neL b o e) hb (neC b o e hx) (I.base.keep b o e n hb hx) (I.base.free b o e n hx)
 ·obtain ⟨sl,e1⟩:=I.base.slot b o e n hb hx
  obtain ⟨sl',e2⟩:=slot b _ (neL b o e) hb (neC b o e hx) e1 (I.base.free b o e n hx);exact ⟨sl',e2⟩
 ·obtain ⟨o',e1⟩:=I.base.there b o e hx
  exact free b o' (neC b o e hx) e1 (I.base.free b o e n hx)
 ·obtain ⟨o',e1⟩:=I.base.there b o e hx
  exact there b o' (neC b o e hx) e1
 ·obtain ⟨m1,e1⟩:=I.base.tbls b ps e
  obtain ⟨m2,e2⟩:=tbls b _ e1;exact ⟨m1++m2,by rw [e2,append_assoc]⟩
 ·obtain ⟨m,hn,hl⟩:=I.loc
  refine ⟨m,ns m hn,fun i x v e1 e2 e3=>?_⟩;obtain ⟨u,r,l⟩:=hl i x v e1 e2 e3;refine ⟨u,r,?_⟩;rcases l with l | ⟨k,c,e,z⟩
  ·exact .inl l
  ·exact .inr ⟨k,c,e,cellK x c e _ z⟩
 ·obtain ⟨v,z⟩:=I.cell x c e
  exact ⟨v,cellK x c e v z⟩
 ·obtain ⟨m,⟨o,_,_,ho,_⟩,_⟩:=I.loc
  exact free _ o (fun z=>(hch _ z).2.1 rfl) ho I.free
 ·obtain ⟨v,o,ho,hd⟩:=I.cell x c e
  exact free c o (fun z=>(hch c z).2.2.1 x c e rfl) ho (I.freeC x c e)
 ·obtain ⟨e,n,ne,nf,d⟩:=I.pin p hp
  have nch:p.1 ∉ ch:=fun z=>(hch p.1 z).2.2.2 p hp rfl;exact ⟨keep p.1 p.2 ne nf nch e n,free p.1 p.2 nch e n,ne,nf,d⟩
theorem Inv.un {t':Nat} (I:Inv X pins σ H s) (u:Un X.fs [] H H' s.heap h') (hok:HOk X.prog X.w H' h'):Inv X pins σ H' { s with heap:=h',toks:=t' }:=by
 obtain ⟨m,⟨o,es,ep,ho,r⟩,_⟩:=id I.loc;obtain ⟨sl,hL⟩:=u.any ho I.free (by simp);exact I.step (g':=s.gens) (d':=s.drawn) (ch:=[]) (fun _ z=>nomatch z) (fun b o _ hb _ e n=>u.keep b o e n hb (by simp)) (fun b o _ hb _ e n=>u.slot b o e n hb (by simp)) (fun b o _ e n=>u.free b o e n (by simp)) (fun b o _ e=>u.there b o e (by simp)) u.tups u.frzs u.tbls (fun m' hm=>by
  obtain ⟨o',es',ep',ho',r'⟩:=hm;rw [ho] at ho'; cases ho';exact ⟨_,es',ep',hL,r'⟩) hok I.bare
theorem Inv.call {g':Array J8} {t':Nat} {d':Drawn} {ch:List Addr} (I:Inv X pins σ H s) (u:Un (frs X.stack) ch H H' s.heap h') (hok:HOk X.prog X.w H' h') (hg:Fx g')
  (hch:∀ b∈ch,(b∈X.ex \/ X.s₀.heap.objs.size <= b)/\b ≠ X.env.locals/\(∀ x c,X.env.cells.lookup x=some c->c ≠ b)/\∀ p∈X.pn++pins,p.1 ≠ b) :
  Inv X pins σ H' { s with heap:=h',gens:=g',drawn:=d',toks:=t' }:=by
 obtain ⟨m,⟨o,es,ep,ho,r⟩,_⟩:=id I.loc;obtain ⟨sl,hL⟩:=u.any ho I.free fun z=>(hch _ z).2.1 rfl;exact I.step (ch:=ch) hch (fun b o hL hb hc e n=>u.keep b o e n (fun z=>(Ai.mp (I.stkSub b z)).elim hL hb) hc) (fun b o _ _ hc e n=>u.any e n hc) (fun b o hc e n=>u.free b o e n hc) (fun b o hc e=>u.there b o e hc) u.tups u.frzs u.tbls (fun m' hm=>by
  obtain ⟨o',es',ep',ho',r'⟩:=hm;rw [ho] at ho'; cases ho';exact ⟨_,es',ep',hL,r'⟩) hok hg
theorem Inv.turned {t':Nat} {it:Addr} (I:Inv X pins σ H s) (k:∀ b o,b ≠ it->s.heap.get? b=some o->h'.get? b=some o) (hn:H it=none) (hL:it ≠ X.env.locals)
  (h1:it∈X.ex \/ X.s₀.heap.objs.size <= it) (h2:∀ x c,X.env.cells.lookup x=some c->c ≠ it) (h3:∀ p∈X.pn++pins,p.1 ≠ it):Inv X pins σ H { s with heap:=h',toks:=t' }:=by
 have nit:∀ b u,H b=some u->b ≠ it:=fun b u e z=>by rw [z,hn] at e; cases e
 refine I.step (g':=s.gens) (d':=s.drawn) (ch:=[it]) (fun b hb=>?_) (fun b o _ _ hc e _=>k b o (fun z=>hc (by simp [z])) e) (fun b o _ _ hc e _=>⟨o.slots,k b o (fun z=>hc (by simp [z])) e⟩) (fun _ _ _ _ n=>n)
  (fun b o hc e=>⟨o,k b o (fun z=>hc (by simp [z])) e⟩) (fun _ _ e=>e) (fun _ _ _ e=>e) (fun b ps e=>⟨#[],by rw [e]; simp⟩) (fun m hm=>?_) (fun b u e=>?_) I.bare
 ·have e:b=it:=by simpa using hb
  subst e;exact ⟨h1,hL,h2,h3⟩
 ·obtain ⟨o,es,ep,ho,r⟩:=hm
  exact ⟨o,es,ep,k _ o (Gq hL) ho,r⟩
 ·refine (I.hok b u e).stay (fun c v hc q=>k c v ?_ q) (fun _ q=>q) fun _ _ q=>q
  rcases hc with z | z
  ·rw [z]; exact nit b u e
  ·exact nit c _ z
theorem Inv.tok (I:Inv X pins σ H s) (t:Nat):Inv X pins σ H { s with toks:=t }:=I.un (h':=s.heap) (t':=t) Un.refl I.hok
theorem Inv.kept {t':Nat} (I:Inv X pins σ H s) (k:∀ b u,s.heap.get? b=some u->h'.get? b=some u):Inv X pins σ H { s with heap:=h',toks:=t' }:=I.un (Un.kept k) (I.hok.kept k)
theorem Inv.laid {a:Addr} {o:HO} {t':Nat} (I:Inv X pins σ H s) (k:∀ b u,s.heap.get? b=some u->h'.get? b=some u) (hp:s.heap.objs.size <= a) (new:aqx X.prog X.w (upd H a o) h' a o) :
  Inv X pins σ (upd H a o) { s with heap:=h',toks:=t' }:=I.un (Un.laid k hp (I.hok.fresh hp)) (I.hok.laid k hp new)
theorem Inv.write {x e:Addr} {o:HO} {t':Nat} (I:Inv X pins σ H s) (mu:Mut (H x)) (he:e=x \/ H e=some (.own x)) (k:∀ b u,b ≠ e->s.heap.get? b=some u->h'.get? b=some u) (heo:∃ u,h'.get? e=some u)
  (new:aqx X.prog X.w (upd H x o) h' x o):Inv X pins σ (upd H x o) { s with heap:=h',toks:=t' }:=I.un (Un.write mu he k heo) (I.hok.write mu he k heo new)
theorem Inv.pins_of {pins':List (Addr × Obj)} (I:Inv X pins σ H s) (h:∀ p∈pins',s.heap.get? p.1=some p.2/\H p.1=none/\p.1 ≠ X.env.locals/\p.1 ∉ X.fs/\∀ v,p.2.data ≠ .cell v):Inv X pins' σ H s :=
 ⟨I.ok,I.os,I.bare,I.base,I.loc,I.cell,I.free,I.freeC,fun p hp=>(Bm.mp hp).elim (fun z=>I.pin p (D3 _ z)) (h p),I.hok,I.len⟩
theorem aJd {N:List Str} (hN:N.Nodup) {i j:Nat} {x:Str} (a:N[i]?=some x) (b:N[j]?=some x):i=j:=by
 obtain ⟨h1,e1⟩:=Aj.mp a;obtain ⟨h2,e2⟩:=Aj.mp b;exact (Ik hN).mp (e1.trans e2.symm)
theorem akc {M:Model} {A:Around} {E:Value->Shared->Prop} {i:Nat} {x:Str} {v:V} {u:Value} {Q:Unit->Shared->Prop} (I:Inv X pins σ H s) (hN:X.N.Nodup) (hi:X.N[i]?=some x) (hx:Loc X.env.scope x) (r:aqi8 v u)
  (h:∀ s',Inv X pins (σ.set i (some v)) H s'->(∃ a,Heap.SameBut a s.heap s'.heap/\(a=X.env.locals \/ X.env.cells.lookup x=some a))->Q () s') (hf:X.fn x=true \/ X.env.scope.names.lookup x=some .local:=by first | exact .inl rfl | exact .inr rfl | assumption):wpAny M A (storeName X.env x u) Q E s:=by
 obtain ⟨m,hn,hl⟩:=id I.loc;have hcls:(X.env.scope.kind == .class || (X.env.scope.kind == .module && X.env.locals != X.env.globals))=false:=by rw [I.ok.kind]; rfl
 have hiσ:i < σ.length:=by rw [I.len]; exact (Aj.mp hi).1
 have cne:=I.cne;have tracked:∀ {a:Addr} {h':Heap},(∃ o,s.heap.get? a=some o/\H a=none)->Heap.SameBut a s.heap h'->HOk X.prog X.w H h':=fun {a h'} ha hs b ob e=>by
  obtain ⟨_,_,hfree⟩:=ha;refine (I.hok b ob e).stay (fun c w' hc q=>(hs.2 c ?_).trans q) (fun _ q=>q) fun _ _ q=>q;rintro rfl;rcases hc with rfl | hc
  ·rw [hfree] at e; cases e
  ·rw [hfree] at hc; cases hc
 rcases hx with hk | hk
 ·refine wpAny_storeName_local hk hn (fun h' hn' hs=>?_) hcls
  obtain ⟨oL,_,_,hoL,_⟩:=id hn;refine h _ ⟨I.ok,I.os,I.bare,⟨fun b o e n hb hx=>?_,fun b o e n hb hx=>?_,I.base.free,fun b o e hx=>?_,I.base.tups,I.base.frzs,I.base.tbls⟩,⟨_,hn',fun j y v' e1 e2 e3=>?_⟩,fun y c e=>?_,I.free,I.freeC,fun p hp=>?_,tracked ⟨oL,hoL,I.free⟩ hs,by simpa using I.len⟩ ⟨_,hs,.inl rfl⟩
  ·exact (hs.2 b (ne_of_lt (lt_of_lt_of_le (Ae e) I.ok.above))).trans (I.base.keep b o e n hb hx)
  ·obtain ⟨sl,e1⟩:=I.base.slot b o e n hb hx
   exact ⟨sl,(hs.2 b (ne_of_lt (lt_of_lt_of_le (Ae e) I.ok.above))).trans e1⟩
  ·obtain ⟨o',e1⟩:=I.base.there b o e hx
   exact ⟨o',(hs.2 b (ne_of_lt (lt_of_lt_of_le (Ae e) I.ok.above))).trans e1⟩
  ·by_cases hj:j=i
   ·subst hj
    rw [hi] at e1; cases e1;rw [Ew hiσ] at e2;cases e2;exact ⟨u,r,.inl ⟨hk,by simp⟩⟩
   ·rw [J9 (Gq hj)] at e2
    obtain ⟨u',r',q⟩:=hl j y v' e1 e2 e3;refine ⟨u',r',?_⟩;rcases q with ⟨k,e⟩ | ⟨k,c,e,z⟩
    ·refine .inl ⟨k,?_⟩
     have:y ≠ x:=fun e=>hj (aJd hN e1 (e ▸ hi))
     simp [this,e]
    ·exact .inr ⟨k,c,e,z.sameBut hs (cne y c e)⟩
  ·obtain ⟨w',z⟩:=I.cell y c e
   exact ⟨w',z.sameBut hs (cne y c e)⟩
  ·obtain ⟨e,n,ne,nf,d⟩:=I.pin p hp
   exact ⟨(hs.2 p.1 ne).trans e,n,ne,nf,d⟩
 ·have hfn:X.fn x=true:=by
   rcases hf with z | z
   ·exact z
   ·rw [z] at hk; cases hk
  obtain ⟨c,hc⟩:=I.ok.has x (.inl hk);obtain ⟨w',z⟩:=I.cell x c hc;refine wpAny_storeName_cell I.ok.kind hk hc z (fun h' hc' hs=>?_);obtain ⟨oc,hoc,hocd⟩:=id z;refine h { s with heap:=h' } ⟨I.ok,I.os,I.bare,⟨fun b o e n hb hx=>?_,fun b o e n hb hx=>?_,I.base.free,fun b o e hx=>?_,I.base.tups,I.base.frzs,I.base.tbls⟩,⟨m,hn.sameBut hs (Gq (cne x c hc)),fun j y v' e1 e2 e3=>?_⟩,fun y c' e=>?_,I.free,I.freeC,fun p hp=>?_,tracked ⟨oc,hoc,I.freeC x c hc⟩ hs,by simpa using I.len⟩ ⟨c,hs,.inr hc⟩
  ·exact (hs.2 b (ne_of_lt (lt_of_lt_of_le (Ae e) (I.ok.cab x c hfn hc)))).trans (I.base.keep b o e n hb hx)
  ·obtain ⟨sl,e1⟩:=I.base.slot b o e n hb hx
   exact ⟨sl,(hs.2 b (ne_of_lt (lt_of_lt_of_le (Ae e) (I.ok.cab x c hfn hc)))).trans e1⟩
  ·obtain ⟨o',e1⟩:=I.base.there b o e hx
   exact ⟨o',(hs.2 b (ne_of_lt (lt_of_lt_of_le (Ae e) (I.ok.cab x c hfn hc)))).trans e1⟩
  ·by_cases hj:j=i
   ·subst hj
    rw [hi] at e1; cases e1;rw [Ew hiσ] at e2;cases e2;exact ⟨u,r,.inr ⟨.inl hk,c,hc,hc'⟩⟩
   ·rw [J9 (Gq hj)] at e2
    obtain ⟨u',r',q⟩:=hl j y v' e1 e2 e3;refine ⟨u',r',?_⟩;rcases q with q | ⟨k,c',e,z'⟩
    ·exact .inl q
    ·refine .inr ⟨k,c',e,z'.sameBut hs ?_⟩
     rintro rfl;exact hj (aJd hN e1 (I.ok.inj _ _ _ e hc ▸ hi))
  ·by_cases hcc:c'=c
   ·subst hcc; exact ⟨_,hc'⟩
   ·obtain ⟨w2,z2⟩:=I.cell y c' e
    exact ⟨w2,z2.sameBut hs hcc⟩
  ·obtain ⟨e,n,ne,nf,d⟩:=I.pin p hp
   refine ⟨(hs.2 p.1 ?_).trans e,n,ne,nf,d⟩;intro q;rw [q,hoc] at e;have q':oc=p.2:=Option.some.inj e;exact d w' (by rw [<- q']; exact hocd)
theorem aQd {M:Model} {A:Around} {E:Value->Shared->Prop} {i:Nat} {x:Str} {v:V} {u:Value} {Q:Unit->Shared->Prop} (I:Inv X pins σ H s) (hN:X.N.Nodup) (hi:X.N[i]?=some x) (hx:Loc X.env.scope x) (r:aqi8 v u)
  (h:∀ s',Inv X pins (σ.set i (some v)) H s'->Q () s') (hf:X.fn x=true \/ X.env.scope.names.lookup x=some .local:=by first | exact .inl rfl | exact .inr rfl | assumption):wpAny M A (storeName X.env x u) Q E s :=
 akc I hN hi hx r (fun s' I' _=>h s' I') hf
theorem Inv.call' {s':Shared} {ch:List Addr} (I:Inv X pins σ H s) (ho:s'.os=s.os) (u:Un (frs X.stack) ch H H' s.heap s'.heap) (hok:HOk X.prog X.w H' s'.heap) (hg:Fx s'.gens)
  (hch:∀ b∈ch,(b∈X.ex \/ X.s₀.heap.objs.size <= b)/\b ≠ X.env.locals/\(∀ x c,X.env.cells.lookup x=some c->c ≠ b)/\∀ p∈X.pn++pins,p.1 ≠ b):Inv X pins σ H' s':=by
 obtain ⟨h',g',d',t',o'⟩:=s';have e:o'=s.os:=ho;subst e;exact I.call (g':=g') (t':=t') (d':=d') u hok hg hch
end
abbrev XK:=Value->Option Addr->Hp->Prop
abbrev St:=List (Option V)
abbrev VK:=V->Hp->Prop
abbrev TE:=St->Hp->VK->Prop
abbrev TT:=St->Hp->(Bool->Hp->Prop)->Prop
abbrev TA:=St->Hp->(List V->Hp->Prop)->Prop
structure Ends where
 nx:St->Hp->Prop
 rt:VK
 bk:St->Hp->Prop:=fun _ _=>False
 ct:St->Hp->Prop:=fun _ _=>False
abbrev TS:=Ends->St->Hp->Prop
def EP (X:Cx) (pins:List (Addr × Obj)) (σ:St) (Q:VK) (u:Value) (s':Shared):Prop:=∃ v H',Inv X pins σ H' s'/\aqi8 v u/\Q v H'
def TP (X:Cx) (pins:List (Addr × Obj)) (σ:St) (Q:Bool->Hp->Prop) (b:Bool) (s':Shared):Prop:=∃ H',Inv X pins σ H' s'/\Q b H'
def AP (X:Cx) (pins:List (Addr × Obj)) (σ:St) (Q:List V->Hp->Prop) (us:List Value) (s':Shared):Prop:=∃ vs H',Inv X pins σ H' s'/\aqi6 vs us/\Q vs H'
def SP (X:Cx) (pins:List (Addr × Obj)) (D:Ends) (f:Flow) (s':Shared):Prop :=
 match f with
 | .next=>∃ σ' H',Inv X pins σ' H' s'/\D.nx σ' H'
 | .brk=>∃ σ' H',Inv X pins σ' H' s'/\D.bk σ' H'
 | .cont=>∃ σ' H',Inv X pins σ' H' s'/\D.ct σ' H'
 | .ret u=>∃ v σ' H',Inv X pins σ' H' s'/\aqi8 v u/\D.rt v H'
def PE (X:Cx) (e:Expr) (t:TE):Prop :=
 ∀ (pins:List (Addr × Obj)) (s:Shared) (σ:St) (H:Hp) (Q:VK),Inv X pins σ H s->t σ H Q->wpAny (model X.prog X.w) X.A (eval e X.env) (EP X pins σ Q) X.xe s
def PT (X:Cx) (e:Expr) (t:TT):Prop :=
 ∀ (pins:List (Addr × Obj)) (s:Shared) (σ:St) (H:Hp) (Q:Bool->Hp->Prop),Inv X pins σ H s->t σ H Q->wpAny (model X.prog X.w) X.A (isTrue e X.env (eval e X.env)) (TP X pins σ Q) X.xe s
def PW (X:Cx) (e:Expr) (t:TT):Prop :=
 ∀ (whole:Sem Value) (pins:List (Addr × Obj)) (s:Shared) (σ:St) (H:Hp) (Q:Bool->Hp->Prop),Inv X pins σ H s->t σ H Q->wpAny (model X.prog X.w) X.A (isTrue e X.env whole) (TP X pins σ Q) X.xe s
theorem PW.pt {X:Cx} {e:Expr} {t:TT} (h:PW X e t):PT X e t:=h _
def PA (X:Cx) (es:List Expr) (t:TA):Prop :=
 ∀ (pos:Pos) (pins:List (Addr × Obj)) (s:Shared) (σ:St) (H:Hp) (Q:List V->Hp->Prop),Inv X pins σ H s->t σ H Q->wpAny (model X.prog X.w) X.A (spliced (Dl pos (Ap es X.env))) (AP X pins σ Q) X.xe s
def PS (X:Cx) (st:Stmt) (t:TS):Prop :=
 ∀ (pins:List (Addr × Obj)) (s:Shared) (σ:St) (H:Hp) (D:Ends),Inv X pins σ H s->t D σ H->wpAny (model X.prog X.w) X.A (exec st X.env) (SP X pins D) X.xe s
def PSs (X:Cx) (st:List Stmt) (t:TS):Prop :=
 ∀ (pins:List (Addr × Obj)) (s:Shared) (σ:St) (H:Hp) (D:Ends),Inv X pins σ H s->t D σ H->wpAny (model X.prog X.w) X.A (execs st X.env) (SP X pins D) X.xe s
theorem thn {α:Type} {t:Sem α} {Q Q':α->Shared->Prop} {M:Model} {A:Around} {E:Value->Shared->Prop} {s:Shared} (h:wpAny M A t Q E s) (hQ:∀ a s,Q a s->Q' a s):wpAny M A t Q' E s:=Av h hQ fun _ _ x=>x
section
variable {X:Cx}
def aqhb (i:Nat):TE:=fun σ H Q=>∃ v,σ[i]?=some (some v)/\Q v H
def tC (v:V):TE:=fun _ H Q=>Q v H
theorem aqd7 {i:Nat} {x:Str} {pos:Pos} (hN:X.N[i]?=some x) (hv:Vis X.env.scope x) (hd:(x == ("__debug__":Str))=false:=by decide) (hcd:(x == ("__classdict__":Str))=false:=by decide):PE X (.Name x pos) (aqhb i):=by
 intro pins s σ H Q I h;obtain ⟨v,e,h⟩:=h;obtain ⟨m,hn,hl⟩:=I.loc;obtain ⟨u,r,l⟩:=hl i x v hN e hv;have fin:EP X pins σ Q u s:=⟨v,H,I,r,h⟩;rcases l with ⟨hk,hm⟩ | ⟨hk,c,hc,hcell⟩
 ·exact wpAny_Name (wpAny_loadName_local I.ok.kind hk hn hm fin) hd
 ·rcases hk with hk | hk
  ·exact wpAny_Name (wpAny_loadName_cell I.ok.kind hk hc hcell fin) hd
  ·exact wpAny_Name (wpAny_loadName_free I.ok.kind hk hc hcell fin hcd) hd
theorem aj {i j pos}:PE X (.Constant (.int i) j pos) (tC (.int i)):=fun _ _ _ H _ I h=>wpAny_Constant_int ⟨.int i,H,I.tok _,⟨_,rfl⟩,h⟩
theorem pe_bl {b j pos}:PE X (.Constant (.bool b) j pos) (tC (.bl b)):=fun _ _ _ H _ I h=>Constant_bool ⟨.bl b,H,I,rfl,h⟩
theorem aQ3 {j pos}:PE X (.Constant .none j pos) (tC .non):=fun _ _ _ H _ I h=>Constant_none ⟨.non,H,I,rfl,h⟩
theorem al {x j pos}:PE X (.Constant (.str x) j pos) (tC (.str x)):=fun _ _ _ H _ I h=>Calls.Constant_str ⟨.str x,H,I.tok _,⟨_,rfl⟩,h⟩
def Gl (X:Cx) (x:Str):Prop:=X.env.kindOf x=some .globalImplicit
theorem axz {E:Value->Shared->Prop} {pins:List (Addr × Obj)} {s:Shared} {σ:St} {H:Hp} {x:Str} {u:Value} {pos:Pos} {Q:Value->Shared->Prop} (I:Inv X pins σ H s) (hg:Gl X x) (hm:X.mg x=some u) (h:Q u s)
  (hd:(x == ("__debug__":Str))=false:=by decide):wpAny (model X.prog X.w) X.A (eval (.Name x pos) X.env) Q E s :=
 G1 I.ok.kind hg (Calls.loadGlobal_global (by rw [I.ok.glob]; exact I.mod.glob.keeps I.bk) hm h) hd
theorem az7 {E:Value->Shared->Prop} {pins:List (Addr × Obj)} {s:Shared} {σ:St} {H:Hp} {x:Str} {u:Value} {pos:Pos} {Q:Value->Shared->Prop} (I:Inv X pins σ H s) (hg:Gl X x) (hm:X.mg x=none) (hv:Aw x=some u) (h:Q u s)
  (hn:x ≠ "__name__":=by decide) (hd:(x == ("__debug__":Str))=false:=by decide):wpAny (model X.prog X.w) X.A (eval (.Name x pos) X.env) Q E s:=by
 obtain ⟨mb,h1,h2⟩:=I.mod.blt;exact G1 I.ok.kind hg (Calls.loadGlobal_builtin (by rw [I.ok.glob]; exact I.mod.glob.keeps I.bk) hm (by rw [I.ok.blt]; exact h1.keeps I.bk) ((h2 x hn).trans hv) h) hd
theorem ajl {x:Str} {v:V} {u:Value} {pos:Pos} (hg:Gl X x) (hm:X.mg x=some u) (r:aqi8 v u) (hd:(x == ("__debug__":Str))=false:=by decide):PE X (.Name x pos) (tC v) :=
 fun _ _ _ H _ I h=>axz I hg hm ⟨v,H,I,r,h⟩ hd
theorem aqao {x:Str} {v:V} {u:Value} {pos:Pos} (hg:Gl X x) (hm:X.mg x=none) (hv:Aw x=some u) (r:aqi8 v u) (hn:x ≠ "__name__":=by decide) (hd:(x == ("__debug__":Str))=false:=by decide):PE X (.Name x pos) (tC v) :=
 fun _ _ _ H _ I h=>az7 I hg hm hv ⟨v,H,I,r,h⟩ hn hd
variable {a b:Expr} {ta tb:TE} {pos:Pos}
def PC (X:Cx) (op:CmpOp) (a b:Expr) (t:TE):Prop :=
 ∀ (pins:List (Addr × Obj)) (s:Shared) (σ:St) (H:Hp) (Q:VK),Inv X pins σ H s->t σ H Q ->
  wpAny (model X.prog X.w) X.A (eval a X.env) (fun v s₁=>wpAny (model X.prog X.w) X.A (eval b X.env) (fun u s₂=>wpAny (model X.prog X.w) X.A (Bi op v u) (EP X pins σ Q) X.xe s₂) X.xe s₁) X.xe s
theorem nobehind (b:Expr) {op:CmpOp} (h:op ≠ .In) (h2:op ≠ .NotIn):C5 op b=false:=by
 have e1:(op == CmpOp.In)=false:=by cases op <;> first | rfl | exact absurd rfl h
 have e2:(op == CmpOp.NotIn)=false:=by cases op <;> first | rfl | exact absurd rfl h2
 cases b <;> simp [C5,e1,e2]
def tB (t:TE):TT:=fun σ H Q=>t σ H fun x H1=>∃ c,x=.bl c/\Q c H1
theorem aqad {op:CmpOp} {t:TE} (h:PC X op a b t) (h1:C5 op b=false:=by first | exact nobehind _ (by decide) (by decide) | rfl):PT X (.Compare a [op] [b] pos) (tB t):=by
 intro pins s σ H Q I hw;refine Jw (thn (h pins s σ H _ I hw) fun v s1 h1=>thn h1 fun u s2 h2=>thn h2 fun c s3 hQ=>?_) h1;obtain ⟨x,H1,I1,r1,q1⟩:=hQ;obtain ⟨d,rfl,q⟩:=q1;cases r1;exact Cw ⟨H1,I1,q⟩
theorem aQv {e:Expr} {t:TE} (h:PE X e t) (he:∀ whole,isTrue e X.env whole=(do let v <- whole; standAt e.pos; Md [v] (truthy v)):=by intro _; rfl):PT X e (tB t):=by
 intro pins s σ H Q I hw;refine isTrue_plain (thn (h pins s σ H _ I hw) fun v s1 hQ=>?_) (he _);obtain ⟨x,H1,I1,r1,q1⟩:=hQ;obtain ⟨d,rfl,q⟩:=q1;cases r1;exact Cw ⟨H1,I1,q⟩
variable {tA tB':TT} {aqhg:List Expr}
def tAnd (t u:TT):TT:=fun σ H Q=>t σ H fun c H1=>if c=true then u σ H1 Q else Q false H1
def tOr (t u:TT):TT:=fun σ H Q=>t σ H fun c H1=>if c=true then Q true H1 else u σ H1 Q
def tNot (t:TT):TT:=fun σ H Q=>t σ H fun c H1=>Q (!c) H1
theorem aki (ha:PT X a tA):PW X (.BoolOp .And [a] pos) tA:=by
 intro wh pins s σ H Q I h;refine isTrue_and (thn (ha pins s σ H Q I h) fun c s1 e=>?_);cases c with
 | true=>exact isTrue_and_nil e
 | false=>exact e
theorem aXy (ha:PT X a tA):PW X (.BoolOp .Or [a] pos) tA:=by
 intro wh pins s σ H Q I h;refine isTrue_or (thn (ha pins s σ H Q I h) fun c s1 e=>?_);cases c with
 | false=>exact isTrue_or_nil e
 | true=>exact e
theorem aXz (ha:PT X a tA) (hb:PW X (.BoolOp .And (b :: aqhg) pos) tB'):PW X (.BoolOp .And (a :: b :: aqhg) pos) (tAnd tA tB'):=by
 intro wh pins s σ H Q I h;refine isTrue_and (thn (ha pins s σ H _ I h) fun c s1 hQ=>?_);obtain ⟨H1,I1,q1⟩:=hQ;cases c with
 | true=>exact hb wh pins s1 σ H1 Q I1 q1
 | false=>exact ⟨H1,I1,q1⟩
theorem aqac (ha:PT X a tA) (hb:PW X (.BoolOp .Or (b :: aqhg) pos) tB'):PW X (.BoolOp .Or (a :: b :: aqhg) pos) (tOr tA tB'):=by
 intro wh pins s σ H Q I h;refine isTrue_or (thn (ha pins s σ H _ I h) fun c s1 hQ=>?_);obtain ⟨H1,I1,q1⟩:=hQ;cases c with
 | true=>exact ⟨H1,I1,q1⟩
 | false=>exact hb wh pins s1 σ H1 Q I1 q1
theorem aQw (ha:PT X a tA):PT X (.UnaryOp .Not a pos) (tNot tA):=by
 intro pins s σ H Q I h;exact isTrue_not (ha pins s σ H (fun c H1=>Q (!c) H1) I h)
def tAndV (ta tb:TE):TE:=fun σ H Q=>ta σ H fun x H1=>∃ c,x=.bl c/\if c=true then tb σ H1 Q else Q (.bl false) H1
theorem aQ2 {op} {t:TE} (h:PE X a t):PE X (.BoolOp op [a] pos) t:=fun pins s σ H Q I hw=>BoolOp_one (h pins s σ H Q I hw)
theorem avx (ha:PE X a ta) (hb:PE X (.BoolOp .And (b :: aqhg) pos) tb):PE X (.BoolOp .And (a :: b :: aqhg) pos) (tAndV ta tb):=by
 intro pins s σ H Q I h;refine BoolOp_and (thn (ha pins s σ H _ I h) fun v s1 hQ=>?_);obtain ⟨x,H1,I1,r1,q1⟩:=hQ;obtain ⟨c,rfl,q1⟩:=q1;cases r1;refine Cw ?_;cases c with
 | true=>exact hb pins s1 σ H1 Q I1 q1
 | false=>exact ⟨.bl false,H1,I1,rfl,q1⟩
end
def SqL (K:Frag) (H:Hp) (a:Addr) (xs:List V):Prop :=
 Rd H a (.lst xs) \/
  ∃ (o:Obj) (its:Array Value) (n:Nat),K.lookup a=some o/\o.cls=.type "list"/\o.dict=none/\o.data=.seq its n/\its.size <= Ad/\aqi6 xs its.toList
def SqT (K:Frag) (H:Hp) (a:Addr) (xs:List V):Prop :=
 Rd H a (.tup xs) \/
  ∃ (o:Obj) (its:Array Value) (n:Nat),K.lookup a=some o/\o.cls=.type "tuple"/\o.data=.seq its n/\its.size <= Ad/\aqi6 xs its.toList
def absV:Value->Option V
 | .none=>some .non
 | .bool b=>some (.bl b)
 | .int i _=>some (.int i)
 | .str x _=>some (.str x)
 | .bytes b _=>some (.byt b)
 | .float b _=>some (.flt b)
 | .ref a=>some (.ref a)
 | .type n=>some (.ty n)
 | _=>none
theorem aqi8.abs {x:V} {u:Value} (r:aqi8 x u):absV u=some x:=by
 cases x with
 | non=>cases r; rfl
 | bl _=>cases r; rfl
 | int _=>obtain ⟨t,rfl⟩:=r; rfl
 | str _=>obtain ⟨t,rfl⟩:=r; rfl
 | byt _=>obtain ⟨t,rfl⟩:=r; rfl
 | flt _=>obtain ⟨t,rfl⟩:=r; rfl
 | ref _=>cases r; rfl
 | ty _=>cases r; rfl
theorem aqi8.inj {x y:V} {u:Value} (r:aqi8 x u) (q:aqi8 y u):x=y:=Option.some.inj (r.abs.symm.trans q.abs)
theorem aqi6.inj:∀ {xs ys:List V} {us:List Value},aqi6 xs us->aqi6 ys us->xs=ys
 | _,_,_,.nil,.nil=>rfl
 | _,_,_,.cons r t,.cons r' t'=>by rw [r.inj r',aqi6.inj t t']
section
variable {X:Cx} {pins:List (Addr × Obj)} {σ:St} {H:Hp} {s:Shared} {a:Addr} {xs ys:List V}
theorem SqL.of {K:Frag} (h:H a=some (.lst xs)):SqL K H a xs:=.inl (.inl h)
theorem SqT.of {K:Frag} (h:H a=some (.tup xs)):SqT K H a xs:=.inl (.inl h)
theorem Inv.list (I:Inv X pins σ H s) (h:SqL X.K H a xs):∃ its:List Value,aqi6 xs its/\PlainL s.heap a its.toArray/\xs.length <= Ad:=by
 rcases h with h | ⟨o,its,n,hk,hc,hd,hs,hz,r⟩
 ·obtain ⟨z,its,n,r,e⟩:=h.ok I.hok
  exact ⟨its,r,⟨_,n,e,rfl,rfl,rfl⟩,z⟩
 ·refine ⟨its.toList,r,⟨o,n,I.kIn a o hk,hc,hd,by simpa using hs⟩,?_⟩
  have e:=r.length;simp only [length_toList] at e;omega
theorem Inv.tuple (I:Inv X pins σ H s) (h:SqT X.K H a xs):∃ its:List Value,aqi6 xs its/\IsTup s.heap a its.toArray/\xs.length <= Ad:=by
 rcases h with h | ⟨o,its,n,hk,hc,hs,hz,r⟩
 ·obtain ⟨z,its,r,p⟩:=h.ok I.hok
  exact ⟨its,r,p,z⟩
 ·refine ⟨its.toList,r,⟨o,I.kIn a o hk,hc,n,by simpa using hs⟩,?_⟩
  have e:=r.length;simp only [length_toList] at e;omega
theorem Inv.list_inj (I:Inv X pins σ H s) (h:SqL X.K H a xs) (h':SqL X.K H a ys):xs=ys:=by
 obtain ⟨its,r,⟨o,n,e,_,_,d⟩,_⟩:=I.list h;obtain ⟨its',r',⟨o',n',e',_,_,d'⟩,_⟩:=I.list h';rw [e] at e'; cases e';rw [d] at d';injection d' with d1 _
 have:its=its':=by simpa using congrArg Array.toList d1
 subst this;exact r.inj r'
theorem Inv.tuple_inj (I:Inv X pins σ H s) (h:SqT X.K H a xs) (h':SqT X.K H a ys):xs=ys:=by
 obtain ⟨its,r,⟨o,e,_,n,d⟩,_⟩:=I.tuple h;obtain ⟨its',r',⟨o',e',_,n',d'⟩,_⟩:=I.tuple h';rw [e] at e'; cases e';rw [d] at d';injection d' with d1 _
 have:its=its':=by simpa using congrArg Array.toList d1
 subst this;exact r.inj r'
end
abbrev Cx.wish (X:Cx) (E:Value->Shared->Prop):Cx:={ X with xe:=E }
abbrev Cx.nox (X:Cx):Cx:=X.wish fun _ _=>False
theorem Cx.Ok.wish {X:Cx} (ok:X.Ok) (E:Value->Shared->Prop):(X.wish E).Ok :=
 ⟨ok.mod,ok.kind,ok.glob,ok.blt,ok.above,ok.inj,ok.has,ok.cab,ok.hd,ok.frames,ok.stk,ok.exf,ok.bs,ok.bsz,ok.noex,ok.exfs,ok.funs,ok.frf⟩
theorem Cx.Ok.unwish {X:Cx} {E:Value->Shared->Prop} (ok:(X.wish E).Ok):X.Ok :=
 ⟨ok.mod,ok.kind,ok.glob,ok.blt,ok.above,ok.inj,ok.has,ok.cab,ok.hd,ok.frames,ok.stk,ok.exf,ok.bs,ok.bsz,ok.noex,ok.exfs,ok.funs,ok.frf⟩
section
variable {X:Cx} {pins:List (Addr × Obj)} {σ:St} {H:Hp} {s:Shared} {E:Value->Shared->Prop}
theorem Inv.wish (I:Inv X pins σ H s) (E:Value->Shared->Prop):Inv (X.wish E) pins σ H s:=⟨I.ok.wish E,I.os,I.bare,I.base,I.loc,I.cell,I.free,I.freeC,I.pin,I.hok,I.len⟩
theorem Inv.unwish (I:Inv (X.wish E) pins σ H s):Inv X pins σ H s:=⟨I.ok.unwish,I.os,I.bare,I.base,I.loc,I.cell,I.free,I.freeC,I.pin,I.hok,I.len⟩
theorem SP.unwish {D:Ends} {f:Flow} {s':Shared} (h:SP (X.wish E) pins D f s'):SP X pins D f s':=by
 cases f with
 | next=>obtain ⟨σ',H',I,q⟩:=h; exact ⟨σ',H',I.unwish,q⟩
 | brk=>obtain ⟨σ',H',I,q⟩:=h; exact ⟨σ',H',I.unwish,q⟩
 | cont=>obtain ⟨σ',H',I,q⟩:=h; exact ⟨σ',H',I.unwish,q⟩
 | ret u=>obtain ⟨v,σ',H',I,r,q⟩:=h; exact ⟨v,σ',H',I.unwish,r,q⟩
theorem PE.nox {e:Expr} {t:TE} (h:PE X.nox e t):PE X e t:=fun pins s σ H Q I hw =>
 Av (h pins s σ H Q (I.wish _) hw) (fun _ _ ⟨v,H',I',r,q⟩=>⟨v,H',I'.unwish,r,q⟩) fun _ _ z=>Aq z
theorem PT.nox {e:Expr} {t:TT} (h:PT X.nox e t):PT X e t:=fun pins s σ H Q I hw =>
 Av (h pins s σ H Q (I.wish _) hw) (fun _ _ ⟨H',I',q⟩=>⟨H',I'.unwish,q⟩) fun _ _ z=>Aq z
theorem PSs.nox {st:List Stmt} {t:TS} (h:PSs X.nox st t):PSs X st t:=fun pins s σ H D I hw =>
 Av (h pins s σ H D (I.wish _) hw) (fun _ _ q=>q.unwish) fun _ _ z=>Aq z
end
section
variable {X:Cx} {st:Stmt} {aqhg:List Stmt} {t u:TS} {e:Expr} {te:TE} {pos:Pos}
def tNext:TS:=fun D σ H=>D.nx σ H
def tSeq (t u:TS):TS:=fun D σ H=>t { D with nx:=u D } σ H
theorem ao:PSs X [] tNext:=fun _ _ σ H _ I h=>El ⟨σ,H,I,h⟩
theorem ae (h1:PS X st t) (h2:PSs X aqhg u):PSs X (st :: aqhg) (tSeq t u):=by
 intro pins s σ H D I h;refine wpAny_execs_cons (thn (h1 pins s σ H { D with nx:=u D } I h) fun f s1 q=>?_);cases f with
 | next =>
  obtain ⟨σ',H',I',q⟩:=q;exact h2 pins s1 σ' H' D I' q
 | ret v=>exact q
 | brk=>exact q
 | cont=>exact q
theorem ah (h1:PS X st t):PSs X [st] t:=by
 intro pins s σ H D I h;refine wpAny_execs_cons (thn (h1 pins s σ H D I h) fun f s1 q=>?_);cases f with
 | next=>exact El q
 | ret v=>exact q
 | brk=>exact q
 | cont=>exact q
theorem Inv.quiet {pins:List (Addr × Obj)} {σ:St} {H:Hp} {s:Shared} (I:Inv X pins σ H s):interactive X.env=false:=by simp [interactive,I.ok.kind]
def tDrop (te:TE):TS:=fun D σ H=>te σ H fun _ H1=>D.nx σ H1
theorem aqe (he:PE X e te) (hs:Il e none pos.line X.env=pure false:=by rfl):PS X (.Expr e pos) (tDrop te):=by
 intro pins s σ H D I h;exact wpAny_Expr_any (thn (he pins s σ H _ I h) fun v s1 ⟨x,H1,I1,r1,q1⟩=>⟨σ,H1,I1,q1⟩) I.quiet hs
def tRet (te:TE):TS:=fun D σ H=>te σ H D.rt
theorem au (he:PE X e te):PS X (.Return (some e) pos) (tRet te):=by
 intro pins s σ H D I h;exact wpAny_Return_some (thn (he pins s σ H _ I h) fun v s1 ⟨x,H1,I1,r1,q1⟩=>⟨x,σ,H1,I1,r1,q1⟩)
def tIfS (c:TT) (t u:TS):TS:=fun D σ H=>c σ H fun b H1=>if b=true then t D σ H1 else u D σ H1
theorem aZ {c:Expr} {a b:List Stmt} {tc:TT} (hc:PT X c tc) (ha:PSs X a t) (hb:PSs X b u):PS X (.If c a b pos) (tIfS tc t u):=by
 intro pins s σ H D I h;refine wpAny_If (thn (hc pins s σ H _ I h) fun d s1 hQ=>?_);obtain ⟨H1,I1,q1⟩:=hQ;cases d with
 | true=>exact ha pins s1 σ H1 D I1 q1
 | false=>exact hb pins s1 σ H1 D I1 q1
end
abbrev TG:=V->St->Hp->(St->Hp->Prop)->Prop
abbrev TGs:=List V->St->Hp->(St->Hp->Prop)->Prop
def PG (X:Cx) (target:Expr) (t:TG):Prop :=
 ∀ (pins:List (Addr × Obj)) (s:Shared) (σ:St) (H:Hp) (v:V) (u:Value) (Q:St->Hp->Prop),Inv X pins σ H s->aqi8 v u->t v σ H Q ->
  wpAny (model X.prog X.w) X.A (Ly target X.env u) (fun _ s'=>∃ σ' H',Inv X pins σ' H' s'/\Q σ' H') X.xe s
def PGs (X:Cx) (ts:List Expr) (t:TGs):Prop :=
 ∀ (pins:List (Addr × Obj)) (s:Shared) (σ:St) (H:Hp) (vs:List V) (us:List Value) (Q:St->Hp->Prop),Inv X pins σ H s->aqi6 vs us->t vs σ H Q ->
  wpAny (model X.prog X.w) X.A (assignInOrder ((Fp ts X.env).map (·.2)) us) (fun _ s'=>∃ σ' H',Inv X pins σ' H' s'/\Q σ' H') X.xe s
section
variable {X:Cx} {pos:Pos}
def aqw (i:Nat):TG:=fun v σ H Q=>Q (σ.set i (some v)) H
theorem ajk {i:Nat} {x:Str} (hN:X.N.Nodup) (hi:X.N[i]?=some x) (hx:Loc X.env.scope x) (hf:X.fn x=true \/ X.env.scope.names.lookup x=some .local:=by first | exact .inl rfl | exact .inr rfl | assumption):PG X (.Name x pos) (aqw i):=by
 intro pins s σ H v u Q I r h;exact wpAny_assign_Name (aQd I hN hi hx r (fun s' I'=>⟨_,H,I',h⟩) hf)
def gNil:TGs:=fun vs σ H Q=>vs=[]/\Q σ H
def awp (t:TG) (u:TGs):TGs:=fun vs σ H Q=>∃ v r,vs=v :: r/\t v σ H fun σ' H'=>u r σ' H' Q
theorem akk:PGs X [] gNil:=by
 intro pins s σ H vs us Q I r h;obtain ⟨e,h⟩:=h;subst e;cases r;exact assignInOrder_nil ⟨σ,H,I,h⟩
theorem aqg {e:Expr} {es:List Expr} {t:TG} {u:TGs} (h1:PG X e t) (h2:PGs X es u)
  (hs:(Fp (e :: es) X.env).map (·.2)=Ly e X.env :: (Fp es X.env).map (·.2):=by rfl):PGs X (e :: es) (awp t u):=by
 intro pins s σ H vs us Q I r h;obtain ⟨v,vr,e1,h⟩:=h;subst e1;cases r with
 | cons r rr =>
  rw [hs];refine assignInOrder_cons (thn (h1 pins s σ H _ _ _ I r h) fun _ s1 hQ=>?_);obtain ⟨σ1,H1,I1,q1⟩:=hQ;exact h2 pins s1 σ1 H1 _ _ Q I1 rr q1
def gTup (K:Frag) (n:Nat) (t:TGs):TG:=fun v σ H Q=>∃ a xs,v=.ref a/\SqT K H a xs/\xs.length=n/\t xs σ H Q
theorem aqak {es:List Expr} {k:Nat} {t:TGs} {n:Nat} (hc:X.calm=true) (h:PGs X es t)
  (hn:(Fp es X.env).length=n:=by rfl) (hst:(Fp es X.env).findIdx? (·.1)=none:=by rfl):PG X (.Tuple es k pos) (gTup X.K n t):=by
 intro pins s σ H v u Q I r hw;obtain ⟨a,xs,e1,hq,hl,hw⟩:=hw;subst e1;cases r;obtain ⟨its,rv,ht,hz⟩:=I.tuple hq;refine assign_Tuple_tuple (I.ok.hd hc) ht (by simp [hn,<- hl,rv.length]) hst fun h' hx=>?_;have I1:Inv X pins σ H { s with heap:=h' }:=I.kept (t':=s.toks) fun b o e=>hx b o (ne_of_lt (Ae e)) e;exact h pins _ σ H xs _ Q I1 (by simpa using rv) hw
def tAsg (te:TE) (g:TG):TS:=fun D σ H=>te σ H fun x H1=>g x σ H1 D.nx
theorem gs {i:Nat} {x:Str} {e:Expr} {te:TE} {pos':Pos} (hN:X.N.Nodup) (hi:X.N[i]?=some x) (hx:Loc X.env.scope x) (he:PE X e te) (hs:Il e (some (.Name x pos')) pos.line X.env=pure false:=by rfl) (hf:X.fn x=true \/ X.env.scope.names.lookup x=some .local:=by first | exact .inl rfl | exact .inr rfl | assumption) :
  PS X (.Assign [.Name x pos'] e pos) (tAsg te (aqw i)):=by
 intro pins s σ H D I h;refine wpAny_Assign_Name (thn (he pins s σ H _ I h) fun v s1 hQ=>?_) hs;obtain ⟨y,H1,I1,r1,q1⟩:=hQ;exact aQd I1 hN hi hx r1 (fun s2 I2=>⟨_,H1,I2,q1⟩) hf
end
section
variable {X:Cx} {pos:Pos}
def tWhile (c:TT) (tb:TS):TS:=fun D σ H=>∃ W:Nat->St->Hp->Prop,(∃ m,W m σ H)/\∀ m σ H,W m σ H ->
 c σ H fun b H1=>if b=true then ∃ N:St->Hp->Prop,(∀ σ' H',N σ' H'->∃ m',m' < m/\W m' σ' H')/\tb { D with nx:=N,ct:=N,bk:=D.nx } σ H1 else D.nx σ H1
theorem aK3 {c:Expr} {body:List Stmt} {tc:TT} {tb:TS} (hp:PassesOwn (model X.prog X.w) X.A X.env X.xe) (hc:PT X c tc) (hb:PSs X body tb):PS X (.While c body [] pos) (tWhile tc tb):=by
 intro pins s σ H D I h;obtain ⟨W,⟨m0,w0⟩,turn⟩:=h;refine wpAny_While (codeAny_whileLoop (fun n s'=>∃ σ' H',Inv X pins σ' H' s'/\W n σ' H') ?_ m0 ⟨σ,H,I,w0⟩);rintro n s1 ⟨σ1,H1,I1,w1⟩;refine Cu hp (thn (hc pins s1 σ1 H1 _ I1 (turn n σ1 H1 w1)) fun b s2 hQ=>?_);obtain ⟨H2,I2,q2⟩:=hQ;cases b with
 | true =>
  obtain ⟨N,hN,q2⟩:=q2;rw [if_pos rfl];refine Cu hp (thn (hb pins s2 σ1 H2 _ I2 q2) fun f s3 q3=>?_);cases f with
  | next =>
   obtain ⟨σ3,H3,I3,n3⟩:=q3;obtain ⟨m',hm,w3⟩:=hN σ3 H3 n3;exact ⟨m',hm,σ3,H3,I3,w3⟩
  | cont =>
   obtain ⟨σ3,H3,I3,n3⟩:=q3;obtain ⟨m',hm,w3⟩:=hN σ3 H3 n3;exact ⟨m',hm,σ3,H3,I3,w3⟩
  | brk=>exact q3
  | ret v=>exact q3
 | false =>
  rw [if_neg Al];exact El ⟨σ1,H2,I2,q2⟩
end
structure It where
 go:Nat->Hp->Prop
 yld:Nat->Hp->V->Hp->Prop
 stop:Nat->Hp->Prop
def FpOk (X:Cx) (pins:List (Addr × Obj)) (H:Hp) (b:Addr):Prop :=
 H b=none/\b ≠ X.env.locals/\b ∉ X.fs/\(b∈X.ex \/ X.s₀.heap.objs.size <= b)/\(∀ x c,X.env.cells.lookup x=some c->c ≠ b)/\∀ p∈X.pn++pins,p.1 ≠ b
theorem Inv.fpOk {X:Cx} {pins:List (Addr × Obj)} {σ:St} {H H':Hp} {s:Shared} {b:Addr} (I:Inv X pins σ H s) (hb:s.heap.objs.size <= b) (hn:H' b=none):FpOk X pins H' b:=by
 refine ⟨hn,ne_of_gt (lt_of_lt_of_le I.lt hb),I.nofs hb,.inr (le_trans I.sz hb),fun x c e z=>?_,fun p hp z=>?_⟩
 ·obtain ⟨v,q⟩:=I.cell x c e
  exact absurd (lt_of_lt_of_le q.lt (by rw [z]; exact hb)) (lt_irrefl _)
 ·exact absurd (lt_of_lt_of_le (Ae (I.pin p hp).1) (by rw [z]; exact hb)) (lt_irrefl _)
structure Turn (P:Af) (w:World) (K:Frag) (tg:Expr) (J:It) (fp:List Addr) (it:Addr) (tn:Nat->Heap->Prop):Prop where
 mem:it∈fp
 obj:∀ i h,tn i h->∀ b∈fp,∃ o,h.get? b=some o/\∀ v,o.data ≠ .cell v
 keep:∀ i h h',tn i h->(∀ b∈fp,∀ o,h.get? b=some o->h'.get? b=some o)->tn i h'
 item:∀ (X:Cx),X.prog=P->X.w=w->X.K=K->X.calm=true->∀ (i:Nat) (pins:List (Addr × Obj)) (s:Shared) (σ:St) (H:Hp) (E:Value->Shared->Prop),Inv X pins σ H s->(∀ b∈fp,FpOk X pins H b)->tn i s.heap->J.go i H ->
  wpAny (model P w) X.A (Ex (.ref it)) (fun r s1=>∃ u,r=some u /\
   wpAny (model P w) X.A (F8 tg (.ref it) u) (fun _ s2=>∃ x H',Inv X pins σ H' s2/\aqi8 x u/\J.yld i H x H'/\tn (i + 1) s2.heap/\∀ b∈fp,H' b=none) E s1) E s
 done:∀ (X:Cx),X.prog=P->X.w=w->X.K=K->X.calm=true->∀ (i:Nat) (pins:List (Addr × Obj)) (s:Shared) (σ:St) (H:Hp) (E:Value->Shared->Prop),Inv X pins σ H s->(∀ b∈fp,FpOk X pins H b)->tn i s.heap->J.stop i H ->
  wpAny (model P w) X.A (Ex (.ref it)) (fun r s1=>r=none/\Inv X pins σ H s1) E s
 self:∀ (A:Around) (i:Nat) (s:Shared) (Q:Value->Shared->Prop) (E:Value->Shared->Prop),tn i s.heap->Q (.ref it) s->wpAny (model P w) A (K9 (.ref it)) Q E s
abbrev TI:=St->Hp->(It->Hp->Prop)->Prop
def PIE (X:Cx) (pins:List (Addr × Obj)) (σ:St) (tg:Expr) (R:It->Hp->Prop) (itv:Value) (s2:Shared):Prop :=
 ∃ (it:Addr) (fp:List Addr) (tn:Nat->Heap->Prop) (J:It) (H':Hp),itv=.ref it/\Inv X pins σ H' s2/\Turn X.prog X.w X.K tg J fp it tn/\tn 0 s2.heap/\(∀ b∈fp,FpOk X pins H' b)/\R J H'
def PI (X:Cx) (tg iter:Expr) (wi:TI):Prop :=
 ∀ (pins:List (Addr × Obj)) (s:Shared) (σ:St) (H:Hp) (R:It->Hp->Prop),Inv X pins σ H s->wi σ H R ->
  wpAny (model X.prog X.w) X.A (eval iter X.env) (fun v s1=>wpAny (model X.prog X.w) X.A (K9 v) (PIE X pins σ tg R) X.xe s1) X.xe s
theorem go_of {M:Model} {A:Around} {E:Value->Shared->Prop} {s:Shared} {tg:Expr} {it:Addr} {u:Value} {o:Obj} {n:String} {vs:Array Value} {Q:Unit->Shared->Prop} (ho:s.heap.get? it=some o) (hc:o.cls=.type n) (hd:o.data=.fields vs)
  (hn:["enumerate","zip","dict_itemiterator","dict_reverseitemiterator","odict_iterator","itertools.zip_longest","itertools.pairwise"].contains n=false) (hQ:Q () s):wpAny M A (F8 tg (.ref it) u) Q E s:=by
 unfold F8;cases tg <;> first
  | exact Ab hQ
  | (cases u <;> first
    | exact Ab hQ
    | (refine Aa (wpAny_load ho ?_)
       rw [hc,hd];show wpAny M A (if (["enumerate","zip","dict_itemiterator","dict_reverseitemiterator","odict_iterator","itertools.zip_longest","itertools.pairwise"].contains n && vs[0]? == some (Jc _))=true then _ else _) Q E s;rw [if_neg (by intro h; rw [hn,Bool.false_and] at h; cases h)];exact Ab hQ))
def Itl (K:Frag) (a:Addr):It :=
 ⟨fun i H=>∃ xs x,SqL K H a xs/\xs[i]?=some x,fun i H x H'=>H'=H/\∀ xs,SqL K H a xs->xs[i]?=some x,fun i H=>∃ xs,SqL K H a xs/\xs.length <= i⟩
def Itt (K:Frag) (a:Addr):It :=
 ⟨fun i H=>∃ xs x,SqT K H a xs/\xs[i]?=some x,fun i H x H'=>H'=H/\∀ xs,SqT K H a xs->xs[i]?=some x,fun i H=>∃ xs,SqT K H a xs/\xs.length <= i⟩
def Itr (lo:Int) (n:Nat):It:=⟨fun i _=>i < n,fun i H x H'=>H'=H/\x=.int (lo + i),fun i _=>n <= i⟩
theorem aXl {P:Af} {w:World} {K:Frag} {tg:Expr} (a it:Addr):Turn P w K tg (Itl K a) [it] it (fun i h=>h.IsListIter it a i) where
 mem:=by simp
 obj:=fun i h st b hb=>by
  have e:b=it:=by simpa using hb
  subst e;obtain ⟨o,e,c,d⟩:=st;exact ⟨o,e,fun v z=>by rw [d] at z; cases z⟩
 keep:=fun i h h' st k=>st.at fun o e=>k it (by simp) o e
 item:=by
  intro X hP hw hK hc i pins s σ H E I hf st hg;subst hP hw hK;obtain ⟨xs,x,hq,hx⟩:=hg;obtain ⟨its,rv,p,hz⟩:=I.list hq;obtain ⟨u,hu,ru⟩:=rv.get hx;obtain ⟨f0,f1,f2,f3,f4,f5⟩:=hf it (by simp);refine wpAny_pyNext_list_item st p.isList (x:=u) (by simpa using hu) fun h' st' sb=>?_;have I1:Inv X pins σ H { s with heap:=h' }:=I.turned (t':=s.toks) (fun b o hb e=>(sb.2 b hb).trans e) f0 f1 f3 f4 f5;obtain ⟨o,e,c,d⟩:=id st';exact ⟨u,rfl,go_of (s:={ s with heap:=h' }) e c d (by decide) ⟨x,H,I1,ru,⟨rfl,fun ys hy=>by rw [I.list_inj hy hq]; exact hx⟩,st',fun b hb=>(hf b hb).1⟩⟩
 done:=by
  intro X hP hw hK hc i pins s σ H E I hf st hg;subst hP hw hK;obtain ⟨xs,hq,hx⟩:=hg;obtain ⟨its,rv,p,hz⟩:=I.list hq;obtain ⟨f0,f1,f2,f3,f4,f5⟩:=hf it (by simp);have hl:=rv.length;exact wpAny_pyNext_list_end (I.ok.hd hc) st p.isList (by simp; omega) fun h' eb=>⟨rfl,I.turned (t':=s.toks) (fun b o hb e=>eb b o hb e) f0 f1 f3 f4 f5⟩
 self:=fun _ _ _ _ _ st h=>wpAny_pyIter_listiter st h
theorem aw5 {P:Af} {w:World} {K:Frag} {tg:Expr} (a it:Addr):Turn P w K tg (Itt K a) [it] it (fun i h=>h.IsTupleIter it a i) where
 mem:=by simp
 obj:=fun i h st b hb=>by
  have e:b=it:=by simpa using hb
  subst e;obtain ⟨o,e,c,d⟩:=st;exact ⟨o,e,fun v z=>by rw [d] at z; cases z⟩
 keep:=fun i h h' st k=>st.at fun o e=>k it (by simp) o e
 item:=by
  intro X hP hw hK hc i pins s σ H E I hf st hg;subst hP hw hK;obtain ⟨xs,x,hq,hx⟩:=hg;obtain ⟨its,rv,p,hz⟩:=I.tuple hq;obtain ⟨u,hu,ru⟩:=rv.get hx;obtain ⟨f0,f1,f2,f3,f4,f5⟩:=hf it (by simp);refine wpAny_pyNext_tuple_item st (show s.heap.IsTuple a its.toArray from p) (x:=u) (by simpa using hu) fun h' st' sb=>?_;have I1:Inv X pins σ H { s with heap:=h' }:=I.turned (t':=s.toks) (fun b o hb e=>(sb.2 b hb).trans e) f0 f1 f3 f4 f5;obtain ⟨o,e,c,d⟩:=id st';exact ⟨u,rfl,go_of (s:={ s with heap:=h' }) e c d (by decide) ⟨x,H,I1,ru,⟨rfl,fun ys hy=>by rw [I.tuple_inj hy hq]; exact hx⟩,st',fun b hb=>(hf b hb).1⟩⟩
 done:=by
  intro X hP hw hK hc i pins s σ H E I hf st hg;subst hP hw hK;obtain ⟨xs,hq,hx⟩:=hg;obtain ⟨its,rv,p,hz⟩:=I.tuple hq;obtain ⟨f0,f1,f2,f3,f4,f5⟩:=hf it (by simp);have hl:=rv.length;exact wpAny_pyNext_tuple_end (I.ok.hd hc) st (show s.heap.IsTuple a its.toArray from p) (by simp; omega) fun h' eb=>⟨rfl,I.turned (t':=s.toks) (fun b o hb e=>eb b o hb e) f0 f1 f3 f4 f5⟩
 self:=fun _ _ _ _ _ st h=>wpAny_pyIter_tupleiter st h
theorem aw6 {P:Af} {w:World} {K:Frag} {tg:Expr} (it:Addr) (lo:Int) (n:Nat):Turn P w K tg (Itr lo n) [it] it (fun i h=>IsRangeIter h it (lo + (i:Nat) * 1) ((n:Int) - (i:Nat)) 1) where
 mem:=by simp
 obj:=fun i h st b hb=>by
  have e:b=it:=by simpa using hb
  subst e;exact ⟨_,st,fun v z=>by
   have z':Data.fields _=Data.cell v:=z;cases z'⟩
 keep:=fun i h h' st k=>k it (by simp) _ st
 item:=by
  intro X hP hw hK hc i pins s σ H E I hf st hg;subst hP hw hK;obtain ⟨f0,f1,f2,f3,f4,f5⟩:=hf it (by simp);have W:=Walks.range (prog:=X.prog) (w:=X.w) (I.ok.hd hc) it lo 1 n;refine W.item i s _ _ hg st fun v h' tk hv st' kk=>?_;obtain ⟨t,rfl⟩:=hv;have I1:Inv X pins σ H { s with heap:=h',toks:=tk }:=I.turned (fun b o hb e=>kk b o (by simpa using hb) e) f0 f1 f3 f4 f5;refine ⟨_,rfl,go_of (s:={ s with heap:=h',toks:=tk }) (n:="range_iterator") st' rfl rfl (by decide) ⟨.int (lo + i),H,I1,⟨t,?_⟩,⟨rfl,rfl⟩,st',fun b hb=>(hf b hb).1⟩⟩;rw [Int.mul_one]
 done:=by
  intro X hP hw hK hc i pins s σ H E I hf st hg;subst hP hw hK;obtain ⟨f0,f1,f2,f3,f4,f5⟩:=hf it (by simp);exact wpAny_pyNext_range_end (I.ok.hd hc) st (by have:n <= i:=hg; omega) fun h' eb=>⟨rfl,I.turned (t':=s.toks) (fun b o hb e=>eb b o hb e) f0 f1 f3 f4 f5⟩
 self:=fun _ _ _ _ _ st h=>wpAny_pyIter_rangeiter st h
section
variable {X:Cx} {tg:Expr}
def iList (K:Frag) (tl:TE):TI:=fun σ H R=>tl σ H fun x H1=>∃ a,x=.ref a/\(∃ xs,SqL K H1 a xs)/\R (Itl K a) H1
def iTup (K:Frag) (tl:TE):TI:=fun σ H R=>tl σ H fun x H1=>∃ a,x=.ref a/\(∃ xs,SqT K H1 a xs)/\R (Itt K a) H1
theorem aqf {l:Expr} {tl:TE} (hl:PE X l tl):PI X tg l (iList X.K tl):=by
 intro pins s σ H R I h;refine thn (hl pins s σ H _ I h) fun v s1 hQ=>?_;obtain ⟨x,H1,I1,r1,q1⟩:=hQ;obtain ⟨a,e,⟨xs,hq⟩,q⟩:=q1;subst e;cases r1;obtain ⟨its,rv,p,hz⟩:=I1.list hq;refine Ey p.isList ?_;refine ⟨s1.heap.objs.size,[s1.heap.objs.size],_,_,H1,rfl,I1.kept (t':=s1.toks) fun b o e=>Ac _ e,aXl a _,⟨_,Ag _ rfl,rfl,rfl⟩,fun b hb=>?_,q⟩;have e:b=s1.heap.objs.size:=by simpa using hb
 subst e;exact I1.fpOk (le_refl _) (I1.hok.fresh (le_refl _))
theorem aqd6 {l:Expr} {tl:TE} (hl:PE X l tl):PI X tg l (iTup X.K tl):=by
 intro pins s σ H R I h;refine thn (hl pins s σ H _ I h) fun v s1 hQ=>?_;obtain ⟨x,H1,I1,r1,q1⟩:=hQ;obtain ⟨a,e,⟨xs,hq⟩,q⟩:=q1;subst e;cases r1;obtain ⟨its,rv,p,hz⟩:=I1.tuple hq;refine wpAny_pyIter_tuple (show s1.heap.IsTuple a its.toArray from p) ?_;refine ⟨s1.heap.objs.size,[s1.heap.objs.size],_,_,H1,rfl,I1.kept (t':=s1.toks) fun b o e=>Ac _ e,aw5 a _,⟨_,Ag _ rfl,rfl,rfl⟩,fun b hb=>?_,q⟩;have e:b=s1.heap.objs.size:=by simpa using hb
 subst e;exact I1.fpOk (le_refl _) (I1.hok.fresh (le_refl _))
theorem aQt {pins:List (Addr × Obj)} {σ:St} {H:Hp} {s:Shared} {R:It->Hp->Prop} {E:Value->Shared->Prop} {lo hi:Int} {t u v:Tok} {tk:Nat} (I:Inv X pins σ H s) (h1:-(2 ^ 62) <= lo) (h2:lo < 2 ^ 62) (h3:-(2 ^ 62) <= hi) (h4:hi < 2 ^ 62)
  (q:R (Itr lo (hi - lo).toNat) H):wpAny (model X.prog X.w) X.A (K9 (.ref s.heap.objs.size)) (PIE X pins σ tg R) E { s with heap:=s.heap.push { cls:=.type "range",data:=.fields #[.int lo t,.int hi u,.int 1 v] },toks:=tk }:=by
 refine wpAny_pyIter_range (IsRange.new ..) (small_one h1 h2 h3 h4) ?_;have I1:Inv X pins σ H { s with heap:=s.heap.push { cls:=.type "range",data:=.fields #[.int lo t,.int hi u,.int 1 v] },toks:=tk }:=I.kept fun b o e=>Ac _ e;refine ⟨(s.heap.push { cls:=.type "range",data:=.fields #[.int lo t,.int hi u,.int 1 v] }).objs.size,[(s.heap.push { cls:=.type "range",data:=.fields #[.int lo t,.int hi u,.int 1 v] }).objs.size],_,_,H,rfl,
  I1.kept (t':=tk) fun b o e=>Ac _ e,aw6 _ lo (hi - lo).toNat,?_,fun b hb=>?_,q⟩
 ·have e1:lo + ((0:Nat):Int) * 1=lo:=by simp
  have e2:(((hi - lo).toNat:Nat):Int) - ((0:Nat):Int)=Builtin.Range.rangeSize lo hi 1:=by rw [rangeSize_one]; split <;> omega
  show IsRangeIter _ _ (lo + ((0:Nat):Int) * 1) ((((hi - lo).toNat:Nat):Int) - ((0:Nat):Int)) 1;rw [e1,e2];exact Ag _ rfl
 ·have e:b=(s.heap.push { cls:=.type "range",data:=.fields #[.int lo t,.int hi u,.int 1 v] }).objs.size:=by simpa using hb
  subst e;exact I1.fpOk (le_refl _) (I1.hok.fresh (le_refl _))
def iRng1 (ta:TA):TI:=fun σ H R=>ta σ H fun vs H1=>∃ j:Int,vs=[.int j]/\-(2 ^ 62) <= j/\j < 2 ^ 62/\R (Itr 0 j.toNat) H1
def iRng2 (ta:TA):TI:=fun σ H R=>ta σ H fun vs H1=>∃ i j:Int,vs=[.int i,.int j]/\(-(2 ^ 62) <= i/\i < 2 ^ 62/\-(2 ^ 62) <= j/\j < 2 ^ 62)/\R (Itr i (j - i).toNat) H1
theorem ajs {a:Expr} {ta:TA} {p pos:Pos} (hg:Gl X "range") (hm:X.mg "range"=none) (ha:PA X [a] ta) (hs:Ap [a] X.env=[(false,eval a X.env)]:=by rfl):PI X tg (.Call (.Name "range" p) [a] [] pos) (iRng1 ta):=by
 intro pins s σ H R I h;refine Call_ (az7 I hg hm boot_range (Bv (thn (ha pos pins s σ H _ I h) fun us s1 hQ=>?_) hs rfl));obtain ⟨vs,H1,I1,r1,q1⟩:=hQ;obtain ⟨j,e,q1,q2,q⟩:=q1;subst e;cases r1 with
 | cons r rr =>
  cases rr;obtain ⟨t,rfl⟩:=r;exact call_range_1 (aQt I1 (by omega) (by omega) q1 q2 (by simpa using q))
theorem aX1 {a b:Expr} {ta:TA} {p pos:Pos} (hg:Gl X "range") (hm:X.mg "range"=none) (ha:PA X [a,b] ta) (hs:Ap [a,b] X.env=[(false,eval a X.env),(false,eval b X.env)]:=by rfl) (hs2:Ap [b] X.env=[(false,eval b X.env)]:=by rfl) :
  PI X tg (.Call (.Name "range" p) [a,b] [] pos) (iRng2 ta):=by
 intro pins s σ H R I h;refine Call_ (az7 I hg hm boot_range (Bv (thn (ha pos pins s σ H _ I h) fun us s1 hQ=>?_) (by rw [hs,hs2]) (by rw [hs2]; rfl)));obtain ⟨vs,H1,I1,r1,q1⟩:=hQ;obtain ⟨i,j,e,⟨q1,q2,q3,q4⟩,q⟩:=q1;subst e;cases r1 with
 | cons r rr =>
  cases rr with
  | cons r' rr =>
   cases rr;obtain ⟨t,rfl⟩:=r;obtain ⟨t',rfl⟩:=r';exact call_range_2 (aQt I1 q1 q2 q3 q4 q)
def tFor (wi:TI) (g:TG) (tb:TS):TS:=fun D σ H=>wi σ H fun J H1=>∃ W:Nat->Nat->St->Hp->Prop,(∃ m,W 0 m σ H1)/\∀ i m σ H,W i m σ H ->
 (J.stop i H/\D.nx σ H) \/ (J.go i H/\∃ N:St->Hp->Prop,(∀ σ' H',N σ' H'->∃ m',m' < m/\W (i + 1) m' σ' H')/\∀ x H',J.yld i H x H'->g x σ H' fun σ2 H2=>tb { D with nx:=N,ct:=N,bk:=D.nx } σ2 H2)
def avu (fp:List Addr) (h:Heap):List (Addr × Obj):=fp.filterMap fun b=>(h.get? b).map fun o=>(b,o)
theorem aq9 {fp:List Addr} {h:Heap} {b:Addr} {o:Obj} (hb:b∈fp) (e:h.get? b=some o):(b,o)∈avu fp h:=Ce.mpr ⟨b,hb,by rw [e]; rfl⟩
theorem aZc {fp:List Addr} {h:Heap} {p:Addr × Obj} (hp:p∈avu fp h):p.1∈fp/\h.get? p.1=some p.2:=by
 obtain ⟨b,hb,e⟩:=Ce.mp hp;cases q:h.get? b with
 | none=>rw [q] at e; cases e
 | some o =>
  rw [q] at e;have e':(b,o)=p:=Option.some.inj e;subst e';exact ⟨hb,q⟩
theorem Inv.pinned {pins:List (Addr × Obj)} {σ:St} {H:Hp} {s:Shared} {fp:List Addr} (I:Inv X pins σ H s) (hf:∀ b∈fp,FpOk X pins H b) (ho:∀ b∈fp,∃ o,s.heap.get? b=some o/\∀ v,o.data ≠ .cell v):Inv X (pins++avu fp s.heap) σ H s :=
 I.pins_of fun p hp=>(Bm.mp hp).elim (fun z=>I.pin p (mem_append_right _ z)) fun z=>by
  obtain ⟨hb,e⟩:=aZc z;obtain ⟨f0,f1,f2,_⟩:=hf p.1 hb;obtain ⟨o,e',d⟩:=ho p.1 hb;rw [e] at e'; cases e';exact ⟨e,f0,f1,f2,d⟩
theorem Inv.unpinned {pins pl:List (Addr × Obj)} {σ:St} {H:Hp} {s:Shared} (I:Inv X (pins++pl) σ H s):Inv X pins σ H s:=I.pins_of fun p hp=>I.pin p (mem_append_right _ (D3 _ hp))
theorem awg {iter:Expr} {body:List Stmt} {wi:TI} {g:TG} {tb:TS} {pos:Pos} (hp:PassesOwn (model X.prog X.w) X.A X.env X.xe) (hc:X.calm=true) (hi:PI X tg iter wi) (hg:PG X tg g) (hb:PSs X body tb)
  (hs:∀ x,Du iter X.env x=pure x:=by intro _; rfl):PS X (.For tg iter body [] pos) (tFor wi g tb):=by
 intro pins s σ H D I h;refine wpAny_For (thn (hi pins s σ H _ I h) fun v s1 h1=>thn h1 fun itv s2 h2=>?_) hs;obtain ⟨it,fp,tn,J,H2,e,I2,T,st2,f2,W,⟨m0,w0⟩,turn⟩:=h2;subst e;have stat:∀ {H':Hp},(∀ b∈fp,H' b=none)->∀ b∈fp,FpOk X pins H' b:=fun hn b hb=>⟨hn b hb,(f2 b hb).2⟩;refine codeAny_forLoop_any (fun n s'=>∃ i σ' H',Inv X pins σ' H' s'/\tn i s'.heap/\(∀ b∈fp,H' b=none)/\W i n σ' H') ?_ m0 ⟨0,σ,H2,I2,st2,fun b hb=>(f2 b hb).1,w0⟩;rintro n s3 ⟨i,σ3,H3,I3,st3,fr3,w3⟩;rcases turn i n σ3 H3 w3 with ⟨stop,qn⟩ | ⟨go,N,hN,step⟩
 ·refine Cu hp (thn (T.done X rfl rfl rfl hc i pins s3 σ3 H3 X.xe I3 (stat fr3) st3 stop) fun r s4 hQ=>?_)
  obtain ⟨hr,I4⟩:=hQ;subst hr;exact El ⟨σ3,H3,I4,qn⟩
 ·refine Cu hp (thn (T.item X rfl rfl rfl hc i pins s3 σ3 H3 X.xe I3 (stat fr3) st3 go) fun r s4 hQ=>?_)
  obtain ⟨u,hr,h4⟩:=hQ;subst hr;refine Cu hp (thn h4 fun _ s5 hQ=>?_);obtain ⟨x,H5,I5,r5,y5,st5,fr5⟩:=hQ;have I5':=I5.pinned (stat fr5) (T.obj _ _ st5);refine Cu hp (thn (hg _ s5 σ3 H5 x u _ I5' r5 (step x H5 y5)) fun _ s6 hQ=>?_);obtain ⟨σ6,H6,I6,q6⟩:=hQ;refine Cu hp (thn (hb _ s6 σ6 H6 _ I6 q6) fun f s7 q7=>?_);have again:∀ {σ7:St} {H7:Hp},Inv X (pins++avu fp s5.heap) σ7 H7 s7->N σ7 H7->∃ m,m < n/\∃ i σ' H',Inv X pins σ' H' s7/\tn i s7.heap/\(∀ b∈fp,H' b=none)/\W i m σ' H':=fun {σ7 H7} I7 n7=>by
   obtain ⟨m',hm,w7⟩:=hN σ7 H7 n7;refine ⟨m',hm,i + 1,σ7,H7,I7.unpinned,T.keep _ _ _ st5 fun b hb o e=>(I7.pin (b,o) (mem_append_right _ (mem_append_right _ (aq9 hb e)))).1,fun b hb=>?_,w7⟩;obtain ⟨o,e,d⟩:=T.obj _ _ st5 b hb;exact (I7.pin (b,o) (mem_append_right _ (mem_append_right _ (aq9 hb e)))).2.1
  cases f with
  | next=>obtain ⟨σ7,H7,I7,n7⟩:=q7; exact again I7 n7
  | cont=>obtain ⟨σ7,H7,I7,n7⟩:=q7; exact again I7 n7
  | brk=>obtain ⟨σ7,H7,I7,q7⟩:=q7; exact ⟨σ7,H7,I7.unpinned,q7⟩
  | ret v=>obtain ⟨x7,σ7,H7,I7,r7,q7⟩:=q7; exact ⟨x7,σ7,H7,I7.unpinned,r7,q7⟩
end
theorem aJy {K:Frag} {a:Addr} {xs:List V} {g:TG} {tb:TS} {D:Ends} {σ:St} {H:Hp} (Pv:Nat->St->Hp->Prop) (h0:Pv 0 σ H) (hl:∀ i σ H,i <= xs.length->Pv i σ H->SqL K H a xs)
  (hs:∀ i x σ H,xs[i]?=some x->Pv i σ H->g x σ H fun σ2 H2=>tb { D with nx:=Pv (i + 1),ct:=Pv (i + 1),bk:=D.nx } σ2 H2) (hd:∀ σ H,Pv xs.length σ H->D.nx σ H) :
  ∃ W:Nat->Nat->St->Hp->Prop,(∃ m,W 0 m σ H)/\∀ i m σ H,W i m σ H ->
   ((Itl K a).stop i H/\D.nx σ H) \/ ((Itl K a).go i H/\∃ N:St->Hp->Prop,(∀ σ' H',N σ' H'->∃ m',m' < m/\W (i + 1) m' σ' H')/\∀ x H',(Itl K a).yld i H x H'->g x σ H' fun σ2 H2=>tb { D with nx:=N,ct:=N,bk:=D.nx } σ2 H2):=by
 refine ⟨fun i m σ H=>m=xs.length - i/\i <= xs.length/\Pv i σ H,⟨xs.length,by simp,zero_le _,h0⟩,?_⟩;rintro i m σ H ⟨rfl,hi,p⟩;have q:=hl i σ H hi p
 by_cases hlt:i < xs.length
 ·refine .inr ⟨⟨xs,xs[i],q,by simp [hlt]⟩,Pv (i + 1),fun σ' H' p'=>⟨xs.length - (i + 1),by omega,rfl,hlt,p'⟩,fun x H' y=>?_⟩
  obtain ⟨e,y⟩:=y;subst e;exact hs i x σ _ (y xs q) p
 ·have e:i=xs.length:=by omega
  subst e;exact .inl ⟨⟨xs,q,le_refl _⟩,hd σ H p⟩
theorem aju {lo:Int} {n:Nat} {g:TG} {tb:TS} {D:Ends} {σ:St} {H:Hp} (Pv:Nat->St->Hp->Prop) (h0:Pv 0 σ H)
  (hs:∀ i σ H,i < n->Pv i σ H->g (.int (lo + i)) σ H fun σ2 H2=>tb { D with nx:=Pv (i + 1),ct:=Pv (i + 1),bk:=D.nx } σ2 H2) (hd:∀ σ H,Pv n σ H->D.nx σ H) :
  ∃ W:Nat->Nat->St->Hp->Prop,(∃ m,W 0 m σ H)/\∀ i m σ H,W i m σ H ->
   ((Itr lo n).stop i H/\D.nx σ H) \/ ((Itr lo n).go i H/\∃ N:St->Hp->Prop,(∀ σ' H',N σ' H'->∃ m',m' < m/\W (i + 1) m' σ' H')/\∀ x H',(Itr lo n).yld i H x H'->g x σ H' fun σ2 H2=>tb { D with nx:=N,ct:=N,bk:=D.nx } σ2 H2):=by
 refine ⟨fun i m σ H=>m=n - i/\i <= n/\Pv i σ H,⟨n,by simp,zero_le _,h0⟩,?_⟩;rintro i m σ H ⟨rfl,hi,p⟩
 by_cases hlt:i < n
 ·refine .inr ⟨hlt,Pv (i + 1),fun σ' H' p'=>⟨n - (i + 1),by omega,rfl,hlt,p'⟩,fun x H' y=>?_⟩
  obtain ⟨e,y⟩:=y;subst e y;exact hs i σ _ hlt p
 ·have e:i=n:=by omega
  subst e;exact .inl ⟨le_refl _,hd σ H p⟩
abbrev R2:=V->V->Hp->VK->Prop
def OpR (X:Cx) (f:Value->Value->Sem Value) (r:R2):Prop :=
 ∀ (pins:List (Addr × Obj)) (s:Shared) (σ:St) (H:Hp) (x y:V) (v u:Value) (Q:VK),Inv X pins σ H s->aqi8 x v->aqi8 y u->r x y H Q ->
  wpAny (model X.prog X.w) X.A (f v u) (EP X pins σ Q) X.xe s
def UnR (X:Cx) (f:Value->Sem Value) (r:V->Hp->VK->Prop):Prop :=
 ∀ (pins:List (Addr × Obj)) (s:Shared) (σ:St) (H:Hp) (x:V) (v:Value) (Q:VK),Inv X pins σ H s->aqi8 x v->r x H Q ->
  wpAny (model X.prog X.w) X.A (f v) (EP X pins σ Q) X.xe s
def axp (X:Cx) (f:Value) (r:List V->Hp->VK->Prop):Prop :=
 ∀ (pins:List (Addr × Obj)) (s:Shared) (σ:St) (H:Hp) (xs:List V) (us:List Value) (Q:VK),Inv X pins σ H s->aqi6 xs us->r xs H Q ->
  wpAny (model X.prog X.w) X.A (call f us) (EP X pins σ Q) X.xe s
def tOp (r:R2) (ta tb:TE):TE:=fun σ H Q=>ta σ H fun x H1=>tb σ H1 fun y H2=>r x y H2 Q
def tUn (r:V->Hp->VK->Prop) (ta:TE):TE:=fun σ H Q=>ta σ H fun x H1=>r x H1 Q
def rI (C:Int->Int->Prop) (g:Int->Int->V):R2:=fun x y H Q=>∃ i j,x=.int i/\y=.int j/\C i j/\Q (g i j) H
def rI0 (g:Int->Int->V):R2:=fun x y H Q=>∃ i j,x=.int i/\y=.int j/\Q (g i j) H
def rU (g:Int->V):V->Hp->VK->Prop:=fun x H Q=>∃ i,x=.int i/\Q (g i) H
section
variable {X:Cx} {a b c:Expr} {ta tb tc:TE} {pos:Pos}
theorem binT (ha:PE X a ta) (hb:PE X b tb) {pins:List (Addr × Obj)} {s:Shared} {σ:St} {H:Hp} {R:V->V->Hp->Prop} (I:Inv X pins σ H s)
  (h:ta σ H fun x H1=>tb σ H1 fun y H2=>R x y H2) {Q:Value->Shared->Prop} {f:Value->Value->Sem Value}
  (hf:∀ v u s2 x y H2,Inv X pins σ H2 s2->aqi8 x v->aqi8 y u->R x y H2->wpAny (model X.prog X.w) X.A (f v u) Q X.xe s2) :
  wpAny (model X.prog X.w) X.A (eval a X.env) (fun v s₁=>wpAny (model X.prog X.w) X.A (eval b X.env) (fun u s₂=>wpAny (model X.prog X.w) X.A (f v u) Q X.xe s₂) X.xe s₁) X.xe s:=by
 refine thn (ha pins s σ H _ I h) fun v s1 hQ=>?_;obtain ⟨x,H1,I1,r1,q1⟩:=hQ;refine thn (hb pins s1 σ H1 _ I1 q1) fun u s2 hQ=>?_;obtain ⟨y,H2,I2,r2,q2⟩:=hQ;exact hf v u s2 x y H2 I2 r1 r2 q2
theorem aX {op:Operator} {r:R2} (ho:OpR X (Cy op) r) (ha:PE X a ta) (hb:PE X b tb):PE X (.BinOp a op b pos) (tOp r ta tb):=by
 intro pins s σ H Q I h;exact wpAny_BinOp (binT ha hb I h fun v u s2 x y H2 I2 rx ry q=>ho pins s2 σ H2 x y v u Q I2 rx ry q)
theorem pe_un {op:UnaryOp} {r:V->Hp->VK->Prop} (ho:UnR X (unaryOp op) r) (ha:PE X a ta):PE X (.UnaryOp op a pos) (tUn r ta):=by
 intro pins s σ H Q I h;exact UnaryOp_ (thn (ha pins s σ H _ I h) fun v s1 ⟨x,H1,I1,r1,q1⟩=>ho pins s1 σ H1 x v Q I1 r1 q1)
theorem opI {f:Value->Value->Sem Value} {C:Int->Int->Prop} {g:Int->Int->Int}
  (rule:∀ (i j:Int) (t u:Tok) (s:Shared) (Q:Value->Shared->Prop) (E:Value->Shared->Prop),C i j->Q (.int (g i j) s.toks) { s with toks:=s.toks + 1 }->wpAny (model X.prog X.w) X.A (f (.int i t) (.int j u)) Q E s) :
  OpR X f (rI C fun i j=>.int (g i j)):=by
 intro pins s σ H x y v u Q I rx ry h;obtain ⟨i,j,rfl,rfl,hc,q⟩:=h;obtain ⟨t,rfl⟩:=rx;obtain ⟨t',rfl⟩:=ry;exact rule i j t t' s _ _ hc ⟨.int (g i j),H,I.tok _,⟨_,rfl⟩,q⟩
theorem opI0 {f:Value->Value->Sem Value} {g:Int->Int->Int}
  (rule:∀ (i j:Int) (t u:Tok) (s:Shared) (Q:Value->Shared->Prop) (E:Value->Shared->Prop),Q (.int (g i j) s.toks) { s with toks:=s.toks + 1 }->wpAny (model X.prog X.w) X.A (f (.int i t) (.int j u)) Q E s) :
  OpR X f (rI0 fun i j=>.int (g i j)):=by
 intro pins s σ H x y v u Q I rx ry h;obtain ⟨i,j,rfl,rfl,q⟩:=h;obtain ⟨t,rfl⟩:=rx;obtain ⟨t',rfl⟩:=ry;exact rule i j t t' s _ _ ⟨.int (g i j),H,I.tok _,⟨_,rfl⟩,q⟩
theorem opB0 {f:Value->Value->Sem Value} {g:Int->Int->Bool}
  (rule:∀ (i j:Int) (t u:Tok) (s:Shared) (Q:Value->Shared->Prop) (E:Value->Shared->Prop),Q (.bool (g i j)) s->wpAny (model X.prog X.w) X.A (f (.int i t) (.int j u)) Q E s) :
  OpR X f (rI0 fun i j=>.bl (g i j)):=by
 intro pins s σ H x y v u Q I rx ry h;obtain ⟨i,j,rfl,rfl,q⟩:=h;obtain ⟨t,rfl⟩:=rx;obtain ⟨t',rfl⟩:=ry;exact rule i j t t' s _ _ ⟨.bl (g i j),H,I,rfl,q⟩
def CDiv (i j:Int):Prop:=0 < j/\j < 1073741824
def CPow (i j:Int):Prop:=0 <= j/\j <= 1000000/\i.natAbs < 2 ^ 64
def CMul (i j:Int):Prop:=(-(2 ^ 64) < i/\i < 2 ^ 64) \/ (-(2 ^ 64) < j/\j < 2 ^ 64)
theorem CMul.ok {i j:Int} (h:CMul i j):IntMulOk i j:=by
 rcases h with ⟨h1,h2⟩ | ⟨h1,h2⟩
 ·exact .of_left (intBits_le_64 h1 h2)
 ·exact .of_right (intBits_le_64 h1 h2)
theorem aze:OpR X (Cy .Add) (rI0 fun i j=>.int (i + j)):=opI0 fun _ _ _ _ _ _ _ q=>add_int q
theorem aWd:OpR X (Cy .Sub) (rI0 fun i j=>.int (i - j)):=opI0 fun _ _ _ _ _ _ _ q=>sub_int q
theorem aWf:OpR X (Cy .Mult) (rI CMul fun i j=>.int (i * j)):=opI fun _ _ _ _ _ _ _ hc q=>mul_int q hc.ok
theorem ajm:OpR X (Cy .FloorDiv) (rI CDiv fun i j=>.int (i / j)):=opI fun i j _ _ _ _ _ hc q=>by
 have h1:(0:Int) < j:=hc.1;have h2:j < 1073741824:=hc.2;exact floordiv_int (by omega) (by rw [G2 i (by omega)]; exact q) (.inl (PyProof.noPylong_small (by omega)))
theorem axr:OpR X (Cy .Mod) (rI (fun _ j=>0 < j) fun i j=>.int (i % j)):=opI fun i j _ _ _ _ _ hc q=>by
 have h1:(0:Int) < j:=hc;exact mod_int' (by omega) (by rw [Bb i (by omega)]; exact q)
theorem axc:OpR X (Cy .Mod) (rI (fun _ j=>j ≠ 0) fun i j=>.int (i.fmod j)):=opI fun _ _ _ _ _ _ _ hc q=>mod_int' hc q
theorem aWe:OpR X (Cy .Pow) (rI CPow fun i j=>.int (i ^ j.toNat)):=opI fun _ _ _ _ _ _ _ hc q=>pow_int_small hc.1 hc.2.1 hc.2.2 q
theorem unI {f:Value->Sem Value} {g:Int->Int}
  (rule:∀ (i:Int) (t:Tok) (s:Shared) (Q:Value->Shared->Prop) (E:Value->Shared->Prop),Q (.int (g i) s.toks) { s with toks:=s.toks + 1 }->wpAny (model X.prog X.w) X.A (f (.int i t)) Q E s) :
  UnR X f (rU fun i=>.int (g i)):=by
 intro pins s σ H x v Q I rx h;obtain ⟨i,rfl,q⟩:=h;obtain ⟨t,rfl⟩:=rx;exact rule i t s _ _ ⟨.int (g i),H,I.tok _,⟨_,rfl⟩,q⟩
theorem aqd1:UnR X (unaryOp .USub) (rU fun i=>.int (-i)):=unI fun _ _ _ _ _ q=>neg_int q
end
def scal:V->V->Bool
 | .non,.non=>true | .non,.int _=>true | .int _,.non=>true | .non,.bl _=>true | .bl _,.non=>true | .non,.str _=>true | .str _,.non=>true
 | .int _,.int _=>true | .bl _,.bl _=>true | .str _,.str _=>true | .byt _,.byt _=>true
 | .int _,.str _=>true | .str _,.int _=>true | .bl _,.str _=>true | .str _,.bl _=>true
 | _,_=>false
def rEq:R2:=fun x y H Q=>scal x y=true/\Q (.bl (decide (x=y))) H
def rNe:R2:=fun x y H Q=>scal x y=true/\Q (.bl (!decide (x=y))) H
theorem aV1 {i j:Int}:decide (V.int i=V.int j)=(i == j):=by
 rw [Ax]
 simp
theorem aqbw {i j:Bool}:decide (V.bl i=V.bl j)=(i == j):=by
 rw [Ax]
 simp
theorem aV0 {i j:Str}:decide (V.str i=V.str j)=(i == j):=by
 rw [Ax]
 simp
theorem aV2 {i j:Array UInt8}:decide (V.byt i=V.byt j)=(i.toList == j.toList):=by
 rw [Ax];cases i;cases j
 simp
section
variable {X:Cx} {a b c:Expr} {ta tb tc:TE} {pos:Pos}
theorem aB {pins:List (Addr × Obj)} {σ:St} {H:Hp} {s:Shared} {Q:VK} {k k':Bool} (I:Inv X pins σ H s) (q:Q (.bl k) H) (e:k=k'):EP X pins σ Q (.bool k') s:=by
 subst e;exact ⟨.bl k,H,I,rfl,q⟩
theorem aq1:OpR X (Bi .Eq) rEq:=by
 intro pins s σ H x y v u Q I rx ry h;obtain ⟨hs,q⟩:=h;cases x with
 | non =>
  cases rx;cases y with
  | non=>cases ry; exact PySem.EqNone.eq_none_none (aB I q (by simp))
  | bl j=>cases ry; exact PySem.EqNone.eq_none_bool (aB I q (by simp))
  | int j=>obtain ⟨t',rfl⟩:=ry; exact PySem.EqNone.eq_none_int (aB I q (by simp))
  | str j=>obtain ⟨t',rfl⟩:=ry; exact PySem.EqNone.eq_none_str (aB I q (by simp))
  | _=>exact absurd (show false=true from hs) Al
 | bl i =>
  cases rx;cases y with
  | non=>cases ry; exact PySem.EqNone.eq_bool_none (aB I q (by simp))
  | bl j=>cases ry; exact eq_bool (aB I q aqbw)
  | str j=>obtain ⟨t',rfl⟩:=ry; exact PySem.EqMixed.eq_bool_str (aB I q (by simp))
  | _=>exact absurd (show false=true from hs) Al
 | int i =>
  obtain ⟨t,rfl⟩:=rx;cases y with
  | non=>cases ry; exact PySem.EqNone.eq_int_none (aB I q (by simp))
  | int j=>obtain ⟨t',rfl⟩:=ry; exact eq_int (aB I q aV1)
  | str j=>obtain ⟨t',rfl⟩:=ry; exact PySem.EqMixed.eq_int_str (aB I q (by simp))
  | _=>exact absurd (show false=true from hs) Al
 | str i =>
  obtain ⟨t,rfl⟩:=rx;cases y with
  | non=>cases ry; exact PySem.EqNone.eq_str_none (aB I q (by simp))
  | bl j=>cases ry; exact PySem.EqMixed.eq_str_bool (aB I q (by simp))
  | int j=>obtain ⟨t',rfl⟩:=ry; exact PySem.EqMixed.eq_str_int (aB I q (by simp))
  | str j=>obtain ⟨t',rfl⟩:=ry; exact eq_str (aB I q aV0)
  | _=>exact absurd (show false=true from hs) Al
 | byt i =>
  obtain ⟨t,rfl⟩:=rx;cases y with
  | byt j=>obtain ⟨t',rfl⟩:=ry; exact PySem.W.eq_bytes (aB I q aV2)
  | _=>exact absurd (show false=true from hs) Al
 | _=>cases y <;> exact absurd (show false=true from hs) Al
theorem op_ne:OpR X (Bi .NotEq) rNe:=by
 intro pins s σ H x y v u Q I rx ry h;obtain ⟨hs,q⟩:=h;cases x with
 | non =>
  cases rx;cases y with
  | non=>cases ry; exact PySem.EqNone.ne_none_none (aB I q (by simp))
  | bl j=>cases ry; exact PySem.EqNone.ne_none_bool (aB I q (by simp))
  | int j=>obtain ⟨t',rfl⟩:=ry; exact PySem.EqNone.ne_none_int (aB I q (by simp))
  | str j=>obtain ⟨t',rfl⟩:=ry; exact PySem.EqNone.ne_none_str (aB I q (by simp))
  | _=>exact absurd (show false=true from hs) Al
 | bl i =>
  cases rx;cases y with
  | non=>cases ry; exact PySem.EqNone.ne_bool_none (aB I q (by simp))
  | bl j=>cases ry; exact ne_bool (aB I q (congrArg not aqbw))
  | str j=>obtain ⟨t',rfl⟩:=ry; exact PySem.EqMixed.ne_bool_str (aB I q (by simp))
  | _=>exact absurd (show false=true from hs) Al
 | int i =>
  obtain ⟨t,rfl⟩:=rx;cases y with
  | non=>cases ry; exact PySem.EqNone.ne_int_none (aB I q (by simp))
  | int j=>obtain ⟨t',rfl⟩:=ry; exact ne_int (aB I q (congrArg not aV1))
  | str j=>obtain ⟨t',rfl⟩:=ry; exact PySem.EqMixed.ne_int_str (aB I q (by simp))
  | _=>exact absurd (show false=true from hs) Al
 | str i =>
  obtain ⟨t,rfl⟩:=rx;cases y with
  | non=>cases ry; exact PySem.EqNone.ne_str_none (aB I q (by simp))
  | bl j=>cases ry; exact PySem.EqMixed.ne_str_bool (aB I q (by simp))
  | int j=>obtain ⟨t',rfl⟩:=ry; exact PySem.EqMixed.ne_str_int (aB I q (by simp))
  | str j=>obtain ⟨t',rfl⟩:=ry; exact ne_str (aB I q (congrArg not aV0))
  | _=>exact absurd (show false=true from hs) Al
 | byt i =>
  obtain ⟨t,rfl⟩:=rx;cases y with
  | byt j=>obtain ⟨t',rfl⟩:=ry; exact PySem.W.ne_bytes (aB I q (congrArg not aV2))
  | _=>exact absurd (show false=true from hs) Al
 | _=>cases y <;> exact absurd (show false=true from hs) Al
theorem op_lt:OpR X (Bi .Lt) (rI0 fun i j=>.bl (decide (i < j))):=opB0 fun _ _ _ _ _ _ _ q=>lt_int q
theorem op_le:OpR X (Bi .LtE) (rI0 fun i j=>.bl (decide (i <= j))):=opB0 fun _ _ _ _ _ _ _ q=>le_int q
theorem op_gt:OpR X (Bi .Gt) (rI0 fun i j=>.bl (decide (j < i))):=opB0 fun _ _ _ _ _ _ _ q=>gt_int q
theorem op_ge:OpR X (Bi .GtE) (rI0 fun i j=>.bl (decide (j <= i))):=opB0 fun _ _ _ _ _ _ _ q=>ge_int q
theorem akn:OpR X (Bi .In) (fun x y H Q=>∃ i j,x=.str i/\y=.str j/\Q (.bl (!(B5 j i 0 j.length 1).isEmpty)) H):=by
 intro pins s σ H x y v u Q I rx ry h;obtain ⟨i,j,rfl,rfl,q⟩:=h;obtain ⟨t,rfl⟩:=rx;obtain ⟨t',rfl⟩:=ry;exact in_str (aB I q rfl)
theorem aqdc:OpR X (Bi .Is) (fun x y H Q=>y=.non/\Q (.bl (decide (x=.non))) H):=by
 intro pins s σ H x y v u Q I rx ry h;obtain ⟨rfl,q⟩:=h;cases ry;refine is_none_gen (aB I q ?_);cases x <;> first
  | (cases rx; rfl)
  | (obtain ⟨t,rfl⟩:=rx; rfl)
theorem OpR.or {f:Value->Value->Sem Value} {r r':R2} (h:OpR X f r) (h':OpR X f r'):OpR X f (fun x y H Q=>r x y H Q \/ r' x y H Q):=by
 intro pins s σ H x y v u Q I rx ry q;rcases q with q | q
 ·exact h pins s σ H x y v u Q I rx ry q
 ·exact h' pins s σ H x y v u Q I rx ry q
theorem cn (b:Expr) {op:CmpOp} (h:op ≠ .In:=by decide) (h2:op ≠ .NotIn:=by decide):C5 op b=false:=by
 have e1:(op == CmpOp.In)=false:=by cases op <;> first | rfl | exact absurd rfl h
 have e2:(op == CmpOp.NotIn)=false:=by cases op <;> first | rfl | exact absurd rfl h2
 cases b <;> simp [C5,e1,e2]
theorem aM {op:CmpOp} {r:R2} (ho:OpR X (Bi op) r) (ha:PE X a ta) (hb:PE X b tb) (hm:C5 op b=false):PE X (.Compare a [op] [b] pos) (tOp r ta tb):=by
 intro pins s σ H Q I h;exact wpAny_Compare1 (binT ha hb I h fun v u s2 x y H2 I2 rx ry q=>ho pins s2 σ H2 x y v u Q I2 rx ry q) hm
def tTest (t:TE):TT:=fun σ H Q=>t σ H fun x H'=>∃ k,x=.bl k/\Q k H'
theorem ak {op:CmpOp} {r:R2} (ho:OpR X (Bi op) r) (ha:PE X a ta) (hb:PE X b tb) (hm:C5 op b=false):PT X (.Compare a [op] [b] pos) (tTest (tOp r ta tb)):=by
 intro pins s σ H Q I h;refine Jw (thn (ha pins s σ H _ I h) fun v s1 ⟨x,H1,I1,r1,q1⟩=>thn (hb pins s1 σ H1 _ I1 q1) fun u s2 ⟨y,H2,I2,r2,q2⟩ =>
  thn (ho pins s2 σ H2 x y v u _ I2 r1 r2 q2) fun c s3 ⟨z,H3,I3,r3,k,e,q3⟩=>?_) hm
 subst e;cases r3;exact Cw ⟨H3,I3,q3⟩
theorem aJk:(Ad:Nat) < 2 ^ 63:=by rw [Ah]; decide
theorem aq7:OpR X (Cy .Add) (fun x y H Q=>∃ i j,x=.str i/\y=.str j/\i.length + j.length <= Ad/\Q (.str (i++j)) H):=by
 intro pins s σ H x y v u Q I rx ry h;obtain ⟨i,j,rfl,rfl,hz,q⟩:=h;obtain ⟨t,rfl⟩:=rx;obtain ⟨t',rfl⟩:=ry;exact add_str (fun t' tk=>⟨.str (i++j),H,I.tok _,⟨_,rfl⟩,q⟩) hz
theorem aw2 {x:V} {us:List Value} (r:aqi6 [x] us):∃ u,us=[u]/\aqi8 x u:=by
 cases r with
 | cons r1 r2=>cases r2; exact ⟨_,rfl,r1⟩
theorem vals2 {x y:V} {us:List Value} (r:aqi6 [x,y] us):∃ u w',us=[u,w']/\aqi8 x u/\aqi8 y w':=by
 cases r with
 | cons r1 r2 =>
  cases r2 with
  | cons r3 r4=>cases r4; exact ⟨_,_,rfl,r1,r3⟩
theorem aZ0 (hc:X.calm=true):axp X (.builtin "max") (fun xs H Q=>∃ i j,xs=[.int i,.int j]/\Q (.int (if j > i then j else i)) H):=by
 intro pins s σ H xs us Q I r h;obtain ⟨i,j,rfl,q⟩:=h;obtain ⟨u,w',rfl,⟨t,rfl⟩,⟨t',rfl⟩⟩:=vals2 r;refine max_two_ints (I.ok.hd hc) fun h' tk k=>⟨_,H,I.kept k,?_,q⟩
 by_cases hj:j > i
 ·rw [if_pos hj,if_pos hj]; exact ⟨_,rfl⟩
 ·rw [if_neg hj,if_neg hj]; exact ⟨_,rfl⟩
theorem aZ1:axp X (.type "int") (fun xs H Q=>(∃ i,xs=[.int i]/\Q (.int i) H) \/ ∃ k,xs=[.bl k]/\Q (.int (if k then 1 else 0)) H):=by
 intro pins s σ H xs us Q I r h;rcases h with ⟨i,rfl,q⟩ | ⟨k,rfl,q⟩
 ·obtain ⟨u,rfl,t,rfl⟩:=aw2 r
  exact call_int_int ⟨.int i,H,I,⟨_,rfl⟩,q⟩
 ·obtain ⟨u,rfl,r1⟩:=aw2 r
  cases r1;exact call_int_bool ⟨.int (if k then 1 else 0),H,I.tok _,⟨_,rfl⟩,q⟩
theorem av5:axp X (.type "str") (fun xs H Q=>∃ i,xs=[.int i]/\i.natAbs.log2 < 1920/\Q (.str (toString i)) H):=by
 intro pins s σ H xs us Q I r h;obtain ⟨i,rfl,hz,q⟩:=h;obtain ⟨u,rfl,t,rfl⟩:=aw2 r;exact La hz ⟨.str _,H,I.tok _,⟨_,rfl⟩,q⟩
end
structure ObjM (h:Heap) (x dx C:Addr) (mA:Str->Option Value):Prop where
 obj:h.get? x=some (B7 C dx)
 ns:h.Ns1 dx mA
 ne:dx ≠ x
theorem aZg {h:Heap} {dx:Addr} {mA:Str->Option Value} (n:h.Ns1 dx mA):∃ od,h.get? dx=some od/\∀ name,G3 name od=some (mA name):=by
 obtain ⟨o,es,ep,ho,hd,hk,_,hm⟩:=n;refine ⟨o,ho,fun name=>?_⟩;have e:=hm name;unfold nsFind findBy at e;rw [<- Array.find?_toList] at e;unfold G3;rw [hd];dsimp only;split
 ·rename_i y q
  rw [q] at e;exact congrArg some e
 ·rename_i q
  rw [q] at e;have a:es.toList.any (·.refKey)=false:=by
   rw [List.any_eq_false];intro y hy;obtain ⟨z,t,hkey⟩:=hk y (Array.mem_toList_iff.mp hy);simp [DictEntry.refKey,hkey]
  have a':¬ es.toList.any (·.refKey)=true:=by rw [a]; exact Al
  rw [if_neg a'];exact congrArg some e
theorem ObjM.look {h:Heap} {x dx C:Addr} {mA:Str->Option Value} (I:ObjM h x dx C mA):∃ od,PySem.W.InstAt h x (B7 C dx) C (some od)/\∀ name,G3 name od=some (mA name) :=
 let ⟨od,ho,hl⟩:=aZg I.ns
 ⟨od,⟨I.obj,rfl,rfl,ho⟩,hl⟩
section
variable {prog:Af} {w:World} {A:Around} {E:Value->Shared->Prop} {s:Shared} {K:Frag} {x dx C f:Addr} {mA:Str->Option Value} {name:Str} {v:Value}
theorem aqbq {expr:Bool} {Q:Value->Shared->Prop} (X:K.In s.heap) (I:ObjM s.heap x dx C mA) (hg:Dd K C name=true) (hh:Dv K C=true)
  (ha:Ar K (.ref C) name=some none) (hv:mA name=some v) (hv':PySem.W.handedIn v=true) (h:Q v { s with toks:=s.toks + 1 }) :
  wpAny (model prog w) A (getAttr (.ref x) name expr) Q E s:=by
 obtain ⟨od,J,hl⟩:=I.look;exact PySem.W.get_value X J (Gj hg).1 (PySem.W.findObj_own hh ha rfl (by rw [hl,hv])) hv' h
theorem aW5 {pl:Sem Bool} {Q:Value × List Value->Shared->Prop} (X:K.In s.heap) (I:ObjM s.heap x dx C mA) (hg:Dd K C name=true)
  (hf:Ar K (.ref C) name=some (some (.ref f))) (ht:Gr K (.ref f)=true) (hv:mA name=none) (h:Q (.ref f,[.ref x]) s) :
  wpAny (model prog w) A (Lz (.ref x) name pl) Q E s:=by
 obtain ⟨od,J,hl⟩:=I.look;exact PySem.W.method_fn X J (Gj hg).1 (Gj hg).2 hf (beq_iff_eq.mp ht) (by show (G3 name od).map (·.isSome)=some false; rw [hl,hv]; rfl) h
theorem aqa2 {ns:List Str} {Q:Unit->Shared->Prop} (X:K.In s.heap) (I:ObjM s.heap x dx C mA)
  (hs:Ar K (.ref C) "__setattr__"=some (some (.builtin "object.__setattr__"))) (hp:Ez K C=true) (ht:Jp K C name=some none) (hh:Dv K C=true)
  (hw:PySem.Within mA ns) (hsz:ns.length <= Ad)
  (h:∀ h',ObjM h' x dx C (fun y=>if y=name then some v else mA y)->Heap.SameBut dx s.heap h'->Q () { s with heap:=h',toks:=s.toks + 2 }) :
  wpAny (model prog w) A (setAttr (.ref x) name v) Q E s:=by
 obtain ⟨od,J,hl⟩:=I.look;refine PySem.W.set_plain X J hs (PySem.W.osa_open (s:={ s with toks:=s.toks + 1 }) (r:=none) X J hp ht fun b=>?_);obtain ⟨cd,hc,hd'⟩:=PySem.W.any_some hh;have hx:s.heap.get? x=some ⟨.ref C,some dx,.plain,#[]⟩:=I.obj;refine Aa (Ab (Aa (Aa (wpAny_loadPart hx (Aa (PySem.W.Looks.here (s:={ s with toks:=s.toks + 1 }) (PySem.W.looks_clsIn X hc) ?_))))));rw [hd'];refine Ab (a:=some dx) (Aa (Ab (Aa ?_)));refine wpAny_nsSet1 (s:={ s with toks:=s.toks + 1 }) I.ns fun h' hn2 hs2=>?_;obtain ⟨oD,esD,epD,hoD,hdD,hcD⟩:=hn2.count (PySem.Within.cons name v hw);refine Aa (wpAny_lookBehind hoD (by rw [hdD]; exact pastItsLine_dict (le_trans hcD (by rw [length_cons]; omega))) ?_);exact Ab (h _ ⟨(hs2.2 _ (Gq I.ne)).trans I.obj,hn2,I.ne⟩ hs2)
theorem aWv {R:L6->Shared->Prop} {vs:List Value} {kw:List (Str × Value)} (X:K.In s.heap) (hm:F9 K C=true)
  (hi:Ar K (.ref C) "__init__"=some (some (.ref f))) (hf:De K (.ref f)=some (.type "function"))
  (h:Em (model prog w) (A.under (.builtin "type.__call__" ⟨.ref C :: vs,kw⟩)) (.call (.ref f) ⟨.ref (s.heap.objs.size + 1) :: vs,kw⟩) (PySem.W.InitBack (s.heap.objs.size + 1) R)
   { s with heap:=(s.heap.push Bg).push (B7 C s.heap.objs.size) }) :
  Em (model prog w) A (.call (.ref C) ⟨vs,kw⟩) R s:=by
 obtain ⟨hh,g,d,t,os⟩:=s;exact PySem.W.make_core (PySem.W.makes_of X hm) (PySem.W.looks_findIn X hi) (fun self=>PySem.W.bind_fn X self hf) (.inl rfl) h
end
def aqhi (f:Str) (v:V):List (Str × V)->List (Str × V)
 | []=>[(f,v)]
 | (g,x) :: r=>if g=f then (g,v) :: r else (g,x) :: aqhi f v r
theorem az (f g:Str) (v:V):∀ fs:List (Str × V),(aqhi f v fs).lookup g=if g=f then some v else fs.lookup g
 | []=>by
  show Cz g [(f,v)]=_
  by_cases h:g=f
  ·have hb:(g == f)=true:=beq_iff_eq.mpr h
   simp only [Cz,hb,if_pos h]
  ·have hb:(g == f)=false:=beq_eq_false_iff_ne.mpr h
   simp only [Cz,hb,if_neg h]
 | (k,x) :: r=>by
  have ih:=az f g v r;rw [show aqhi f v ((k,x) :: r)=(if k=f then (k,v) :: r else (k,x) :: aqhi f v r) from rfl]
  by_cases hk:k=f
  ·rw [if_pos hk]
   by_cases h:g=k
   ·have hb:(g == k)=true:=beq_iff_eq.mpr h
    simp only [Cz,hb,if_pos (h.trans hk)]
   ·have hb:(g == k)=false:=beq_eq_false_iff_ne.mpr h
    simp only [Cz,hb,if_neg (fun e:g=f=>h (e.trans hk.symm))]
  ·rw [if_neg hk]
   by_cases h:g=k
   ·have hb:(g == k)=true:=beq_iff_eq.mpr h
    simp only [Cz,hb,if_neg (fun e:g=f=>hk (h.symm.trans e))]
   ·have hb:(g == k)=false:=beq_eq_false_iff_ne.mpr h
    simp only [Cz,hb];exact ih
theorem azg (f:Str) (v:V):∀ fs:List (Str × V),f∈(aqhi f v fs).map (·.1)/\∀ g,g∈fs.map (·.1)->g∈(aqhi f v fs).map (·.1)
 | []=>⟨by simp [aqhi],fun g h=>by simp at h⟩
 | (k,x) :: r=>by
  obtain ⟨i1,i2⟩:=azg f v r;rw [show aqhi f v ((k,x) :: r)=(if k=f then (k,v) :: r else (k,x) :: aqhi f v r) from rfl]
  by_cases hk:k=f
  ·rw [if_pos hk]
   subst hk;exact ⟨by simp,fun g h=>by simpa using h⟩
  ·rw [if_neg hk]
   refine ⟨?_,fun g h=>?_⟩
   ·rw [map_cons]
    exact mem_cons_of_mem _ i1
   ·rw [map_cons] at h ⊢
    rcases Ai.mp h with e | e
    ·exact Ai.mpr (.inl e)
    ·exact mem_cons_of_mem _ (i2 g e)
theorem axy (f:Str) (v:V):∀ fs:List (Str × V),(aqhi f v fs).length <= fs.length + 1
 | []=>by simp [aqhi]
 | (k,x) :: r=>by
  have ih:=axy f v r;rw [show aqhi f v ((k,x) :: r)=(if k=f then (k,v) :: r else (k,x) :: aqhi f v r) from rfl]
  by_cases hk:k=f
  ·rw [if_pos hk,length_cons,length_cons]; omega
  ·rw [if_neg hk,length_cons,length_cons]; omega
theorem aqi9.some_of {v:V} {o:Option Value} (r:aqi9 (some v) o):∃ u,o=some u/\aqi8 v u:=by
 cases o with
 | none=>exact (show False from r).elim
 | some u=>exact ⟨u,rfl,r⟩
theorem aqi9.none_of {o:Option Value} (r:aqi9 none o):o=none:=by
 cases o with
 | none=>rfl
 | some u=>exact (show False from r).elim
theorem aZr {v:V} {u:Value} (r:aqi8 v u):PySem.W.handedIn u=true:=by
 cases v with
 | non=>cases (show u=Value.none from r); rfl
 | bl b=>cases (show u=Value.bool b from r); rfl
 | int i=>obtain ⟨t,e⟩:=(show ∃ t,u=Value.int i t from r); cases e; rfl
 | str x=>obtain ⟨t,e⟩:=(show ∃ t,u=Value.str x t from r); cases e; rfl
 | byt b=>obtain ⟨t,e⟩:=(show ∃ t,u=Value.bytes b t from r); cases e; rfl
 | flt b=>obtain ⟨t,e⟩:=(show ∃ t,u=Value.float b t from r); cases e; rfl
 | ref a=>cases (show u=Value.ref a from r); rfl
 | ty n=>cases (show u=Value.type n from r); rfl
section
variable {P:Af} {w:World} {H H':Hp} {h h':Heap} {a C dx:Addr} {fs fs':List (Str × V)}
theorem aJu (hok:HOk P w H h) (e:H a=some (.ins C dx fs)):∃ mA,ObjM h a dx C mA/\(∀ f,aqi9 (fs.lookup f) (mA f))/\PySem.Within mA (fs.map (·.1))/\fs.length <= 1000/\H dx=some (.own a):=by
 obtain ⟨d,z,ne,ob,mA,n,r,q⟩:=(show aqx P w H h a (.ins C dx fs) from hok a _ e);exact ⟨mA,⟨ob,n,ne⟩,r,q,z,d⟩
end
structure Cls (K:Frag) (C:Addr):Prop where
 pg:Dd K C Str.empty=true
 hd:Dv K C=true
 po:Ez K C=true
 sa:Ar K (.ref C) "__setattr__"=some (some (.builtin "object.__setattr__"))
theorem Cls.get {K:Frag} {C:Addr} (c:Cls K C) (f:Str):Dd K C f=true:=c.pg
def azq (K:Frag) (C:Addr) (f:Str):Prop:=Ar K (.ref C) f=some none
theorem azq.taker {K:Frag} {C:Addr} {f:Str} (n:azq K C f):Jp K C f=some none:=by
 unfold Jp;rw [show Ar K (.ref C) f=some none from n];rfl
structure Con (K:Frag) (C:Addr) (f:Str) (v:V) (u:Value):Prop where
 at_:Ar K (.ref C) f=some (some u)
 rel:aqi8 v u
 get:Hr K u "__get__"=some none
 cp:PySem.W.copiedNames.contains f=false
structure Meth (K:Frag) (C:Addr) (m:Str) (f:Addr):Prop where
 at_:Ar K (.ref C) m=some (some (.ref f))
 fn:Gr K (.ref f)=true
 kp:G4 K (.ref f)=true
section
variable {X:Cx} {pins:List (Addr × Obj)} {σ:St} {H:Hp} {s:Shared} {a C dx:Addr} {fs:List (Str × V)} {f:Str} {v:V} {A:Around} {E:Value->Shared->Prop}
theorem aJw {b:Bool} {Q:Value->Shared->Prop} (I:Inv X pins σ H s) (e:H a=some (.ins C dx fs)) (c:Cls X.K C) (n:azq X.K C f) (l:fs.lookup f=some v)
  (h:∀ u s',Inv X pins σ H s'->aqi8 v u->Q u s'):wpAny (model X.prog X.w) A (getAttr (.ref a) f b) Q E s:=by
 obtain ⟨mA,O,r,_,_,_⟩:=aJu I.hok e;obtain ⟨u,hu,ru⟩:=aqi9.some_of (v:=v) (o:=mA f) (by rw [<- l]; exact r f);exact aqbq I.kIn O (c.get f) c.hd n hu (aZr ru) (h u _ (I.tok _) ru)
theorem avc {m:Str} {g:Addr} {pl:Sem Bool} {Q:Value × List Value->Shared->Prop} (I:Inv X pins σ H s) (e:H a=some (.ins C dx fs)) (c:Cls X.K C) (k:Meth X.K C m g) (l:fs.lookup m=none)
  (h:Q (.ref g,[.ref a]) s):wpAny (model X.prog X.w) A (Lz (.ref a) m pl) Q E s:=by
 obtain ⟨mA,O,r,_,_,_⟩:=aJu I.hok e;have hn:mA m=none:=aqi9.none_of (by rw [<- l]; exact r m);exact aW5 I.kIn O (c.get m) k.at_ k.fn hn h
theorem aQi {y:V} {u:Value} {Q:Unit->Shared->Prop} (I:Inv X pins σ H s) (e:H a=some (.ins C dx fs)) (c:Cls X.K C) (n:azq X.K C f) (hl:fs.length < 1000) (ry:aqi8 y u)
  (h:∀ s',Inv X pins σ (upd H a (.ins C dx (aqhi f y fs))) s'->Q () s'):wpAny (model X.prog X.w) A (setAttr (.ref a) f u) Q E s:=by
 obtain ⟨mA,O,r,wi,_,ho⟩:=aJu I.hok e;have hz:(fs.map (·.1)).length <= Ad:=by rw [length_map,Ah]; omega
 refine aqa2 I.kIn O c.sa c.po n.taker c.hd wi hz fun h' O' sb=>h _ ?_;have hd:∃ o,h'.get? dx=some o:=let ⟨o,_,_,e',_⟩:=O'.ns; ⟨o,e'⟩;refine I.write (x:=a) (e:=dx) (by rw [e]; exact True.intro) (.inr ho) (fun b q hb z=>(sb.2 b hb).trans z) hd ?_;refine ⟨by rw [af O.ne]; exact ho,?_,O.ne,O'.obj,_,O'.ns,fun g=>?_,fun g hg=>?_⟩
 ·have:=axy f y fs; omega
 ·show aqi9 ((aqhi f y fs).lookup g) (if g=f then some u else mA g)
  rw [az]
  by_cases q:g=f
  ·rw [if_pos q,if_pos q]; exact ry
  ·rw [if_neg q,if_neg q]; exact r g
 ·by_cases q:g=f
  ·rw [q]; exact (azg f y fs).1
  ·refine (azg f y fs).2 g (wi g fun z=>hg ?_)
   show (if g=f then some u else mA g)=none;rw [if_neg q]; exact z
theorem Inv.made (I:Inv X pins σ H s):Inv X pins σ (upd (upd H s.heap.objs.size (.own (s.heap.objs.size + 1))) (s.heap.objs.size + 1) (.ins C s.heap.objs.size []))
  { s with heap:=(s.heap.push Bg).push (B7 C s.heap.objs.size) }:=by
 have e1:(s.heap.push Bg).get? s.heap.objs.size=some Bg:=Ag s.heap rfl;have e2:((s.heap.push Bg).push (B7 C s.heap.objs.size)).get? (s.heap.objs.size + 1)=some (B7 C s.heap.objs.size):=by
  have:=Ag (s.heap.push Bg) (o:=B7 C s.heap.objs.size) rfl
  rwa [Bw] at this
 have e3:(s.heap.push Bg).Ns s.heap.objs.size (fun _=>none):=⟨Bg,#[],_,e1,rfl,(fun e he=>absurd he (by simp)),fun _=>rfl⟩;have I1:=I.laid (a:=s.heap.objs.size) (o:=.own (s.heap.objs.size + 1)) (h':=s.heap.push Bg) (t':=s.toks) (fun b u q=>Ac _ q) (le_refl _) ⟨_,e1⟩;refine I1.laid (a:=s.heap.objs.size + 1) (o:=.ins C s.heap.objs.size []) (t':=s.toks) (fun b u q=>Ac _ q) (Nat.le_of_eq (Bw _ _)) ?_;have ne:s.heap.objs.size ≠ s.heap.objs.size + 1:=ne_of_lt (Fs _);refine ⟨by rw [af ne,cb],zero_le _,ne,e2,fun _=>none,(Heap.Ns1.of_empty e3).at fun o q=>Ac _ q,fun _=>True.intro,fun y hy=>absurd rfl hy⟩
theorem aqc8 {prog:Af} {w:World} {env:Env} {e:Expr} {f:Str} {pos:Pos} {s:Shared} {Q:Value->Shared->Prop} (hb:C6 e f env (eval e env)=eval e env)
  (h:wpAny (model prog w) A (eval e env) (fun o s₁=>wpAny (model prog w) A (getAttr o f true) Q E s₁) E s):wpAny (model prog w) A (eval (.Attribute e f pos) env) Q E s :=
 Attribute_any_ h (by rw [arm_eval_Attribute,hb])
end
def tFld (K:Frag) (ta:TE) (f:Str):TE:=fun σ H Q=>ta σ H fun x H1=>∃ a C dx fs v,x=.ref a/\H1 a=some (.ins C dx fs)/\Cls K C/\azq K C f/\fs.lookup f=some v/\Q v H1
def sFld (K:Frag) (ta tv:TE) (f:Str):TS:=fun D σ H=>tv σ H fun y H1=>ta σ H1 fun x H2=>∃ a C dx fs,x=.ref a/\H2 a=some (.ins C dx fs)/\Cls K C/\azq K C f/\fs.length < 1000 /\
 D.nx σ (upd H2 a (.ins C dx (aqhi f y fs)))
section
variable {X:Cx} {o e value:Expr} {f:Str} {pos pos' tpos:Pos} {ta tv:TE}
theorem aqa (he:PE X e ta) (hb:C6 e f X.env (eval e X.env)=eval e X.env):PE X (.Attribute e f pos) (tFld X.K ta f):=by
 intro pins s σ H Q I h;refine aqc8 hb (thn (he pins s σ H _ I h) fun u s1 hQ=>?_);obtain ⟨x,H1,I1,rx,a,C,dx,fs,v,ex,ea,c,n,l,q⟩:=hQ;subst ex;obtain rfl:u=Value.ref a:=rx;exact aJw I1 ea c n l fun u' s2 I2 ru=>⟨v,H1,I2,ru,q⟩
theorem aK5 (ha:PE X o ta) (hv:PE X value tv) (hs:Il value (some (.Attribute o f pos')) pos.line X.env=pure false):PS X (.Assign [.Attribute o f pos'] value pos) (sFld X.K ta tv f):=by
 intro pins s σ H D I h;refine plainObj_wpAny_Assign_Attribute (thn (hv pins s σ H _ I h) fun u s1 ⟨y,H1,I1,ry,q⟩=>thn (ha pins s1 σ H1 _ I1 q) fun ov s2 hQ=>?_) hs;obtain ⟨x,H2,I2,rx,a,C,dx,fs,ex,ea,c,n,l,q2⟩:=hQ;subst ex;obtain rfl:ov=Value.ref a:=rx;exact aQi I2 ea c n l ry fun s3 I3=>⟨σ,_,I3,q2⟩
end
section
variable {X:Cx} {pins:List (Addr × Obj)} {σ:St} {H:Hp} {s:Shared} {A:Around} {E:Value->Shared->Prop} {Q:Value->Shared->Prop} {c:Value} {b:Bool}
inductive TyOf (K:Frag) (H:Hp):V->Value->Prop where
 | non:TyOf K H .non (.type "NoneType")
 | bl (x:Bool):TyOf K H (.bl x) (.type "bool")
 | int (i:Int):TyOf K H (.int i) (.type "int")
 | str (x:Str):TyOf K H (.str x) (.type "str")
 | flt (x:UInt64):TyOf K H (.flt x) (.type "float")
 | lst {a:Addr} {xs:List V} (e:H a=some (.lst xs)):TyOf K H (.ref a) (.type "list")
 | frz {a:Addr} {o:Obj} {xs:List V} (e:H a=some (.frz o (.lst xs))):TyOf K H (.ref a) (.type "list")
 | tup {a:Addr} {xs:List V} (e:H a=some (.tup xs)):TyOf K H (.ref a) (.type "tuple")
 | dK {a:Addr} {kvs:List (Key × V)} (e:H a=some (.dK kvs)):TyOf K H (.ref a) (.type "dict")
 | dT {a:Addr} {kvs:List (List Key × V)} (e:H a=some (.dT kvs)):TyOf K H (.ref a) (.type "dict")
 | ins {a C dx:Addr} {fs:List (Str × V)} (e:H a=some (.ins C dx fs)) (cl:Cls K C) (ha:Ar K (.ref C) "__class__"=some (some (.builtin "object.__class__")))
   (hn:Hr K (.builtin "object.__class__") "__get__"=some (some (.builtin "getset_descriptor.__get__"))) (htk:PySem.W.takesIn K (.builtin "object.__class__")=some true)
   (hm:As K C (.type "object")=some true):TyOf K H (.ref a) (.ref C)
end
structure Room (k:Nat) (A:Around):Prop where
 hd:A.handled=none
 dp:A.depth + 3 * k + 5 < recursionLimit
 un:A.units + 16 * k + 200 < cLine
theorem Room.mono {j k:Nat} {A:Around} (r:Room k A) (h:j <= k):Room j A:=⟨r.hd,by have:=r.dp; omega,by have:=r.un; omega⟩
theorem Room.deeper {k:Nat} {A:Around} (r:Room (k + 1) A) (env:Env):Room k (A.deeper env) :=
 ⟨r.hd,by have:=r.dp; show A.depth + 1 + 3 * k + 5 < _; omega,by have:=r.un; show A.units + 3 + 16 * k + 200 < _; omega⟩
theorem Room.in1 {k:Nat} {A:Around} (r:Room (k + 1) A):Room k A.in1 :=
 ⟨r.hd,by have:=r.dp; show A.depth + 3 * k + 5 < _; omega,by have:=r.un; show A.units + 1 + 16 * k + 200 < _; omega⟩
theorem aJj {A:Around} {C:Addr} {us:List Value} {kw:List (Str × Value)}:(A.under (.builtin "type.__call__" ⟨.ref C :: us,kw⟩)).depth=A.depth + 1:=by
 first | rfl | simp [Lq,Code.weight,Code.isCreation,Code.isGuard,Code.isCaller,Code.frames,Lr,guardIds]
theorem aJi {A:Around} {C:Addr} {us:List Value} {kw:List (Str × Value)}:(A.under (.builtin "type.__call__" ⟨.ref C :: us,kw⟩)).units=A.units + 1:=by
 first | rfl | simp [Lq,Code.cUnits,Code.frames,Lr]
theorem Room.make {k:Nat} {A:Around} (r:Room (k + 1) A) (C:Addr) (us:List Value) (kw:List (Str × Value)):Room k (A.under (.builtin "type.__call__" ⟨.ref C :: us,kw⟩)) :=
 ⟨r.hd,by have:=r.dp; rw [aJj]; omega,by have:=r.un; rw [aJi]; omega⟩
theorem Room.depth {k:Nat} {A:Around} (r:Room k A):A.depth < recursionLimit:=by have:=r.dp; omega
theorem Room.units {k:Nat} {A:Around} (r:Room k A):A.units + 64 < cLine:=by have:=r.un; omega
def aqhc:TA:=fun _ H Q=>Q [] H
def axq (ta:TE) (tr:TA):TA:=fun σ H Q=>ta σ H fun x H1=>tr σ H1 fun xs H2=>Q (x :: xs) H2
section
variable {X:Cx} {e:Expr} {es:List Expr} {te:TE} {t:TA} {pos:Pos}
theorem ag:PA X [] aqhc:=fun _ _ _ _ H Q I h=>Dw ⟨[],H,I,.nil,h⟩
theorem aa (ha:PE X e te) (hr:PA X es t) (hs:Ap (e :: es) X.env=(false,eval e X.env) :: Ap es X.env:=by rfl):PA X (e :: es) (axq te t):=by
 intro pos pins s σ H Q I h;rw [hs];show wpAny _ _ (spliced ((false,eval e X.env) :: Dl pos (Ap es X.env))) _ _ s;refine B0 (thn (ha pins s σ H _ I h) fun u s1 hQ=>?_);obtain ⟨x,H1,I1,r1,q1⟩:=hQ;exact thn (hr pos pins s1 σ H1 _ I1 q1) fun us s2 ⟨xs,H2,I2,r2,q2⟩=>⟨x :: xs,H2,I2,.cons r1 r2,q2⟩
def tTup (t:TA):TE:=fun σ H Q=>t σ H fun xs H1=>xs.length <= Ad/\∀ p,H1 p=none->Q (.ref p) (upd H1 p (.tup xs))
def tLst (t:TA):TE:=fun σ H Q=>t σ H fun xs H1=>xs.length <= Ad/\∀ p,H1 p=none->Q (.ref p) (upd H1 p (.lst xs))
theorem axa {x1} (h:PA X es t):PE X (.Tuple es x1 pos) (tTup t):=by
 intro pins s σ H Q I hq;refine wpAny_Tuple_spliced (thn (h pos pins s σ H _ I hq) fun us s1 ⟨xs,H1,I1,r,z,q⟩=>⟨by rw [<- r.length]; exact z,?_⟩);have hf:H1 s1.heap.objs.size=none:=I1.hok.fresh (le_refl _);refine ⟨.ref s1.heap.objs.size,upd H1 s1.heap.objs.size (.tup xs),I1.laid (t':=s1.toks) (fun b u e=>Ac _ e) (le_refl _) ?_,rfl,q _ hf⟩;exact ⟨z,us,r,⟨_,Ag _ rfl,rfl,_,rfl⟩⟩
theorem aY (h:PA X es t):PE X (.List es pos) (tLst t):=by
 intro pins s σ H Q I hq;refine wpAny_List_spliced (thn (h pos pins s σ H _ I hq) fun us s1 ⟨xs,H1,I1,r,z,q⟩=>⟨by rw [<- r.length]; exact z,?_⟩);have hf:H1 s1.heap.objs.size=none:=I1.hok.fresh (le_refl _);refine ⟨.ref s1.heap.objs.size,upd H1 s1.heap.objs.size (.lst xs),I1.laid (t':=s1.toks) (fun b u e=>Ac _ e) (le_refl _) ?_,rfl,q _ hf⟩;exact ⟨z,us,0,r,Ag _ rfl⟩
end
abbrev Sp:=List V->Hp->VK->XK->Prop
abbrev CXT:=List Env->Hp->Shared->XK->Value->Shared->Prop
structure Env0 (P:Af) (w:World) (K:Frag) (mg:Str->Option Value) (base:Heap) (A:Around) (outer:List Env) (s:Shared) (H:Hp):Prop where
 frames:A.frames=some outer
 mod:Mod K mg base
 bs:∀ b o,base.get? b=some o->s.heap.get? b=some o/\H b=none
 bsz:base.objs.size <= s.heap.objs.size
 funs:s.heap.FunFrames base outer
 frf:∀ b∈frs outer,H b=none
 hok:HOk P w H s.heap
 bare:Fx s.gens
def CE (outer:List Env) (P:Af) (w:World) (H:Hp) (s:Shared) (Q:VK) (u:Value) (s':Shared):Prop :=
 ∃ v H',s'.os=s.os/\Fx s'.gens/\Un (frs outer) [] H H' s.heap s'.heap/\HOk P w H' s'.heap/\aqi8 v u/\Q v H'
def CR (CX:CXT) (outer:List Env) (P:Af) (w:World) (H:Hp) (s:Shared) (Q:VK) (E:XK) (r:L6) (s':Shared):Prop :=
 match r with
 | .ok (.ret u)=>CE outer P w H s Q u s'
 | .ok _=>False
 | .error e=>CX outer H s E e s'
structure FnOk (P:Af) (w:World) (K:Frag) (mg:Str->Option Value) (base:Heap) (CX:CXT) (k:Nat) (f:Addr) (fd:Am) (ps:List Str) (sp:Sp):Prop where
 len:∀ vs H Q E,sp vs H Q E->vs.length=ps.length
 run:∀ (A:Around) (outer:List Env) (s:Shared) (H:Hp) (args:Args) (us:List Value) (vs:List V) (Q:VK) (E:XK),Room k A->Env0 P w K mg base A outer s H->Hs s fd args (ps.zip us)->aqi6 vs us->sp vs H Q E ->
  Em (model P w) A (.call (.ref f) args) (CR CX outer P w H s Q E) s
theorem FnOk.mono {P:Af} {w:World} {K:Frag} {mg:Str->Option Value} {base:Heap} {CX:CXT} {j k:Nat} {f:Addr} {fd:Am} {ps:List Str} {sp:Sp} (F:FnOk P w K mg base CX j f fd ps sp) (h:j <= k) :
  FnOk P w K mg base CX k f fd ps sp:=⟨F.len,fun A outer s H args us vs Q E hr=>F.run A outer s H args us vs Q E (hr.mono h)⟩
theorem FnOk.imp {P:Af} {w:World} {K:Frag} {mg:Str->Option Value} {base:Heap} {CX:CXT} {k:Nat} {f:Addr} {fd:Am} {ps:List Str} {sp sp':Sp} (F:FnOk P w K mg base CX k f fd ps sp)
  (h:∀ vs H Q E,sp' vs H Q E->sp vs H Q E):FnOk P w K mg base CX k f fd ps sp' :=
 ⟨fun vs H Q E q=>F.len vs H Q E (h _ _ _ _ q),fun A outer s H args us vs Q E hr he hb hv hs=>F.run A outer s H args us vs Q E hr he hb hv (h _ _ _ _ hs)⟩
theorem Env0.make {P:Af} {w:World} {K:Frag} {mg:Str->Option Value} {base:Heap} {A:Around} {outer:List Env} {s:Shared} {H:Hp} (e:Env0 P w K mg base A outer s H) (C:Addr) (us:List Value) (kw:List (Str × Value)) :
  Env0 P w K mg base (A.under (.builtin "type.__call__" ⟨.ref C :: us,kw⟩)) outer s H:=⟨by first | exact e.frames | (simpa [Lq,Code.envs,Lr,pushEnvs] using e.frames),e.mod,e.bs,e.bsz,e.funs,e.frf,e.hok,e.bare⟩
theorem Env0.in1 {P:Af} {w:World} {K:Frag} {mg:Str->Option Value} {base:Heap} {A:Around} {outer:List Env} {s:Shared} {H:Hp} (e:Env0 P w K mg base A outer s H) :
  Env0 P w K mg base A.in1 outer s H:=⟨e.frames,e.mod,e.bs,e.bsz,e.funs,e.frf,e.hok,e.bare⟩
section
variable {X:Cx} {pins:List (Addr × Obj)} {σ:St} {H:Hp} {s s':Shared}
theorem Inv.env0 (I:Inv X pins σ H s):Env0 X.prog X.w X.K X.mg X.base X.A X.stack s H :=
 ⟨I.ok.frames,I.ok.mod,I.bs,le_trans I.ok.bsz I.sz,I.stack,I.stkFree,I.hok,I.bare⟩
theorem Inv.after {Q:VK} {u:Value} (I:Inv X pins σ H s) (h:CE X.stack X.prog X.w H s Q u s'):EP X pins σ Q u s':=by
 obtain ⟨v,H',os,bare,un,hok,r,q⟩:=h;obtain ⟨hh,g,d,t,os'⟩:=s';obtain rfl:os'=s.os:=os;exact ⟨v,H',I.call (h':=hh) (g':=g) (d':=d) (t':=t) (ch:=[]) un hok bare (fun b z=>absurd z (by simp)),r,q⟩
end
def tCall (sp:Sp) (dvs:List V) (E:XK) (t:TA):TE:=fun σ H Q=>t σ H fun vs H1=>sp (vs++dvs) H1 Q E
def tMeth (C:Addr) (m:Str) (sp:Sp) (dvs:List V) (E:XK) (ta:TE) (t:TA):TE:=fun σ H Q=>ta σ H fun x H1=>∃ a dx fs,x=.ref a/\H1 a=some (.ins C dx fs)/\fs.lookup m=none /\
 t σ H1 fun vs H2=>sp (x :: (vs++dvs)) H2 Q E
def tMake (C:Addr) (sp:Sp) (dvs:List V) (E:XK) (t:TA):TE:=fun σ H Q=>t σ H fun vs H1=>∀ x dx,H1 x=none->H1 dx=none->dx ≠ x ->
 sp (.ref x :: (vs++dvs)) (upd (upd H1 dx (.own x)) x (.ins C dx [])) (fun v H2=>v=.non/\Q (.ref x) H2) E
def Binds (K:Frag) (fd:Am) (ps:List Str) (ds:List Value):Prop :=
 ∀ (s:Shared) (us:List Value),K.In s.heap->(us++ds).length=ps.length->Hs s fd ⟨us,[]⟩ (ps.zip (us++ds))
theorem Binds.all {K:Frag} {fd:Am} {ps:List Str} (h:∀ us:List Value,us.length=ps.length->Mf fd ⟨us,[]⟩=pure (ps.zip us)):Binds K fd ps []:=fun s us _ hl=>by
 rw [Jq] at hl ⊢;exact .of_eq (h us hl)
def azp (CX:CXT) (X:Cx) (E:XK):Prop:=∀ (pins:List (Addr × Obj)) (σ:St) (H:Hp) (s:Shared) (e:Value) (s':Shared),Inv X pins σ H s->CX X.stack H s E e s'->X.xe e s'
section
variable {X:Cx} {CX:CXT} {k:Nat} {f C:Addr} {fd:Am} {ps:List Str} {sp:Sp} {dvs:List V} {ds:List Value} {E:XK} {x m:Str} {p pos apos:Pos} {e o:Expr} {es:List Expr} {ta:TE} {t:TA}
theorem aK0 {pins:List (Addr × Obj)} {σ:St} {H:Hp} {s:Shared} {Q:VK} {us:List Value} {vs:List V} (F:FnOk X.prog X.w X.K X.mg X.base CX k f fd ps sp) (hr:Room k X.A) (hb:Binds X.K fd ps ds) (hd:aqi6 dvs ds) (hx:azp CX X E)
  (I:Inv X pins σ H s) (r:aqi6 vs us) (h:sp (vs++dvs) H Q E):wpAny (model X.prog X.w) X.A (call (.ref f) us) (EP X pins σ Q) X.xe s:=by
 have r2:aqi6 (vs++dvs) (us++ds):=r.append hd;have hl:(us++ds).length=ps.length:=by rw [<- r2.length]; exact F.len _ _ _ _ h
 refine Lb (C0 (F.run X.A X.stack s H ⟨us,[]⟩ (us++ds) (vs++dvs) Q E hr I.env0 (hb s us I.kIn hl) r2 h) fun r s' hq=>?_);cases r with
 | error e=>exact hx pins σ H s e s' I hq
 | ok fl =>
  cases fl with
  | ret u=>exact I.after hq
  | next=>exact Aq hq
  | brk=>exact Aq hq
  | cont=>exact Aq hq
theorem av (F:FnOk X.prog X.w X.K X.mg X.base CX k f fd ps sp) (hr:Room k X.A) (hg:Gl X x) (hm:X.mg x=some (.ref f)) (hk:G4 X.K (.ref f)=true) (hb:Binds X.K fd ps ds) (hd:aqi6 dvs ds) (hx:azp CX X E)
  (ha:PA X (e :: es) t) (hdb:(x == ("__debug__":Str))=false:=by decide) (he:Ap (e :: es) X.env=(false,eval e X.env) :: Ap es X.env:=by rfl) (hpl:(Dl pos (Ap es X.env)).any (·.1)=false:=by rfl) :
  PE X (.Call (.Name x p) (e :: es) [] pos) (tCall sp dvs E t):=by
 intro pins s σ H Q I h;refine Cg (axz I hg hm ?_ hdb);refine Lc (h₀:=X.base) I.ok.mod.kin hk (thn (ha pos pins s σ H _ I h) fun us s1 ⟨vs,H1,I1,r,q⟩=>⟨I1.kIn,?_⟩) he hpl;exact aK0 F hr hb hd hx I1 r q
theorem aqr {pl:Sem Bool} (he:PE X o ta) (c:Cls X.K C) (hm:Meth X.K C m f) (F:FnOk X.prog X.w X.K X.mg X.base CX k f fd ps sp) (hr:Room k X.A) (hb:Binds X.K fd ps ds) (hd:aqi6 dvs ds) (hx:azp CX X E) (ha:PA X (e :: es) t)
  (hst:Ap (e :: es) X.env=(false,eval e X.env) :: Ap es X.env:=by rfl) (hpl:(Dl pos (Ap es X.env)).any (·.1)=false:=by rfl)
  (ht:eval (.Call (.Attribute o m apos) (e :: es) [] pos) X.env=(do
   let ov <- eval o X.env
   standAt apos.atName
   let (f,first) <- Md [ov] (Lz ov m pl)
   callWith pos f first (Dl pos (Ap (e :: es) X.env)) (Ka pos (F5 [] X.env))):=by rfl) :
  PE X (.Call (.Attribute o m apos) (e :: es) [] pos) (tMeth C m sp dvs E ta t):=by
 intro pins s σ H Q I h;refine Jx (pl:=pl) (thn (he pins s σ H _ I h) fun u s1 hQ=>?_) ht;obtain ⟨x,H1,I1,rx,a,dx,fs,ex,ea,l,q⟩:=hQ;subst ex;obtain rfl:u=Value.ref a:=rx;refine avc I1 ea c hm l ?_;refine Lc (first:=[.ref a]) (h₀:=X.base) I.ok.mod.kin hm.kp (thn (ha pos pins s1 σ H1 _ I1 q) fun us s2 ⟨vs,H2,I2,r,q2⟩=>⟨I2.kIn,?_⟩) hst hpl;exact aK0 (us:=.ref a :: us) (vs:=.ref a :: vs) F hr hb hd hx I2 (.cons rfl r) q2
theorem avv {pl:Sem Bool} (he:PE X o ta) (c:Cls X.K C) (hm:Meth X.K C m f) (F:FnOk X.prog X.w X.K X.mg X.base CX k f fd ps sp) (hr:Room k X.A) (hb:Binds X.K fd ps ds) (hd:aqi6 dvs ds) (hx:azp CX X E)
  (ht:eval (.Call (.Attribute o m apos) [] [] pos) X.env=(do
   let ov <- eval o X.env
   standAt apos.atName
   let (f,first) <- Md [ov] (Lz ov m pl)
   callWith pos f first (Dl pos (Ap [] X.env)) (Ka pos (F5 [] X.env))):=by rfl) :
  PE X (.Call (.Attribute o m apos) [] [] pos) (tMeth C m sp dvs E ta aqhc):=by
 intro pins s σ H Q I h;refine Jx (pl:=pl) (thn (he pins s σ H _ I h) fun u s1 hQ=>?_) ht;obtain ⟨x,H1,I1,rx,a,dx,fs,ex,ea,l,q⟩:=hQ;subst ex;obtain rfl:u=Value.ref a:=rx;refine avc I1 ea c hm l ?_;exact Ku (first:=[.ref a]) I1.kIn hm.kp (aK0 (us:=[.ref a]) (vs:=[.ref a]) F hr hb hd hx I1 (.cons rfl .nil) q)
structure Mk (K:Frag) (C f:Addr):Prop where
 makes:F9 K C=true
 init:Ar K (.ref C) "__init__"=some (some (.ref f))
 fn:Gr K (.ref f)=true
 kp:G4 K (.ref C)=true
theorem aKz {pins:List (Addr × Obj)} {σ:St} {H:Hp} {s:Shared} {Q:VK} {us:List Value} {vs:List V} (M:Mk X.K C f) (F:FnOk X.prog X.w X.K X.mg X.base CX k f fd ps sp) (hr:Room (k + 1) X.A) (hb:Binds X.K fd ps ds) (hd:aqi6 dvs ds)
  (hx:azp CX X E) (I:Inv X pins σ H s) (r:aqi6 vs us)
  (h:∀ x dx,H x=none->H dx=none->dx ≠ x->sp (.ref x :: (vs++dvs)) (upd (upd H dx (.own x)) x (.ins C dx [])) (fun v H2=>v=.non/\Q (.ref x) H2) E) :
  wpAny (model X.prog X.w) X.A (call (.ref C) us) (EP X pins σ Q) X.xe s:=by
 have hq:=h (s.heap.objs.size + 1) s.heap.objs.size (I.hok.fresh (le_succ _)) (I.hok.fresh (le_refl _)) (ne_of_lt (Fs _));have I2:=Inv.made (C:=C) I;have r2:aqi6 (V.ref (s.heap.objs.size + 1) :: (vs++dvs)) (Value.ref (s.heap.objs.size + 1) :: (us++ds)):=.cons rfl (r.append hd);have hl:(Value.ref (s.heap.objs.size + 1) :: us++ds).length=ps.length:=by
  have e:=r2.length;rw [F.len _ _ _ _ hq] at e;exact e.symm
 refine Lb (aWv (f:=f) I.kIn M.makes M.init (beq_iff_eq.mp M.fn) (C0 (F.run _ X.stack _ _ ⟨Value.ref (s.heap.objs.size + 1) :: us,[]⟩ (Value.ref (s.heap.objs.size + 1) :: (us++ds)) _ _ E (hr.make C us [])
  (I2.env0.make C us []) (hb _ (Value.ref (s.heap.objs.size + 1) :: us) I2.kIn hl) r2 hq) fun r s' hq'=>?_))
 cases r with
 | error e=>exact hx pins σ _ _ e s' I2 hq'
 | ok fl =>
  cases fl with
  | ret u =>
   obtain ⟨v,H',I3,rv,ev,q3⟩:=I2.after hq';subst ev;exact ⟨rv,⟨V.ref (s.heap.objs.size + 1),H',I3,rfl,q3⟩⟩
  | next=>exact Aq hq'
  | brk=>exact Aq hq'
  | cont=>exact Aq hq'
theorem avw (M:Mk X.K C f) (F:FnOk X.prog X.w X.K X.mg X.base CX k f fd ps sp) (hr:Room (k + 1) X.A) (hg:Gl X x) (hm:X.mg x=some (.ref C)) (hb:Binds X.K fd ps ds) (hd:aqi6 dvs ds) (hx:azp CX X E)
  (hdb:(x == ("__debug__":Str))=false:=by decide):PE X (.Call (.Name x p) [] [] pos) (tMake C sp dvs E aqhc):=by
 intro pins s σ H Q I h;refine Cg (axz I hg hm ?_ hdb);exact Ku I.kIn M.kp (aKz (us:=[]) M F hr hb hd hx I .nil h)
end
section
variable {X:Cx} {CX:CXT} {k:Nat} {f C:Addr} {fd:Am} {ps ks:List Str} {sp:Sp} {E:XK} {x m:Str} {p pos apos kpos:Pos} {e o:Expr} {es:List Expr} {kws:List Ht} {te ta:TE} {t tk:TA} {nm:Option Str}
structure KBinds (K:Frag) (fd:Am) (ps ks:List Str) (g:List Value->List Value->List Value) (gV:List V->List V->List V):Prop where
 to:∀ (s:Shared) (us ws:List Value),K.In s.heap->(g us ws).length=ps.length->Hs s fd ⟨us,ks.zip ws⟩ (ps.zip (g us ws))
 rel:∀ {vs:List V} {us:List Value} {zs:List V} {ws:List Value},aqi6 vs us->aqi6 zs ws->aqi6 (gV vs zs) (g us ws)
variable {g:List Value->List Value->List Value} {gV:List V->List V->List V}
end
structure FnScope (N P:List Str) (sc:Scope):Prop where
 kind:sc.kind=.function
 co:sc.isCoroutine=false
 gen:sc.isGenerator=false
 nd:N.Nodup
 pre:N.take P.length=P
 par:∀ x∈P,sc.names.lookup x=some .local \/ sc.names.lookup x=some .cell
 nofree:∀ y∈sc.names,y.2 ≠ .free
theorem ak6 {kindOf:Str->Option NameKind} {x:Str}:∀ {binds:List (Str × Value)} {m:Str->Option Value},(∀ v,(x,v) ∉ binds)->bindL kindOf binds m x=m x
 | [],_,_=>rfl
 | (n,v) :: r,m,h=>by
  unfold bindL;rw [ak6 fun w hw=>h w (mem_cons_of_mem _ hw)];split
  ·have:x ≠ n:=by rintro rfl; exact h v mem_cons_self
   simp [this]
  ·rfl
theorem ak8 {kindOf:Str->Option NameKind} {x:Str}:∀ {binds:List (Str × Value)} {m:Str->Option Value},(∀ v,(x,v) ∉ binds)->bindC kindOf binds m x=m x
 | [],_,_=>rfl
 | (n,v) :: r,m,h=>by
  unfold bindC;rw [ak8 fun w hw=>h w (mem_cons_of_mem _ hw)];split
  ·rfl
  ·have:x ≠ n:=by rintro rfl; exact h v mem_cons_self
   simp [this]
theorem ak7 {kindOf:Str->Option NameKind} {x:Str} {v:Value}:∀ {P:List Str} {vs:List Value} {i:Nat} {m:Str->Option Value},P.Nodup->P[i]?=some x->vs[i]?=some v->kindOf x=some .local ->
  bindL kindOf (P.zip vs) m x=some v
 | [],_,_,_,_,h,_,_=>by simp at h
 | _ :: _,[],_,_,_,_,h,_=>by simp at h
 | p :: P,w :: vs,0,m,nd,h1,h2,hk=>by
  simp at h1 h2; subst h1; subst h2;show bindL kindOf ((p,w) :: P.zip vs) m p=_;unfold bindL;rw [ak6 fun v hv=>(Gd.mp nd).1 (Jr hv).1,if_pos hk]
  simp
 | p :: P,w :: vs,i + 1,m,nd,h1,h2,hk=>by
  show bindL kindOf ((p,w) :: P.zip vs) m x=_;unfold bindL;exact ak7 (i:=i) (Gd.mp nd).2 (by simpa using h1) (by simpa using h2) hk
theorem ak9 {kindOf:Str->Option NameKind} {x:Str} {v:Value}:∀ {P:List Str} {vs:List Value} {i:Nat} {m:Str->Option Value},P.Nodup->P[i]?=some x->vs[i]?=some v->kindOf x ≠ some .local ->
  bindC kindOf (P.zip vs) m x=some v
 | [],_,_,_,_,h,_,_=>by simp at h
 | _ :: _,[],_,_,_,_,h,_=>by simp at h
 | p :: P,w :: vs,0,m,nd,h1,h2,hk=>by
  simp at h1 h2; subst h1; subst h2;show bindC kindOf ((p,w) :: P.zip vs) m p=_;unfold bindC;rw [ak8 fun v hv=>(Gd.mp nd).1 (Jr hv).1,if_neg hk]
  simp
 | p :: P,w :: vs,i + 1,m,nd,h1,h2,hk=>by
  show bindC kindOf ((p,w) :: P.zip vs) m x=_;unfold bindC;exact ak9 (i:=i) (Gd.mp nd).2 (by simpa using h1) (by simpa using h2) hk
def start (N:List Str) (vs:List V):St:=vs.map some++Au (N.length - vs.length) none
def aqi2 (CX:CXT) (P:Af) (w:World) (K:Frag) (mg:Str->Option Value) (base:Heap) (N:List Str) (qual:Str) (scope:Scope) (f:Addr) (cd:Value) (A:Around) (outer:List Env) (s:Shared) (H:Hp) (E:XK):Cx where
 prog:=P
 w:=w
 K:=K
 mg:=mg
 base:=base
 A:=A.deeper (E1 qual scope s.heap.objs.size f cd)
 N:=N
 s₀:=s
 H₀:=H
 env:=E1 qual scope s.heap.objs.size f cd
 outer:=outer
 stack:=E1 qual scope s.heap.objs.size f cd :: outer
 ex:=[]
 calm:=true
 fn:=fun _=>true
 pn:=[]
 xe:=fun e s'=>wpAny (model P w) (A.deeper (E1 qual scope s.heap.objs.size f cd)) (leaving (E1 qual scope s.heap.objs.size f cd) e) (fun _ s''=>CX outer H s E e s'') (fun e' s''=>CX outer H s E e' s'') s'
theorem aXb {sc:Scope} {n:Nat} {x:Str} (h:sc.names.lookup x=some .cell):∃ c,(L7 n sc.names []).lookup x=some c:=by
 have q:=Jd sc.names n [] (.inl h);exact Ia.mp q
theorem aZo {CX:CXT} {P:Af} {w:World} {K:Frag} {mg:Str->Option Value} {base:Heap} {N ps:List Str} {qual:Str} {scope:Scope} {f:Addr} {cd:Value} {A:Around} {outer:List Env} {s s1:Shared} {H:Hp} {E:XK} {us:List Value} {vs:List V}
  (S:FnScope N ps scope) (hd:A.handled=none) (e0:Env0 P w K mg base A outer s H) (hl:vs.length=ps.length) (r:aqi6 vs us)
  (x:InCallC s s.heap.objs.size (bindL (E1 qual scope s.heap.objs.size f cd).kindOf (ps.zip us) fun _=>none) (L7 (s.heap.objs.size + 1) scope.names []) (bindC (E1 qual scope s.heap.objs.size f cd).kindOf (ps.zip us) fun _=>none) s1) :
  Inv (aqi2 CX P w K mg base N qual scope f cd A outer s H E) [] (start N vs) H s1:=by
 have hpl:ps.length <= N.length:=by have:=congrArg List.length S.pre; rw [length_take] at this; omega
 obtain ⟨h1,tk,rfl,hk⟩:=x.done;have noA:∀ b:Addr,b ∉ (aqi2 CX P w K mg base N qual scope f cd A outer s H E).ex:=fun b z=>absurd (show b∈([]:List Addr) from z) (by simp);refine ⟨⟨e0.mod,S.kind,rfl,rfl,le_refl _,fun y z c h1 h2=>?_,fun y hy=>?_,fun y c _ h=>?_,fun _=>hd,Around.frames_deeper e0.frames,.inr ⟨rfl,rfl⟩,fun b z=>absurd z (noA b),e0.bs,e0.bsz,fun b _ _=>noA b,fun b z=>absurd z (noA b),e0.funs,e0.frf⟩,
  rfl,e0.bare,Un.kept hk,⟨_,x.toInCall.ns,fun i y v h1 h2 h3=>?_⟩,fun y c h=>⟨_,x.cell y c h⟩,e0.hok.fresh (le_refl _),fun y c h=>?_,fun p hp=>absurd (show p∈([]:List (Addr × Obj)) from hp) (by simp),e0.hok.kept hk,?_⟩
 ·exact name_of_addr x.apart (C9 h1) (C9 h2)
 ·have hy:scope.names.lookup y=some .cell \/ scope.names.lookup y=some .free:=hy
  rcases hy with hy | hy
  ·exact aXb hy
  ·exact absurd rfl (S.nofree _ (C9 hy))
 ·exact le_of_lt (x.above y c (C9 h))
 ·have hi:i < vs.length:=by
   unfold start at h2
   by_cases hi:i < vs.length
   ·exact hi
   ·rw [G5 (by simpa using hi)] at h2
    rw [List.getElem?_replicate] at h2;split at h2 <;> cases h2
  have ha:vs[i]?=some v:=by
   unfold start at h2;rw [Ea (by simpa using hi),getElem?_map] at h2;cases e:vs[i]? with
   | none=>rw [e] at h2; cases h2
   | some a=>rw [e] at h2; cases h2; rfl
  obtain ⟨u,hu,rv⟩:=r.get ha;have hp:ps[i]?=some y:=by
   rw [<- S.pre,List.getElem?_take_of_lt (by omega)]; exact h1
  have ndP:ps.Nodup:=by rw [<- S.pre]; exact S.nd.sublist (take_sublist _ _)
  refine ⟨u,rv,?_⟩;rcases S.par y (mem_of_getElem? hp) with k | k
  ·exact .inl ⟨k,ak7 ndP hp hu k⟩
  ·obtain ⟨c,e⟩:=aXb (n:=s.heap.objs.size + 1) k
   refine .inr ⟨.inl k,c,e,?_⟩;have q:=x.cell y c e;rw [ak9 ndP hp hu (by show scope.names.lookup y ≠ _; rw [k]; decide)] at q;exact q
 ·exact e0.hok.fresh (le_of_lt (x.above y c (C9 h)))
 ·unfold start
  show _=N.length;rw [length_append,length_map,Jy];omega
theorem fn_of {CX:CXT} {P:Af} {w:World} {K:Frag} {mg:Str->Option Value} {base:Heap} {k:Nat} {f:Addr} {name qual:Str} {params:Arguments} {body:List Stmt} {scope:Scope} {dV kV doc pm cdv ct oc:Value} {an od:Option Addr}
  {osl:Array (Option Value)} {N ps:List Str} {sp:Sp} (lk:K.lookup f=some ⟨oc,od,.func (fnOf name qual params body scope dV kV doc pm an cdv ct),osl⟩) (hcd:L8 K cdv qual=true) (S:FnScope N ps scope)
  (len:∀ vs H Q E,sp vs H Q E->vs.length=ps.length)
  (hbody:∀ (A:Around) (outer:List Env) (s:Shared) (H:Hp) (vs:List V) (Q:VK) (E:XK),Room k (A.deeper (E1 qual scope s.heap.objs.size f cdv))->sp vs H Q E ->
   ∃ t,PSs (aqi2 CX P w K mg base N qual scope f cdv A outer s H E) body t/\t { nx:=fun _ H'=>Q .non H',rt:=Q } (start N vs) H) :
  FnOk P w K mg base CX (k + 1) f (fnOf name qual params body scope dV kV doc pm an cdv ct) ps sp:=by
 refine ⟨len,fun A outer s H args us vs Q E hr e0 hb r hsp=>?_⟩;have hl:=len _ _ _ _ hsp;have KX:K.In s.heap:=e0.mod.kin.keeps fun b o e=>(e0.bs b o e).1;have lim:s.heap.NoLimit:=e0.mod.nolimit.keeps fun b o e=>(e0.bs b o e).1;have hkind:∀ y∈ps.zip us,scope.names.lookup y.1=some .local \/ (scope.names.lookup y.1=some .cell/\((L7 (s.heap.objs.size + 1) scope.names []).lookup y.1).isSome=true):=fun ⟨n,v⟩ hy=>by
  rcases S.par n (Jr hy).1 with q | q
  ·exact .inl q
  ·exact .inr ⟨q,Jd _ _ _ (.inl q)⟩
 refine codeAny_call_function hr.depth (KX _ _ lk) rfl S.co S.gen rfl (PySem.W.codeRec_of KX hcd) (hb _ _ _ _ ?_);refine wpAny_newFunctionEnv_cells S.kind hkind fun env he s1 x=>?_;subst he;refine ⟨lim.keeps x.toInCall.keep,codeAny_func ?_⟩;obtain ⟨t,ht,hq⟩:=hbody A outer s H vs Q E (hr.deeper _) hsp;have I:Inv (aqi2 CX P w K mg base N qual scope f cdv A outer s H E) [] (start N vs) H s1:=aZo S hr.hd e0 hl r x;refine Av (ht [] s1 (start N vs) H _ I hq) (fun fl s' hs=>?_) fun e s' hs=>hs;have fin:∀ {σ':St} {H':Hp} {v:V} {u:Value},Inv (aqi2 CX P w K mg base N qual scope f cdv A outer s H E) [] σ' H' s'->aqi8 v u->Q v H'->CE outer P w H s Q u s' :=
  fun {σ' H' v u} J rv q=>⟨v,H',J.os,J.bare,J.base,J.hok,rv,q⟩
 cases fl with
 | ret u =>
  obtain ⟨v,σ',H',J,rv,q⟩:=hs;exact fin J rv q
 | next =>
  obtain ⟨σ',H',J,q⟩:=hs;exact fin (v:=V.non) (u:=Value.none) J rfl q
 | brk =>
  obtain ⟨_,_,_,q⟩:=hs;exact Aq q
 | cont =>
  obtain ⟨_,_,_,q⟩:=hs;exact Aq q
section
variable {X:Cx} {x:Str} {p pos:Pos} {e:Expr} {es:List Expr} {t:TA} {id T:String} {r:List V->Hp->VK->Prop}
def tCB (r:List V->Hp->VK->Prop) (t:TA):TE:=fun σ H Q=>t σ H fun vs H1=>r vs H1 Q
theorem bp (hc:axp X (.builtin id) r) (hg:Gl X x) (hm:X.mg x=none) (hv:Aw x=some (.builtin id)) (ha:PA X (e :: es) t) (hn:x ≠ "__name__":=by decide) (hdb:(x == ("__debug__":Str))=false:=by decide)
  (he:Ap (e :: es) X.env=(false,eval e X.env) :: Ap es X.env:=by rfl) (hpl:(Dl pos (Ap es X.env)).any (·.1)=false:=by rfl):PE X (.Call (.Name x p) (e :: es) [] pos) (tCB r t):=by
 intro pins s σ H Q I h;refine Cg (az7 I hg hm hv ?_ hn hdb);exact PyProof.Rows.callWith_builtin1 (thn (ha pos pins s σ H _ I h) fun us s1 ⟨vs,H1,I1,r1,q1⟩=>hc pins s1 σ H1 vs us Q I1 r1 q1) he hpl
theorem jt (hc:axp X (.type T) r) (hg:Gl X x) (hm:X.mg x=none) (hv:Aw x=some (.type T)) (ha:PA X (e :: es) t) (hn:x ≠ "__name__":=by decide) (hdb:(x == ("__debug__":Str))=false:=by decide)
  (he:Ap (e :: es) X.env=(false,eval e X.env) :: Ap es X.env:=by rfl) (hpl:(Dl pos (Ap es X.env)).any (·.1)=false:=by rfl):PE X (.Call (.Name x p) (e :: es) [] pos) (tCB r t):=by
 intro pins s σ H Q I h;refine Cg (az7 I hg hm hv ?_ hn hdb);exact Bv (thn (ha pos pins s σ H _ I h) fun us s1 ⟨vs,H1,I1,r1,q1⟩=>hc pins s1 σ H1 vs us Q I1 r1 q1) he hpl
end
end L2
namespace HT
open PySem PyProof.Rows
section
open PySem.SeqAt
open PySem.AutoSeq1 (wpAny_loadPart')
open PySem.MeetsSeq PySem.MeetsSeq2 PySem.MeetsSeq3
end
section
variable {prog:Af} {w:World} {A:Around} {E:Value->Shared->Prop} {s:Shared}
def sIx (n d:Nat):Option Int->Nat
 | none=>d
 | some v=>if v < 0 then (v + (n:Int)).toNat else min v.toNat n
theorem sIx_none (n d:Nat):sIx n d none=d:=rfl
end
end HT
namespace L2
open PySem PySem.Spec PyProof.Rows
abbrev TO:=St->Hp->(Option Int->Hp->Prop)->Prop
def PO (X:Cx) (e:Option Expr) (t:TO):Prop :=
 ∀ (pins:List (Addr × Obj)) (s:Shared) (σ:St) (H:Hp) (Q:Option Int->Hp->Prop),Inv X pins σ H s->t σ H Q ->
  wpAny (model X.prog X.w) X.A (evalPart e X.env) (fun u s'=>∃ o H',Inv X pins σ H' s'/\IsPart u o/\Q o H') X.xe s
def tNoPart:TO:=fun _ H Q=>Q none H
def tPart (t:TE):TO:=fun σ H Q=>t σ H fun x H1=>∃ i,x=.int i/\Q (some i) H1
theorem ava {ns:List Int}:∀ {us:List Value},aqi6 (ns.map V.int) us->IntsAre us ns:=by
 induction ns with
 | nil=>intro us r; rw [map_nil] at r; cases r; exact .nil
 | cons n ns ih =>
  intro us r;rw [map_cons] at r;cases r with
  | cons r1 r2 =>
   obtain ⟨t,e⟩:=r1;subst e;exact .cons n t (ih r2)
section
variable {X:Cx} {e:Expr} {te:TE} {lo hi:Option Expr} {tl th:TO} {pos p2:Pos}
theorem ajj:PO X none tNoPart:=by
 intro pins s σ H Q I h;rw [evalPart_none];exact Ab ⟨none,H,I,.none,h⟩
theorem aj8 (h:PE X e te):PO X (some e) (tPart te):=by
 intro pins s σ H Q I hw;rw [evalPart_some];refine thn (h pins s σ H _ I hw) fun u s1 hQ=>?_;obtain ⟨x,H1,I1,r1,q1⟩:=hQ;obtain ⟨i,rfl,q⟩:=q1;obtain ⟨t,rfl⟩:=r1;exact ⟨some i,H1,I1,.int i t,q⟩
def SlR (X:Cx) (r:V->Option Int->Option Int->Hp->VK->Prop):Prop :=
 ∀ (pins:List (Addr × Obj)) (s:Shared) (σ:St) (H:Hp) (x:V) (v vl vu:Value) (lo hi:Option Int) (sl:Addr) (Q:VK),Inv X pins σ H s->aqi8 x v->s.heap.IsSliceOf sl vl vu .none->IsPart vl lo->IsPart vu hi->r x lo hi H Q ->
  ∃ T id,typeLookup (.type T) "__getitem__"=pure (some (.builtin id))/\s.TypeIs v T/\wpAny (model X.prog X.w) X.A (Ls v (.ref sl)) (EP X pins σ Q) X.xe s
theorem SlR.or {r r':V->Option Int->Option Int->Hp->VK->Prop} (h:SlR X r) (h':SlR X r'):SlR X (fun x lo hi H Q=>r x lo hi H Q \/ r' x lo hi H Q):=by
 intro pins s σ H x v vl vu lo hi sl Q I rx hs pl pu q;rcases q with q | q
 ·exact h pins s σ H x v vl vu lo hi sl Q I rx hs pl pu q
 ·exact h' pins s σ H x v vl vu lo hi sl Q I rx hs pl pu q
def tSl (r:V->Option Int->Option Int->Hp->VK->Prop) (te:TE) (tl th:TO):TE:=fun σ H Q=>te σ H fun x H1=>tl σ H1 fun l H2=>th σ H2 fun u H3=>r x l u H3 Q
theorem aje {r:V->Option Int->Option Int->Hp->VK->Prop} (hr:SlR X r) (he:PE X e te) (hl:PO X lo tl) (hu:PO X hi th):PE X (.Subscript e (.Slice lo hi none p2) pos) (tSl r te tl th):=by
 intro pins s σ H Q I h;refine Ld (thn (he pins s σ H _ I h) fun v s1 hQ=>?_);obtain ⟨x,H1,I1,r1,q1⟩:=hQ;refine wpAny_Slice (thn (hl pins s1 σ H1 _ I1 q1) fun vl s2 ⟨l,H2,I2,pl,q2⟩=>thn (hu pins s2 σ H2 _ I2 q2) fun vu s3 hQ=>?_);obtain ⟨u,H3,I3,pu,q3⟩:=hQ;rw [evalPart_none];refine Ab ?_;have I4:Inv X pins σ H3 { s3 with heap:=s3.heap.push { cls:=.type "slice",data:=.fields #[vl,vu,.none] } }:=I3.kept (t':=s3.toks) fun b ob q=>Ac _ q;obtain ⟨T,id,hT,ht,hg⟩:=hr pins { s3 with heap:=s3.heap.push { cls:=.type "slice",data:=.fields #[vl,vu,.none] } } σ H3 x v vl vu l u s3.heap.objs.size Q I4 r1 (Le ..) pl pu q3;show wpAny (model X.prog X.w) X.A (Ib e (.Slice lo hi none p2) v (.ref s3.heap.objs.size)) (EP X pins σ Q) X.xe { s3 with heap:=s3.heap.push { cls:=.type "slice",data:=.fields #[vl,vu,.none] } };exact tail_any (ops:=[.ref s3.heap.objs.size,v]) ht hT hg (by with_unfolding_all rfl)
def aqi3 (xs:List V) (lo hi:Option Int):List V:=(xs.drop (HT.sIx xs.length 0 lo)).take (HT.sIx xs.length xs.length hi - HT.sIx xs.length 0 lo)
theorem awx (xs:List V) (lo hi:Option Int):(aqi3 xs lo hi).length <= xs.length:=by
 unfold aqi3;rw [length_take,List.length_drop];omega
end
def ixN (n:Nat) (i:Int):Option Nat:=if 0 <= i then (if i < n then some i.toNat else none) else if -(n:Int) <= i then some (i + n).toNat else none
def atI {α:Type} (xs:List α) (i:Int):Option α:=(ixN xs.length i).bind fun j=>xs[j]?
theorem aqbn {n:Nat} {i:Int} {j:Nat} (h:ixN n i=some j):seqIndex? i n=some j/\j < n/\-(n:Int) <= i/\i < n:=by
 unfold ixN at h
 by_cases h0:0 <= i
 ·rw [if_pos h0] at h
  by_cases h1:i < n
  ·rw [if_pos h1] at h
   have e:i.toNat=j:=Option.some.inj h;exact ⟨by rw [seqIndex_of h0 h1,e],by omega,by omega,h1⟩
  ·rw [if_neg h1] at h; cases h
 ·rw [if_neg h0] at h
  by_cases h1:-(n:Int) <= i
  ·rw [if_pos h1] at h
   have e:(i + n).toNat=j:=Option.some.inj h;exact ⟨by rw [seqIndex_neg (by omega) h1,e],by omega,h1,by omega⟩
  ·rw [if_neg h1] at h; cases h
theorem aXi {α:Type} {xs:List α} {i:Int} {v:α} (h:atI xs i=some v):∃ j,seqIndex? i xs.length=some j/\xs[j]?=some v/\j < xs.length/\-(xs.length:Int) <= i/\i < xs.length:=by
 unfold atI at h;cases e:ixN xs.length i with
 | none=>rw [e] at h; cases h
 | some j =>
  rw [e] at h;obtain ⟨h1,h2,h3,h4⟩:=aqbn e;exact ⟨j,h1,h,h2,h3,h4⟩
theorem aq {α:Type} {xs:List α} {j:Nat} {v:α} (h:xs[j]?=some v):atI xs (j:Int)=some v:=by
 have hj:j < xs.length:=(Aj.mp h).1;have e:ixN xs.length (j:Int)=some j:=by
  unfold ixN;rw [if_pos (by omega),if_pos (by omega)]; simp
 unfold atI; rw [e]; exact h
def aV7 (b:Expr):Prop:=∀ o i,Kb b false o i=operate [o,i] (Ls o i)
def IxR (X:Cx) (r:R2):Prop :=
 ∀ (value slice:Expr) (pins:List (Addr × Obj)) (s:Shared) (σ:St) (H:Hp) (x y:V) (v u:Value) (Q:VK),Inv X pins σ H s->aqi8 x v->aqi8 y u->r x y H Q ->
  Kb slice false v u=operate [v,u] (Ls v u)->wpAny (model X.prog X.w) X.A (Ib value slice v u) (EP X pins σ Q) X.xe s
def MtR (X:Cx) (id:String) (r:V->List V->Hp->VK->Prop):Prop :=
 ∀ (pins:List (Addr × Obj)) (s:Shared) (σ:St) (H:Hp) (x:V) (xs:List V) (v:Value) (us:List Value) (Q:VK),Inv X pins σ H s->aqi8 x v->aqi6 xs us->r x xs H Q ->
  wpAny (model X.prog X.w) X.A (call (.builtin id) (v :: us)) (EP X pins σ Q) X.xe s
section
variable {X:Cx} {a b:Expr} {ta tb:TE} {pos:Pos}
theorem IxR.or {r r':R2} (h:IxR X r) (h':IxR X r'):IxR X (fun x y H Q=>r x y H Q \/ r' x y H Q):=by
 intro value slice pins s σ H x y v u Q I rx ry q hs;rcases q with q | q
 ·exact h value slice pins s σ H x y v u Q I rx ry q hs
 ·exact h' value slice pins s σ H x y v u Q I rx ry q hs
theorem MtR.or {id:String} {r r':V->List V->Hp->VK->Prop} (h:MtR X id r) (h':MtR X id r'):MtR X id (fun x xs H Q=>r x xs H Q \/ r' x xs H Q):=by
 intro pins s σ H x xs v us Q I rx rs q;rcases q with q | q
 ·exact h pins s σ H x xs v us Q I rx rs q
 ·exact h' pins s σ H x xs v us Q I rx rs q
theorem aqs {r:R2} (hr:IxR X r) (ha:PE X a ta) (hb:PE X b tb) (hs:aV7 b):PE X (.Subscript a b pos) (tOp r ta tb):=by
 intro pins s σ H Q I h;exact Ld (binT ha hb I h fun v u s2 x y H2 I2 rx ry q=>hr a b pins s2 σ H2 x y v u Q I2 rx ry q (hs _ _))
def rIxL (K:Frag):R2:=fun x y H Q=>∃ p xs i v,x=.ref p/\y=.int i/\SqL K H p xs/\atI xs i=some v/\Q v H
def rIxT (K:Frag):R2:=fun x y H Q=>∃ p xs i v,x=.ref p/\y=.int i/\SqT K H p xs/\atI xs i=some v/\Q v H
def rIxS:R2:=fun x y H Q=>∃ z i c,x=.str z/\y=.int i/\z.length <= Ad/\atI z.cps.toList i=some c/\Q (.str ⟨#[c]⟩) H
theorem ar:IxR X (rIxL X.K):=by
 intro value slice pins s σ H x y v u Q I rx ry h hs;obtain ⟨p,xs,i,z,rfl,rfl,hq,he,q⟩:=h;cases rx;obtain ⟨t,rfl⟩:=ry;obtain ⟨its,r,pl,hz⟩:=I.list hq;obtain ⟨j,h1,h2,h3,h4,h5⟩:=aXi he;obtain ⟨w,ew,rw'⟩:=r.get h2;have hl:=r.length;have hn:=aJk;have fin:EP X pins σ Q w s:=⟨z,H,I,rw',q⟩
 by_cases h0:0 <= i
 ·have hj:i.toNat=j:=by
   rw [seqIndex_of h0 h5] at h1;exact Option.some.inj h1
  exact item_listR pl.isList h0 (by omega) (by rw [hj]; simpa using ew) fin hs
 ·have hj:(i + (its.toArray.size:Int)).toNat=j:=by
   rw [seqIndex_neg (by omega) h4] at h1;rw [size_toArray,<- hl];exact Option.some.inj h1
  exact Je (x:=w) pl.isList.typeIs Hu.lookup
   (wpAny_getItem_list_neg (Q:=fun r s'=>r=w/\EP X pins σ Q r s') pl.isList (by omega) (by rw [size_toArray] <;> omega) (by omega) (by rw [hj]; simpa using ew) ⟨rfl,fin⟩) hs
theorem aqdw:IxR X (rIxT X.K):=by
 intro value slice pins s σ H x y v u Q I rx ry h hs;obtain ⟨p,xs,i,z,rfl,rfl,hq,he,q⟩:=h;cases rx;obtain ⟨t,rfl⟩:=ry;obtain ⟨its,r,pl,hz⟩:=I.tuple hq;obtain ⟨j,h1,h2,h3,h4,h5⟩:=aXi he;obtain ⟨w,ew,rw'⟩:=r.get h2;have hl:=r.length;have hn:=aJk;have fin:EP X pins σ Q w s:=⟨z,H,I,rw',q⟩;exact Je (x:=w) pl.typeIs slot_tuple_getitem.lookup
  (getItem_tuple (j:=j) (Q:=fun r s'=>r=w/\EP X pins σ Q r s') pl (by omega) (by omega) (by rw [size_toArray,<- hl]; exact h1) (by simpa using ew) ⟨rfl,fin⟩) hs
theorem aZm:IxR X rIxS:=by
 intro value slice pins s σ H x y v u Q I rx ry h hs;obtain ⟨z,i,c,rfl,rfl,hz,he,q⟩:=h;obtain ⟨t,rfl⟩:=rx;obtain ⟨t',rfl⟩:=ry;obtain ⟨j,h1,h2,h3,h4,h5⟩:=aXi he;have hl:z.cps.toList.length=z.length:=by simp [Str.length]
 rw [hl] at h1 h4 h5;have hn:=aJk;exact tail_any (Fu s z t) slot_str_getitem.lookup (getItem_str (c:=c) (by
  have e1:decide (i < -(2 ^ 63:Int))=false:=decide_eq_false (by omega);have e2:decide (i ≥ 2 ^ 63)=false:=decide_eq_false (by omega);rw [e1,e2,Bool.or_false]) (by rw [h1]; simpa using h2) ⟨.str ⟨#[c]⟩,H,I.tok _,⟨_,rfl⟩,q⟩) hs
theorem Inv.lst {pins:List (Addr × Obj)} {σ:St} {H:Hp} {s:Shared} {p:Addr} {xs:List V} (I:Inv X pins σ H s) (h:H p=some (.lst xs)) :
  ∃ (its:List Value) (n:Nat),aqi6 xs its/\s.heap.get? p=some { cls:=.type "list",data:=.seq its.toArray n }/\xs.length <= Ad:=by
 obtain ⟨z,its,n,r,e⟩:=I.hok p _ h;exact ⟨its,n,r,e,z⟩
theorem sb1 {i:Int} {n:Nat} (h:i < 0):max 0 (min (i + (n:Int)) n)=(((i + n).toNat:Nat):Int):=by
 rw [Int.min_eq_left (Int.add_le_of_le_sub_right (by rw [Int.sub_self]; exact Int.le_of_lt h)),Int.max_comm,Int.toNat_eq_max]
theorem sb2 {i:Int} {n:Nat} (h:¬ i < 0):max 0 (min i (n:Int))=((min i.toNat n:Nat):Int):=by
 obtain ⟨k,rfl⟩:=Df (Int.not_lt.mp h);rw [D2];rcases Nat.le_total k n with e | e
 ·rw [Nat.min_eq_left e,Int.min_eq_left (Int.ofNat_le.mpr e)]; exact Int.max_eq_right (Lf _)
 ·rw [Nat.min_eq_right e,Int.min_eq_right (Int.ofNat_le.mpr e)]; exact Int.max_eq_right (Lf _)
theorem avl (lo hi:Option Int) (n:Nat):(D4 lo hi none n).1=((HT.sIx n 0 lo:Nat):Int)/\(D4 lo hi none n).2.1=((HT.sIx n n hi:Nat):Int)/\(D4 lo hi none n).2.2=1:=by
 refine ⟨?_,?_,rfl⟩
 ·cases lo with
  | none=>simp [D4,HT.sIx]
  | some i =>
   simp only [D4,HT.sIx,getD_none,show (1:Int) > 0 by decide,if_true]
   by_cases h:i < 0
   ·simp only [h,if_true]; exact sb1 h
   ·simp only [h,if_false]; exact sb2 h
 ·cases hi with
  | none=>simp [D4,HT.sIx]
  | some i =>
   simp only [D4,HT.sIx,getD_none,show (1:Int) > 0 by decide,if_true]
   by_cases h:i < 0
   ·simp only [h,if_true]; exact sb1 h
   ·simp only [h,if_false]; exact sb2 h
theorem azv (its:List Value) (lo hi:Option Int):Kp its.toArray lo hi none=((its.drop (HT.sIx its.length 0 lo)).take (HT.sIx its.length its.length hi - HT.sIx its.length 0 lo)).toArray:=by
 obtain ⟨h1,h2,h3⟩:=avl lo hi its.toArray.size;unfold Kp;rw [h1,h2,h3];simp only [sliceRange_one,pick_run,size_toArray] <;> rfl
def rSlL (K:Frag):V->Option Int->Option Int->Hp->VK->Prop:=fun x lo hi H Q=>∃ a xs,x=.ref a/\SqL K H a xs/\∀ p,H p=none->Q (.ref p) (upd H p (.lst (aqi3 xs lo hi)))
theorem azw:SlR X (rSlL X.K):=by
 intro pins s σ H x v vl vu lo hi sl Q I rx hs pl pu h;obtain ⟨a,xs,rfl,hx,q⟩:=h;cases rx;obtain ⟨its,r,ht,hz⟩:=I.list hx;have hlen:=r.length;refine ⟨"list",_,Hu.lookup,ht.isList.typeIs,?_⟩;refine Ic ht.isList hs pl pu .none (by simp) ?_ (by rw [size_toArray] <;> omega);rw [azv,<- hlen];refine ⟨.ref s.heap.objs.size,_,I.laid (t':=s.toks) (o:=.lst (aqi3 xs lo hi)) (fun b ob q=>Ac _ q) (le_refl _) ?_,rfl,q _ (I.hok.fresh (le_refl _))⟩;exact ⟨le_trans (awx xs lo hi) hz,_,0,(r.drop (HT.sIx xs.length 0 lo)).take (HT.sIx xs.length xs.length hi - HT.sIx xs.length 0 lo),Ag _ rfl⟩
theorem ax:axp X (.builtin "len") (fun xs H Q=>∃ p ys,xs=[.ref p]/\(SqL X.K H p ys \/ SqT X.K H p ys)/\Q (.int ys.length) H):=by
 intro pins s σ H xs us Q I r h;obtain ⟨p,ys,rfl,hq,q⟩:=h;obtain ⟨u,rfl,rx⟩:=aw2 r;cases rx;have hn:=aJk;rcases hq with hq | hq
 ·obtain ⟨its,r',pl,hz⟩:=I.list hq
  have hlen:=r'.length;exact Calls.call_len_list pl.isList (by simp only [size_toArray] <;> omega) ⟨.int ys.length,H,I.tok _,⟨s.toks + 1,by rw [size_toArray,hlen]⟩,q⟩
 ·obtain ⟨its,r',pl,hz⟩:=I.tuple hq
  have hlen:=r'.length;exact len_tuple pl (by simp only [size_toArray] <;> omega) ⟨.int ys.length,H,I.tok _,⟨s.toks + 1,by rw [size_toArray,hlen]⟩,q⟩
theorem aq4:axp X (.builtin "len") (fun xs H Q=>∃ z,xs=[.str z]/\z.length <= Ad/\Q (.int z.length) H):=by
 intro pins s σ H xs us Q I r h;obtain ⟨z,rfl,hz,q⟩:=h;obtain ⟨u,rfl,t,rfl⟩:=aw2 r;have hn:=aJk;exact len_str (by omega) ⟨.int z.length,H,I.tok _,⟨_,rfl⟩,q⟩
theorem axp.or {f:Value} {r r':List V->Hp->VK->Prop} (h:axp X f r) (h':axp X f r'):axp X f (fun xs H Q=>r xs H Q \/ r' xs H Q):=by
 intro pins s σ H xs us Q I rs q;rcases q with q | q
 ·exact h pins s σ H xs us Q I rs q
 ·exact h' pins s σ H xs us Q I rs q
theorem axj:axp X (.type "list") (fun xs H Q=>∃ p ys,xs=[.ref p]/\(SqL X.K H p ys \/ SqT X.K H p ys)/\∀ l,H l=none->Q (.ref l) (upd H l (.lst ys))):=by
 intro pins s σ H xs us Q I r h;obtain ⟨p,ys,rfl,hq,q⟩:=h;obtain ⟨u,rfl,rx⟩:=aw2 r;cases rx;have fin:∀ (its:List Value),aqi6 ys its->ys.length <= Ad->∀ (h':Heap) (c':Nat),(∀ b o',s.heap.get? b=some o'->h'.get? b=some o') ->
   h'.get? s.heap.objs.size=some { cls:=.type "list",dict:=none,data:=.seq its.toArray c',slots:=#[] }->EP X pins σ Q (.ref s.heap.objs.size) { s with heap:=h' }:=fun its r' hz h' c' kp e =>
  ⟨.ref s.heap.objs.size,_,I.laid (t':=s.toks) kp (le_refl _) (show aqx X.prog X.w _ h' _ (.lst ys) from ⟨hz,its,c',r',e⟩),rfl,q _ (I.hok.fresh (le_refl _))⟩
 rcases hq with hq | hq
 ·obtain ⟨its,r',pl,hz⟩:=I.list hq
  have hlen:=r'.length;obtain ⟨o,ho,hc,n,hd⟩:=pl.isList;exact call_list_seq p (.inl rfl) ho hc hd (fun h' c' kp e=>fin its r' hz h' c' kp e) (by simp only [size_toArray] <;> omega)
 ·obtain ⟨its,r',pl,hz⟩:=I.tuple hq
  have hlen:=r'.length;obtain ⟨o,ho,hc,n,hd⟩:=pl;exact call_list_seq p (.inr rfl) ho hc hd (fun h' c' kp e=>fin its r' hz h' c' kp e) (by simp only [size_toArray] <;> omega)
theorem aR:axp X (.type "tuple") (fun xs H Q=>∃ p ys,xs=[.ref p]/\((SqL X.K H p ys/\∀ l,H l=none->Q (.ref l) (upd H l (.tup ys))) \/ (SqT X.K H p ys/\Q (.ref p) H))):=by
 intro pins s σ H xs us Q I r h;obtain ⟨p,ys,rfl,h⟩:=h;obtain ⟨u,rfl,rx⟩:=aw2 r;cases rx;rcases h with ⟨hq,q⟩ | ⟨hq,q⟩
 ·obtain ⟨its,r',pl,hz⟩:=I.list hq
  have hlen:=r'.length;refine call_tuple_list pl.isList (fun h' kp=>?_) (by simp only [size_toArray] <;> omega);have I1:Inv X pins σ H { s with heap:=h' }:=I.kept (t':=s.toks) kp;have I2:Inv X pins σ (upd H h'.objs.size (.tup ys)) { s with heap:=h'.push { cls:=.type "tuple",data:=.seq its.toArray } } :=
   I1.laid (t':=s.toks) (fun b o e=>Ac _ e) (le_refl _) (show aqx X.prog X.w _ _ _ (.tup ys) from ⟨hz,its,r',IsTup.new _ _⟩)
  exact ⟨.ref h'.objs.size,_,I2,rfl,q _ (I1.hok.fresh (le_refl _))⟩
 ·obtain ⟨its,r',pl,hz⟩:=I.tuple hq
  exact call_tuple_same pl ⟨.ref p,H,I,rfl,q⟩
def tyV (K:Frag) (T:String) (x:V) (H:Hp):Prop:=match x with
 | .str _=>T="str"
 | .int _=>T="int"
 | .ref p=>(T="list"/\∃ xs,SqL K H p xs) \/ (T="tuple"/\∃ o,K.lookup p=some o/\o.cls=.type "tuple"/\o.dict=none) \/
   (T="dict"/\((∃ kvs,H p=some (.dK kvs)) \/ ∃ kvs,H p=some (.dT kvs))) \/ (T="set"/\∃ S n,H p=some (.set S n))
 | _=>False
theorem aqd2 {pins:List (Addr × Obj)} {σ:St} {H:Hp} {s:Shared} {T:String} {x:V} {v:Value} (I:Inv X pins σ H s) (r:aqi8 x v) (ty:tyV X.K T x H) :
  s.TypeIs v T/\∀ a,v=.ref a->∃ ob,s.heap.get? a=some ob/\ob.dict=none:=by
 cases x with
 | str z =>
  obtain ⟨t,rfl⟩:=r;cases (show T="str" from ty);exact ⟨Fu s z t,fun _ e=>nomatch e⟩
 | int i =>
  obtain ⟨t,rfl⟩:=r;cases (show T="int" from ty);exact ⟨typeIs_int s i t,fun _ e=>nomatch e⟩
 | ref p =>
  cases r;rcases ty with ⟨rfl,xs,hq⟩ | ⟨rfl,o,hk,hc,hd⟩ | ⟨rfl,hk⟩ | ⟨rfl,S,n,hk⟩
  ·obtain ⟨its,_,pl,_⟩:=I.list hq
   refine ⟨pl.isList.typeIs,fun a e=>?_⟩;cases e;obtain ⟨o,n,e,c,hd,_⟩:=pl;exact ⟨o,e,hd⟩
  ·refine ⟨⟨o,I.kIn p o hk,hc⟩,fun a e=>?_⟩
   cases e;exact ⟨o,I.kIn _ o hk,hd⟩
  ·have z:∃ o,s.heap.get? p=some o/\o.ExactDict:=by
    rcases hk with ⟨kvs,hk⟩ | ⟨kvs,hk⟩
    ·obtain ⟨_,_,_,_,o,_,_,e,ex,_⟩:=I.hok p _ hk
     exact ⟨o,e,ex⟩
    ·obtain ⟨_,_,_,_,o,_,_,e,ex,_⟩:=I.hok p _ hk
     exact ⟨o,e,ex⟩
   obtain ⟨o,e,ex⟩:=z;refine ⟨⟨o,e,ex.1⟩,fun a e2=>?_⟩;cases e2;exact ⟨o,e,ex.2.1⟩
  ·obtain ⟨o,_,_,_,e,ex,_⟩:=I.hok p _ hk
   refine ⟨⟨o,e,ex.1⟩,fun a e2=>?_⟩;cases e2;exact ⟨o,e,ex.2.1⟩
 | _=>exact Aq ty
def tBM (K:Frag) (T:String) (r:V->List V->Hp->VK->Prop) (to:TE) (t:TA):TE:=fun σ H Q=>to σ H fun x H1=>tyV K T x H1/\t σ H1 fun xs H2=>r x xs H2 Q
variable {o e:Expr} {es:List Expr} {to:TE} {t:TA} {name:Str} {apos cpos:Pos} {T id:String} {r:V->List V->Hp->VK->Prop}
theorem aQ7 (pa:PlainAttrs T) (slot:Slot T name id) (hty:Mg (.builtin id)=pure (.type "method_descriptor")) (hm:MtR X id r) (ho:PE X o to) (ha:PA X (e :: es) t)
  (hbase:C6 o name X.env (eval o X.env)=eval o X.env:=by rfl)
  (hfew:((Dl cpos (Ap (e :: es) X.env)).all (fun x=>!x.1) && (Ka cpos (F5 [] X.env)).all (fun x=>x.1.isSome)
   && decide ((e :: es).length + ([]:List Ht).length + (if ([]:List Ht).isEmpty then 0 else 1) < 30))=true:=by rfl)
  (hline:(apos.endLine == cpos.line)=true:=by rfl) (hs:Ap (e :: es) X.env=(false,eval e X.env) :: Ap es X.env:=by rfl) (hplain:(Dl cpos (Ap es X.env)).any (·.1)=false:=by rfl) :
  PE X (.Call (.Attribute o name apos) (e :: es) [] cpos) (tBM X.K T r to t):=by
 intro pins s σ H Q I h;refine wpAny_Call_method_late hbase hfew hline rfl (thn (ho pins s σ H _ I h) fun v s1 hQ=>?_);obtain ⟨x,H1,I1,r1,ty,q1⟩:=hQ;obtain ⟨h1,h2⟩:=aqd2 I1 r1 ty;refine ⟨T,id,pa,slot,hty,h1,h2,?_⟩;have hA:=ha cpos pins s1 σ H1 _ I1 q1;rw [hs] at hA ⊢;refine Cc (by show (false || (Dl cpos (Ap es X.env)).any (·.1))=false; rw [hplain] <;> rfl) (C1 ?_);exact thn hA fun us s2 ⟨vs,H2,I2,r2,q2⟩=>hm pins s2 σ H2 x vs v us Q I2 r1 r2 q2
end
def MtM (X:Cx) (id:String) (r:V->List V->Hp->VK->Prop):Prop :=
 ∀ (pins:List (Addr × Obj)) (s:Shared) (σ:St) (H:Hp) (x:V) (xs:List V) (v:Value) (us:List Value) (Q:VK),Inv X pins σ H s->aqi8 x v->aqi6 xs us->r x xs H Q ->
  wpAny (model X.prog X.w) X.A (call (.builtin id) (v :: us)) (EP X pins σ Q) X.xe s
theorem aqi6.one:∀ {x:V} {us:List Value},aqi6 [x] us->∃ u,us=[u]/\aqi8 x u
 | _,_,.cons r .nil=>⟨_,rfl,r⟩
theorem aqi6.eraseIdx:∀ {xs:List V} {us:List Value} (i:Nat),aqi6 xs us->aqi6 (xs.eraseIdx i) (us.eraseIdx i)
 | _,_,_,.nil=>.nil
 | _,_,0,.cons _ t=>t
 | _,_,i + 1,.cons r t=>.cons r (aqi6.eraseIdx i t)
theorem aqi6.reverse {xs:List V} {us:List Value} (h:aqi6 xs us):aqi6 xs.reverse us.reverse:=by
 induction h with
 | nil=>exact .nil
 | cons r t ih=>rw [List.reverse_cons,List.reverse_cons]; exact aqi6.append ih (.cons r .nil)
theorem aqi6.rep {xs:List V} {us:List Value} (h:aqi6 xs us):∀ k:Nat,aqi6 (Au k xs).flatten (Au k us).flatten
 | 0=>.nil
 | k + 1=>by
  rw [Gk,Gk,List.flatten_cons,List.flatten_cons];exact aqi6.append h (aqi6.rep h k)
section
variable {X:Cx} {pins:List (Addr × Obj)} {σ:St} {H:Hp} {s:Shared} {l b:Addr} {xs ys zs:List V}
theorem Inv.lset {its its':List Value} {n:Nat} {f:Array Value->Array Value} {t':Nat} (I:Inv X pins σ H s) (hH:H l=some (.lst xs))
  (e:s.heap.get? l=some { cls:=.type "list",data:=.seq its.toArray n }) (hf:f its.toArray=its'.toArray) (hv:aqi6 ys its') (hz:ys.length <= Ad) :
  Inv X pins σ (upd H l (.lst ys)) { s with heap:=s.heap.update l (C7 f),toks:=t' }:=by
 have q:=PySem.IsL.update e f;rw [hf] at q;refine I.write (x:=l) (e:=l) (by rw [hH]; exact trivial) (.inl rfl) (fun b' u hb hu=>(Jf s.heap (C7 f) (Gq hb)).trans hu) ⟨_,q⟩ ?_;exact ⟨hz,its',_,hv,q⟩
theorem Inv.lnew {its:List Value} {t':Nat} (I:Inv X pins σ H s) (hv:aqi6 ys its) (hz:ys.length <= Ad) :
  Inv X pins σ (upd H s.heap.objs.size (.lst ys)) { s with heap:=s.heap.push { cls:=.type "list",data:=.seq its.toArray },toks:=t' } :=
 I.laid (fun _ _ q=>Ac _ q) (le_refl _) ⟨hz,its,0,hv,Ag _ rfl⟩
theorem Inv.fresh (I:Inv X pins σ H s):H s.heap.objs.size=none:=I.hok.fresh (le_refl _)
theorem Inv.lstM (I:Inv X pins σ H s) (hH:H l=some (.lst xs)):xs.length <= Ad/\∃ (its:List Value) (n:Nat),aqi6 xs its/\xs.length=its.length/\s.heap.get? l=some { cls:=.type "list",data:=.seq its.toArray n }:=by
 obtain ⟨z,its,n,r,e⟩:=I.hok l _ hH;exact ⟨z,its,n,r,r.length,e⟩
end
section
variable {X:Cx}
def rAppend:V->List V->Hp->VK->Prop:=fun x vs H Q=>∃ l xs y,x=.ref l/\vs=[y]/\H l=some (.lst xs)/\xs.length < Ad/\Q .non (upd H l (.lst (xs++[y])))
theorem ajt:MtM X "list.append" rAppend:=by
 intro pins s σ H x vs v us Q I rx rv h;obtain ⟨l,xs,y,rfl,rfl,hH,hz,q⟩:=h;cases rx;obtain ⟨u,rfl,ru⟩:=rv.one;obtain ⟨z,its,n,r,hl,e⟩:=I.lstM hH;refine G6 F.slot_list_append ⟨_,e,rfl⟩ F.entry_list_append (F.args_list_append_2 _ _) (PySem.list_append l its.toArray n u (by rw [size_toArray]; omega)) ⟨e,?_⟩;refine ⟨.non,_,I.lset (its':=its++[u]) hH e (by simp) (r.append (.cons ru .nil)) ?_,rfl,q⟩;rw [length_append,List.length_singleton];omega
end
section
variable {prog:Af} {w:World} {A:Around} {E:Value->Shared->Prop} {s:Shared}
end
section
variable {X:Cx}
end
end L2
namespace Att
open PySem PySem.W PySem.Calls PyProof.Rows
theorem ints_of_wellAll {P:Params} {h:Heap}:∀ (ns:List Int) (vs:List Value),WellAll P h vs (ns.map WData.int)->IntsAre vs ns:=by
 intro ns
 induction ns with
 | nil =>
  intro vs w;rw [map_nil] at w;cases w;exact .nil
 | cons n ns ih =>
  intro vs w;rw [map_cons] at w;cases w with
  | cons a b =>
   cases a;exact .cons _ _ (ih _ b)
theorem script_of {l:OpenLaw} {n:Nat} (hn:l.most=some n) {P:Params} {h:Heap} {args:List WData} {vals:List Value}
  (hpre:l.row.toRowW.claim.pre args=true) (hwl:WellAll P h vals args) :
  ∃ a vs ns,vals=[Value.ref a]/\args=[WData.list (ns.map WData.int)]/\h.get? a=some { cls:=.type "list",data:=.seq vs.toArray }/\IntsAre vs ns/\ns.length <= n:=by
 have hsh:WShape.hasAll [] args [.list .int]=true:=(pre_splitW hpre).1;have hc:l.pre.holds [] { args:=args }=true:=(pre_splitW hpre).2;obtain ⟨d,r,rfl,h1,h2⟩:=hasAllW_cons hsh;obtain rfl:=hasAllW_nil h2;obtain ⟨xs,rfl,h3⟩:=hasW_list h1;obtain ⟨ns,rfl⟩:=items_int h3;have hlen:ns.length <= n:=by
  unfold OpenLaw.pre at hc;have h4:(WTm.not (.lt (.lit (.int (n:Int))) (.len (.arg 0)))).holds [] { args:=[.list (ns.map .int)] }=true:=by
   have h4:=(holds_andW hc).1;rw [hn] at h4;exact h4
  have h5:=condW_of h4 (w_not (w_lt w_lit (w_len_list (w_arg rfl))));rw [length_map] at h5;refine Nat.le_of_not_lt fun q=>?_;have q':(n:Int) < ((ns.length:Nat):Int):=by omega
  first
   | (rw [decide_eq_true q'] at h5; exact absurd h5 (by decide))
   | (simp at h5; omega)
 cases hwl with
 | cons w1 w2 =>
  cases w2;cases w1 with
  | list ho hall=>exact ⟨_,_,ns,rfl,rfl,ho,ints_of_wellAll ns _ hall,hlen⟩
theorem post_true (l:OpenLaw) (args:List WData):l.row.toRowW.claim.post args (.bool true) args=true :=
 postW_of (r:=l.row.toRowW) (X:=(true == true))
  (show WShape.has [] (.bool true) .bool=true by first | rfl | decide | simp [WShape.has,WShape.arms,WShape.armsAll])
  (show (WTm.eq .res (.lit (.bool true))).value [] { args:=args,res:=some (.bool true),after:=args }=some (.bool (true == true)) from w_eq_bool (w_res rfl) w_lit) rfl
theorem attach_call {l:OpenLaw} {n:Nat} {q:Af} {loose:List Str} {XP:(Str->Option Value)->Heap->Prop} {YP:World->Heap->Prop} {d:DefRec}
  (hn:l.most=some n) (hdf:d.params.defaults=[])
  (call:∀ (w:World) (s₀ s₁:Shared) (mg mb:Str->Option Value) (fa:Addr) (o:Obj) (pm cd doc:Value) (a:Addr) (vs:List Value) (ns:List Int),
   Ground q loose [] XP w s₀ mg mb s₁.heap->YP w s₁.heap ->
   s₁.heap.get? fa=some o->o.data=.func (docDef d.name d.params d.body d.scope pm cd doc)->s₁.heap.CodeRec cd d.name->mg d.name=some (.ref fa) ->
   s₁.heap.get? a=some { cls:=.type "list",data:=.seq vs.toArray }->IntsAre vs ns->ns.length <= n->s₁.gens=#[] ->
   Em (model l.prog w) Gv (.call (.ref fa) ⟨[.ref a],[]⟩) (fun r s'=>r=.ok (.ret (.bool true))/\OldK s₁.heap s'.heap/\s'.os=s₁.os/\Fx s'.gens) s₁) :
  WalkO q loose XP YP l.row.toRowW d [] (fun f vs=>PySem.call f vs):=by
 intro w s₀ s₁ mg mb G Y fa o pm cd doc dV kV ho hd hcd hD hmg hg args vals as hpre hlay hrd hwl hlo;obtain rfl:dV=.none:=Dflts.none hD hdf;obtain rfl:kV=.none:=Dflts.noKw hD;obtain ⟨a,vs,ns,rfl,rfl,hobj,hints,hlen⟩:=script_of hn hpre hwl;refine enter_call (C0 (call w s₀ s₁ mg mb fa o pm cd doc a vs ns G Y ho (fd_plain hd) hcd hmg hobj hints hlen hg) fun r s' hq=>?_);obtain ⟨rfl,h2,h3,h4⟩:=hq;exact ⟨.inl ⟨.bool true,.bool true,[],rfl,fun _=>rfl,.bool true,post_true l _,fun _=>⟨List.Pairwise.nil,fun _ hm=>(nomatch hm)⟩⟩,h2,h3,h4⟩
section
variable {prog:Af} {w:World} {A:Around} {E:Value->Shared->Prop} {s:Shared} {K:Frag}
end
end Att
namespace L2
open PySem PySem.Spec PyProof.Rows
theorem ax7:∀ {vs:List Value} {ns:List Int},IntsAre vs ns->aqi6 (ns.map V.int) vs
 | _,_,.nil=>.nil
 | _,_,.cons n t h=>.cons ⟨t,rfl⟩ (ax7 h)
def Only (H:Hp):Prop:=∀ b,H b=none \/ ∃ o xs,H b=some (.frz o (.lst xs))
theorem law_call {P:Af} {w:World} {K:Frag} {mg mb:Str->Option Value} {CX:CXT} {k:Nat} {fa a:Addr} {fd:Am} {x:Str} {sp:Sp} {s₁:Shared} {vs:List Value} {ns:List Int}
  (KX:K.In s₁.heap) (hns:s₁.heap.Ns Ak mg) (hb:s₁.heap.Ns K8 mb) (hbb:∀ x:Str,x ≠ "__name__"->mb x=Aw x) (hlim:s₁.heap.NoLimit) (hg:s₁.gens=#[])
  (ha:s₁.heap.get? a=some { cls:=.type "list",data:=.seq vs.toArray }) (hi:IntsAre vs ns) (hl:ns.length <= Ad) (hr:Room k Gv)
  (F:∀ base:Heap,K.In base->base.Ns Ak mg->FnOk P w K mg base CX k fa fd [x] sp) (hbind:∀ (s:Shared) (u:Value),Hs s fd ⟨[u],[]⟩ [(x,u)])
  (hsp:∀ H:Hp,Only H->SqL K H a (ns.map V.int)->sp [.ref a] H (fun v _=>v=.bl true) fun _ _ _=>False)
  (hCX:∀ H e s',CX [] H s₁ (fun _ _ _=>False) e s'->False) :
  Em (model P w) Gv (.call (.ref fa) ⟨[.ref a],[]⟩) (fun r s'=>r=.ok (.ret (.bool true))/\OldK s₁.heap s'.heap/\s'.os=s₁.os/\Fx s'.gens) s₁:=by
 have rv:=ax7 hi;have lenV:=hi.length;have core:∀ H:Hp,Only H->SqL K H a (ns.map V.int)->HOk P w H s₁.heap->(∀ b,H b ≠ none->b=a)->(H a ≠ none->K.lookup a=none) ->
   Em (model P w) Gv (.call (.ref fa) ⟨[.ref a],[]⟩) (fun r s'=>r=.ok (.ret (.bool true))/\OldK s₁.heap s'.heap/\s'.os=s₁.os/\Fx s'.gens) s₁:=by
  intro H hO hS hok hA hK;have base_of:∀ {b:Addr} {o:Obj},s₁.heap.get? b=some o->H b=none->(hidT s₁.heap H).get? b=some o:=fun e n=>aW3 e n;have noA:∀ {b:Addr} {o:Obj} {es:Array DictEntry} {ep:Nat},s₁.heap.get? b=some o->o.data=.dict es ep->H b=none:=fun {b o es ep} e d=>by
   cases q:H b with
   | none=>rfl
   | some u =>
    have e':b=a:=hA b (by rw [q]; simp);subst e';rw [ha] at e; cases e;have d':Data.seq vs.toArray _=Data.dict es ep:=d;cases d'
  have nsK:∀ {b:Addr} {m:Str->Option Value},s₁.heap.Ns b m->(hidT s₁.heap H).Ns b m:=fun {b m} ⟨o,es,ep,e,d,r⟩=>⟨o,es,ep,base_of e (noA e d),d,r⟩;have hKb:K.In (hidT s₁.heap H):=fun b o e=>base_of (KX b o e) (by
   cases q:H b with
   | none=>rfl
   | some u =>
    have e':b=a:=hA b (by rw [q]; simp);subst e';rw [hK (by rw [q]; simp)] at e; cases e)
  have hM:Mod K mg (hidT s₁.heap H):=⟨hKb,nsK hns,⟨mb,nsK hb,hbb⟩,let ⟨mc,h1,h2⟩:=hlim; ⟨mc,nsK h1,h2⟩⟩;have e0:Env0 P w K mg (hidT s₁.heap H) Gv [] s₁ H:=⟨rfl,hM,fun b o e=>aqb3 e,Nat.le_of_eq (aZq _ _),trivial,fun b hb=>absurd (show b∈([]:List Addr) from hb) (by simp),hok,.of_eq hg⟩;refine C0 ((F _ hKb (nsK hns)).run Gv [] s₁ H ⟨[.ref a],[]⟩ [.ref a] [.ref a] _ _ hr e0 (hbind s₁ (.ref a)) (.cons rfl .nil) (hsp H hO hS)) fun r s' h=>?_;cases r with
  | error e=>exact (hCX H e s' h).elim
  | ok fl =>
   cases fl with
   | next=>exact Aq h
   | brk=>exact Aq h
   | cont=>exact Aq h
   | ret u =>
    obtain ⟨v,H',os,bare,un,hok',r',q⟩:=h;have q':v=.bl true:=q;subst q';obtain rfl:u=Value.bool true:=r';refine ⟨rfl,OldK.of_keep fun b o e=>?_,os,bare⟩;cases q:H b with
    | none=>exact un.keep b o e q (by intro z; exact absurd (show b∈([]:List Addr) from z) (by simp)) (by simp)
    | some u =>
     rcases hO b with z | ⟨ob,xs,z⟩
     ·rw [q] at z; cases z
     ·have z2:=un.frzs b ob _ z
      obtain ⟨e1,_⟩:=hok b _ z;obtain ⟨e2,_⟩:=hok' b _ z2;rw [e] at e1; cases e1;exact e2
 cases hk:K.lookup a with
 | some o =>
  have e:=KX a o hk;rw [ha] at e;cases e;refine core (fun _=>none) (fun _=>.inl rfl) (.inr ⟨_,vs.toArray,_,hk,rfl,rfl,rfl,by rw [size_toArray,lenV]; exact hl,by simpa using rv⟩) (fun b u z=>by have z':(none:Option HO)=some u:=z; cases z') (fun b z=>absurd rfl z) fun z=>absurd rfl z
 | none =>
  refine core (fun b=>if b=a then some (.frz { cls:=.type "list",data:=.seq vs.toArray } (.lst (ns.map V.int))) else none) (fun b=>?_) (.inl (.inr ⟨{ cls:=.type "list",data:=.seq vs.toArray },if_pos rfl⟩)) (fun b u z=>?_) (fun b z=>?_) fun _=>hk
  ·by_cases hb:b=a
   ·exact .inr ⟨_,_,if_pos hb⟩
   ·exact .inl (if_neg hb)
  ·by_cases hb:b=a
   ·have z':=(if_pos hb).symm.trans z
    cases z';subst hb;exact ⟨ha,by rw [length_map]; exact hl,vs,_,rv,ha⟩
   ·have z':=(if_neg hb).symm.trans z
    cases z'
  ·by_cases hb:b=a
   ·exact hb
   ·exact absurd (if_neg hb) z
theorem aZ5 {l:Ge} {n k:Nat} {q:Af} {loose:List Str} {XP:(Str->Option Value)->Heap->Prop} {YP:World->Heap->Prop} {d:DefRec} {K:Params->Frag} {CX:World->CXT} {sp:World->Sp} {x:Str}
  (hn:l.most=some n) (hn2:n <= Ad) (hdf:d.params.defaults=[]) (hr:Room k Gv)
  (hY:∀ (w:World) (h:Heap),YP w h->(K w.params).In h)
  (F:∀ (w:World) (mg:Str->Option Value) (fa:Addr) (h:Heap),(K w.params).In h->h.Ns Ak mg->mg d.name=some (.ref fa) ->
   ∃ fd:Am,(∀ (s:Shared) (u:Value),Hs s fd ⟨[u],[]⟩ [(x,u)]) /\
    ∀ base:Heap,(K w.params).In base->base.Ns Ak mg->FnOk l.prog w (K w.params) mg base (CX w) k fa fd [x] (sp w))
  (hsp:∀ (w:World) (H:Hp) (a:Addr) (ns:List Int),ns.length <= n->Only H->SqL (K w.params) H a (ns.map V.int)->sp w [.ref a] H (fun v _=>v=.bl true) fun _ _ _=>False)
  (hCX:∀ (w:World) (H:Hp) (s:Shared) (e:Value) (s':Shared),CX w [] H s (fun _ _ _=>False) e s'->False) :
  K2 q loose XP YP l.row.toRowW d [] (fun f vs=>PySem.call f vs):=by
 refine Att.attach_call hn hdf fun w s₀ s₁ mg mb fa o pm cd doc a vs ns G Y ho hd hcd hmg hobj hints hlen hg=>?_;have KX:=hY w _ Y;obtain ⟨fd,hb,hF⟩:=F w mg fa _ KX G.T.g hmg;exact law_call KX G.T.g G.T.b G.T.builtins G.T.nolimit hg hobj hints (le_trans hlen hn2) hr hF hb (fun H hO hS=>hsp w H a ns hlen hO hS) fun H e s'=>hCX w H s₁ e s'
def aU (s:Stmt) (j:Nat):Stmt:=match s with
 | .ClassDef _ _ _ body _ _ _ _ _ _ _=>body.getD j (.Pass ⟨0,0,0,0⟩)
 | _=>.Pass ⟨0,0,0,0⟩
def aqj (s:Stmt):Arguments:=match s with
 | .FunctionDef _ a _ _ _ _ _ _ _ _=>a
 | _=>{ posonlyargs:=[],args:=[],vararg:=none,kwonlyargs:=[],kw_defaults:=[],kwarg:=none,defaults:=[] }
def aQ (s:Stmt):List Stmt:=match s with
 | .FunctionDef _ _ b _ _ _ _ _ _ _=>b
 | _=>[]
def ai (s:Stmt):Scope:=match s with
 | .FunctionDef _ _ _ _ _ _ sc _ _ _=>sc
 | _=>{ kind:=.function,names:=[],isGenerator:=false,isCoroutine:=false }
abbrev CX0:CXT:=fun _ _ _ _ _ _=>False
abbrev E0:XK:=fun _ _ _=>False
theorem aqt {X:Cx}:azp CX0 X E0:=fun _ _ _ _ _ _ _ h=>h.elim
structure Fun (K:Frag) (x qual:Str) (st:Stmt) (f:Addr) (fd:Am):Prop where
 ex:∃ (oc:Value) (od:Option Addr) (kV doc pm:Value) (an:Option Addr) (cdv ct:Value) (osl:Array (Option Value)),
  fd=fnOf x qual (aqj st) (aQ st) (ai st) .none kV doc pm an cdv ct/\K.lookup f=some ⟨oc,od,.func fd,osl⟩/\L8 K cdv qual=true
 kp:G4 K (.ref f)=true
section
variable {P:Af} {w:World} {K:Frag} {mg:Str->Option Value} {base:Heap}
theorem Fun.ok {x qual:Str} {st:Stmt} {f:Addr} {fd:Am} {N ps:List Str} {k:Nat} {sp:Sp} (F:Fun K x qual st f fd) (S:FnScope N ps (ai st)) (len:∀ vs H Q E,sp vs H Q E->vs.length=ps.length)
  (hbody:∀ (cdv:Value) (A:Around) (outer:List Env) (s:Shared) (H:Hp) (vs:List V) (Q:VK) (E:XK),Room k (A.deeper (E1 qual (ai st) s.heap.objs.size f cdv))->sp vs H Q E ->
   ∃ t,PSs (aqi2 CX0 P w K mg base N qual (ai st) f cdv A outer s H E).nox (aQ st) t/\t { nx:=fun _ H'=>Q .non H',rt:=Q } (start N vs) H):FnOk P w K mg base CX0 (k + 1) f fd ps sp:=by
 obtain ⟨oc,od,kV,doc,pm,an,cdv,ct,osl,rfl,lk,hcd⟩:=F.ex;refine fn_of lk hcd S len fun A outer s H vs Q E hr hsp=>?_;obtain ⟨t,h,q⟩:=hbody cdv A outer s H vs Q E hr hsp;exact ⟨t,h.nox,q⟩
theorem Fun.binds {x qual:Str} {st:Stmt} {f:Addr} {fd:Am} {ps:List Str} (F:Fun K x qual st f fd)
  (h:∀ (kV doc pm:Value) (an:Option Addr) (cdv ct:Value) (us:List Value),us.length=ps.length->Mf (fnOf x qual (aqj st) (aQ st) (ai st) .none kV doc pm an cdv ct) ⟨us,[]⟩=pure (ps.zip us)):Binds K fd ps []:=by
 obtain ⟨oc,od,kV,doc,pm,an,cdv,ct,osl,rfl,lk,hcd⟩:=F.ex;exact .all (h kV doc pm an cdv ct)
theorem aW6 {x qual:Str} {st:Stmt} {f:Addr} {oc:Value} {od an:Option Addr} {osl:Array (Option Value)} {kV doc pm cdv ct:Value} (l:K.lookup f=some ⟨oc,od,.func (fnOf x qual (aqj st) (aQ st) (ai st) .none kV doc pm an cdv ct),osl⟩)
  (c:L8 K cdv qual=true) (k:G4 K (.ref f)=true):Fun K x qual st f (fnOf x qual (aqj st) (aQ st) (ai st) .none kV doc pm an cdv ct):=⟨⟨oc,od,kV,doc,pm,an,cdv,ct,osl,rfl,l,c⟩,k⟩
end
theorem aku {A:Around} {k:Nat} (hr:Room k A):A.units + 1 < cLine:=lt_of_le_of_lt (Nat.add_le_add_left (by decide:1 <= 64) _) hr.units
section
variable {X:Cx}
theorem pv (i:Nat) {x:Str} {pos:Pos} (hN:X.N[i]?=some x:=by rfl) (hv:Vis X.env.scope x:=by first | exact Or.inl rfl | exact Or.inr (Or.inl rfl) | exact Or.inr (Or.inr rfl)) (hd:(x == ("__debug__":Str))=false:=by decide)
  (hcd:(x == ("__classdict__":Str))=false:=by decide):PE X (.Name x pos) (aqhb i):=aqd7 hN hv hd hcd
end
theorem aqht {A B:Prop} (h:B):if false=true then A else B:=by
 rw [if_neg Al];exact h
theorem aqhs {A B:Prop} (h:A):if true=true then A else B:=by
 rw [if_pos rfl];exact h
theorem ite2 {c A B:Prop} [Decidable c] (h1:c->A) (h2:¬ c->B):if c then A else B:=by
 by_cases h:c
 ·rw [if_pos h]
  exact h1 h
 ·rw [if_neg h]
  exact h2 h
def aqi7 (H H':Hp):Prop:=∀ b o,H b=some o->H' b=some o
theorem aqi7.refl (H:Hp):aqi7 H H:=fun _ _ h=>h
theorem aqi7.trans {H H1 H2:Hp} (a:aqi7 H H1) (b:aqi7 H1 H2):aqi7 H H2:=fun c o h=>b c o (a c o h)
theorem aqi7.free {H H':Hp} (e:aqi7 H H') {l:Addr} (h:H' l=Option.none):H l=Option.none:=by
 cases q:H l with
 | none=>rfl
 | some o =>
  rw [e l o q] at h;cases h
theorem aqi7.seq {K:Frag} {H H':Hp} {a:Addr} {xs:List V} (e:aqi7 H H') (h:SqL K H a xs):SqL K H' a xs:=by
 rcases h with (h | ⟨o,h⟩) | h
 ·exact .inl (.inl (e _ _ h))
 ·exact .inl (.inr ⟨o,e _ _ h⟩)
 ·exact .inr h
end L2
namespace DL
open PySem
inductive D where
 | non | bl (b:Bool) | int (i:Int) | str (x:Str) | lst (xs:List D) | tup (xs:List D)
inductive O where
 | sh (d:D) | lst (os:List O) | tup (os:List O)
mutual
def imm:D->Bool
 | .lst _=>false
 | .tup ds=>aqhw ds
 | _=>true
def aqhw:List D->Bool
 | []=>true
 | d :: ds=>imm d && aqhw ds
end
mutual
def oD:O->Option D
 | .sh d=>some d
 | .lst os=>(oDs os).map D.lst
 | .tup os=>(oDs os).map D.tup
def oDs:List O->Option (List D)
 | []=>some []
 | o :: os=>(oD o).bind fun d=>(oDs os).map fun ds=>d :: ds
end
mutual
def oim:O->Bool
 | .sh d=>imm d
 | .lst os=>aqhl os
 | .tup os=>aqhl os
def aqhl:List O->Bool
 | []=>true
 | o :: os=>oim o && aqhl os
end
def ow (ds:List D):O:=.lst (ds.map O.sh)
abbrev Cs:=List (Option O)
abbrev aqih:=List (Option D)
abbrev FE:=aqih->Option D
abbrev FO:=aqih->Option O
abbrev FT:=aqih->Option Bool
abbrev FA:=aqih->Option (List D)
abbrev FAO:=aqih->Option (List O)
def aqif:Nat:=100000
def aqhy (i:Nat):FE:=fun ρ=>(ρ[i]?).bind id
def fC (d:D):FE:=fun _=>some d
def f2 (g:D->D->Option D) (a b:FE):FE:=fun ρ=>(a ρ).bind fun x=>(b ρ).bind fun y=>g x y
def f1 (g:D->Option D) (a:FE):FE:=fun ρ=>(a ρ).bind g
def fL (f:FO):FE:=fun ρ=>(f ρ).bind oD
def oE (f:FE):FO:=fun ρ=>(f ρ).map O.sh
def qV (f:FE):FT:=fun ρ=>(f ρ).bind fun d=>match d with | .bl b=>some b | _=>none
def qNot (f:FT):FT:=fun ρ=>(f ρ).map not
def qAnd (f g:FT):FT:=fun ρ=>(f ρ).bind fun x=>if x=true then g ρ else some false
def qOr (f g:FT):FT:=fun ρ=>(f ρ).bind fun x=>if x=true then some true else g ρ
def fB (f:FT):FE:=fun ρ=>(f ρ).map D.bl
def fNot (f:FE):FE:=fB (qNot (qV f))
def fAnd (f g:FE):FE:=fun ρ=>(qV f ρ).bind fun x=>if x=true then g ρ else some (.bl false)
def fOr (f g:FE):FE:=fun ρ=>(qV f ρ).bind fun x=>if x=true then some (.bl true) else g ρ
def fIf (c:FT) (f g:FE):FE:=fun ρ=>(c ρ).bind fun x=>if x=true then f ρ else g ρ
def aNil:FA:=fun _=>some []
def aCons (f:FE) (g:FA):FA:=fun ρ=>(f ρ).bind fun d=>(g ρ).map fun ds=>d :: ds
def aoNil:FAO:=fun _=>some []
def aoCons (f:FO) (g:FAO):FAO:=fun ρ=>(f ρ).bind fun d=>(g ρ).map fun ds=>d :: ds
def fTup (g:FA):FE:=fun ρ=>(g ρ).bind fun ds=>if ds.length <= aqif then some (.tup ds) else none
def oLst (g:FA):FO:=fun ρ=>(g ρ).bind fun ds=>if ds.length <= aqif then some (ow ds) else none
def oLstO (g:FAO):FO:=fun ρ=>(g ρ).bind fun os=>if os.length <= aqif then some (.lst os) else none
def oTupO (g:FAO):FO:=fun ρ=>(g ρ).bind fun os=>if os.length <= aqif then some (.tup os) else none
def fCall (n:Nat) (g:List D->Option D) (f:FA):FE:=fun ρ=>(f ρ).bind fun ds=>if ds.length=n then g ds else none
def oCall (n:Nat) (g:List D->Option O) (f:FA):FO:=fun ρ=>(f ρ).bind fun ds=>if ds.length=n then g ds else none
def fBlt (g:List D->Option D) (f:FA):FE:=fun ρ=>(f ρ).bind g
def oBlt (g:List D->Option (List D)) (f:FA):FO:=fun ρ=>((f ρ).bind g).map ow
def o2 (g:D->D->Option (List D)) (a b:FE):FO:=fun ρ=>((a ρ).bind fun x=>(b ρ).bind fun y=>g x y).map ow
abbrev GE:=D->aqih->Option aqih
def mkD (js:List (Option Nat)) (ρ:aqih):aqih:=js.map fun o=>o.bind fun j=>(ρ[j]?).bind id
def qT:FT:=fun _=>some true
def lstOf:D->Option (List D)
 | .lst ds=>some ds
 | _=>none
inductive Out where
 | nx (ρ:Cs) | bk (ρ:Cs) | ct (ρ:Cs) | rt (o:O) (ρ:Cs) | ex (c:Str) (ρ:Cs)
abbrev Blk:=Cs->Option Out
def fzc:Option O->Option O
 | some o=>match oD o with | some d=>some (.sh d) | none=>some o
 | none=>none
def frz:List Bool->Cs->aqih
 | b :: S,c :: ρ=>(if b=true then c.bind oD else none) :: frz S ρ
 | _,_=>[]
def fz:List Bool->Cs->Cs
 | b :: S,c :: ρ=>(if b=true then fzc c else c) :: fz S ρ
 | _,ρ=>ρ
def all (ρ:Cs):aqih:=ρ.map fun c=>c.bind oD
abbrev FM:=Cs->Option (O × Cs)
def mE (S:List Bool) (f:FE):FM:=fun ρ=>(f (frz S ρ)).map fun d=>(.sh d,if imm d=true then ρ else fz S ρ)
def mO (S:List Bool) (f:FO):FM:=fun ρ=>(f (frz S ρ)).map fun o=>(o,if oim o=true then ρ else fz S ρ)
def mMv (i:Nat):FM:=fun ρ=>((ρ[i]?).bind id).map fun o=>(o,ρ.set i none)
def bNil:Blk:=fun ρ=>some (.nx ρ)
def bSeq (b c:Blk):Blk:=fun ρ=>match b ρ with
 | some (.nx ρ')=>c ρ'
 | o=>o
def bSet (i:Nat) (f:FM):Blk:=fun ρ=>(f ρ).map fun p=>.nx (p.2.set i (some p.1))
def bRet (f:FM):Blk:=fun ρ=>(f ρ).map fun p=>.rt p.1 p.2
def bRetN:Blk:=fun ρ=>some (.rt (.sh .non) ρ)
def bExpr (f:FM):Blk:=fun ρ=>(f ρ).map fun p=>.nx p.2
def bIf (c:FT) (a b:Blk):Blk:=fun ρ=>(c (DL.all ρ)).bind fun t=>if t=true then a ρ else b ρ
def bPass:Blk:=fun ρ=>some (.nx ρ)
def bBrk:Blk:=fun ρ=>some (.bk ρ)
def bCnt:Blk:=fun ρ=>some (.ct ρ)
abbrev GD:=D->Cs->Option Cs
def gN (i:Nat):GD:=fun d ρ=>some (ρ.set i (some (.sh d)))
theorem bind_some {α β:Type} {o:Option α} {f:α->Option β} {y:β} (h:o.bind f=some y):∃ x,o=some x/\f x=some y:=by
 cases o with
 | none=>cases h
 | some x=>exact ⟨x,rfl,h⟩
theorem map_some {α β:Type} {o:Option α} {f:α->β} {y:β} (h:o.map f=some y):∃ x,o=some x/\f x=y:=by
 cases o with
 | none=>cases h
 | some x=>exact ⟨x,rfl,Option.some.inj h⟩
inductive Stp where
 | ix (i:Int) | fl (x:Str)
def ixP (n:Nat) (i:Int):Option Nat:=if 0 <= i then (if i < n then some i.toNat else none) else if -(n:Int) <= i then some (i + n).toNat else none
def atP {α:Type} (xs:List α) (i:Int):Option α:=(ixP xs.length i).bind fun j=>xs[j]?
def plc:O->Stp->Option Nat
 | .lst os,.ix i=>ixP os.length i
 | .tup os,.ix i=>ixP os.length i
 | _,_=>none
def kids:O->List O
 | .lst os=>os
 | .tup os=>os
 | _=>[]
def reset:O->List O->O
 | .lst _,os=>.lst os
 | .tup _,os=>.tup os
 | o,_=>o
def atO (g:O->Option O):List Stp->O->Option O
 | [],o=>g o
 | s :: p,o=>(plc o s).bind fun n=>((kids o)[n]?).bind fun c=>(atO g p c).map fun c'=>reset o ((kids o).set n c')
def getO:List Stp->O->Option O
 | [],o=>some o
 | s :: p,o=>(plc o s).bind fun n=>((kids o)[n]?).bind fun c=>getO p c
abbrev FP:=aqih->Option (List Stp)
def pNil:FP:=fun _=>some []
def isL:O->Bool
 | .lst _=>true
 | _=>false
def bMut (i:Nat) (S:List Bool) (p:FP) (f:FM) (g:O->O->Option O):Blk:=fun ρ=>(p (frz S ρ)).bind fun q=>((ρ[i]?).bind id).bind fun c0=>(getO q c0).bind fun m=>if isL m=true then
  (f ρ).bind fun r=>((r.2[i]?).bind id).bind fun c=>(atO (g r.1) q c).map fun c'=>.nx (r.2.set i (some c')) else none
def ini (m:Nat) (ds:List D):Cs:=ds.map (fun d=>some (.sh d))++Au (m - ds.length) none
def runO (m:Nat) (b:Blk):List D->Option O:=fun ds=>match b (ini m ds) with
 | some (.rt o _)=>some o
 | some (.nx _)=>some (.sh .non)
 | _=>none
def runD (m:Nat) (b:Blk):List D->Option D:=fun ds=>(runO m b ds).bind oD
def BIG:Nat:=2 ^ 1000000
def BIGD:Nat:=2 ^ 9000
def SHORT:Nat:=2 ^ 63
def aWs (i j:Int):Prop:=(i.natAbs < BIG/\j.natAbs < BIG) \/ i.natAbs < SHORT \/ j.natAbs < SHORT
instance (i j:Int):Decidable (aWs i j):=inferInstanceAs (Decidable (_ \/ _ \/ _))
def dI (g:Int->Int->Int):D->D->Option D
 | .int i,.int j=>some (.int (g i j))
 | _,_=>none
def dB (g:Int->Int->Bool):D->D->Option D
 | .int i,.int j=>some (.bl (g i j))
 | _,_=>none
def dAdd:D->D->Option D
 | .int i,.int j=>some (.int (i + j))
 | .str x,.str y=>if x.length + y.length <= aqif then some (.str (x++y)) else none
 | _,_=>none
def dSub:D->D->Option D:=dI fun i j=>i - j
def aqi0:D->D->Option D
 | .int i,.int j=>if aWs i j then some (.int (i * j)) else none
 | _,_=>none
def dDiv:D->D->Option D
 | .int i,.int j=>if j ≠ 0/\j.natAbs < BIGD then some (.int (i.fdiv j)) else none
 | _,_=>none
def aqi1:D->D->Option D
 | .int i,.int j=>if j ≠ 0 then some (.int (i.fmod j)) else none
 | _,_=>none
def dPow:D->D->Option D
 | .int i,.int j=>if 0 <= j/\j <= 1000/\i.natAbs < 1000 then some (.int (i ^ j.toNat)) else none
 | _,_=>none
def dNeg:D->Option D
 | .int i=>some (.int (-i))
 | _=>none
def dLt:D->D->Option D:=dB fun i j=>decide (i < j)
def dLe:D->D->Option D:=dB fun i j=>decide (i <= j)
def dGt:D->D->Option D:=dB fun i j=>decide (j < i)
def dGe:D->D->Option D:=dB fun i j=>decide (j <= i)
mutual
def eqD:D->D->Bool
 | .non,.non=>true
 | .bl a,.bl b=>a == b
 | .int i,.int j=>i == j
 | .bl a,.int j=>(if a=true then 1 else 0) == j
 | .int i,.bl b=>i == (if b=true then 1 else 0)
 | .str x,.str y=>x == y
 | .lst xs,.lst ys=>aqhz xs ys
 | .tup xs,.tup ys=>aqhz xs ys
 | _,_=>false
def aqhz:List D->List D->Bool
 | [],[]=>true
 | x :: xs,y :: ys=>eqD x y && aqhz xs ys
 | _,_=>false
end
mutual
def shp:Nat->D->Bool
 | _,.non=>true
 | _,.bl _=>true
 | _,.int _=>true
 | _,.str x=>x.cps.all (· < 0x110000)
 | 0,.lst _=>false
 | n + 1,.lst xs=>aqhd n xs
 | 0,.tup _=>false
 | n + 1,.tup xs=>aqhd n xs
def aqhd:Nat->List D->Bool
 | _,[]=>true
 | n,x :: xs=>shp n x && aqhd n xs
end
def dEq (x y:D):Option D:=if shp 20 x=true/\shp 20 y=true then some (.bl (eqD x y)) else none
def dNe (x y:D):Option D:=if shp 20 x=true/\shp 20 y=true then some (.bl (!eqD x y)) else none
def dIs:D->D->Option D
 | .bl a,.bl b=>some (.bl (a == b))
 | x,.non=>match x with | .non=>some (.bl true) | _=>some (.bl false)
 | _,_=>none
def dIsN:D->D->Option D
 | .bl a,.bl b=>some (.bl (a != b))
 | x,.non=>match x with | .non=>some (.bl false) | _=>some (.bl true)
 | _,_=>none
def dIn:D->D->Option D
 | x,.lst ds=>if shp 20 x=true/\shp 20 (.lst ds)=true then some (.bl (ds.any fun y=>eqD y x)) else none
 | x,.tup ds=>if shp 20 x=true/\shp 20 (.tup ds)=true then some (.bl (ds.any fun y=>eqD y x)) else none
 | _,_=>none
def dNotIn:D->D->Option D
 | x,.lst ds=>if shp 20 x=true/\shp 20 (.lst ds)=true then some (.bl (!ds.any fun y=>eqD y x)) else none
 | x,.tup ds=>if shp 20 x=true/\shp 20 (.tup ds)=true then some (.bl (!ds.any fun y=>eqD y x)) else none
 | _,_=>none
def dIx:D->D->Option D
 | .lst xs,.int i=>atP xs i
 | .tup xs,.int i=>atP xs i
 | _,_=>none
def dLen:List D->Option D
 | [.lst xs]=>some (.int xs.length)
 | [.tup xs]=>some (.int xs.length)
 | _=>none
def dAbs:List D->Option D
 | [.int i]=>some (.int (if i < 0 then -i else i))
 | _=>none
def dMax2:List D->Option D
 | [.int i,.int j]=>some (.int (if j > i then j else i))
 | _=>none
def dMin2:List D->Option D
 | [.int i,.int j]=>some (.int (if j < i then j else i))
 | _=>none
def tyD:D->String
 | .non=>"NoneType"
 | .bl _=>"bool"
 | .int _=>"int"
 | .str _=>"str"
 | .lst _=>"list"
 | .tup _=>"tuple"
def isT (d:D) (T:String):Bool:=tyD d == T || (tyD d == "bool" && T == "int")
def aqhu (T:String):D->Option D
 | d=>some (.bl (isT d T))
def fIsi (T:String) (f:FE):FE:=fun ρ=>(f ρ).bind (aqhu T)
def bndP (lo hi st:Option Int) (n:Nat):Int × Int × Int :=
 let step:=st.getD 1
 let clip (v:Option Int) (dflt:Int):Int:=match v with
  | none=>dflt
  | some i=>let i:=if i < 0 then i + n else i; if step > 0 then max 0 (min i n) else max (-1) (min i ((n:Int) - 1))
 (clip lo (if step > 0 then 0 else (n:Int) - 1),clip hi (if step > 0 then n else -1),step)
def rngP (start stop step:Int):List Nat :=
 let count : Int := if step > 0 then (if start < stop then (stop - start + step - 1) / step else 0)
                    else (if start > stop then (start - stop - step - 1) / (-step) else 0)
 (Ay count.toNat).map fun (k:Nat)=>(start + step * (k:Int)).toNat
def aYj {α:Type} (xs:List α) (lo hi st:Option Int):List α:=(rngP (bndP lo hi st xs.length).1 (bndP lo hi st xs.length).2.1 (bndP lo hi st xs.length).2.2).filterMap (xs[·]?)
def lList:List D->Option (List D)
 | [.lst ds]=>some ds
 | [.tup ds]=>some ds
 | _=>none
def dTuple:List D->Option D
 | [.lst ds]=>some (.tup ds)
 | [.tup ds]=>some (.tup ds)
 | _=>none
end DL
namespace DL
open PySem
section
variable {ρ:aqih} {σ:Cs} {f g:FE} {a:FA} {p q:FT} {o:FO}
@[simp] theorem aqfm {i:Nat}:aqhy i ρ=(ρ[i]?).bind id:=rfl
@[simp] theorem fC_ap {d:D}:fC d ρ=some d:=rfl
@[simp] theorem f2_ap {o:D->D->Option D}:f2 o f g ρ=(f ρ).bind fun x=>(g ρ).bind fun y=>o x y:=rfl
@[simp] theorem f1_ap {o:D->Option D}:f1 o f ρ=(f ρ).bind o:=rfl
@[simp] theorem fL_ap:fL o ρ=(o ρ).bind oD:=rfl
@[simp] theorem oE_ap:oE f ρ=(f ρ).map O.sh:=rfl
@[simp] theorem qV_ap:qV f ρ=(f ρ).bind fun d=>match d with | .bl b=>some b | _=>none:=rfl
@[simp] theorem qT_ap:qT ρ=some true:=rfl
@[simp] theorem aqf0:qNot p ρ=(p ρ).map not:=rfl
@[simp] theorem aqf1:qAnd p q ρ=(p ρ).bind fun x=>if x=true then q ρ else some false:=rfl
@[simp] theorem aqgb:qOr p q ρ=(p ρ).bind fun x=>if x=true then some true else q ρ:=rfl
@[simp] theorem fB_ap:fB p ρ=(p ρ).map D.bl:=rfl
@[simp] theorem aqfo:fNot f ρ=((qV f ρ).map not).map D.bl:=rfl
@[simp] theorem aqfr:fAnd f g ρ=(qV f ρ).bind fun x=>if x=true then g ρ else some (.bl false):=rfl
@[simp] theorem aqgs:fOr f g ρ=(qV f ρ).bind fun x=>if x=true then some (.bl true) else g ρ:=rfl
@[simp] theorem aqgt:fIf p f g ρ=(p ρ).bind fun x=>if x=true then f ρ else g ρ:=rfl
@[simp] theorem aqg9:aNil ρ=some []:=rfl
@[simp] theorem aqev:aCons f a ρ=(f ρ).bind fun d=>(a ρ).map fun ds=>d :: ds:=rfl
@[simp] theorem aqes:aoNil ρ=some []:=rfl
@[simp] theorem aqd0 {h:FAO}:aoCons o h ρ=(o ρ).bind fun d=>(h ρ).map fun ds=>d :: ds:=rfl
@[simp] theorem aqfn:fTup a ρ=(a ρ).bind fun ds=>if ds.length <= aqif then some (.tup ds) else none:=rfl
@[simp] theorem aqf5:oLst a ρ=(a ρ).bind fun ds=>if ds.length <= aqif then some (ow ds) else none:=rfl
@[simp] theorem aqdk {h:FAO}:oLstO h ρ=(h ρ).bind fun ds=>if ds.length <= aqif then some (.lst ds) else none:=rfl
@[simp] theorem aqdj {h:FAO}:oTupO h ρ=(h ρ).bind fun ds=>if ds.length <= aqif then some (.tup ds) else none:=rfl
@[simp] theorem aqe9 {n:Nat} {h:List D->Option D}:fCall n h a ρ=(a ρ).bind fun ds=>if ds.length=n then h ds else none:=rfl
@[simp] theorem aqdm {n:Nat} {h:List D->Option O}:oCall n h a ρ=(a ρ).bind fun ds=>if ds.length=n then h ds else none:=rfl
@[simp] theorem aqfq {h:List D->Option D}:fBlt h a ρ=(a ρ).bind h:=rfl
@[simp] theorem aqf8 {h:List D->Option (List D)}:oBlt h a ρ=((a ρ).bind h).map ow:=rfl
@[simp] theorem o2_ap {h:D->D->Option (List D)}:o2 h f g ρ=((f ρ).bind fun x=>(g ρ).bind fun y=>h x y).map ow:=rfl
@[simp] theorem aqfp {T:String}:fIsi T f ρ=(f ρ).bind (aqhu T):=rfl
@[simp] theorem aqe1 {T:String} {i:Int}:aqhu T (.int i)=some (.bl (isT (.int i) T)):=rfl
@[simp] theorem aqfc {T:String} {i:Bool}:aqhu T (.bl i)=some (.bl (isT (.bl i) T)):=rfl
@[simp] theorem aqdy {T:String} {i:Str}:aqhu T (.str i)=some (.bl (isT (.str i) T)):=rfl
@[simp] theorem aqdz {T:String}:aqhu T .non=some (.bl (isT .non T)):=rfl
@[simp] theorem aqe0 {T:String} {i:List D}:aqhu T (.lst i)=some (.bl (isT (.lst i) T)):=rfl
@[simp] theorem aqdx {T:String} {i:List D}:aqhu T (.tup i)=some (.bl (isT (.tup i) T)):=rfl
@[simp] theorem mE_ap {S:List Bool}:mE S f σ=(f (frz S σ)).map fun d=>(.sh d,if imm d=true then σ else fz S σ):=rfl
@[simp] theorem mO_ap {S:List Bool}:mO S o σ=(o (frz S σ)).map fun o=>(o,if oim o=true then σ else fz S σ):=rfl
@[simp] theorem aqgg {i:Nat}:mMv i σ=((σ[i]?).bind id).map fun o=>(o,σ.set i none):=rfl
@[simp] theorem aqg1 {b c:Blk}:bSeq b c σ=(match b σ with | some (.nx ρ')=>c ρ' | o=>o):=rfl
@[simp] theorem aqg3:bNil σ=some (.nx σ):=rfl
@[simp] theorem aqep:bPass σ=some (.nx σ):=rfl
@[simp] theorem aqg6:bBrk σ=some (.bk σ):=rfl
@[simp] theorem aqg5:bCnt σ=some (.ct σ):=rfl
@[simp] theorem aqg0 {i:Nat} {m:FM}:bSet i m σ=(m σ).map fun p=>.nx (p.2.set i (some p.1)):=rfl
@[simp] theorem aqg2 {m:FM}:bRet m σ=(m σ).map fun p=>.rt p.1 p.2:=rfl
@[simp] theorem aqeo:bRetN σ=some (.rt (.sh .non) σ):=rfl
@[simp] theorem aqeq {m:FM}:bExpr m σ=(m σ).map fun p=>.nx p.2:=rfl
@[simp] theorem aqh8 {b c:Blk}:bIf p b c σ=(p (all σ)).bind fun t=>if t=true then b σ else c σ:=rfl
@[simp] theorem aqfl {S:List Bool}:frz S []=[]:=by cases S <;> rfl
@[simp] theorem frz_t {S:List Bool} {c:Option O}:frz (true :: S) (c :: σ)=c.bind oD :: frz S σ:=rfl
@[simp] theorem frz_f {S:List Bool} {c:Option O}:frz (false :: S) (c :: σ)=none :: frz S σ:=rfl
@[simp] theorem aqgr {S:List Bool}:fz S []=[]:=by cases S <;> rfl
@[simp] theorem aqfk:fz [] σ=σ:=by cases σ <;> rfl
@[simp] theorem fz_t {S:List Bool} {c:Option O}:fz (true :: S) (c :: σ)=fzc c :: fz S σ:=rfl
@[simp] theorem fz_f {S:List Bool} {c:Option O}:fz (false :: S) (c :: σ)=c :: fz S σ:=rfl
@[simp] theorem aqe7:fzc none=none:=rfl
@[simp] theorem aqgp {d:D}:fzc (some (.sh d))=some (.sh d):=by simp [fzc,oD]
@[simp] theorem aqg8:all []=[]:=rfl
@[simp] theorem all_cons {c:Option O}:all (c :: σ)=c.bind oD :: all σ:=rfl
@[simp] theorem oD_sh {d:D}:oD (.sh d)=some d:=by simp [oD]
@[simp] theorem aqf7 {ds:List D}:oDs (ds.map O.sh)=some ds:=by
 induction ds with
 | nil=>simp [oDs]
 | cons d ds ih=>simp [oDs,ih]
@[simp] theorem oD_ow {ds:List D}:oD (ow ds)=some (.lst ds):=by simp [ow,oD]
@[simp] theorem aqgf {os:List O}:oD (.lst os)=(oDs os).map D.lst:=by simp [oD]
@[simp] theorem aqge {os:List O}:oD (.tup os)=(oDs os).map D.tup:=by simp [oD]
@[simp] theorem aqf6:oDs []=some []:=by simp [oDs]
@[simp] theorem aqdl {x:O} {xs:List O}:oDs (x :: xs)=(oD x).bind fun d=>(oDs xs).map fun ds=>d :: ds:=by simp [oDs]
@[simp] theorem aqgq {ds:List D}:fzc (some (ow ds))=some (.sh (.lst ds)):=by simp [fzc]
@[simp] theorem aqfi {i:Int}:imm (.int i)=true:=by simp [imm]
@[simp] theorem aqgo {i:Bool}:imm (.bl i)=true:=by simp [imm]
@[simp] theorem aqff {i:Str}:imm (.str i)=true:=by simp [imm]
@[simp] theorem aqfg:imm .non=true:=by simp [imm]
@[simp] theorem aqfh {ds:List D}:imm (.lst ds)=false:=by simp [imm]
@[simp] theorem aqfe {ds:List D}:imm (.tup ds)=aqhw ds:=by simp [imm]
@[simp] theorem aqe3:aqhw []=true:=by simp [aqhw]
@[simp] theorem aqcp {d:D} {ds:List D}:aqhw (d :: ds)=(imm d && aqhw ds):=by simp [aqhw]
@[simp] theorem aqco {ns:List Int}:aqhw (ns.map D.int)=true:=by
 induction ns with
 | nil=>simp
 | cons n ns ih=>simp [ih]
@[simp] theorem aqgc {d:D}:oim (.sh d)=imm d:=by simp [oim]
@[simp] theorem aqf4 {os:List O}:oim (.lst os)=aqhl os:=by simp [oim]
@[simp] theorem aqf3 {os:List O}:oim (.tup os)=aqhl os:=by simp [oim]
@[simp] theorem aqdh:aqhl []=true:=by simp [aqhl]
@[simp] theorem aqck {x:O} {xs:List O}:aqhl (x :: xs)=(oim x && aqhl xs):=by simp [aqhl]
@[simp] theorem aqdi {ds:List D}:aqhl (ds.map O.sh)=aqhw ds:=by
 induction ds with
 | nil=>simp
 | cons d ds ih=>simp [ih]
@[simp] theorem aqgd {ds:List D}:oim (ow ds)=aqhw ds:=by simp [ow]
@[simp] theorem dI_ap {o:Int->Int->Int} {i j:Int}:dI o (.int i) (.int j)=some (.int (o i j)):=rfl
@[simp] theorem dB_ap {o:Int->Int->Bool} {i j:Int}:dB o (.int i) (.int j)=some (.bl (o i j)):=rfl
@[simp] theorem aqfz {i j:Int}:dAdd (.int i) (.int j)=some (.int (i + j)):=rfl
@[simp] theorem aqfs {i j:Int}:dSub (.int i) (.int j)=some (.int (i - j)):=rfl
@[simp] theorem aqgx {i j:Int}:dLt (.int i) (.int j)=some (.bl (decide (i < j))):=rfl
@[simp] theorem aqh0 {i j:Int}:dLe (.int i) (.int j)=some (.bl (decide (i <= j))):=rfl
@[simp] theorem aqh2 {i j:Int}:dGt (.int i) (.int j)=some (.bl (decide (j < i))):=rfl
@[simp] theorem aqh3 {i j:Int}:dGe (.int i) (.int j)=some (.bl (decide (j <= i))):=rfl
@[simp] theorem aqft {i:Int}:dNeg (.int i)=some (.int (-i)):=rfl
theorem aqc1 {i j:Int} (h:i.natAbs < 2 ^ 63):aqi0 (.int i) (.int j)=some (.int (i * j)):=by
 have:aWs i j:=.inr (.inl h)
 simp [aqi0,this]
theorem aqc0 {i j:Int} (h:j.natAbs < 2 ^ 63):aqi0 (.int i) (.int j)=some (.int (i * j)):=by
 have:aWs i j:=.inr (.inr h)
 simp [aqi0,this]
theorem aqc3 {i j:Int} (h:j ≠ 0) (h':j.natAbs < BIGD):dDiv (.int i) (.int j)=some (.int (i.fdiv j)):=by simp [dDiv,h,h']
theorem ax4 {i j:Int} (h:j ≠ 0):aqi1 (.int i) (.int j)=some (.int (i.fmod j)):=by simp [aqi1,h]
@[simp] theorem aqh5 {i j:Int}:dEq (.int i) (.int j)=some (.bl (i == j)):=by simp [dEq,shp,eqD]
@[simp] theorem aqgv {i j:Int}:dNe (.int i) (.int j)=some (.bl (i != j)):=by simp [dNe,shp,eqD,bne]
@[simp] theorem aqh6 {i j:Bool}:dEq (.bl i) (.bl j)=some (.bl (i == j)):=by simp [dEq,shp,eqD]
@[simp] theorem aqgw {i j:Bool}:dNe (.bl i) (.bl j)=some (.bl (i != j)):=by simp [dNe,shp,eqD,bne]
@[simp] theorem aqh4 {a b c d:Int}:dEq (.tup [.int a,.int b]) (.tup [.int c,.int d])=some (.bl (a == c && b == d)):=by simp [dEq,shp,aqhd,eqD,aqhz]
@[simp] theorem aqgu {a b c d:Int}:dNe (.tup [.int a,.int b]) (.tup [.int c,.int d])=some (.bl (!(a == c && b == d))):=by simp [dNe,shp,aqhd,eqD,aqhz]
@[simp] theorem aqh1 {i j:Bool}:dIs (.bl i) (.bl j)=some (.bl (i == j)):=rfl
@[simp] theorem aqfx {i j:Bool}:dIsN (.bl i) (.bl j)=some (.bl (i != j)):=rfl
@[simp] theorem aqf9 {ds:List D}:lstOf (.lst ds)=some ds:=rfl
@[simp] theorem aqgz {ds:List D}:dLen [.lst ds]=some (.int ds.length):=rfl
@[simp] theorem aqgy {ds:List D}:dLen [.tup ds]=some (.int ds.length):=rfl
@[simp] theorem aqh7 {i:Int}:dAbs [.int i]=some (.int (if i < 0 then -i else i)):=rfl
@[simp] theorem aqfw {i j:Int}:dMax2 [.int i,.int j]=some (.int (if j > i then j else i)):=rfl
@[simp] theorem aqfv {i j:Int}:dMin2 [.int i,.int j]=some (.int (if j < i then j else i)):=rfl
@[simp] theorem aqfb {ds:List D}:lList [.lst ds]=some ds:=rfl
@[simp] theorem aqfa {ds:List D}:lList [.tup ds]=some ds:=rfl
@[simp] theorem aqef {ds:List D}:dTuple [.lst ds]=some (.tup ds):=rfl
@[simp] theorem aqeh {a:D} {ds:List D}:dIx (.tup (a :: ds)) (.int 0)=some a:=by simp [dIx,atP,ixP]
@[simp] theorem aqeg {a b:D} {ds:List D}:dIx (.tup (a :: b :: ds)) (.int 1)=some b:=by
 have:(1:Int) < (ds.length:Int) + 1 + 1:=by omega
 simp [dIx,atP,ixP,this]
theorem aqc9 {α:Type} {ds:List α} {i:Nat} (h:i < ds.length):atP ds (i:Int)=some ds[i]:=by
 unfold atP ixP;simp [h]
theorem dIx_l {ds:List D} {i:Nat} (h:i < ds.length):dIx (.lst ds) (.int (i:Int))=some ds[i]:=aqc9 h
end
@[simp] theorem aqgj {i:Int}:isT (.int i) "int"=true:=rfl
@[simp] theorem aqgk {i:Int}:isT (.int i) "bool"=false:=rfl
@[simp] theorem aqgl {i:Bool}:isT (.bl i) "int"=true:=rfl
@[simp] theorem aqgm {i:Bool}:isT (.bl i) "bool"=true:=rfl
@[simp] theorem aqgh {ds:List D}:isT (.tup ds) "tuple"=true:=rfl
@[simp] theorem aqgi {ds:List D}:isT (.lst ds) "list"=true:=rfl
@[simp] theorem aqgn {ds:List D}:isL (ow ds)=true:=rfl
@[simp] theorem aqfd {os:List O}:isL (.lst os)=true:=rfl
@[simp] theorem aqe6 {o:O}:getO [] o=some o:=rfl
@[simp] theorem aqg7 {g:O->Option O} {o:O}:atO g [] o=g o:=rfl
@[simp] theorem aqf2 {ρ:aqih}:pNil ρ=some []:=rfl
@[simp] theorem aqg4 {i:Nat} {S:List Bool} {p:FP} {f:FM} {g:O->O->Option O} {ρ:Cs}:bMut i S p f g ρ=(p (frz S ρ)).bind fun q=>((ρ[i]?).bind id).bind fun c0=>(getO q c0).bind fun m=>if isL m=true then
  (f ρ).bind fun r=>((r.2[i]?).bind id).bind fun c=>(atO (g r.1) q c).map fun c'=>.nx (r.2.set i (some c')) else none:=rfl
mutual
theorem axh:∀ {n:Nat} {d:D},shp n d=true->eqD d d=true
 | n,.non,_=>by simp [eqD]
 | n,.bl _,_=>by simp [eqD]
 | n,.int _,_=>by simp [eqD]
 | n,.str _,_=>by simp [eqD]
 | 0,.lst _,h=>by simp [shp] at h
 | n + 1,.lst xs,h=>by simp only [eqD]; exact azj (n:=n) (by simpa [shp] using h)
 | 0,.tup _,h=>by simp [shp] at h
 | n + 1,.tup xs,h=>by simp only [eqD]; exact azj (n:=n) (by simpa [shp] using h)
theorem azj:∀ {n:Nat} {ds:List D},aqhd n ds=true->aqhz ds ds=true
 | n,[],_=>by simp [aqhz]
 | n,d :: ds,h=>by
  have h':shp n d=true/\aqhd n ds=true:=by simpa [aqhd] using h
  simp [aqhz,axh h'.1,azj h'.2]
end
theorem aKi {n:Nat} {ds:List D}:aqhd n ds=true ↔ ∀ d∈ds,shp n d=true:=by
 induction ds with
 | nil=>simp [aqhd]
 | cons d ds ih=>simp [aqhd,ih]
@[simp] theorem aqey {n:Nat} {i:Int}:shp n (.int i)=true:=by simp [shp]
@[simp] theorem aqga {n:Nat} {i:Bool}:shp n (.bl i)=true:=by simp [shp]
@[simp] theorem aqex {n:Nat}:shp n .non=true:=by simp [shp]
@[simp] theorem aqa1 {n:Nat} {ds:List D}:shp (n + 1) (.lst ds)=aqhd n ds:=by simp [shp]
@[simp] theorem aqew {n:Nat} {ds:List D}:shp (n + 1) (.tup ds)=aqhd n ds:=by simp [shp]
@[simp] theorem aqd4 {n:Nat}:aqhd n []=true:=by simp [aqhd]
@[simp] theorem aqcg {n:Nat} {d:D} {ds:List D}:aqhd n (d :: ds)=(shp n d && aqhd n ds):=by simp [aqhd]
@[simp] theorem aqcf {n:Nat} {ns:List Int}:aqhd n (ns.map D.int)=true:=by
 induction ns with
 | nil=>simp
 | cons m ns ih=>simp [ih]
theorem aZt {xs ys:List Int}:aqhz (xs.map D.int) (ys.map D.int)=decide (xs=ys):=by
 induction xs generalizing ys with
 | nil=>cases ys <;> simp [aqhz]
 | cons x xs ih=>cases ys with
  | nil=>simp [aqhz]
  | cons y ys=>simp [aqhz,eqD,ih]; rw [Ax]; simp
end DL
namespace DL
open PySem PySem.Spec PyProof.Rows L2
theorem aZ3:Aw "int"=some (.type "int"):=by decide +kernel
theorem aZ2:Aw "str"=some (.type "str"):=by decide +kernel
theorem aXf:Aw "list"=some (.type "list"):=by decide +kernel
theorem azn:Aw "tuple"=some (.type "tuple"):=by decide +kernel
theorem aqek:Aw "set"=some (.type "set"):=by decide +kernel
theorem av8:Aw "enumerate"=some (.type "enumerate"):=by decide +kernel
theorem aqel:Aw "max"=some (.builtin "max"):=by decide +kernel
theorem ajb:Aw "len"=some (.builtin "len"):=by decide +kernel
theorem azo:Aw "sorted"=some (.builtin "sorted"):=by decide +kernel
theorem aZ4:Aw "all"=some (.builtin "all"):=by decide +kernel
theorem avg:Aw "isinstance"=some (.builtin "isinstance"):=by decide +kernel
end DL
set_option maxHeartbeats 1000000
namespace DL
open PySem PySem.Spec PyProof.Rows L2
abbrev St:=L2.St
theorem seqT {K:Frag} {H H':Hp} {a:Addr} {xs:List V} (e:aqi7 H H') (h:SqT K H a xs):SqT K H' a xs:=by
 rcases h with (h | ⟨o,h⟩) | h
 ·exact .inl (.inl (e _ _ h))
 ·exact .inl (.inr ⟨o,e _ _ h⟩)
 ·exact .inr h
def SqE (K:Frag) (H:Hp) (a:Addr) (xs:List V):Prop :=
 Rd H a (.lst xs) \/ ∃ (its:List Value) (n:Nat),K.lookup a=some { cls:=.type "list",data:=.seq its.toArray n }/\xs.length <= Ad/\aqi6 xs its
theorem SqE.l {K:Frag} {H:Hp} {a:Addr} {xs:List V} (h:SqE K H a xs):SqL K H a xs:=by
 rcases h with h | ⟨its,n,h,hz,r⟩
 ·exact .inl h
 ·exact .inr ⟨_,its.toArray,n,h,rfl,rfl,rfl,by rw [size_toArray,<- r.length]; exact hz,by simpa using r⟩
theorem seqE {K:Frag} {H H':Hp} {a:Addr} {xs:List V} (e:aqi7 H H') (h:SqE K H a xs):SqE K H' a xs:=by
 rcases h with (h | ⟨o,h⟩) | h
 ·exact .inl (.inl (e _ _ h))
 ·exact .inl (.inr ⟨o,e _ _ h⟩)
 ·exact .inr h
theorem Inv.listE {X:Cx} {pins:List (Addr × Obj)} {σ:St} {H:Hp} {s:Shared} {a:Addr} {xs:List V} (I:Inv X pins σ H s) (h:SqE X.K H a xs) :
  ∃ (its:List Value) (n:Nat),aqi6 xs its/\s.heap.get? a=some { cls:=.type "list",data:=.seq its.toArray n }/\xs.length <= Ad:=by
 rcases h with h | ⟨its,n,h,hz,r⟩
 ·obtain ⟨z,its,n,r,e⟩:=h.ok I.hok
  exact ⟨its,n,r,e,z⟩
 ·exact ⟨its,n,r,I.kIn a _ h,hz⟩
mutual
inductive Rep (K:Frag) (F:Hp):V->D->Prop
 | non:Rep K F .non .non
 | bl (b:Bool):Rep K F (.bl b) (.bl b)
 | int (i:Int):Rep K F (.int i) (.int i)
 | str (x:Str):Rep K F (.str x) (.str x)
 | lst {a:Addr} {vs:List V} {ds:List D} (h:SqE K F a vs) (r:Reps K F vs ds):Rep K F (.ref a) (.lst ds)
 | tup {a:Addr} {vs:List V} {ds:List D} (h:SqT K F a vs) (r:Reps K F vs ds):Rep K F (.ref a) (.tup ds)
inductive Reps (K:Frag) (F:Hp):List V->List D->Prop
 | nil:Reps K F [] []
 | cons {v:V} {d:D} {vs:List V} {ds:List D} (h:Rep K F v d) (t:Reps K F vs ds):Reps K F (v :: vs) (d :: ds)
end
theorem aj6 {K:Frag} {F F':Hp} (e:aqi7 F F'):(∀ {v:V} {d:D},Rep K F v d->Rep K F' v d)/\∀ {vs:List V} {ds:List D},Reps K F vs ds->Reps K F' vs ds:=by
 refine ⟨@Rep.rec K F (fun v d _=>Rep K F' v d) (fun v d _=>Reps K F' v d) .non .bl .int .str ?a ?b .nil ?c,@Reps.rec K F (fun v d _=>Rep K F' v d) (fun v d _=>Reps K F' v d) .non .bl .int .str ?a ?b .nil ?c⟩
 case a=>exact fun h _ r=>.lst (seqE e h) r
 case b=>exact fun h _ r=>.tup (seqT e h) r
 case c=>exact fun _ _ h t=>.cons h t
theorem Rep.mono {K:Frag} {F F':Hp} (e:aqi7 F F') {v:V} {d:D} (h:Rep K F v d):Rep K F' v d:=(aj6 e).1 h
theorem Reps.mono {K:Frag} {F F':Hp} (e:aqi7 F F') {vs:List V} {ds:List D} (h:Reps K F vs ds):Reps K F' vs ds:=(aj6 e).2 h
section
variable {K:Frag} {F:Hp}
theorem Reps.length {vs:List V} {ds:List D} (r:Reps K F vs ds):vs.length=ds.length:=by
 induction vs generalizing ds with
 | nil=>cases r; rfl
 | cons v vs ih=>cases r with | cons h t=>simp [ih t]
theorem Reps.get {vs:List V} {ds:List D} (r:Reps K F vs ds) {i:Nat} {v:V} (h:vs[i]?=some v):∃ d,ds[i]?=some d/\Rep K F v d:=by
 induction vs generalizing ds i with
 | nil=>simp at h
 | cons w vs ih =>
  cases r with
  | cons q t =>
   cases i with
   | zero=>simp at h; subst h; exact ⟨_,rfl,q⟩
   | succ i=>exact ih t (by simpa using h)
theorem Reps.getD {vs:List V} {ds:List D} (r:Reps K F vs ds) {i:Nat} {d:D} (h:ds[i]?=some d):∃ v,vs[i]?=some v/\Rep K F v d:=by
 induction vs generalizing ds i with
 | nil=>cases r; simp at h
 | cons w vs ih =>
  cases r with
  | cons q t =>
   cases i with
   | zero=>simp at h; subst h; exact ⟨_,rfl,q⟩
   | succ i=>exact ih t (by simpa using h)
theorem Reps.append {vs ws:List V} {ds es:List D} (r:Reps K F vs ds) (q:Reps K F ws es):Reps K F (vs++ws) (ds++es):=by
 induction vs generalizing ds with
 | nil=>cases r; exact q
 | cons v vs ih=>cases r with | cons h t=>exact .cons h (ih t)
theorem Reps.take {vs:List V} {ds:List D} (r:Reps K F vs ds) (n:Nat):Reps K F (vs.take n) (ds.take n):=by
 induction vs generalizing ds n with
 | nil=>cases r; simp; exact .nil
 | cons v vs ih=>cases r with | cons h t=>cases n with
  | zero=>exact .nil
  | succ n=>exact .cons h (ih t n)
theorem Reps.drop {vs:List V} {ds:List D} (r:Reps K F vs ds) (n:Nat):Reps K F (vs.drop n) (ds.drop n):=by
 induction vs generalizing ds n with
 | nil=>cases r; simp; exact .nil
 | cons v vs ih=>cases r with | cons h t=>cases n with
  | zero=>exact .cons h t
  | succ n=>exact ih t n
theorem aqn (ns:List Int):Reps K F (ns.map V.int) (ns.map D.int):=by
 induction ns with
 | nil=>exact .nil
 | cons n ns ih=>exact .cons (.int n) ih
end
structure Ext (F H F' H':Hp):Prop where
 ff:aqi7 F F'
 fh:aqi7 F' H'
 hh:aqi7 H H'
 nw:∀ b o,F' b=some o->F b=some o \/ H b=none
theorem Ext.refl {F H:Hp} (s:aqi7 F H):Ext F H F H:=⟨aqi7.refl _,s,aqi7.refl _,fun _ _ h=>.inl h⟩
theorem Ext.trans {F H F1 H1 F2 H2:Hp} (a:Ext F H F1 H1) (b:Ext F1 H1 F2 H2):Ext F H F2 H2 :=
 ⟨a.ff.trans b.ff,b.fh,a.hh.trans b.hh,fun c o h=>by
  rcases b.nw c o h with h | h
  ·exact a.nw c o h
  ·exact .inr (a.hh.free h)⟩
theorem gd {H:Hp} {l:Addr} {o:HO} (h:H l=none):aqi7 H (upd H l o):=fun b u e=>by rw [af (ac e h)]; exact e
theorem Ext.laid {F H:Hp} (s:aqi7 F H) {l:Addr} {o:HO} (h:H l=none):Ext F H (upd F l o) (upd H l o) :=
 ⟨gd (s.free h),fun b u e=>by
   by_cases hb:b=l
   ·subst hb; rw [cb] at e ⊢; exact e
   ·rw [af hb] at e ⊢; exact s _ _ e,
  gd h,fun b u e=>by
   by_cases hb:b=l
   ·subst hb; exact .inr h
   ·rw [af hb] at e; exact .inl e⟩
theorem Ext.laidH {F H:Hp} (s:aqi7 F H) {l:Addr} {o:HO} (h:H l=none):Ext F H F (upd H l o) :=
 ⟨aqi7.refl _,s.trans (gd h),gd h,fun _ _ e=>.inl e⟩
theorem Ext.keep {F H F' H':Hp} (e:Ext F H F' H') {l:Addr} {o:HO} (h:H l=none) (h1:F' l=none) (h2:H' l=some o):Ext F H (upd F' l o) H' :=
 ⟨e.ff.trans (gd h1),fun b u q=>by
   by_cases hb:b=l
   ·subst hb; rw [cb] at q; rw [<- q]; exact h2
   ·rw [af hb] at q; exact e.fh _ _ q,
  e.hh,fun b u q=>by
   by_cases hb:b=l
   ·subst hb; exact .inr h
   ·rw [af hb] at q; exact e.nw b u q⟩
def RE (K:Frag) (F:Hp) (σ:St) (ρ:aqih):Prop:=∀ (i:Nat) (d:D),ρ[i]?=some (some d)->∃ v,σ[i]?=some (some v)/\Rep K F v d
theorem RE.mono {K:Frag} {F F':Hp} {σ:St} {ρ:aqih} (r:RE K F σ ρ) (e:aqi7 F F'):RE K F' σ ρ:=fun i d h=>by
 obtain ⟨v,h1,h2⟩:=r i d h;exact ⟨v,h1,h2.mono e⟩
def tD (K:Frag) (f:FE):TE:=fun σ H Q=>∃ F ρ d,aqi7 F H/\RE K F σ ρ/\f ρ=some d/\∀ v F' H',Ext F H F' H'->Rep K F' v d->Q v H'
def tDT (K:Frag) (f:FT):TT:=fun σ H Q=>∃ F ρ b,aqi7 F H/\RE K F σ ρ/\f ρ=some b/\∀ F' H',Ext F H F' H'->Q b H'
def tDA (K:Frag) (f:FA):TA:=fun σ H Q=>∃ F ρ ds,aqi7 F H/\RE K F σ ρ/\f ρ=some ds/\∀ vs F' H',Ext F H F' H'->Reps K F' vs ds->Q vs H'
def DE (X:Cx) (e:Expr) (f:FE):Prop:=PE X e (tD X.K f)
def DT (X:Cx) (e:Expr) (f:FT):Prop:=PT X e (tDT X.K f)
def DA (X:Cx) (es:List Expr) (f:FA):Prop:=PA X es (tDA X.K f)
theorem PE.imp {X:Cx} {e:Expr} {t t':TE} (h:PE X e t) (i:∀ σ H Q,t' σ H Q->t σ H Q):PE X e t':=fun pins s σ H Q I q=>h pins s σ H Q I (i σ H Q q)
theorem PT.imp {X:Cx} {e:Expr} {t t':TT} (h:PT X e t) (i:∀ σ H Q,t' σ H Q->t σ H Q):PT X e t':=fun pins s σ H Q I q=>h pins s σ H Q I (i σ H Q q)
theorem PW.imp {X:Cx} {e:Expr} {t t':TT} (h:PW X e t) (i:∀ σ H Q,t' σ H Q->t σ H Q):PW X e t':=fun wh pins s σ H Q I q=>h wh pins s σ H Q I (i σ H Q q)
theorem PA.imp {X:Cx} {e:List Expr} {t t':TA} (h:PA X e t) (i:∀ σ H Q,t' σ H Q->t σ H Q):PA X e t':=fun pos pins s σ H Q I q=>h pos pins s σ H Q I (i σ H Q q)
theorem PS.imp {X:Cx} {st:Stmt} {t t':TS} (h:PS X st t) (i:∀ E σ H,t' E σ H->t E σ H):PS X st t':=fun pins s σ H E I q=>h pins s σ H E I (i E σ H q)
theorem PSs.imp {X:Cx} {st:List Stmt} {t t':TS} (h:PSs X st t) (i:∀ E σ H,t' E σ H->t E σ H):PSs X st t':=fun pins s σ H E I q=>h pins s σ H E I (i E σ H q)
theorem PG.imp {X:Cx} {tg:Expr} {t t':TG} (h:PG X tg t) (i:∀ v σ H Q,t' v σ H Q->t v σ H Q):PG X tg t':=fun pins s σ H v u Q I r q=>h pins s σ H v u Q I r (i v σ H Q q)
section
variable {X:Cx} {a b c:Expr} {pos:Pos}
theorem azr (i:Nat) {x:Str} {pos:Pos} (h:PE X (.Name x pos) (aqhb i)):DE X (.Name x pos) (aqhy i):=by
 refine PE.imp h fun σ H Q q=>?_;obtain ⟨F,ρ,d,s,r,hf,k⟩:=q;have e:ρ[i]?=some (some d):=by
  unfold aqhy at hf;cases q:ρ[i]? with
  | none=>rw [q] at hf; cases hf
  | some o=>rw [q] at hf; cases o with
   | none=>cases hf
   | some d'=>cases hf; rfl
 obtain ⟨v,h1,h2⟩:=r i d e;exact ⟨v,h1,k v F H (Ext.refl s) h2⟩
theorem de_c {e:Expr} {v:V} {d:D} (h:PE X e (tC v)) (r:∀ F,Rep X.K F v d):DE X e (fC d):=by
 refine PE.imp h fun σ H Q q=>?_;obtain ⟨F,ρ,d',s,_,hf,k⟩:=q;cases hf;exact k v F H (Ext.refl s) (r F)
theorem aS {i j pos}:DE X (.Constant (.int i) j pos) (fC (.int i)):=de_c aj fun _=>.int i
def OpD (K:Frag) (r:R2) (g:D->D->Option D):Prop:=∀ x y d F H v u Q,g x y=some d->aqi7 F H->Rep K F v x->Rep K F u y->(∀ w F' H',Ext F H F' H'->Rep K F' w d->Q w H')->r v u H Q
theorem d_op {K:Frag} {r:R2} {g:D->D->Option D} (hr:OpD K r g) {fa fb:FE} {σ:St} {H:Hp} {Q:VK} (q:tD K (f2 g fa fb) σ H Q):tOp r (tD K fa) (tD K fb) σ H Q:=by
 obtain ⟨F,ρ,d,s,re,hf,k⟩:=q;obtain ⟨x,hx,hf⟩:=bind_some hf;obtain ⟨y,hy,hf⟩:=bind_some hf;exact ⟨F,ρ,x,s,re,hx,fun v F1 H1 e1 r1=>⟨F1,ρ,y,e1.fh,re.mono e1.ff,hy,fun u F2 H2 e2 r2=>hr x y d F2 H2 v u Q hf e2.fh (r1.mono e2.ff) r2 fun w F' H' e' r'=>k w F' H' ((e1.trans e2).trans e') r'⟩⟩
theorem ajv {op:Operator} {r:R2} {g:D->D->Option D} {fa fb:FE} (ho:OpR X (Cy op) r) (hr:OpD X.K r g) (ha:DE X a fa) (hb:DE X b fb):DE X (.BinOp a op b pos) (f2 g fa fb) :=
 PE.imp (aX ho ha hb) fun _ _ _ q=>d_op hr q
theorem OpR.or {f:Value->Value->Sem Value} {r r':R2} (h:OpR X f r) (h':OpR X f r'):OpR X f (fun x y H Q=>r x y H Q \/ r' x y H Q):=by
 intro pins s σ H x y v u Q I rx ry q;rcases q with q | q
 ·exact h pins s σ H x y v u Q I rx ry q
 ·exact h' pins s σ H x y v u Q I rx ry q
theorem aqab {f:FE} {ρ:aqih} {b:Bool} (h:qV f ρ=some b):f ρ=some (.bl b):=by
 obtain ⟨d,h1,h2⟩:=bind_some h;cases d <;> cases h2;exact h1
theorem aZv {op:CmpOp} {r:R2} {g:D->D->Option D} {fa fb:FE} (ho:OpR X (Bi op) r) (hr:OpD X.K r g) (ha:DE X a fa) (hb:DE X b fb) (hm:C5 op b=false):DT X (.Compare a [op] [b] pos) (qV (f2 g fa fb)):=by
 refine PT.imp (ak ho ha hb hm) fun σ H Q q=>?_;obtain ⟨F,ρ,c,s,re,hf,k⟩:=q;refine d_op (K:=X.K) hr (σ:=σ) (H:=H) ⟨F,ρ,.bl c,s,re,aqab hf,fun v F' H' e r=>?_⟩;cases r;exact ⟨c,rfl,k F' H' e⟩
variable {aqhg:List Expr}
variable {es:List Expr}
theorem aW9:DA X [] aNil:=by
 refine PA.imp ag fun σ H Q q=>?_;obtain ⟨F,ρ,d,s,re,hf,k⟩:=q;cases hf;exact k [] F H (Ext.refl s) .nil
theorem aV3 {f:FE} {g:FA} (ha:DE X a f) (hr:DA X es g) (hs:Ap (a :: es) X.env=(false,eval a X.env) :: Ap es X.env:=by rfl):DA X (a :: es) (aCons f g):=by
 refine PA.imp (aa ha hr hs) fun σ H Q q=>?_;obtain ⟨F,ρ,ds,s,re,hf,k⟩:=q;obtain ⟨d,hd,hf⟩:=bind_some hf;cases hg:g ρ with
 | none=>rw [hg] at hf; cases hf
 | some ds' =>
  rw [hg] at hf;cases hf;exact ⟨F,ρ,d,s,re,hd,fun v F1 H1 e1 r1=>⟨F1,ρ,ds',e1.fh,re.mono e1.ff,hg,fun vs F2 H2 e2 r2=>k _ F2 H2 (e1.trans e2) (.cons (r1.mono e2.ff) r2)⟩⟩
theorem aVt {n:Nat} (h:n <= aqif):n <= Ad:=le_trans h (by unfold aqif; decide)
def spD (K:Frag) (n:Nat) (g:List D->Option D):Sp:=fun vs H Q _=>∃ F ds d,aqi7 F H/\Reps K F vs ds/\ds.length=n/\g ds=some d/\∀ v F' H',Ext F H F' H'->Rep K F' v d->Q v H'
variable {k n:Nat} {f:Addr} {fd:Am} {ps:List Str} {x:Str} {p:Pos}
def CallD (K:Frag) (r:List V->Hp->VK->Prop) (g:List D->Option D):Prop:=∀ ds d F H vs Q,g ds=some d->aqi7 F H->Reps K F vs ds->(∀ w F' H',Ext F H F' H'->Rep K F' w d->Q w H')->r vs H Q
theorem aJ5 {id:String} {r:List V->Hp->VK->Prop} {g:List D->Option D} {h:FA} (hc:axp X (.builtin id) r) (hr:CallD X.K r g) (hg:Gl X x) (hm:X.mg x=none) (hv:Aw x=some (.builtin id)) (ha:DA X (a :: es) h)
  (hn:x ≠ "__name__":=by decide) (hdb:(x == ("__debug__":Str))=false:=by decide)
  (he:Ap (a :: es) X.env=(false,eval a X.env) :: Ap es X.env:=by rfl) (hpl:(Dl pos (Ap es X.env)).any (·.1)=false:=by rfl):DE X (.Call (.Name x p) (a :: es) [] pos) (fBlt g h):=by
 refine PE.imp (bp hc hg hm hv ha hn hdb he hpl) fun σ H Q q=>?_;obtain ⟨F,ρ,d,s,re,hf,k⟩:=q;obtain ⟨ds,hd,hf⟩:=bind_some hf;exact ⟨F,ρ,ds,s,re,hd,fun vs F1 H1 e1 r1=>hr ds d F1 H1 vs Q hf e1.fh r1 fun w F' H' e' r'=>k w F' H' (e1.trans e') r'⟩
end
end DL
namespace DL
open PySem PySem.Spec PyProof.Rows L2
abbrev AS:=Addr->Prop
mutual
inductive Own (K:Frag) (F H:Hp):V->O->AS->Prop
 | sh {v:V} {d:D} {A:AS} (h:Rep K F v d) (hA:∀ b,¬ A b):Own K F H v (.sh d) A
 | lst {a:Addr} {vs:List V} {os:List O} {A' A:AS} (h:H a=some (.lst vs)) (n:¬ A' a) (r:Owns K F H vs os A') (hA:∀ b,A b ↔ b=a \/ A' b):Own K F H (.ref a) (.lst os) A
 | tup {a:Addr} {vs:List V} {os:List O} {A:AS} (h:F a=some (.tup vs)) (r:Owns K F H vs os A):Own K F H (.ref a) (.tup os) A
inductive Owns (K:Frag) (F H:Hp):List V->List O->AS->Prop
 | nil {A:AS} (hA:∀ b,¬ A b):Owns K F H [] [] A
 | cons {v:V} {o:O} {vs:List V} {os:List O} {A1 A2 A:AS} (h:Own K F H v o A1) (t:Owns K F H vs os A2) (d:∀ b,A1 b->¬ A2 b) (hA:∀ b,A b ↔ A1 b \/ A2 b):Owns K F H (v :: vs) (o :: os) A
end
section
variable {K:Frag} {F F' H H':Hp}
theorem akm:(∀ {v:V} {o:O} {A:AS},Own K F H v o A->∀ b,A b->∃ u,H b=some u/\∀ xs,u ≠ .tup xs/\∀ ob w,u ≠ .frz ob w)/\∀ {vs:List V} {os:List O} {A:AS},Owns K F H vs os A->∀ b,A b->∃ u,H b=some u/\∀ xs,u ≠ .tup xs/\∀ ob w,u ≠ .frz ob w:=by
 refine ⟨@Own.rec K F H (fun _ _ A _=>∀ b,A b->∃ u,H b=some u/\∀ xs,u ≠ .tup xs/\∀ ob w,u ≠ .frz ob w) (fun _ _ A _=>∀ b,A b->∃ u,H b=some u/\∀ xs,u ≠ .tup xs/\∀ ob w,u ≠ .frz ob w) ?a ?b ?c ?a2 ?d,@Owns.rec K F H (fun _ _ A _=>∀ b,A b->∃ u,H b=some u/\∀ xs,u ≠ .tup xs/\∀ ob w,u ≠ .frz ob w) (fun _ _ A _=>∀ b,A b->∃ u,H b=some u/\∀ xs,u ≠ .tup xs/\∀ ob w,u ≠ .frz ob w) ?a ?b ?c ?a2 ?d⟩
 case a=>exact fun _ hA b h=>absurd h (hA b)
 case b =>
  intro a vs os A' A h n r hA ih b hb;rcases (hA b).mp hb with rfl | z
  ·exact ⟨_,h,fun xs=>⟨(fun z=>by cases z),fun _ _ z=>by cases z⟩⟩
  ·exact ih b z
 case c=>exact fun _ _ ih=>ih
 case a2=>exact fun hA b h=>absurd h (hA b)
 case d =>
  intro v o vs os A1 A2 A h t d hA ih it b hb;rcases (hA b).mp hb with z | z
  ·exact ih b z
  ·exact it b z
theorem Own.there {v:V} {o:O} {A:AS} (h:Own K F H v o A):∀ b,A b->∃ u,H b=some u/\∀ xs,u ≠ .tup xs/\∀ ob w,u ≠ .frz ob w:=akm.1 h
theorem Owns.there {vs:List V} {os:List O} {A:AS} (h:Owns K F H vs os A):∀ b,A b->∃ u,H b=some u/\∀ xs,u ≠ .tup xs/\∀ ob w,u ≠ .frz ob w:=akm.2 h
theorem aQ8 (e:aqi7 F F'):(∀ {v:V} {o:O} {A:AS},Own K F H v o A->(∀ b,A b->H' b=H b)->Own K F' H' v o A)/\∀ {vs:List V} {os:List O} {A:AS},Owns K F H vs os A->(∀ b,A b->H' b=H b)->Owns K F' H' vs os A:=by
 refine ⟨@Own.rec K F H (fun v o A _=>(∀ b,A b->H' b=H b)->Own K F' H' v o A) (fun v o A _=>(∀ b,A b->H' b=H b)->Owns K F' H' v o A) ?a ?b ?c ?a2 ?d,@Owns.rec K F H (fun v o A _=>(∀ b,A b->H' b=H b)->Own K F' H' v o A) (fun v o A _=>(∀ b,A b->H' b=H b)->Owns K F' H' v o A) ?a ?b ?c ?a2 ?d⟩
 case a=>exact fun h hA _=>.sh (h.mono e) hA
 case b=>exact fun h n _ hA ih k=>.lst ((k _ ((hA _).mpr (.inl rfl))).trans h) n (ih fun b z=>k b ((hA b).mpr (.inr z))) hA
 case c=>exact fun h _ ih k=>.tup (e _ _ h) (ih k)
 case a2=>exact fun hA _=>.nil hA
 case d=>exact fun _ _ d hA ih it k=>.cons (ih fun b z=>k b ((hA b).mpr (.inl z))) (it fun b z=>k b ((hA b).mpr (.inr z))) d hA
theorem Own.stay (e:aqi7 F F') {v:V} {o:O} {A:AS} (h:Own K F H v o A) (k:∀ b,A b->H' b=H b):Own K F' H' v o A:=(aQ8 e).1 h k
theorem Owns.stay (e:aqi7 F F') {vs:List V} {os:List O} {A:AS} (h:Owns K F H vs os A) (k:∀ b,A b->H' b=H b):Owns K F' H' vs os A:=(aQ8 e).2 h k
theorem Own.ext (e:aqi7 F F') (s:aqi7 H H') {v:V} {o:O} {A:AS} (h:Own K F H v o A):Own K F' H' v o A:=h.stay e fun b z=>by
 obtain ⟨u,e1,_⟩:=h.there b z;rw [e1,s _ _ e1]
theorem Owns.ext (e:aqi7 F F') (s:aqi7 H H') {vs:List V} {os:List O} {A:AS} (h:Owns K F H vs os A):Owns K F' H' vs os A:=h.stay e fun b z=>by
 obtain ⟨u,e1,_⟩:=h.there b z;rw [e1,s _ _ e1]
theorem Own.congr {v:V} {o:O} {A A':AS} (h:Own K F H v o A) (e:∀ b,A b ↔ A' b):Own K F H v o A':=by
 have:A=A':=funext fun b=>propext (e b)
 subst this; exact h
theorem Owns.congr {v:List V} {o:List O} {A A':AS} (h:Owns K F H v o A) (e:∀ b,A b ↔ A' b):Owns K F H v o A':=by
 have:A=A':=funext fun b=>propext (e b)
 subst this; exact h
theorem Owns.length {vs:List V} {os:List O} {A:AS} (h:Owns K F H vs os A):vs.length=os.length :=
 Owns.rec (motive_1:=fun _ _ _ _=>True) (motive_2:=fun vs os _ _=>vs.length=os.length) (fun _ _=>trivial) (fun _ _ _ _ _=>trivial) (fun _ _ _=>trivial) (fun _=>rfl) (fun _ _ _ _ _ it=>congrArg Nat.succ it) h
open Classical in
noncomputable def aqi5 (F H:Hp) (A:AS):Hp:=fun b=>if A b then H b else F b
theorem aql {A:AS} {b:Addr} (h:A b):aqi5 F H A b=H b:=by unfold aqi5; exact if_pos h
theorem aT {A:AS} {b:Addr} (h:¬ A b):aqi5 F H A b=F b:=by unfold aqi5; exact if_neg h
theorem ajx {A:AS} (h:∀ b,A b->F b=none):aqi7 F (aqi5 F H A):=fun b o e=>by
 rw [aT fun z=>by rw [h b z] at e; cases e]; exact e
theorem aXj {A:AS} (s:aqi7 F H):aqi7 (aqi5 F H A) H:=fun b o e=>by
 by_cases z:A b
 ·rw [aql z] at e; exact e
 ·rw [aT z] at e; exact s _ _ e
theorem aka {F₀ B:Hp} {A:AS} (e:Ext F₀ B F H) (h:∀ b,A b->F b=none/\B b=none):Ext F₀ B (aqi5 F H A) H :=
 ⟨e.ff.trans (ajx fun b z=>(h b z).1),aXj e.fh,e.hh,fun b o q=>by
  by_cases z:A b
  ·exact .inr (h b z).2
  ·rw [aT z] at q; exact e.nw b o q⟩
theorem aVl {G:Hp} (sF:aqi7 F G):(∀ {v:V} {o:O} {A:AS},Own K F H v o A->∀ {d:D},oD o=some d->(∀ b,A b->G b=H b)->Rep K G v d)/\∀ {vs:List V} {os:List O} {A:AS},Owns K F H vs os A->∀ {ds:List D},oDs os=some ds->(∀ b,A b->G b=H b)->Reps K G vs ds:=by
 refine ⟨@Own.rec K F H (fun v o A _=>∀ {d:D},oD o=some d->(∀ b,A b->G b=H b)->Rep K G v d) (fun v o A _=>∀ {d:List D},oDs o=some d->(∀ b,A b->G b=H b)->Reps K G v d) ?a ?b ?c ?a2 ?d,@Owns.rec K F H (fun v o A _=>∀ {d:D},oD o=some d->(∀ b,A b->G b=H b)->Rep K G v d) (fun v o A _=>∀ {d:List D},oDs o=some d->(∀ b,A b->G b=H b)->Reps K G v d) ?a ?b ?c ?a2 ?d⟩
 case a =>
  intro v d A h hA d' e _;cases e; exact h.mono sF
 case b =>
  intro a vs os A' A h n r hA ih d e k;obtain ⟨ds,hd,rfl⟩:=map_some (by simpa [oD] using e);exact .lst (.inl (.inl ((k _ ((hA _).mpr (.inl rfl))).trans h))) (ih hd fun b z=>k b ((hA b).mpr (.inr z)))
 case c =>
  intro a vs os A h r ih d e k;obtain ⟨ds,hd,rfl⟩:=map_some (by simpa [oD] using e);exact .tup (.inl (.inl (sF _ _ h))) (ih hd k)
 case a2 =>
  intro A hA ds e _;cases e; exact .nil
 case d =>
  intro v o vs os A1 A2 A h t d hA ih it ds e k;obtain ⟨d,hd,e⟩:=bind_some (by simpa [oDs] using e);obtain ⟨ds,hds,rfl⟩:=map_some e;exact .cons (ih hd fun b z=>k b ((hA b).mpr (.inl z))) (it hds fun b z=>k b ((hA b).mpr (.inr z)))
theorem Own.rep {G:Hp} (sF:aqi7 F G) {v:V} {o:O} {A:AS} {d:D} (h:Own K F H v o A) (e:oD o=some d) (k:∀ b,A b->G b=H b):Rep K G v d:=(aVl sF).1 h e k
theorem Owns.rep {G:Hp} (sF:aqi7 F G) {vs:List V} {os:List O} {A:AS} {ds:List D} (h:Owns K F H vs os A) (e:oDs os=some ds) (k:∀ b,A b->G b=H b):Reps K G vs ds:=(aVl sF).2 h e k
theorem aqap {vs:List V} {ds:List D} (h:Reps K F vs ds):Owns K F H vs (ds.map O.sh) fun _=>False :=
 Reps.rec (motive_1:=fun _ _ _=>True) (motive_2:=fun vs ds _=>Owns K F H vs (ds.map O.sh) fun _=>False) trivial (fun _=>trivial) (fun _=>trivial) (fun _=>trivial) (fun _ _ _=>trivial) (fun _ _ _=>trivial) (.nil fun _ z=>z) (fun h _ _ it=>.cons (.sh h (A:=fun _=>False) fun _ z=>z) it (fun _ z=>z.elim) fun b=>⟨fun z=>z.elim,fun z=>z.elim id id⟩) h
theorem aWb {a:Addr} {vs:List V} {os:List O} {A:AS} (h:H a=some (.lst vs)) (n:¬ A a) (r:Owns K F H vs os A):Own K F H (.ref a) (.lst os) fun b=>b=a \/ A b:=.lst h n r fun _=>Iff.rfl
theorem aqaq {a:Addr} {vs:List V} {ds:List D} (h:H a=some (.lst vs)) (r:Reps K F vs ds):Own K F H (.ref a) (ow ds) fun b=>b=a:=.lst h (A':=fun _=>False) id (aqap r) fun b=>⟨.inl,fun z=>z.elim id Aq⟩
theorem Owns.append {vs ws:List V} {os ps:List O} {A B:AS} (h:Owns K F H vs os A) (s:Owns K F H ws ps B):(∀ b,A b->¬ B b)->Owns K F H (vs++ws) (os++ps) fun b=>A b \/ B b :=
 Owns.rec (motive_1:=fun _ _ _ _=>True) (motive_2:=fun vs os A _=>(∀ b,A b->¬ B b)->Owns K F H (vs++ws) (os++ps) fun b=>A b \/ B b) (fun _ _=>trivial) (fun _ _ _ _ _=>trivial) (fun _ _ _=>trivial)
  (fun hA _=>s.congr fun b=>⟨.inr,fun z=>z.elim (fun y=>absurd y (hA b)) id⟩)
  (fun h _ dd hA _ it d=>.cons h (it fun b y=>d b ((hA b).mpr (.inr y))) (fun b y z=>z.elim (dd b y) (d b ((hA b).mpr (.inl y)))) fun b=>by
   rw [hA b]; exact ⟨fun z=>z.elim (fun y=>y.elim .inl fun w=>.inr (.inl w)) fun w=>.inr (.inr w),fun z=>z.elim (fun y=>.inl (.inl y)) fun y=>y.elim (fun w=>.inl (.inr w)) .inr⟩) h
theorem Owns.split:∀ {vs:List V} {os:List O} {A:AS} {n:Nat} {o:O},Owns K F H vs os A->os[n]?=some o ->
  ∃ (v:V) (A1 A2:AS),vs[n]?=some v/\Own K F H v o A1/\(∀ b,A b ↔ A1 b \/ A2 b)/\(∀ b,A1 b->¬ A2 b) /\
   ∀ (F' H':Hp) (v':V) (o':O) (A1':AS),aqi7 F F'->(∀ b,A2 b->H' b=H b)->Own K F' H' v' o' A1'->(∀ b,A1' b->¬ A2 b)->Owns K F' H' (vs.set n v') (os.set n o') fun b=>A1' b \/ A2 b
 | _,_,_,_,_,.nil _,e=>by simp at e
 | _,_,A,0,o,.cons (v:=v) (vs:=vs) (os:=os) (A1:=A1) (A2:=A2) h t d hA,e=>by
  simp at e; subst e;exact ⟨v,A1,A2,rfl,h,hA,d,fun F' H' v' o' A1' sF k q dd=>.cons q (t.stay sF k) dd fun b=>Iff.rfl⟩
 | _,_,A,n + 1,o,.cons (v:=v) (vs:=vs) (os:=os) (A1:=B1) (A2:=B2) h t d hA,e=>by
  obtain ⟨w,A1,A2,h1,h2,h3,h4,h5⟩:=Owns.split t (n:=n) (o:=o) (by simpa using e);refine ⟨w,A1,fun b=>B1 b \/ A2 b,by simpa using h1,h2,fun b=>?_,fun b y z=>?_,fun F' H' v' o' A1' sF k q dd=>?_⟩
  ·rw [hA b,h3 b]; exact ⟨fun z=>z.elim (fun y=>.inr (.inl y)) fun y=>y.elim .inl fun w=>.inr (.inr w),fun z=>z.elim (fun y=>.inr (.inl y)) fun y=>y.elim .inl fun w=>.inr (.inr w)⟩
  ·rcases z with z | z
   ·exact d b z ((h3 b).mpr (.inl y))
   ·exact h4 b y z
  ·refine .cons (h.stay sF fun b y=>k b (.inl y)) (h5 F' H' v' o' A1' sF (fun b y=>k b (.inr y)) q fun b y z=>dd b y (.inr z)) (fun b y z=>?_) fun b=>⟨fun z=>z.elim (fun y=>.inr (.inl y)) fun y=>y.elim .inl fun w=>.inr (.inr w),fun z=>z.elim (fun y=>.inr (.inl y)) fun y=>y.elim .inl fun w=>.inr (.inr w)⟩
   rcases z with z | z
   ·exact dd b z (.inl y)
   ·exact d b y ((h3 b).mpr (.inr z))
end
def tO (K:Frag) (f:FO):TE:=fun σ H Q=>∃ F ρ o,aqi7 F H/\RE K F σ ρ/\f ρ=some o /\
 ∀ v F' H' A,Ext F H F' H'->Own K F' H' v o A->(∀ b,A b->F' b=none/\H b=none)->Q v H'
def DO (X:Cx) (e:Expr) (f:FO):Prop:=PE X e (tO X.K f)
section
variable {X:Cx} {a b c e:Expr} {es:List Expr} {pos:Pos}
theorem DO.de {f:FO} (h:DO X e f):DE X e (fL f):=by
 refine PE.imp h fun σ H Q q=>?_;obtain ⟨F,ρ,d,s,re,hf,k⟩:=q;obtain ⟨o,ho,hd⟩:=bind_some hf;exact ⟨F,ρ,o,s,re,ho,fun v F' H' A e r hA=>k v (aqi5 F' H' A) H' (aka e hA) (r.rep (ajx fun b z=>(hA b z).1) hd fun b z=>aql z)⟩
theorem aqec {g:FA} (h:DA X es g):DO X (.List es pos) (oLst g):=by
 refine PE.imp (aY h) fun σ H Q q=>?_;obtain ⟨F,ρ,d,s,re,hf,k⟩:=q;obtain ⟨ds,hd,hf⟩:=bind_some hf;split at hf
 ·rename_i hl
  cases hf;refine ⟨F,ρ,ds,s,re,hd,fun vs F1 H1 e1 r1=>⟨by rw [r1.length]; exact aVt hl,fun p hp=>?_⟩⟩;exact k _ F1 _ _ (e1.trans (Ext.laidH e1.fh hp)) (aqaq cb r1) fun b z=>by subst z; exact ⟨e1.fh.free hp,e1.hh.free hp⟩
 ·cases hf
def spO (K:Frag) (n:Nat) (g:List D->Option O):Sp:=fun vs H Q _=>∃ F ds o,aqi7 F H/\Reps K F vs ds/\ds.length=n/\g ds=some o /\
 ∀ v F' H' A,Ext F H F' H'->Own K F' H' v o A->(∀ b,A b->F' b=none/\H b=none)->Q v H'
variable {k n:Nat} {f:Addr} {fd:Am} {ps:List Str} {x:Str} {p:Pos}
end
end DL
namespace DL
open PySem PySem.Spec PyProof.Rows L2
structure Bs where
 F₀:Hp
 B:Hp
 P:Nat->Bool
 σ₀:St
def OwnT (K:Frag) (B F H:Hp) (σ:St) (ρ:Cs) (A:Nat->AS):Prop :=
 (∀ (i:Nat) (o:O),ρ[i]?=some (some o)->∃ v,σ[i]?=some (some v)/\Own K F H v o (A i))/\(∀ i b,A i b->F b=none/\B b=none/\∃ o,ρ[i]?=some (some o))/\∀ i j b,A i b->A j b->i=j
structure RS (K:Frag) (β:Bs) (F H:Hp) (σ:St) (ρ:Cs):Prop where
 ext:Ext β.F₀ β.B F H
 len:ρ.length=σ.length
 pin:∀ i,β.P i=true->σ[i]?=β.σ₀[i]?
 own:∃ A:Nat->AS,OwnT K β.B F H σ ρ A
section
variable {K:Frag} {β:Bs} {F F' H H':Hp} {σ:St} {ρ:Cs}
abbrev Bs.re (β:Bs) (F:Hp):Bs:=⟨F,β.B,β.P,β.σ₀⟩
theorem OwnT.there {B:Hp} {A:Nat->AS} (w:OwnT K B F H σ ρ A) {i:Nat} {b:Addr} (h:A i b):∃ u,H b=some u/\∀ xs,u ≠ .tup xs/\∀ ob w,u ≠ .frz ob w:=by
 obtain ⟨h1,h2,h3⟩:=w;obtain ⟨_,_,o,ho⟩:=h2 i b h;obtain ⟨v,_,z⟩:=h1 i o ho;exact z.there b h
theorem OwnT.ext {B:Hp} {A:Nat->AS} (w:OwnT K B F H σ ρ A) (e:Ext F H F' H'):OwnT K B F' H' σ ρ A:=by
 have th:=fun i b h=>w.there (i:=i) (b:=b) h;obtain ⟨h1,h2,h3⟩:=w;refine ⟨fun i o h=>?_,fun i b h=>?_,h3⟩
 ·obtain ⟨v,e1,e2⟩:=h1 i o h
  exact ⟨v,e1,e2.ext e.ff e.hh⟩
 ·obtain ⟨e1,e2,ho⟩:=h2 i b h
  obtain ⟨u,hu,_⟩:=th i b h;refine ⟨?_,e2,ho⟩;cases q:F' b with
  | none=>rfl
  | some w =>
   rcases e.nw b w q with z | z
   ·rw [e1] at z; cases z
   ·rw [hu] at z; cases z
theorem RS.ext' (r:RS K β F H σ ρ) (e:Ext F H F' H'):RS K β F' H' σ ρ:=⟨r.ext.trans e,r.len,r.pin,r.own.imp fun _ w=>w.ext e⟩
def msk (S:List Bool) (i:Nat):Bool:=S[i]?.getD false
theorem aqbt {S:List Bool} {ρ:Cs} {i:Nat} {d:D} (h:(frz S ρ)[i]?=some (some d)):msk S i=true/\∃ o,ρ[i]?=some (some o)/\oD o=some d:=by
 induction S generalizing ρ i with
 | nil=>simp [frz] at h
 | cons b S ih =>
  cases ρ with
  | nil=>simp [frz] at h
  | cons c ρ =>
   cases i with
   | zero =>
    simp [frz] at h;obtain ⟨hb,h⟩:=h;obtain ⟨o,e1,e2⟩:=bind_some h;subst e1;exact ⟨by simp [msk,hb],o,rfl,e2⟩
   | succ i =>
    obtain ⟨h1,h2⟩:=ih (ρ:=ρ) (i:=i) (by simpa [frz] using h);exact ⟨by simpa [msk] using h1,by simpa using h2⟩
theorem aqbs (S:List Bool) (ρ:Cs):(fz S ρ).length=ρ.length:=by
 induction S generalizing ρ with
 | nil=>cases ρ <;> simp [fz]
 | cons b S ih=>cases ρ <;> simp [fz,ih]
theorem aqe8 {S:List Bool} {ρ:Cs} {i:Nat} {o:O} (h:(fz S ρ)[i]?=some (some o)) :
  (msk S i=true/\∃ o' d,ρ[i]?=some (some o')/\oD o'=some d/\o=.sh d) \/ (ρ[i]?=some (some o)/\(msk S i=true->oD o=none)):=by
 induction S generalizing ρ i with
 | nil=>cases ρ <;> exact .inr ⟨by simpa [fz] using h,by simp [msk]⟩
 | cons b S ih =>
  cases ρ with
  | nil=>simp [fz] at h
  | cons c ρ =>
   cases i with
   | zero =>
    cases b with
    | true =>
     simp [fz] at h;cases c with
     | none=>cases h
     | some o' =>
      unfold fzc at h;cases q:oD o' with
      | none =>
       simp only [q] at h;cases h;exact .inr ⟨rfl,fun _=>q⟩
      | some d =>
       simp only [q] at h;cases h;exact .inl ⟨by simp [msk],o',d,rfl,q,rfl⟩
    | false=>exact .inr ⟨by simpa [fz] using h,by simp [msk]⟩
   | succ i =>
    rcases ih (ρ:=ρ) (i:=i) (by simpa [fz] using h) with ⟨h1,h2⟩ | ⟨h1,h2⟩
    ·exact .inl ⟨by simpa [msk] using h1,by simpa using h2⟩
    ·exact .inr ⟨by simpa using h1,by simpa [msk] using h2⟩
noncomputable def ajr (F H F':Hp):Hp:=fun b=>match F b with | some o=>some o | none=>match H b with | some _=>none | none=>F' b
theorem axe:aqi7 F (ajr F H F'):=fun b o h=>by unfold ajr; rw [h]
theorem aJm {b:Addr} {o:HO} (h:ajr F H F' b=some o):F b=some o \/ (H b=none/\F' b=some o):=by
 unfold ajr at h;cases q:F b with
 | some u=>rw [q] at h; exact .inl h
 | none =>
  rw [q] at h;cases z:H b with
  | some u=>rw [z] at h; cases h
  | none=>rw [z] at h; exact .inr ⟨rfl,h⟩
theorem akr {b:Addr} (s:aqi7 F H) (h:H b=none):ajr F H F' b=F' b:=by
 unfold ajr;rw [s.free h,h]
structure aqie (F H G:Hp):Prop where
 fg:aqi7 F G
 gh:aqi7 G H
 nt:∀ b u,G b=some u->F b=some u \/ ∀ xs,u ≠ .tup xs/\∀ ob w,u ≠ .frz ob w
section
variable {G:Hp}
theorem aqie.ext (l:aqie F H G) (e:Ext G H F' H') (s:aqi7 F H):Ext F H (ajr F H F') H' where
 ff:=axe
 fh:=fun b o h=>by
  rcases aJm h with h | ⟨_,h⟩
  ·exact e.hh _ _ (s _ _ h)
  ·exact e.fh _ _ h
 hh:=e.hh
 nw:=fun b o h=>by
  rcases aJm h with h | ⟨h,_⟩
  ·exact .inl h
  ·exact .inr h
theorem aqie.at (l:aqie F H G) (e:Ext G H F' H') (s:aqi7 F H) {a:Addr} {u:HO} (h:F' a=some u) (nt:(∃ xs,u=.tup xs) \/ ∃ ob w,u=.frz ob w):ajr F H F' a=some u:=by
 rcases e.nw a u h with z | z
 ·rcases l.nt a u z with y | y
  ·unfold ajr; rw [y]
  ·rcases nt with ⟨xs,rfl⟩ | ⟨ob,w,rfl⟩
   ·exact absurd rfl (y xs).1
   ·exact absurd rfl ((y []).2 ob w)
 ·rw [akr s z]; exact h
theorem aqie.seqT (l:aqie F H G) (e:Ext G H F' H') (s:aqi7 F H) {a:Addr} {vs:List V} (h:SqT K F' a vs):SqT K (ajr F H F') a vs:=by
 rcases h with (q | ⟨o,q⟩) | q
 ·exact .inl (.inl (l.at e s q (.inl ⟨_,rfl⟩)))
 ·exact .inl (.inr ⟨o,l.at e s q (.inr ⟨_,_,rfl⟩)⟩)
 ·exact .inr q
theorem aWw (l:aqie F H G) (e:Ext G H F' H') (s:aqi7 F H):(∀ {v:V} {d:D},Rep K F' v d->imm d=true->Rep K (DL.ajr F H F') v d)/\∀ {vs:List V} {ds:List D},Reps K F' vs ds->aqhw ds=true->Reps K (DL.ajr F H F') vs ds:=by
 refine ⟨@Rep.rec K F' (fun v d _=>imm d=true->Rep K (DL.ajr F H F') v d) (fun v d _=>aqhw d=true->Reps K (DL.ajr F H F') v d) (fun _=>.non) (fun b _=>.bl b) (fun i _=>.int i) (fun x _=>.str x) ?a ?b (fun _=>.nil) ?c,@Reps.rec K F' (fun v d _=>imm d=true->Rep K (DL.ajr F H F') v d) (fun v d _=>aqhw d=true->Reps K (DL.ajr F H F') v d) (fun _=>.non) (fun b _=>.bl b) (fun i _=>.int i) (fun x _=>.str x) ?a ?b (fun _=>.nil) ?c⟩
 case a=>exact fun _ _ _ h=>by simp [imm] at h
 case b=>exact fun q _ ih h=>.tup (l.seqT e s q) (ih (by simpa [imm] using h))
 case c =>
  intro v d vs ds q t ih it h;simp [aqhw] at h;exact .cons (ih h.1) (it h.2)
theorem aqie.rep (l:aqie F H G) (e:Ext G H F' H') (s:aqi7 F H) {v:V} {d:D} (h:imm d=true) (q:Rep K F' v d):Rep K (DL.ajr F H F') v d:=(aWw l e s).1 q h
theorem aWx (l:aqie F H G) (e:Ext G H F' H') (s:aqi7 F H):(∀ {v:V} {o:O} {A:AS},Own K F' H' v o A->oim o=true->Own K (DL.ajr F H F') H' v o A)/\∀ {vs:List V} {os:List O} {A:AS},Owns K F' H' vs os A->aqhl os=true->Owns K (DL.ajr F H F') H' vs os A:=by
 refine ⟨@Own.rec K F' H' (fun v o A _=>oim o=true->Own K (DL.ajr F H F') H' v o A) (fun v o A _=>aqhl o=true->Owns K (DL.ajr F H F') H' v o A) ?a ?b ?c ?a2 ?d,@Owns.rec K F' H' (fun v o A _=>oim o=true->Own K (DL.ajr F H F') H' v o A) (fun v o A _=>aqhl o=true->Owns K (DL.ajr F H F') H' v o A) ?a ?b ?c ?a2 ?d⟩
 case a=>exact fun q hA h=>.sh (l.rep e s (by simpa [oim] using h) q) hA
 case b=>exact fun q n _ hA ih h=>.lst q n (ih (by simpa [oim] using h)) hA
 case c=>exact fun q _ ih h=>.tup (l.at e s q (.inl ⟨_,rfl⟩)) (ih (by simpa [oim] using h))
 case a2=>exact fun hA _=>.nil hA
 case d =>
  intro v o vs os A1 A2 A q t d hA ih it h;simp [aqhl] at h;exact .cons (ih h.1) (it h.2) d hA
theorem aqie.own (l:aqie F H G) (e:Ext G H F' H') (s:aqi7 F H) {v:V} {o:O} {A:AS} (h:oim o=true) (q:Own K F' H' v o A):Own K (DL.ajr F H F') H' v o A:=(aWx l e s).1 q h
end
theorem RS.look (r:RS K β F H σ ρ) (S:List Bool):∃ G,aqie F H G/\RE K G σ (frz S ρ)/\RS K β G H σ (fz S ρ):=by
 obtain ⟨A,h1,h2,h3⟩:=r.own
 let Z:AS:=fun b=>∃ i,msk S i=true/\(∃ o d,ρ[i]?=some (some o)/\oD o=some d)/\A i b
 have Zf:∀ b,Z b->F b=none/\β.B b=none:=fun b ⟨i,_,_,q⟩=>⟨(h2 i b q).1,(h2 i b q).2.1⟩;have Zt:∀ b,Z b->∃ u,H b=some u/\∀ xs,u ≠ .tup xs/\∀ ob w,u ≠ .frz ob w:=fun b ⟨i,_,_,q⟩=>by
  obtain ⟨_,_,o,ho⟩:=h2 i b q;obtain ⟨v,_,z⟩:=h1 i o ho;exact z.there b q
 have sF:aqi7 F (aqi5 F H Z):=ajx fun b z=>(Zf b z).1;refine ⟨aqi5 F H Z,⟨sF,aXj r.ext.fh,fun b u q=>?_⟩,fun i d h=>?_,⟨aka r.ext Zf,(aqbs S ρ).trans r.len,r.pin,?_⟩⟩
 ·by_cases z:Z b
  ·rw [aql z] at q
   obtain ⟨u',e1,e2⟩:=Zt b z;rw [q] at e1; cases e1;exact .inr e2
  ·rw [aT z] at q; exact .inl q
 ·obtain ⟨g1,o,g2,g3⟩:=aqbt h
  obtain ⟨v,e1,e2⟩:=h1 i o g2;exact ⟨v,e1,e2.rep sF g3 fun b z=>aql ⟨i,g1,⟨o,d,g2,g3⟩,z⟩⟩
 ·classical
  refine ⟨fun i b=>A i b/\¬ (msk S i=true/\∃ o d,ρ[i]?=some (some o)/\oD o=some d),fun i o h=>?_,fun i b h=>?_,fun i j b x y=>h3 i j b x.1 y.1⟩
  ·rcases aqe8 h with ⟨g1,o',d,g2,g3,rfl⟩ | ⟨g1,g2⟩
   ·obtain ⟨v,e1,e2⟩:=h1 i o' g2
    exact ⟨v,e1,.sh (e2.rep sF g3 fun b z=>aql ⟨i,g1,⟨o',d,g2,g3⟩,z⟩) fun b z=>z.2 ⟨g1,o',d,g2,g3⟩⟩
   ·obtain ⟨v,e1,e2⟩:=h1 i o g1
    refine ⟨v,e1,(e2.stay sF (H':=H) fun _ _=>rfl).congr fun b=>⟨fun z=>⟨z,?_⟩,fun z=>z.1⟩⟩;rintro ⟨m,o',d,q1,q2⟩;rw [g1] at q1; cases q1;rw [g2 m] at q2; cases q2
  ·obtain ⟨e1,e2,o,ho⟩:=h2 i b h.1
   refine ⟨(aT ?_).trans e1,e2,?_⟩
   ·rintro ⟨j,m,q,z⟩
    have:=h3 i j b h.1 z
    subst this;exact h.2 ⟨m,q⟩
   ·
    have hl:i < (fz S ρ).length:=by rw [aqbs]; exact (Aj.mp ho).1
    have hx:∃ c,(fz S ρ)[i]?=some c:=⟨_,getElem?_eq_getElem hl⟩;obtain ⟨c,hc⟩:=hx;cases c with
    | some o'=>exact ⟨o',hc⟩
    | none =>
     exfalso
     have:∀ (S:List Bool) (ρ:Cs) (i:Nat) (o:O),ρ[i]?=some (some o)->(fz S ρ)[i]? ≠ some none:=by
      intro S
      induction S with
      | nil=>intro ρ i o h z; cases ρ <;> simp [fz] at z h; rw [h] at z; cases z
      | cons b S ih =>
       intro ρ i o h z;cases ρ with
       | nil=>simp at h
       | cons c ρ =>
        cases i with
        | zero =>
         simp at h; subst h;cases b with
         | false=>simp [fz] at z
         | true=>simp [fz,fzc] at z; split at z <;> cases z
        | succ i=>exact ih ρ i o (by simpa using h) (by simpa [fz] using z)
     exact this S ρ i o ho hc
theorem aqca (ρ:Cs):frz (Au ρ.length true) ρ=all ρ:=by
 induction ρ with
 | nil=>simp [frz,all]
 | cons c ρ ih=>simp [frz,all,Gk] at ih ⊢; exact ih
theorem RS.lookAll (r:RS K β F H σ ρ):∃ G,aqie F H G/\RE K G σ (all ρ):=by
 obtain ⟨G,l,re,_⟩:=r.look (Au ρ.length true);rw [aqca] at re;exact ⟨G,l,re⟩
theorem RS.back (r:RS K β F H σ ρ) {G:Hp} (l:aqie F H G) (e:Ext G H F' H'):RS K β (ajr F H F') H' σ ρ:=r.ext' (l.ext e r.ext.fh)
structure RT (K:Frag) (β:Bs) (F H:Hp) (σ:St) (ρ:Cs) (v:V) (o:O):Prop where
 ext:Ext β.F₀ β.B F H
 len:ρ.length=σ.length
 pin:∀ i,β.P i=true->σ[i]?=β.σ₀[i]?
 own:∃ (A:Nat->AS) (T:AS),OwnT K β.B F H σ ρ A/\Own K F H v o T/\(∀ b,T b->F b=none/\β.B b=none)/\∀ i b,A i b->¬ T b
theorem RS.push (r:RS K β F H σ ρ) (e:Ext F H F' H') {v:V} {o:O} {T:AS} (q:Own K F' H' v o T) (n:∀ b,T b->F' b=none/\H b=none):RT K β F' H' σ ρ v o :=
 ⟨r.ext.trans e,r.len,r.pin,by
  obtain ⟨A,w⟩:=r.own;refine ⟨A,T,w.ext e,q,fun b z=>⟨(n b z).1,r.ext.hh.free (n b z).2⟩,fun i b x y=>?_⟩;obtain ⟨u,hu,_⟩:=w.there x;rw [(n b y).2] at hu; cases hu⟩
theorem RS.sh (r:RS K β F H σ ρ) {v:V} {d:D} (q:Rep K F v d):RT K β F H σ ρ v (.sh d) :=
 r.push (Ext.refl r.ext.fh) (T:=fun _=>False) (.sh q fun _ z=>z) fun _ z=>z.elim
end
def tM (K:Frag) (f:FM):TE:=fun σ H Q=>∃ β F ρ p,RS K β F H σ ρ/\f ρ=some p/\∀ v F' H',aqi7 F F'->aqi7 H H'->RT K β F' H' σ p.2 v p.1->Q v H'
def DM (X:Cx) (e:Expr) (f:FM):Prop:=PE X e (tM X.K f)
section
variable {X:Cx} {e:Expr}
theorem DE.m (S:List Bool) {f:FE} (h:DE X e f):DM X e (mE S f):=by
 refine PE.imp h fun σ H Q q=>?_;obtain ⟨β,F,ρ,p,r,hf,k⟩:=q;obtain ⟨d,hd,rfl⟩:=map_some hf;obtain ⟨G,l,re,rz⟩:=r.look S;refine ⟨G,frz S ρ,d,l.gh,re,hd,fun v F' H' e q=>?_⟩
 by_cases hi:imm d=true
 ·rw [if_pos hi] at k
  exact k v _ H' axe e.hh ((r.back l e).sh (l.rep e r.ext.fh hi q))
 ·rw [if_neg hi] at k
  exact k v F' H' (l.fg.trans e.ff) e.hh ((rz.ext' e).sh q)
theorem DO.m (S:List Bool) {f:FO} (h:DO X e f):DM X e (mO S f):=by
 refine PE.imp h fun σ H Q q=>?_;obtain ⟨β,F,ρ,p,r,hf,k⟩:=q;obtain ⟨o,ho,rfl⟩:=map_some hf;obtain ⟨G,l,re,rz⟩:=r.look S;refine ⟨G,frz S ρ,o,l.gh,re,ho,fun v F' H' A e q n=>?_⟩
 by_cases hi:oim o=true
 ·rw [if_pos hi] at k
  exact k v _ H' axe e.hh (r.push (l.ext e r.ext.fh) (l.own e r.ext.fh hi q) fun b z=>⟨(akr r.ext.fh (n b z).2).trans (n b z).1,(n b z).2⟩)
 ·rw [if_neg hi] at k
  exact k v F' H' (l.fg.trans e.ff) e.hh (rz.push e q n)
end
def EndS (K:Frag) (β:Bs) (E:Ends):Out->Prop
 | .nx ρ'=>∀ F' H' σ',RS K β F' H' σ' ρ'->E.nx σ' H'
 | .bk ρ'=>∀ F' H' σ',RS K β F' H' σ' ρ'->E.bk σ' H'
 | .ct ρ'=>∀ F' H' σ',RS K β F' H' σ' ρ'->E.ct σ' H'
 | .rt o ρ'=>∀ F' H' σ' v,RT K β F' H' σ' ρ' v o->E.rt v H'
 | .ex _ _=>False
def tS (K:Frag) (W:List Nat) (b:Blk):TS:=fun E σ H=>∃ β F ρ o,RS K β F H σ ρ/\(∀ i∈W,β.P i=false)/\b ρ=some o/\EndS K β E o
def DS (X:Cx) (st:Stmt) (W:List Nat) (b:Blk):Prop:=PS X st (tS X.K W b)
def DSs (X:Cx) (st:List Stmt) (W:List Nat) (b:Blk):Prop:=PSs X st (tS X.K W b)
section
variable {X:Cx} {st:Stmt} {aqhg:List Stmt} {a e:Expr} {pos:Pos} {W W1 W2:List Nat}
theorem aYl {β:Bs} (h:∀ i∈W1++W2,β.P i=false):∀ i∈W1,β.P i=false:=fun i m=>h i (D3 _ m)
theorem mem_r {β:Bs} (h:∀ i∈W1++W2,β.P i=false):∀ i∈W2,β.P i=false:=fun i m=>h i (mem_append_right _ m)
theorem akx:DSs X [] [] bNil:=by
 refine PSs.imp ao fun E σ H q=>?_;obtain ⟨β,F,ρ,o,r,_,h,k⟩:=q;cases h;exact k F H σ r
theorem azl {b c:Blk} (h1:DS X st W1 b) (h2:DSs X aqhg W2 c):DSs X (st :: aqhg) (W1++W2) (bSeq b c):=by
 refine PSs.imp (ae h1 h2) fun E σ H q=>?_;obtain ⟨β,F,ρ,o,r,hw,h,k⟩:=q;unfold bSeq at h;cases hb:b ρ with
 | none=>rw [hb] at h; cases h
 | some o1 =>
  rw [hb] at h;cases o1 with
  | nx ρ'=>exact ⟨β,F,ρ,.nx ρ',r,aYl hw,hb,fun F' H' σ' r'=>⟨β,F',ρ',o,r',mem_r hw,h,k⟩⟩
  | bk ρ'=>cases h; exact ⟨β,F,ρ,.bk ρ',r,aYl hw,hb,k⟩
  | ct ρ'=>cases h; exact ⟨β,F,ρ,.ct ρ',r,aYl hw,hb,k⟩
  | rt d ρ'=>cases h; exact ⟨β,F,ρ,.rt d ρ',r,aYl hw,hb,k⟩
  | ex d ρ'=>cases h; exact ⟨β,F,ρ,.ex d ρ',r,aYl hw,hb,k⟩
theorem ax2 {b:Blk} (h1:DS X st W b):DSs X [st] W b:=ah h1
theorem awu {f:FM} (h:DM X e f):DS X (.Return (some e) pos) [] (bRet f):=by
 refine PS.imp (au h) fun E σ H q=>?_;obtain ⟨β,F,ρ,o,r,hw,h,k⟩:=q;obtain ⟨p,hd,rfl⟩:=map_some h;exact ⟨β,F,ρ,p,r,hd,fun v F' H' _ _ rt=>k F' H' σ v rt⟩
theorem ds_if {c:Expr} {as bs:List Stmt} {q:FT} {a b:Blk} (hc:DT X c q) (ha:DSs X as W1 a) (hb:DSs X bs W2 b):DS X (.If c as bs pos) (W1++W2) (bIf q a b):=by
 refine PS.imp (aZ hc ha hb) fun E σ H z=>?_;obtain ⟨β,F,ρ,o,r,hw,h,k⟩:=z;obtain ⟨t,ht,h⟩:=bind_some h;obtain ⟨G,l,re⟩:=r.lookAll;refine ⟨G,DL.all ρ,t,l.gh,re,ht,fun F' H' e=>?_⟩;have r':=r.back l e;cases t with
 | true=>rw [if_pos rfl] at h; exact aqhs ⟨β,_,ρ,o,r',aYl hw,h,k⟩
 | false=>rw [if_neg Al] at h; exact aqht ⟨β,_,ρ,o,r',mem_r hw,h,k⟩
end
theorem aqd5 {K:Frag} {F H:Hp} {N:List Str} {vs:List V} {ds:List D} (s:aqi7 F H) (r:Reps K F vs ds):RS K ⟨F,H,fun _=>false,[]⟩ F H (L2.start N vs) (ini N.length ds) where
 ext:=Ext.refl s
 len:=by simp [L2.start,ini,r.length]
 pin:=fun i h=>by cases h
 own:=by
  refine ⟨fun _ _=>False,fun i o h=>?_,fun _ _ z=>z.elim,fun _ _ _ z=>z.elim⟩;unfold ini at h
  by_cases hi:i < ds.length
  ·rw [Ea (by simpa using hi),getElem?_map] at h
   cases q:ds[i]? with
   | none=>rw [q] at h; cases h
   | some d' =>
    rw [q] at h;cases h;obtain ⟨v,h1,h2⟩:=r.getD q;refine ⟨v,?_,.sh h2 fun _ z=>z⟩;unfold L2.start;rw [Ea (by rw [length_map,r.length]; exact hi),getElem?_map,h1];rfl
  ·rw [G5 (by simpa using hi)] at h
   have:=mem_of_getElem? h
   simp at this
section
variable {P:Af} {w:World} {K:Frag} {mg:Str->Option Value} {base:Heap}
theorem fnO {x qual:Str} {st:Stmt} {f:Addr} {fd:Am} {N ps:List Str} {k n m:Nat} {W:List Nat} {b:Blk} (F:Fun K x qual st f fd) (S:FnScope N ps (ai st)) (hn:ps.length=n) (hm:N.length=m)
  (hb:∀ (cdv:Value) (A:Around) (outer:List Env) (s:Shared) (H:Hp) (E:XK),Room k (A.deeper (E1 qual (ai st) s.heap.objs.size f cdv))->DSs (aqi2 CX0 P w K mg base N qual (ai st) f cdv A outer s H E).nox (aQ st) W b) :
  FnOk P w K mg base CX0 (k + 1) f fd ps (spO K n (runO m b)):=by
 subst hn hm;refine F.ok S (fun vs H Q E h=>?_) (fun cdv A outer s H vs Q E hr h=>⟨_,hb cdv A outer s H E hr,?_⟩)
 ·obtain ⟨F,ds,d,_,r,hl,_⟩:=h
  rw [r.length,hl]
 ·obtain ⟨F,ds,o,s,r,hl,h,k⟩:=h
  unfold runO at h;cases hb1:b (ini N.length ds) with
  | none=>rw [hb1] at h; cases h
  | some o1 =>
   rw [hb1] at h;refine ⟨_,F,_,o1,aqd5 s r,fun _ _=>rfl,hb1,?_⟩;cases o1 with
   | nx ρ=>cases h; exact fun F' H' σ' r'=>k _ F' H' (fun _=>False) r'.ext (.sh .non fun _ z=>z) fun _ z=>z.elim
   | rt o' ρ =>
    cases h;intro F' H' σ' v r';obtain ⟨A,T,_,q,n,_⟩:=r'.own;exact k v F' H' T r'.ext q n
   | bk ρ=>cases h
   | ct ρ=>cases h
   | ex c ρ=>cases h
theorem FnOk.d {f:Addr} {fd:Am} {ps:List Str} {k n:Nat} {g:List D->Option O} (F:FnOk P w K mg base CX0 k f fd ps (spO K n g)):FnOk P w K mg base CX0 k f fd ps (spD K n fun ds=>(g ds).bind oD) :=
 F.imp fun vs H Q E h=>by
  obtain ⟨F,ds,d,s,r,hl,hg,k⟩:=h;obtain ⟨o,ho,hd⟩:=bind_some hg;exact ⟨F,ds,o,s,r,hl,ho,fun v F' H' A e q hA=>k v (aqi5 F' H' A) H' (aka e hA) (q.rep (ajx fun b z=>(hA b z).1) hd fun b z=>aql z)⟩
end
theorem aqdp {K:Frag} {g:List D->Option D} {H:Hp} {a:Addr} {ns:List Int} (h:g [.lst (ns.map .int)]=some (.bl true)) (hS:SqE K H a (ns.map V.int)):spD K 1 g [.ref a] H (fun v _=>v=.bl true) fun _ _ _=>False :=
 ⟨H,[.lst (ns.map .int)],.bl true,aqi7.refl _,.cons (.lst hS (aqn ns)) .nil,rfl,h,fun v F' H' _ r=>by cases r; rfl⟩
theorem law_call {P:Af} {w:World} {K:Frag} {mg mb:Str->Option Value} {CX:CXT} {k:Nat} {fa a:Addr} {fd:Am} {x:Str} {sp:Sp} {s₁:Shared} {vs:List Value} {ns:List Int}
  (KX:K.In s₁.heap) (hns:s₁.heap.Ns Ak mg) (hb:s₁.heap.Ns K8 mb) (hbb:∀ x:Str,x ≠ "__name__"->mb x=Aw x) (hlim:s₁.heap.NoLimit) (hg:s₁.gens=#[])
  (ha:s₁.heap.get? a=some { cls:=.type "list",data:=.seq vs.toArray }) (hi:IntsAre vs ns) (hl:ns.length <= Ad) (hr:Room k Gv)
  (F:∀ base:Heap,K.In base->base.Ns Ak mg->FnOk P w K mg base CX k fa fd [x] sp) (hbind:∀ (s:Shared) (u:Value),Hs s fd ⟨[u],[]⟩ [(x,u)])
  (hsp:∀ H:Hp,SqE K H a (ns.map V.int)->sp [.ref a] H (fun v _=>v=.bl true) fun _ _ _=>False)
  (hCX:∀ H e s',CX [] H s₁ (fun _ _ _=>False) e s'->False) :
  Em (model P w) Gv (.call (.ref fa) ⟨[.ref a],[]⟩) (fun r s'=>r=.ok (.ret (.bool true))/\OldK s₁.heap s'.heap/\s'.os=s₁.os/\Fx s'.gens) s₁:=by
 refine L2.law_call KX hns hb hbb hlim hg ha hi hl hr F hbind (fun H _ hS=>hsp H ?_) hCX;rcases hS with h | ⟨o,its,n,hk,hc,hd,hs,hz,r⟩
 ·exact .inl h
 ·have e:=KX a o hk
  rw [ha] at e;cases e;exact .inr ⟨vs,_,hk,by rw [length_map]; exact hl,ax7 hi⟩
theorem aZ5 {l:Ge} {n k:Nat} {q:Af} {loose:List Str} {XP:(Str->Option Value)->Heap->Prop} {YP:World->Heap->Prop} {d:DefRec} {K:Params->Frag} {CX:World->CXT} {sp:World->Sp} {x:Str}
  (hn:l.most=some n) (hn2:n <= Ad) (hdf:d.params.defaults=[]) (hr:Room k Gv)
  (hY:∀ (w:World) (h:Heap),YP w h->(K w.params).In h)
  (F:∀ (w:World) (mg:Str->Option Value) (fa:Addr) (h:Heap),(K w.params).In h->h.Ns Ak mg->mg d.name=some (.ref fa) ->
   ∃ fd:Am,(∀ (s:Shared) (u:Value),Hs s fd ⟨[u],[]⟩ [(x,u)]) /\
    ∀ base:Heap,(K w.params).In base->base.Ns Ak mg->FnOk l.prog w (K w.params) mg base (CX w) k fa fd [x] (sp w))
  (hsp:∀ (w:World) (H:Hp) (a:Addr) (ns:List Int),ns.length <= n->SqE (K w.params) H a (ns.map V.int)->sp w [.ref a] H (fun v _=>v=.bl true) fun _ _ _=>False)
  (hCX:∀ (w:World) (H:Hp) (s:Shared) (e:Value) (s':Shared),CX w [] H s (fun _ _ _=>False) e s'->False) :
  K2 q loose XP YP l.row.toRowW d [] (fun f vs=>PySem.call f vs):=by
 refine Att.attach_call hn hdf fun w s₀ s₁ mg mb fa o pm cd doc a vs ns G Y ho hd hcd hmg hobj hints hlen hg=>?_;have KX:=hY w _ Y;obtain ⟨fd,hb,hF⟩:=F w mg fa _ KX G.T.g hmg;exact law_call KX G.T.g G.T.b G.T.builtins G.T.nolimit hg hobj hints (le_trans hlen hn2) hr hF hb (fun H hS=>hsp w H a ns hlen hS) fun H e s'=>hCX w H s₁ e s'
def Fn (P:Af) (w:World) (K:Frag) (mg:Str->Option Value) (base:Heap) (k:Nat) (x:Str) (ps:List Str) (sp:Sp):Prop :=
 ∃ f fd,FnOk P w K mg base CX0 k f fd ps sp/\mg x=some (.ref f)/\G4 K (.ref f)=true/\Binds K fd ps []
section
variable {X:Cx} {k n:Nat} {x:Str} {ps:List Str} {a:Expr} {es:List Expr} {p pos:Pos}
end
theorem aqer {α:Type} (xs:List α) (i:Int):atP xs i=atI xs i:=rfl
inductive At (F H:Hp):V->List Stp->V->Prop
 | nil {v:V}:At F H v [] v
 | lst {a:Addr} {vs:List V} {i:Int} {n:Nat} {w v':V} {p:List Stp} (h:H a=some (.lst vs)) (hn:ixP vs.length i=some n) (hv:vs[n]?=some w) (t:At F H w p v'):At F H (.ref a) (.ix i :: p) v'
 | tup {a:Addr} {vs:List V} {i:Int} {n:Nat} {w v':V} {p:List Stp} (h:F a=some (.tup vs)) (hn:ixP vs.length i=some n) (hv:vs[n]?=some w) (t:At F H w p v'):At F H (.ref a) (.ix i :: p) v'
section
variable {K:Frag} {β:Bs} {F F' H H':Hp} {σ:St} {ρ:Cs}
theorem At.mono (sF:aqi7 F F') (sH:aqi7 H H') {v v':V} {p:List Stp} (h:At F H v p v'):At F' H' v p v':=by
 induction h with
 | nil=>exact .nil
 | lst h hn hv _ ih=>exact .lst (sH _ _ h) hn hv ih
 | tup h hn hv _ ih=>exact .tup (sF _ _ h) hn hv ih
theorem At.snoc {v w v':V} {p:List Stp} {s:Stp} (h:At F H v p w) (h':At F H w [s] v'):At F H v (p++[s]) v':=by
 induction h with
 | nil=>exact h'
 | lst h hn hv _ ih=>exact .lst h hn hv (ih h')
 | tup h hn hv _ ih=>exact .tup h hn hv (ih h')
theorem RT.frame {v:V} {o:O} (r:RT K β F H σ ρ v o):∃ B',RS K ⟨β.F₀,B',β.P,β.σ₀⟩ F H σ ρ/\∀ (F' H':Hp) (σ':St) (ρ':Cs),aqi7 F F'->RS K ⟨β.F₀,B',β.P,β.σ₀⟩ F' H' σ' ρ'->RT K β F' H' σ' ρ' v o:=by
 obtain ⟨A,T,⟨h1,h2,h3⟩,q,n,d⟩:=r.own;have hT:∀ b,T b->∃ u,H b=some u:=fun b z=>by obtain ⟨u,h,_⟩:=q.there b z; exact ⟨u,h⟩
 have e:=r.ext;refine ⟨aqi5 β.B H T,⟨⟨e.ff,e.fh,aXj e.hh,fun b u z=>?_⟩,r.len,r.pin,A,h1,fun i b z=>?_,h3⟩,fun F' H' σ' ρ' sF r'=>⟨⟨r'.ext.ff,r'.ext.fh,fun b u z=>?_,fun b u z=>?_⟩,r'.len,r'.pin,?_⟩⟩
 ·rcases e.nw b u z with y | y
  ·exact .inl y
  ·refine .inr ((aT fun t=>?_).trans y)
   rw [(n b t).1] at z; cases z
 ·obtain ⟨e1,e2,e3⟩:=h2 i b z
  exact ⟨e1,(aT (d i b z)).trans e2,e3⟩
 ·refine r'.ext.hh b u ((aT fun t=>?_).trans z)
  rw [(n b t).2] at z; cases z
 ·rcases r'.ext.nw b u z with y | y
  ·exact .inl y
  ·by_cases t:T b
   ·exact .inr (n b t).2
   ·have y':aqi5 β.B H T b=none:=y
    rw [aT t] at y'; exact .inr y'
 ·obtain ⟨A',g1,g2,g3⟩:=r'.own
  have nB:∀ b,T b->aqi5 β.B H T b ≠ none:=fun b t z=>by
   rw [aql t] at z;obtain ⟨u,hu⟩:=hT b t;rw [hu] at z; cases z
  refine ⟨A',T,⟨g1,fun i b z=>?_,g3⟩,q.stay sF fun b t=>?_,fun b t=>⟨?_,(n b t).2⟩,fun i b x t=>nB b t (g2 i b x).2.1⟩
  ·obtain ⟨e1,e2,e3⟩:=g2 i b z
   refine ⟨e1,?_,e3⟩;have e2':aqi5 β.B H T b=none:=e2;rw [aT fun t=>nB b t e2'] at e2';exact e2'
  ·obtain ⟨u,hu⟩:=hT b t
   rw [hu];exact r'.ext.hh b u ((aql t).trans hu)
  ·cases z:F' b with
   | none=>rfl
   | some u =>
    exfalso;rcases r'.ext.nw b u z with y | y
    ·have:=e.ff b u y
     rw [(n b t).1] at this; cases this
    ·exact nB b t y
end
def tP (K:Frag) (i:Nat) (S:List Bool) (p:FP):TE:=fun σ H Q=>∃ β F ρ q c o,RS K β F H σ ρ/\p (frz S ρ)=some q/\ρ[i]?=some (some c)/\getO q c=some o /\
 ∀ v0 v F' H',σ[i]?=some (some v0)->aqi7 F F'->aqi7 H H'->RS K β F' H' σ ρ->At F' H' v0 q v->Q v H'
def DP (X:Cx) (e:Expr) (i:Nat) (S:List Bool) (p:FP):Prop:=PE X e (tP X.K i S p)
section
variable {X:Cx} {e k:Expr} {pos:Pos} {i:Nat} {S:List Bool} {p:FP}
end
end DL
namespace DL
open PySem PySem.Spec PyProof.Rows L2 PySem.SeqAt
theorem aqc2 {g:Int->Int->Int} {x y d:D} (h:dI g x y=some d):∃ i j,x=.int i/\y=.int j/\d=.int (g i j):=by
 unfold dI at h;split at h
 ·cases h; exact ⟨_,_,rfl,rfl,rfl⟩
 ·cases h
theorem aqc4 {g:Int->Int->Bool} {x y d:D} (h:dB g x y=some d):∃ i j,x=.int i/\y=.int j/\d=.bl (g i j):=by
 unfold dB at h;split at h
 ·cases h; exact ⟨_,_,rfl,rfl,rfl⟩
 ·cases h
section
variable {K:Frag} {X:Cx}
theorem aqda {g:Int->Int->Int}:OpD K (rI0 fun i j=>.int (g i j)) (dI g):=by
 intro x y d F H v u Q h s rx ry k;obtain ⟨i,j,rfl,rfl,rfl⟩:=aqc2 h;cases rx; cases ry;exact ⟨i,j,rfl,rfl,k _ F H (Ext.refl s) (.int _)⟩
theorem aqdb {g:Int->Int->Bool}:OpD K (rI0 fun i j=>.bl (g i j)) (dB g):=by
 intro x y d F H v u Q h s rx ry k;obtain ⟨i,j,rfl,rfl,rfl⟩:=aqc4 h;cases rx; cases ry;exact ⟨i,j,rfl,rfl,k _ F H (Ext.refl s) (.bl _)⟩
def rAddD:R2:=fun x y H Q=>(∃ i j,x=.int i/\y=.int j/\Q (.int (i + j)) H) \/ ∃ i j,x=.str i/\y=.str j/\i.length + j.length <= Ad/\Q (.str (i++j)) H
theorem az2:OpR X (Cy .Add) rAddD:=OpR.or aze aq7
theorem az1:OpD K rAddD dAdd:=by
 intro x y d F H v u Q h s rx ry k;unfold dAdd at h;split at h
 ·cases h; cases rx; cases ry
  exact .inl ⟨_,_,rfl,rfl,k _ F H (Ext.refl s) (.int _)⟩
 ·split at h
  ·rename_i hl
   cases h; cases rx; cases ry;exact .inr ⟨_,_,rfl,rfl,aVt hl,k _ F H (Ext.refl s) (.str _)⟩
  ·cases h
 ·cases h
theorem aqar:OpD K (rI0 fun i j=>.int (i - j)) dSub:=aqda
theorem aqd8:OpD K (rI0 fun i j=>.bl (decide (i < j))) dLt:=aqdb
theorem aV5 {i:Int} (h:i.natAbs < BIG):Kv i <= 1000001:=by
 unfold BIG at h;exact Nat.le_succ_of_le (intBits_le_iff.mpr h)
theorem avh {i:Int} (h:i.natAbs < SHORT):Kv i <= 64:=by
 unfold SHORT at h;exact Nat.le_succ_of_le (intBits_le_iff.mpr h)
theorem aWr {i j:Int} (h:aWs i j):IntMulOk i j:=by
 rcases h with h | h | h
 ·exact IntMulOk.of_le (aV5 h.1) (aV5 h.2) (by decide)
 ·exact IntMulOk.of_left (avh h)
 ·exact IntMulOk.of_right (avh h)
theorem axv:OpR X (Cy .Mult) (rI aWs fun i j=>.int (i * j)) :=
 opI fun i j _ _ _ _ _ hc q=>mul_int q (aWr hc)
theorem aJb:OpR X (Cy .FloorDiv) (rI (fun i j=>j ≠ 0/\j.natAbs < BIGD) fun i j=>.int (i.fdiv j)) :=
 opI fun i j _ _ _ _ _ hc q=>floordiv_int hc.1 q (.inl (PyProof.noPylong_of_log2 (by
  have h:=hc.2;unfold BIGD at h
  by_cases hz:j.natAbs=0
  ·rw [hz]; decide
  ·exact (Nat.log2_lt hz).mpr h)))
theorem axu:OpD K (rI aWs fun i j=>.int (i * j)) aqi0:=by
 intro x y d F H v u Q h s rx ry k;unfold aqi0 at h;split at h
 ·split at h
  ·rename_i hc
   cases h; cases rx; cases ry;exact ⟨_,_,rfl,rfl,hc,k _ F H (Ext.refl s) (.int _)⟩
  ·cases h
 ·cases h
theorem aQ9:OpD K (rI (fun i j=>j ≠ 0/\j.natAbs < BIGD) fun i j=>.int (i.fdiv j)) dDiv:=by
 intro x y d F H v u Q h s rx ry k;unfold dDiv at h;split at h
 ·split at h
  ·rename_i hc
   cases h; cases rx; cases ry;exact ⟨_,_,rfl,rfl,hc,k _ F H (Ext.refl s) (.int _)⟩
  ·cases h
 ·cases h
theorem axb:OpD K (rI (fun _ j=>j ≠ 0) fun i j=>.int (i.fmod j)) aqi1:=by
 intro x y d F H v u Q h s rx ry k;unfold aqi1 at h;split at h
 ·split at h
  ·rename_i hc
   cases h; cases rx; cases ry;exact ⟨_,_,rfl,rfl,hc,k _ F H (Ext.refl s) (.int _)⟩
  ·cases h
 ·cases h
theorem aVm:OpD K (rI CPow fun i j=>.int (i ^ j.toNat)) dPow:=by
 intro x y d F H v u Q h s rx ry k;unfold dPow at h;split at h
 ·split at h
  ·rename_i hc
   cases h; cases rx; cases ry;exact ⟨_,_,rfl,rfl,⟨hc.1,by omega,by omega⟩,k _ F H (Ext.refl s) (.int _)⟩
  ·cases h
 ·cases h
mutual
def toP:D->PyData
 | .non=>.none
 | .bl b=>.bool b
 | .int i=>.int i
 | .str x=>.str x
 | .lst ds=>.list (aqha ds)
 | .tup ds=>.tuple (aqha ds)
def aqha:List D->List PyData
 | []=>[]
 | d :: ds=>toP d :: aqha ds
end
mutual
theorem aVu:∀ {n:Nat} {d:D},shp n d=true->(toP d).canLay0=true/\(toP d).depth <= n
 | n,.non,_=>by simp [toP,D5,PyData.depth]
 | n,.bl _,_=>by simp [toP,D5,PyData.depth]
 | n,.int _,_=>by simp [toP,D5,PyData.depth]
 | n,.str x,h=>by
  refine ⟨?_,by simp [toP,PyData.depth]⟩;unfold shp at h;simpa [toP,D5,PyData.strOk] using h
 | 0,.lst _,h=>by simp [shp] at h
 | n + 1,.lst xs,h=>by
  obtain ⟨h1,h2⟩:=aq3 (n:=n) (ds:=xs) (by simpa [shp] using h);exact ⟨by simpa [toP,D5] using h1,by simpa [toP,PyData.depth] using h2⟩
 | 0,.tup _,h=>by simp [shp] at h
 | n + 1,.tup xs,h=>by
  obtain ⟨h1,h2⟩:=aq3 (n:=n) (ds:=xs) (by simpa [shp] using h);exact ⟨by simpa [toP,D5] using h1,by simpa [toP,PyData.depth] using h2⟩
theorem aq3:∀ {n:Nat} {ds:List D},aqhd n ds=true->Hv (aqha ds)=true/\Js (aqha ds) <= n
 | n,[],_=>by simp [aqha,Hv,Js]
 | n,d :: ds,h=>by
  have h':shp n d=true/\aqhd n ds=true:=by simpa [aqhd] using h
  obtain ⟨a1,a2⟩:=aVu h'.1;obtain ⟨b1,b2⟩:=aq3 h'.2;exact ⟨by simp [aqha,Hv,a1,b1],by simp [aqha,Js]; omega⟩
end
theorem cC {d:D} (h:shp 20 d=true):SeqAt.shaped (toP d)=true:=by
 obtain ⟨h1,h2⟩:=aVu h;unfold SeqAt.shaped;simp [h1]; omega
mutual
theorem akv:∀ {n m:Nat} {x y:D},shp n x=true->shp m y=true->Fv (toP x) (toP y)=eqD x y
 | n,m,x,y,hx,hy=>by
  cases x with
  | lst xs =>
   cases y with
   | lst ys =>
    cases n with
    | zero=>simp [shp] at hx
    | succ n=>cases m with
     | zero=>simp [shp] at hy
     | succ m =>
      simp only [toP,Fv,eqD];exact av2 (n:=n) (m:=m) (by simpa [shp] using hx) (by simpa [shp] using hy)
   | _=>simp [toP,Fv,eqD]
  | tup xs =>
   cases y with
   | tup ys =>
    cases n with
    | zero=>simp [shp] at hx
    | succ n=>cases m with
     | zero=>simp [shp] at hy
     | succ m =>
      simp only [toP,Fv,eqD];exact av2 (n:=n) (m:=m) (by simpa [shp] using hx) (by simpa [shp] using hy)
   | _=>simp [toP,Fv,eqD]
  | _ =>
   cases y with
   | _=>simp [toP,Fv,eqD]
theorem av2:∀ {n m:Nat} {xs ys:List D},aqhd n xs=true->aqhd m ys=true->Fy (aqha xs) (aqha ys)=aqhz xs ys
 | n,m,[],[],_,_=>by simp [aqha,Fy,aqhz]
 | n,m,[],_ :: _,_,_=>by simp [aqha,Fy,aqhz]
 | n,m,_ :: _,[],_,_=>by simp [aqha,Fy,aqhz]
 | n,m,x :: xs,y :: ys,hx,hy=>by
  have hx':shp n x=true/\aqhd n xs=true:=by simpa [aqhd] using hx
  have hy':shp m y=true/\aqhd m ys=true:=by simpa [aqhd] using hy
  simp only [aqha,Fy,aqhz];rw [akv hx'.1 hy'.1,av2 hx'.2 hy'.2]
end
def rEqD (K:Frag) (neg:Bool):R2:=fun x y H Q=>∃ F dx dy,aqi7 F H/\Rep K F x dx/\Rep K F y dy/\shp 20 dx=true/\shp 20 dy=true/\Q (.bl (if neg=true then !eqD dx dy else eqD dx dy)) H
variable {pins:List (Addr × Obj)} {σ:L2.St} {H F:Hp} {s:Shared}
theorem akh (I:Inv X pins σ H s) (e:aqi7 F H):(∀ {v:V} {d:D},Rep X.K F v d->∀ {n:Nat},shp n d=true->∀ {u:Value},aqi8 v u->∃ as,Reads s.heap u (toP d) as)/\∀ {vs:List V} {ds:List D},Reps X.K F vs ds->∀ {n:Nat},aqhd n ds=true->∀ {us:List Value},aqi6 vs us->∃ as,Mh s.heap us (aqha ds) as:=by
 refine ⟨@Rep.rec X.K F (fun v d _=>∀ {n:Nat},shp n d=true->∀ {u:Value},aqi8 v u->∃ as,Reads s.heap u (toP d) as) (fun v d _=>∀ {n:Nat},aqhd n d=true->∀ {us:List Value},aqi6 v us->∃ as,Mh s.heap us (aqha d) as) ?n ?b ?i ?s ?l ?t ?m ?c,@Reps.rec X.K F (fun v d _=>∀ {n:Nat},shp n d=true->∀ {u:Value},aqi8 v u->∃ as,Reads s.heap u (toP d) as) (fun v d _=>∀ {n:Nat},aqhd n d=true->∀ {us:List Value},aqi6 v us->∃ as,Mh s.heap us (aqha d) as) ?n ?b ?i ?s ?l ?t ?m ?c⟩
 case n=>intro n _ u r; cases r; exact ⟨_,.none⟩
 case b=>intro b n _ u r; cases r; exact ⟨_,.bool b⟩
 case i=>intro i n _ u r; obtain ⟨t,rfl⟩:=r; exact ⟨_,.int i t⟩
 case s=>intro x n _ u r; obtain ⟨t,rfl⟩:=r; exact ⟨_,.str x t⟩
 case l =>
  intro a vs ds h q ih n hs u r;cases n with
  | zero=>simp [shp] at hs
  | succ n =>
   cases r;obtain ⟨its,_,rv,h1,_⟩:=Inv.listE I (seqE e h);obtain ⟨as,z⟩:=ih (n:=n) (by simpa [shp] using hs) rv;exact ⟨_,.list h1 rfl rfl (by simpa using z)⟩
 case t =>
  intro a vs ds h q ih n hs u r;cases n with
  | zero=>simp [shp] at hs
  | succ n =>
   cases r;obtain ⟨its,rv,⟨o,h1,h2,_,h3⟩,_⟩:=I.tuple (seqT e h);obtain ⟨as,z⟩:=ih (n:=n) (by simpa [shp] using hs) rv;exact ⟨_,.tuple h1 h2 h3 (by simpa using z)⟩
 case m=>intro n _ us r; cases r; exact ⟨_,.nil⟩
 case c =>
  intro v d vs ds h q ih it n hs us r;cases r with
  | cons r1 r2 =>
   have hs':shp n d=true/\aqhd n ds=true:=by simpa [aqhd] using hs
   obtain ⟨as,z⟩:=ih hs'.1 r1;obtain ⟨bs,z2⟩:=it hs'.2 r2;exact ⟨_,.cons z z2⟩
theorem Rep.reads (I:Inv X pins σ H s) (e:aqi7 F H) {v:V} {d:D} {n:Nat} (h:Rep X.K F v d) (hs:shp n d=true) {u:Value} (r:aqi8 v u):∃ as,Reads s.heap u (toP d) as:=(akh I e).1 h hs r
theorem Reps.reads (I:Inv X pins σ H s) (e:aqi7 F H) {vs:List V} {ds:List D} {n:Nat} (h:Reps X.K F vs ds) (hs:aqhd n ds=true) {us:List Value} (r:aqi6 vs us):∃ as,Mh s.heap us (aqha ds) as:=(akh I e).2 h hs r
theorem awh (hu:X.A.units + 64 < cLine):OpR X (Bi .Eq) (rEqD X.K false):=by
 intro pins s σ H x y v u Q I rx ry h;obtain ⟨F,dx,dy,e,r1,r2,h1,h2,q⟩:=h;obtain ⟨as,z1⟩:=r1.reads I e h1 rx;obtain ⟨bs,z2⟩:=r2.reads I e h2 ry;exact eq_dataH z1 z2 (cC h1) (cC h2) hu (by rw [akv h1 h2]; exact ⟨.bl _,H,I,rfl,q⟩)
theorem aqas (hu:X.A.units + 64 < cLine):OpR X (Bi .NotEq) (rEqD X.K true):=by
 intro pins s σ H x y v u Q I rx ry h;obtain ⟨F,dx,dy,e,r1,r2,h1,h2,q⟩:=h;obtain ⟨as,z1⟩:=r1.reads I e h1 rx;obtain ⟨bs,z2⟩:=r2.reads I e h2 ry;exact ne_dataH z1 z2 (cC h1) (cC h2) hu (by rw [akv h1 h2]; exact ⟨.bl _,H,I,rfl,q⟩)
theorem aWc:OpD K (rEqD K false) dEq:=by
 intro x y d F H v u Q h s rx ry k;unfold dEq at h;split at h
 ·rename_i hc
  cases h;exact ⟨F,x,y,s,rx,ry,hc.1,hc.2,k _ F H (Ext.refl s) (.bl _)⟩
 ·cases h
theorem axm {n m:Nat} {x:D} (hx:shp n x=true):∀ {ds:List D},aqhd m ds=true->(aqha ds).any (fun y=>Fv y (toP x))=ds.any fun y=>eqD y x
 | [],_=>by simp [aqha]
 | d :: ds,h=>by
  have h':shp m d=true/\aqhd m ds=true:=by simpa [aqhd] using h
  simp only [aqha,any_cons];rw [akv h'.1 hx,axm hx h'.2]
def rInD (K:Frag) (neg:Bool):R2:=fun x y H Q=>∃ F dx ds b,aqi7 F H/\Rep K F x dx/\Rep K F y (if b=true then .tup ds else .lst ds)/\shp 20 dx=true/\shp 20 (if b=true then D.tup ds else .lst ds)=true/\Q (.bl (if neg=true then !(ds.any fun y=>eqD y dx) else ds.any fun y=>eqD y dx)) H
theorem aX9 (hu:X.A.units + 64 + 1 < cLine):OpR X (Bi .In) (rInD X.K false):=by
 intro pins s σ H x y v u Q I rx ry h;obtain ⟨F,dx,ds,b,e,r1,r2,h1,h2,q⟩:=h;obtain ⟨as,z1⟩:=r1.reads I e h1 rx;obtain ⟨bs,z2⟩:=r2.reads I e h2 ry;cases b with
 | false =>
  have h2':aqhd 19 ds=true:=by simpa [shp] using h2
  have z2':Reads s.heap u (.list (aqha ds)) bs:=by simpa [toP] using z2
  exact in_list_reads z2' z1 (aq3 h2').1 (Dm (cC h1)) (G7 (cC h1) (by omega)) (by rw [axm h1 h2']; exact ⟨.bl _,H,I,rfl,q⟩)
 | true =>
  have h2':aqhd 19 ds=true:=by simpa [shp] using h2
  have z2':Reads s.heap u (.tuple (aqha ds)) bs:=by simpa [toP] using z2
  exact in_tuple_reads z2' z1 (aq3 h2').1 (Dm (cC h1)) (G7 (cC h1) (by omega)) (by rw [axm h1 h2']; exact ⟨.bl _,H,I,rfl,q⟩)
theorem aX8 (hu:X.A.units + 64 + 1 < cLine):OpR X (Bi .NotIn) (rInD X.K true):=by
 intro pins s σ H x y v u Q I rx ry h;obtain ⟨F,dx,ds,b,e,r1,r2,h1,h2,q⟩:=h;obtain ⟨as,z1⟩:=r1.reads I e h1 rx;obtain ⟨bs,z2⟩:=r2.reads I e h2 ry;cases b with
 | false =>
  have h2':aqhd 19 ds=true:=by simpa [shp] using h2
  have z2':Reads s.heap u (.list (aqha ds)) bs:=by simpa [toP] using z2
  exact notIn_list_reads z2' z1 (aq3 h2').1 (Dm (cC h1)) (G7 (cC h1) (by omega)) (by rw [axm h1 h2']; exact ⟨.bl _,H,I,rfl,q⟩)
 | true =>
  have h2':aqhd 19 ds=true:=by simpa [shp] using h2
  have z2':Reads s.heap u (.tuple (aqha ds)) bs:=by simpa [toP] using z2
  exact notIn_tuple_reads z2' z1 (aq3 h2').1 (Dm (cC h1)) (G7 (cC h1) (by omega)) (by rw [axm h1 h2']; exact ⟨.bl _,H,I,rfl,q⟩)
def rIxD (K:Frag):R2:=fun x y H Q=>rIxL K x y H Q \/ rIxT K x y H Q
theorem ix_D:IxR X (rIxD X.K):=ar.or aqdw
theorem aV6 {vs:List V} {ds:List D} {i:Int} {d:D} (r:Reps K F vs ds) (h:atP ds i=some d):∃ v,atI vs i=some v/\Rep K F v d:=by
 rw [aqer] at h;unfold atI at h ⊢;rw [r.length];obtain ⟨j,h1,h2⟩:=bind_some h;obtain ⟨v,h3,h4⟩:=r.getD h2;exact ⟨v,by rw [h1]; exact h3,h4⟩
theorem aqd9:OpD K (rIxD K) dIx:=by
 intro x y d F H v u Q h s rx ry k;unfold dIx at h;split at h
 ·cases rx with
  | lst q r =>
   cases ry;obtain ⟨w,h1,h2⟩:=aV6 r h;exact .inl ⟨_,_,_,w,rfl,rfl,(seqE s q).l,h1,k w F H (Ext.refl s) h2⟩
 ·cases rx with
  | tup q r =>
   cases ry;obtain ⟨w,h1,h2⟩:=aV6 r h;exact .inr ⟨_,_,_,w,rfl,rfl,seqT s q,h1,k w F H (Ext.refl s) h2⟩
 ·cases h
theorem de_ix {a b:Expr} {pos:Pos} {fa fb:FE} (ha:DE X a fa) (hb:DE X b fb) (hs:aV7 b):DE X (.Subscript a b pos) (f2 dIx fa fb) :=
 PE.imp (aqs ix_D ha hb hs) fun _ _ _ q=>d_op aqd9 q
section
variable {a b c:Expr} {pos:Pos} {op op':CmpOp} {r r':R2} {g g':D->D->Option D} {fa fb fc:FE}
end
theorem ak3:CallD K (fun xs H Q=>∃ p ys,xs=[.ref p]/\(SqL K H p ys \/ SqT K H p ys)/\Q (.int ys.length) H) dLen:=by
 intro ds d F H vs Q h s r k;unfold dLen at h;split at h
 ·cases h
  cases r with | cons r r' =>
  cases r';cases r with | lst q t=>exact ⟨_,_,rfl,.inl (seqE s q).l,k _ F H (Ext.refl s) (by rw [t.length]; exact .int _)⟩
 ·cases h
  cases r with | cons r r' =>
  cases r';cases r with | tup q t=>exact ⟨_,_,rfl,.inr (seqT s q),k _ F H (Ext.refl s) (by rw [t.length]; exact .int _)⟩
 ·cases h
def rCatE (K:Frag):R2:=fun x y H Q=>∃ l b xs zs,x=.ref l/\y=.ref b/\SqE K H l xs/\SqE K H b zs/\xs.length + zs.length <= Ad/\∀ p,H p=none->Q (.ref p) (upd H p (.lst (xs++zs)))
theorem aVp:OpR X (Cy .Add) (rCatE X.K):=by
 intro pins s σ H x y v u Q I rx ry h;obtain ⟨l,b,xs,zs,rfl,rfl,hH,hB,hz,q⟩:=h;cases rx;cases ry;obtain ⟨its,n,r,e,z⟩:=Inv.listE I hH;obtain ⟨its2,n2,r2,e2,z2⟩:=Inv.listE I hB;have hl:=r.length;have hl2:=r2.length;refine PySem.P.add_list e e2 ?_ (by rw [size_toArray,size_toArray]; omega);have ea:its.toArray++its2.toArray=(its++its2).toArray:=by simp
 rw [ea];exact ⟨.ref _,_,I.lnew (t':=s.toks) (r.append r2) (by rw [length_append]; omega),rfl,q _ I.fresh⟩
theorem PO.imp {e:Option Expr} {t t':TO} (h:PO X e t) (i:∀ σ H Q,t' σ H Q->t σ H Q):PO X e t':=fun pins s σ H Q I q=>h pins s σ H Q I (i σ H Q q)
def kitB (T:String):Prop:=∀ (K:Frag) (d:D),PySem.W.kitOne K (.type (tyD d)) (.type T)=some (isT d T)
theorem aYc {T:String} (hT:kitB T):axp X (.builtin "isinstance") (fun xs H Q=>∃ v d F,xs=[v,.ty T]/\aqi7 F H/\Rep X.K F v d/\Q (.bl (isT d T)) H):=by
 intro pins s σ H xs us Q I r h;obtain ⟨v,d,F,rfl,sm,rp,q⟩:=h;cases r with
 | cons r1 r =>
  cases r with
  | cons r2 r =>
   cases r;obtain rfl:=(show _=Value.type T from r2);have fin:∀ tk,EP X pins σ Q (.bool (isT d T)) { s with toks:=tk }:=fun tk=>⟨.bl _,H,I.tok tk,rfl,q⟩;have e:=hT X.K d;cases rp with
   | non=>cases r1; exact Dr PySem.W.kitx_none I.kIn True.intro e (fun z=>nomatch z) fin
   | bl b=>cases r1; exact Dr PySem.W.kitx_bool I.kIn True.intro e (fun z=>nomatch z) fin
   | int i=>obtain ⟨t,rfl⟩:=r1; exact Dr PySem.W.kitx_int I.kIn True.intro e (fun z=>nomatch z) fin
   | str x=>obtain ⟨t,rfl⟩:=r1; exact Dr PySem.W.kitx_str I.kIn True.intro e (fun z=>nomatch z) fin
   | lst h t =>
    cases r1;obtain ⟨its,n,rv,h1,_⟩:=Inv.listE I (seqE sm h);exact Dr PySem.W.kitx_list I.kIn ⟨_,h1,rfl⟩ e (fun z=>nomatch z) fin
   | tup h t =>
    cases r1;obtain ⟨its,rv,⟨o,h1,h2,n,h3⟩,_⟩:=I.tuple (seqT sm h);exact Dr PySem.W.kitx_tuple I.kIn ⟨o,h1,h2⟩ e (fun z=>nomatch z) fin
end
theorem aqbj:kitB "str":=fun K d=>by cases d <;> exact rfl
end DL
set_option maxHeartbeats 2000000
namespace DL
open PySem PySem.Spec PyProof.Rows L2
theorem av4 {prog:Af} {w:World} {A:Around} {R:L6->Shared->Prop} {s:Shared} {elt target iter:Expr} {ifs:List Expr} {scope:Scope} {pos:Pos} {it acc:Value} {env:Env} (I:Nat->Shared->Prop)
  (turn:∀ n s,I n s->wpAny (model prog w) A (Ex it) (fun r s₁=>match r with
   | none=>R (.ok .next) s₁
   | some v=>wpAny (model prog w) A (F8 target it v) (fun _ s₀=>wpAny (model prog w) A (Ly target env v) (fun _ s₂ =>
     wpAny (model prog w) A (forIn ifs true fun c r=>if r=true then do let ok <- isTrue c env (eval c env); pure (ForInStep.yield ok) else pure (ForInStep.yield r)) (fun ok s₃ =>
      if ok=true then wpAny (model prog w) A (eval elt env) (fun x s₄ =>
       wpAny (model prog w) A (call (.builtin "list.append") [acc,x]) (fun _ s₅=>∃ m,m < n/\I m s₅) (fun _ _=>False) s₄) (fun _ _=>False) s₃
      else ∃ m,m < n/\I m s₃) (fun _ _=>False) s₂) (fun _ _=>False) s₀) (fun _ _=>False) s₁) (fun _ _=>False) s)
  (n:Nat) (h:I n s) :
  Em (model prog w) A (.compLoop (.ListComp elt [⟨target,iter,ifs,0⟩] scope pos) 0 it acc env) R s:=by
 refine codeAny_loop rfl I (fun n s hI=>?_) n h;show wpAny _ A ((compTurn (.ListComp elt [⟨target,iter,ifs,0⟩] scope pos) 0 it acc env).onRaise (fun x=>do noteFrame x env; theTreesLotGoes x)) _ _ s;refine wpAny_noted (Av (E:=fun _ _=>False) ?_ (fun _ _ q=>q) fun _ _ z=>z.elim);rw [compTurn_list];refine Aa (wpAny_standAt (Aa (Av (turn n s hI) (fun r s₁ h₁=>?_) fun _ _ h'=>h')));cases r with
 | none=>exact Ab h₁
 | some v =>
  refine Aa (Av h₁ (fun _ s₀ h₀=>?_) fun _ _ h'=>h');refine Aa (Av h₀ (fun _ s₂ h₂=>Aa (Av h₂ (fun ok s₃ h₃=>?_) fun _ _ h'=>h')) fun _ _ h'=>h');cases ok with
  | false=>exact Ab ⟨rfl,h₃⟩
  | true =>
   exact Aa (Aa (Av h₃ (fun x s₄ h₄=>Aa (Av h₄ (fun _ s₅ h₅=>Ab (Ab ⟨rfl,h₅⟩)) fun _ _ h'=>h')) fun _ _ h'=>h'))
def aw (X:Cx) (N':List Str) (scope:Scope) (cl:List (Str × Addr)) (C:Addr) (s₀:Shared) (H₀:Hp) (ex:List Addr) (pn:List (Addr × Obj)):Cx :=
 { X with N:=N',s₀:=s₀,H₀:=H₀,env:=Mi scope cl C X.env,outer:=X.stack,stack:=X.stack,ex:=ex,fn:=fun _=>false,pn:=pn,xe:=fun _ _=>False }
def aq5 (X:Cx) (scope:Scope) (cl:List (Str × Addr)):List (Option Nat)->List Str->Prop
 | [],[]=>True
 | none :: js,_ :: N=>aq5 X scope cl js N
 | some j :: js,x :: N=>(X.N[j]?=some x/\(X.env.kindOf x=some .cell \/ X.env.kindOf x=some .free)/\cl.lookup x=X.env.cells.lookup x/\((B6 scope X.env).names.lookup x=some .cell \/ (B6 scope X.env).names.lookup x=some .free))/\aq5 X scope cl js N
 | _,_=>False
def mkS {α:Type} (js:List (Option Nat)) (σ:List (Option α)):List (Option α):=js.map fun o=>o.bind fun j=>(σ[j]?).bind id
theorem aq5.len {X:Cx} {scope:Scope} {cl:List (Str × Addr)}:∀ {js:List (Option Nat)} {N:List Str},aq5 X scope cl js N->js.length=N.length
 | [],[],_=>rfl
 | none :: js,_ :: N,h=>by simp [aq5.len (js:=js) (N:=N) h]
 | some j :: js,x :: N,h=>by simp [aq5.len h.2]
 | [],_ :: _,h=>h.elim
 | none :: _,[],h=>h.elim
 | some _ :: _,[],h=>h.elim
theorem aq5.get {X:Cx} {scope:Scope} {cl:List (Str × Addr)}:∀ {js:List (Option Nat)} {N:List Str} {i j:Nat} {x:Str},aq5 X scope cl js N->js[i]?=some (some j)->N[i]?=some x ->
  X.N[j]?=some x/\(X.env.kindOf x=some .cell \/ X.env.kindOf x=some .free)/\cl.lookup x=X.env.cells.lookup x/\((B6 scope X.env).names.lookup x=some .cell \/ (B6 scope X.env).names.lookup x=some .free)
 | [],_,_,_,_,_,h,_=>by simp at h
 | none :: js,_ :: N,0,_,_,_,h,_=>by simp at h
 | none :: js,_ :: N,i + 1,_,_,f,h,h'=>aq5.get (js:=js) (N:=N) (i:=i) f (by simpa using h) (by simpa using h')
 | some j :: js,x :: N,0,_,_,f,h,h'=>by simp at h h'; subst h h'; exact f.1
 | some j :: js,x :: N,i + 1,_,_,f,h,h'=>aq5.get (js:=js) (N:=N) (i:=i) f.2 (by simpa using h) (by simpa using h')
 | none :: _,[],_,_,_,f,_,_=>f.elim
 | some _ :: _,[],_,_,_,f,_,_=>f.elim
def aKd (wi:TI) (g:TG) (tc:TT) (te:TE) (js:List (Option Nat)):TE:=fun σ H Q=>wi σ H fun J H1=>∀ l,H1 l=none->∃ W:Nat->Nat->St->Hp->Prop,(∃ m,W 0 m (mkS js σ) (upd H1 l (.lst [])))/\∀ i m σ H,W i m σ H ->
 (J.stop i H/\Q (.ref l) H) \/ (J.go i H/\∀ x H',J.yld i H x H'->g x σ H' fun σ2 H2=>tc σ2 H2 fun b H3 =>
  if b=true then te σ2 H3 fun y H4=>∃ acc,H4 l=some (.lst acc)/\acc.length < Ad/\∃ m',m' < m/\W (i + 1) m' σ2 (upd H4 l (.lst (acc++[y]))) else ∃ m',m' < m/\W (i + 1) m' σ2 H3)
def ajq:TT:=fun _ H Q=>Q true H
def PIfs (X:Cx) (ifs:List Expr) (t:TT):Prop:=(ifs=[]/\∀ σ H Q,t σ H Q->Q true H) \/ ∃ c,ifs=[c]/\PT X c t
theorem ave {X:Cx} {pins:List (Addr × Obj)} {σ:St} {H2:Hp} {s2:Shared} {E:Value->Shared->Prop} {elt target iter:Expr} {ifs:List Expr} {scope:Scope} {pos:Pos} {cl:List (Str × Addr)} {N':List Str} {js:List (Option Nat)}
  {g:TG} {tc:TT} {te:TE} {it:Addr} {fp:List Addr} {tn:Nat->Heap->Prop} {J:It} {RR:Value->Addr->L6->Shared->Prop} {Q:VK}
  (hc:X.calm=true) (hfr:aq5 X scope cl js N') (hcl:∀ x c,cl.lookup x=some c->X.env.cells.lookup x=some c)
  (hhas:∀ x,((B6 scope X.env).names.lookup x=some .cell \/ (B6 scope X.env).names.lookup x=some .free)->∃ c,cl.lookup x=some c)
  (hcell:∀ y∈scope.names,y.2 ≠ .cell) (hkind:scope.kind=.function)
  (hg:∀ C s₀ H₀ ex pn,PG (aw X N' scope cl C s₀ H₀ ex pn) target g) (ht:∀ C s₀ H₀ ex pn,PIfs (aw X N' scope cl C s₀ H₀ ex pn) ifs tc) (he:∀ C s₀ H₀ ex pn,PE (aw X N' scope cl C s₀ H₀ ex pn) elt te)
  (I2:Inv X pins σ H2 s2) (T:Turn X.prog X.w X.K target J fp it tn) (st2:tn 0 s2.heap) (f2:∀ b∈fp,FpOk X pins H2 b)
  (h:∀ l,H2 l=none->∃ W:Nat->Nat->St->Hp->Prop,(∃ m,W 0 m (mkS js σ) (upd H2 l (.lst [])))/\∀ i m σ H,W i m σ H ->
   (J.stop i H/\Q (.ref l) H) \/ (J.go i H/\∀ x H',J.yld i H x H'->g x σ H' fun σ2 H2=>tc σ2 H2 fun b H3 =>
    if b=true then te σ2 H3 fun y H4=>∃ acc,H4 l=some (.lst acc)/\acc.length < Ad/\∃ m',m' < m/\W (i + 1) m' σ2 (upd H4 l (.lst (acc++[y]))) else ∃ m',m' < m/\W (i + 1) m' σ2 H3))
  (hRR:∀ D C s' H' m',Inv X pins σ H' s'->s'.heap.Ns C m'->H' C=none->s2.heap.objs.size <= C->Q (.ref D) H'->RR (.ref D) C (.ok .next) s') :
  wpAny (model X.prog X.w) X.A (newList []) (fun acc s₃=>wpAny (model X.prog X.w) X.A (newFunctionEnv scope X.env.globals cl [] X.env.qual none .none (some X.env)) (fun cenv s₄ =>
   Em (model X.prog X.w) X.A (.compStart (.ListComp elt [⟨target,iter,ifs,0⟩] scope pos) 0 (.ref it) acc { cenv with scope:=B6 scope X.env }) (RR acc cenv.locals) s₄) E s₃) E s2:=by
 refine Bh (wpAny_newFunctionEnv hcell (by intro y hy; simp at hy) (fun h₁ hns₁ hsb₁=>?_) hkind);dsimp only at hns₁ hsb₁ ⊢;generalize hS3:({ s2 with heap:=s2.heap.push { cls:=.type "list",dict:=none,data:=.seq ([]:List Value).toArray } }:Shared)=s3;have hH3:s3.heap=s2.heap.push { cls:=.type "list",dict:=none,data:=.seq ([]:List Value).toArray }:=by rw [<- hS3]
 rw [<- hH3] at hns₁ hsb₁ ⊢;have hC:s3.heap.objs.size=s2.heap.objs.size + 1:=by rw [hH3,Bw]
 have hDn:H2 s2.heap.objs.size=none:=I2.hok.fresh (le_refl _);obtain ⟨W,⟨m0,w0⟩,turn⟩:=h s2.heap.objs.size hDn;have old3:∀ b o,s3.heap.get? b=some o->h₁.get? b=some o:=fun b o e=>hsb₁.extBut b o (ne_of_lt (Ae e)) (Ac _ e);have old2:∀ b o,s2.heap.get? b=some o->s3.heap.get? b=some o:=fun b o e=>by rw [hH3]; exact Ac _ e
 have I3:Inv X pins σ (upd H2 s2.heap.objs.size (.lst [])) s3:=by rw [<- hS3]; exact I2.lnew (its:=[]) (ys:=[]) (t':=s2.toks) .nil (zero_le _)
 have blk:∀ tk,Inv (aw X N' scope cl s3.heap.objs.size s3 (upd H2 s2.heap.objs.size (.lst [])) fp (X.pn++pins)) [] (mkS js σ) (upd H2 s2.heap.objs.size (.lst [])) { s3 with heap:=h₁,toks:=tk }:=fun tk=>by
  have hCn:(upd H2 s2.heap.objs.size (.lst [])) s3.heap.objs.size=none:=I3.hok.fresh (le_refl _);have cellOld:∀ x c,cl.lookup x=some c->∃ v,s3.heap.IsCell c v:=fun x c e=>I3.cell x c (hcl x c e);have fsSub:∀ b∈frs X.stack,b ≠ s3.heap.objs.size:=fun b hb e=>by
   rcases Ai.mp (I3.stkSub b hb) with z | z
   ·exact absurd I3.lt (by rw [<- z,e]; exact lt_irrefl _)
   ·exact I3.nofs (le_refl _) (e ▸ z)
  refine ⟨⟨I3.ok.mod,hkind,I3.ok.glob,I3.ok.blt,le_refl _,fun x y c h1 h2=>I3.ok.inj x y c (hcl x c h1) (hcl y c h2),fun x hx=>hhas x hx,fun x c hf _=>absurd hf (by simp [aw]),I3.ok.hd,I3.ok.frames,.inl rfl,fun b hb=>⟨?_,fun x c e z=>?_⟩,
   I3.bs,le_trans I3.ok.bsz I3.sz,fun b o e hb=>?_,fun b hb hb2=>?_,I3.stack,I3.stkFree⟩,rfl,I3.bare,Un.kept old3,⟨_,hns₁,fun i x v h1 h2 h3=>?_⟩,fun x c e=>?_,hCn,fun x c e=>?_,fun p hp=>?_,I3.hok.kept old3,?_⟩
  ·
   obtain ⟨o,ho,_⟩:=T.obj 0 _ st2 b hb;intro z;exact absurd (Ae (old2 b o ho)) (by rw [z]; exact lt_irrefl _)
  ·obtain ⟨_,_,_,_,f5,_⟩:=f2 b hb
   exact f5 x c (hcl x c e) z
  ·
   have q:=(I2.bs b o e);obtain ⟨_,_,_,f4,_,_⟩:=f2 b hb;rcases f4 with z | z
   ·exact I2.ok.noex b o e z
   ·exact absurd (lt_of_lt_of_le (Ae (I2.ok.bs b o e).1) z) (lt_irrefl _)
  ·obtain ⟨_,f1,f3,_⟩:=f2 b hb
   rcases Ai.mp (I3.stkSub b hb2) with z | z
   ·exact f1 z
   ·exact f3 z
  ·
   have hj:∃ j,js[i]?=some (some j)/\σ[j]?=some (some v):=by
    unfold mkS at h2;rw [getElem?_map] at h2;cases q:js[i]? with
    | none=>rw [q] at h2; cases h2
    | some oj =>
     rw [q] at h2;cases oj with
     | none=>simp at h2
     | some j =>
      refine ⟨j,rfl,?_⟩;cases z:σ[j]? with
      | none=>simp [z] at h2
      | some ov=>simp [z] at h2; rw [h2]
   obtain ⟨j,hj,hv⟩:=hj;obtain ⟨g1,g2,g3,g4⟩:=hfr.get hj (show N'[i]?=some x from h1);obtain ⟨m,hn,hl⟩:=I3.loc;have vis:Vis X.env.scope x:=by
    rcases g2 with z | z
    ·exact .inr (.inl z)
    ·exact .inr (.inr z)
   obtain ⟨u,r,lk⟩:=hl j x v g1 hv vis;refine ⟨u,r,?_⟩;rcases lk with ⟨kl,_⟩ | ⟨_,c,e,z⟩
   ·rcases g2 with z | z
    ·rw [z] at kl; cases kl
    ·rw [z] at kl; cases kl
   ·obtain ⟨o,ho,hd⟩:=z
    exact .inr ⟨g4,c,g3.trans e,o,old3 c o ho,hd⟩
  ·obtain ⟨v,o,ho,hd⟩:=cellOld x c e
   exact ⟨v,o,old3 c o ho,hd⟩
  ·exact I3.freeC x c (hcl x c e)
  ·have hp':p∈X.pn++pins:=by
    have:p∈(X.pn++pins)++[]:=hp
    simpa using this
   obtain ⟨e,n,ne,nf,d⟩:=I3.pin p hp';refine ⟨old3 _ _ e,n,ne_of_lt (Ae e),fun hb=>?_,d⟩;rcases Ai.mp (I3.stkSub _ hb) with z | z
   ·exact ne z
   ·exact nf z
  ·show (mkS js σ).length=N'.length
   rw [<- hfr.len]; simp [mkS]
 have fpX:∀ {H':Hp} {ps:List (Addr × Obj)},(∀ b∈fp,H' b=none)->(∀ p∈ps,∀ b∈fp,p.1 ≠ b)->∀ b∈fp,FpOk (aw X N' scope cl s3.heap.objs.size s3 (upd H2 s2.heap.objs.size (.lst [])) fp (X.pn++pins)) ps H' b:=fun {H' ps} hn hps b hb=>by
  obtain ⟨_,f1,f3,f4,f5,f6⟩:=f2 b hb;obtain ⟨o,ho,_⟩:=T.obj 0 _ st2 b hb;refine ⟨hn b hb,fun z=>absurd (Ae (old2 b o ho)) (by rw [z]; exact lt_irrefl _),fun hb2=>?_,.inl hb,fun x c e=>f5 x c (hcl x c e),fun p hp=>?_⟩
  ·rcases Ai.mp (I3.stkSub b hb2) with z | z
   ·exact f1 z
   ·exact f3 z
  ·have hp':p∈(X.pn++pins)++ps:=hp
   rcases Bm.mp hp' with z | z
   ·exact f6 p z
   ·exact hps p z b hb
 have st4:tn 0 h₁:=T.keep 0 _ _ st2 fun b _ o e=>old3 b o (old2 b o e);have fr4:∀ b∈fp,(upd H2 s2.heap.objs.size (.lst [])) b=none:=fun b hb=>by
  obtain ⟨o,ho,_⟩:=T.obj 0 _ st2 b hb;rw [af (ne_of_lt (Ae ho))];exact (f2 b hb).1
 have loop:∀ s4:Shared,s4.heap=h₁->Inv (aw X N' scope cl s3.heap.objs.size s3 (upd H2 s2.heap.objs.size (.lst [])) fp (X.pn++pins)) [] (mkS js σ) (upd H2 s2.heap.objs.size (.lst [])) s4 ->
   Em (model X.prog X.w) X.A (.compLoop (.ListComp elt [⟨target,iter,ifs,0⟩] scope pos) 0 (.ref it) (.ref s2.heap.objs.size) (Mi scope cl s3.heap.objs.size X.env)) (RR (.ref s2.heap.objs.size) s3.heap.objs.size) s4:=by
  intro s4 e4 I4;refine av4 (fun n s'=>∃ i σ' H',Inv (aw X N' scope cl s3.heap.objs.size s3 (upd H2 s2.heap.objs.size (.lst [])) fp (X.pn++pins)) [] σ' H' s'/\tn i s'.heap/\(∀ b∈fp,H' b=none)/\W i n σ' H') ?_ m0
   ⟨0,_,_,I4,by rw [e4]; exact st4,fr4,w0⟩
  rintro n s5 ⟨i,σ5,H5,I5,st5,fr5,w5⟩;rcases turn i n σ5 H5 w5 with ⟨stop,q⟩ | ⟨go,step⟩
  ·refine thn (T.done (aw X N' scope cl s3.heap.objs.size s3 (upd H2 s2.heap.objs.size (.lst [])) fp (X.pn++pins)) rfl rfl rfl hc i [] s5 _ H5 _ I5 (fpX fr5 (by simp)) st5 stop) fun r s6 hQ=>?_
   obtain ⟨hr,I6⟩:=hQ;subst hr;have un:Un (frs X.stack) fp H2 H5 s2.heap s6.heap:=by
    have u:=I6.base;refine ⟨fun b o e n hb hx=>u.keep b o (old2 b o e) (by show upd H2 _ _ b=none; rw [af (ne_of_lt (Ae e))]; exact n) hb hx,fun b o e n hb hx=>u.slot b o (old2 b o e) (by show upd H2 _ _ b=none; rw [af (ne_of_lt (Ae e))]; exact n) hb hx,
     fun b o e n hx=>u.free b o (old2 b o e) (by show upd H2 _ _ b=none; rw [af (ne_of_lt (Ae e))]; exact n) hx,fun b o e hx=>u.there b o (old2 b o e) hx,fun b xs e=>u.tups b xs (by show upd H2 _ _ b=_; rw [af (ac e hDn)]; exact e),
     fun b o u' e=>u.frzs b o u' (by show upd H2 _ _ b=_; rw [af (ac e hDn)]; exact e),fun b ps e=>u.tbls b ps (by show upd H2 _ _ b=_; rw [af (ac e hDn)]; exact e)⟩
   have os:s6.os=s2.os:=by rw [I6.os]; show s3.os=s2.os; rw [<- hS3]
   have Iout:Inv X pins σ H5 s6:=I2.call' (ch:=fp) os un I6.hok I6.bare fun b hb=>by
    obtain ⟨_,f1,_,f4,f5,f6⟩:=f2 b hb;exact ⟨f4,f1,f5,f6⟩
   obtain ⟨m',hn',_⟩:=I6.loc;exact hRR _ _ s6 H5 m' Iout hn' I6.free (by rw [hC]; exact le_succ _) q
  ·refine thn (T.item (aw X N' scope cl s3.heap.objs.size s3 (upd H2 s2.heap.objs.size (.lst [])) fp (X.pn++pins)) rfl rfl rfl hc i [] s5 _ H5 _ I5 (fpX fr5 (by simp)) st5 go) fun r s6 hQ=>?_
   obtain ⟨u,hr,h6⟩:=hQ;subst hr;refine thn h6 fun _ s7 hQ=>?_;obtain ⟨x,H7,I7,r7,y7,st7,fr7⟩:=hQ;have I7':=I7.pinned (fpX fr7 (by simp)) (T.obj _ _ st7);have keepT:∀ {σ':St} {H':Hp} {s':Shared},Inv (aw X N' scope cl s3.heap.objs.size s3 (upd H2 s2.heap.objs.size (.lst [])) fp (X.pn++pins)) ([]++avu fp s7.heap) σ' H' s'->tn (i + 1) s'.heap/\∀ b∈fp,H' b=none:=fun {σ' H' s'} I'=>by
    refine ⟨T.keep _ _ _ st7 fun b hb o e=>(I'.pin (b,o) (mem_append_right _ (mem_append_right _ (aq9 hb e)))).1,fun b hb=>?_⟩;obtain ⟨o,e,d⟩:=T.obj _ _ st7 b hb;exact (I'.pin (b,o) (mem_append_right _ (mem_append_right _ (aq9 hb e)))).2.1
   have again:∀ {σ':St} {H':Hp} {s':Shared},Inv (aw X N' scope cl s3.heap.objs.size s3 (upd H2 s2.heap.objs.size (.lst [])) fp (X.pn++pins)) ([]++avu fp s7.heap) σ' H' s'->(∃ m',m' < n/\W (i + 1) m' σ' H') ->
     ∃ m,m < n/\∃ i σ' H',Inv (aw X N' scope cl s3.heap.objs.size s3 (upd H2 s2.heap.objs.size (.lst [])) fp (X.pn++pins)) [] σ' H' s'/\tn i s'.heap/\(∀ b∈fp,H' b=none)/\W i m σ' H':=fun {σ' H' s'} I' ⟨m',hm,w'⟩=>by
    obtain ⟨k1,k2⟩:=keepT I';exact ⟨m',hm,i + 1,σ',H',I'.unpinned,k1,k2,w'⟩
   refine thn (hg _ _ _ _ _ _ s7 σ5 H7 x u _ I7' r7 (step x H7 y7)) fun _ s8 hQ=>?_;obtain ⟨σ8,H8,I8,q8⟩:=hQ;have test:wpAny (model X.prog X.w) X.A (forIn ifs true fun c r=>if r=true then do let ok <- isTrue c (Mi scope cl s3.heap.objs.size X.env) (eval c (Mi scope cl s3.heap.objs.size X.env)); pure (ForInStep.yield ok) else pure (ForInStep.yield r))
     (fun ok s9=>∃ H9,Inv (aw X N' scope cl s3.heap.objs.size s3 (upd H2 s2.heap.objs.size (.lst [])) fp (X.pn++pins)) ([]++avu fp s7.heap) σ8 H9 s9/\(if ok=true then te σ8 H9 fun y H4=>∃ acc,H4 s2.heap.objs.size=some (.lst acc)/\acc.length < Ad/\∃ m',m' < n/\W (i + 1) m' σ8 (upd H4 s2.heap.objs.size (.lst (acc++[y]))) else ∃ m',m' < n/\W (i + 1) m' σ8 H9)) (fun _ _=>False) s8:=by
    rcases ht s3.heap.objs.size s3 (upd H2 s2.heap.objs.size (.lst [])) fp (X.pn++pins) with ⟨e1,e2⟩ | ⟨c,e1,e2⟩
    ·subst e1
     exact wpAny_tests_nil ⟨H8,I8,e2 _ _ _ q8⟩
    ·subst e1
     exact wpAny_tests_one (e2 _ s8 σ8 H8 _ I8 q8)
   refine thn test fun ok s9 hQ=>?_;obtain ⟨H9,I9,q9⟩:=hQ;cases ok with
   | false =>
    rw [if_neg Al] at q9 ⊢;exact again I9 q9
   | true =>
    rw [if_pos rfl] at q9 ⊢;refine thn (he _ _ _ _ _ _ s9 σ8 H9 _ I9 q9) fun y s10 hQ=>?_;obtain ⟨yv,H10,I10,r10,acc,a1,a2,a3⟩:=hQ;refine thn (ajt (X:=aw X N' scope cl s3.heap.objs.size s3 (upd H2 s2.heap.objs.size (.lst [])) fp (X.pn++pins)) _ s10 σ8 H10 (.ref s2.heap.objs.size) [yv] (.ref s2.heap.objs.size) [y] (fun _ H'=>∃ m',m' < n/\W (i + 1) m' σ8 H') I10 rfl (.cons r10 .nil) ⟨_,acc,yv,rfl,rfl,a1,a2,a3⟩) fun _ s11 hQ=>?_;obtain ⟨_,H11,I11,_,q11⟩:=hQ;exact again I11 q11
 have e4:∀ tk,({ s2 with heap:=h₁,toks:=tk }:Shared)={ s3 with heap:=h₁,toks:=tk }:=fun tk=>by rw [<- hS3]
 exact codeAny_compStart_list (loop _ rfl (by rw [e4]; exact blk _)) (T.self _ 0 _ _ _ st4 (loop _ rfl (by rw [e4]; exact blk _)))
theorem Inv.letgo {X:Cx} {pins:List (Addr × Obj)} {σ:St} {H2 H':Hp} {s2 s':Shared} {C:Addr} {h':Heap} (I2:Inv X pins σ H2 s2) {σ':St} (I:Inv X pins σ' H' s') (hn:H' C=none) (hC:s2.heap.objs.size <= C) (hs:Heap.SameBut C s'.heap h'):Inv X pins σ' H' { s' with heap:=h' } :=
 I.turned (t':=s'.toks) (fun b o hb e=>hs.extBut b o hb e) hn (ne_of_gt (lt_of_lt_of_le I2.lt hC)) (.inr (le_trans I2.sz hC)) (fun x c e z=>by
  obtain ⟨v,q⟩:=I2.cell x c e;exact absurd (lt_of_lt_of_le q.lt (by rw [z]; exact hC)) (lt_irrefl _)) (fun p hp z=>absurd (lt_of_lt_of_le (Ae (I2.pin p hp).1) (by rw [z]; exact hC)) (lt_irrefl _))
section
variable {X:Cx} {elt target iter:Expr} {ifs:List Expr} {scope:Scope} {pos:Pos} {cl:List (Str × Addr)} {N':List Str} {js:List (Option Nat)} {wi:TI} {g:TG} {tc:TT} {te:TE}
theorem aqam (hc:X.calm=true) (hi:PI X target iter wi) (hclos:Lg scope X.env=pure cl) (hfr:aq5 X scope cl js N') (hcl:∀ x c,cl.lookup x=some c->X.env.cells.lookup x=some c)
  (hhas:∀ x,((B6 scope X.env).names.lookup x=some .cell \/ (B6 scope X.env).names.lookup x=some .free)->∃ c,cl.lookup x=some c)
  (hcell:∀ y∈scope.names,y.2 ≠ .cell) (hkind:scope.kind=.function) (hnames:∀ x∈scope.names,x.2=.local->scope.names.lookup x.1=some .local)
  (hg:∀ C s₀ H₀ ex pn,PG (aw X N' scope cl C s₀ H₀ ex pn) target g) (ht:∀ C s₀ H₀ ex pn,PIfs (aw X N' scope cl C s₀ H₀ ex pn) ifs tc) (he:∀ C s₀ H₀ ex pn,PE (aw X N' scope cl C s₀ H₀ ex pn) elt te)
  (hs:∀ x,Du iter X.env x=pure x:=by intro _; rfl) :
  PE X (.ListComp elt [⟨target,iter,ifs,0⟩] scope pos) (aKd wi g tc te js):=by
 intro pins s σ H Q I h;rw [eval_ListComp];refine Ie (use:=none) rfl hs hclos hkind hnames (thn (hi pins s σ H _ I h) fun v s1 h1=>thn h1 fun itv s2 h2=>?_);obtain ⟨it,fp,tn,J,H2,rfl,I2,T,st2,f2,q⟩:=h2;refine ave (RR:=fun acc C=>compPost (model X.prog X.w) X.A X.xe none (EP X pins σ Q) acc C) hc hfr hcl hhas hcell hkind hg ht he I2 T st2 f2 q ?_;intro D C s' H' m' I' hn hC hle q';exact ⟨m',hn,fun h' hs'=>⟨.ref D,H',Inv.letgo I2 I' hC hle hs',rfl,q'⟩⟩
theorem aqae {i:Nat} {y:Str} {py spos:Pos} (hN:X.N.Nodup) (hi':X.N[i]?=some y) (hy:X.env.scope.names.lookup y=some .local)
  (hsw:Il (.ListComp elt [⟨target,iter,ifs,0⟩] scope pos) (some (.Name y py)) spos.line X.env=pure true)
  (hc:X.calm=true) (hi:PI X target iter wi) (hclos:Lg scope X.env=pure cl) (hfr:aq5 X scope cl js N') (hcl:∀ x c,cl.lookup x=some c->X.env.cells.lookup x=some c)
  (hhas:∀ x,((B6 scope X.env).names.lookup x=some .cell \/ (B6 scope X.env).names.lookup x=some .free)->∃ c,cl.lookup x=some c)
  (hcell:∀ y∈scope.names,y.2 ≠ .cell) (hkind:scope.kind=.function) (hnames:∀ x∈scope.names,x.2=.local->scope.names.lookup x.1=some .local)
  (hg:∀ C s₀ H₀ ex pn,PG (aw X N' scope cl C s₀ H₀ ex pn) target g) (ht:∀ C s₀ H₀ ex pn,PIfs (aw X N' scope cl C s₀ H₀ ex pn) ifs tc) (he:∀ C s₀ H₀ ex pn,PE (aw X N' scope cl C s₀ H₀ ex pn) elt te)
  (hs:∀ x,Du iter X.env x=pure x:=by intro _; rfl) :
  PS X (.Assign [.Name y py] (.ListComp elt [⟨target,iter,ifs,0⟩] scope pos) spos) (tAsg (aKd wi g tc te js) (aqw i)):=by
 intro pins s σ H E I h;rw [exec_Assign_Name_used _ _ _ _ hsw];refine Aa (wpAny_standAt (Aa ?_));show wpAny _ X.A (do let _ <- comprehension (.ListComp elt [⟨target,iter,ifs,0⟩] scope pos) scope X.env _ (newList []) false (eval iter X.env) (some (Ly (.Name y py) X.env))) _ _ s;refine Aa (Av (Ie (use:=some (Ly (.Name y py) X.env)) (Q:=fun _ s'=>SP X pins E .next s') rfl hs hclos hkind hnames
  (thn (hi pins s σ H _ I h) fun v s1 h1=>thn h1 fun itv s2 h2=>?_)) (fun _ s' hq=>Ab (Ab hq)) fun _ _ e=>e)
 obtain ⟨it,fp,tn,J,H2,rfl,I2,T,st2,f2,q⟩:=h2;refine ave (RR:=fun acc C=>compPost (model X.prog X.w) X.A X.xe (some (Ly (.Name y py) X.env)) (fun _ s'=>SP X pins E .next s') acc C) (Q:=fun x H1=>aqw i x σ H1 E.nx) hc hfr hcl hhas hcell hkind hg ht he I2 T st2 f2 q ?_;intro D C s' H' m' I' hn hC hle q';show wpAny _ X.A (Ly (.Name y py) X.env (.ref D)) _ _ _;refine wpAny_assign_Name (akc I' hN hi' (.inl hy) (v:=.ref D) rfl (fun s'' I'' hQ=>?_) (.inr hy));obtain ⟨a,hsb,ha⟩:=hQ;have hCa:C ≠ a:=by
  rintro rfl;rcases ha with z | z
  ·exact absurd (lt_of_lt_of_le I2.lt (by rw [<- z]; exact hle)) (lt_irrefl _)
  ·obtain ⟨v,q⟩:=I2.cell _ _ z
   exact absurd (lt_of_lt_of_le q.lt hle) (lt_irrefl _)
 exact ⟨m',hn.sameBut hsb hCa,fun h' hs'=>⟨_,H',Inv.letgo I2 I'' hC hle hs',q'⟩⟩
end
def tGE (K:Frag) (g:GE):TG:=fun v σ H Q=>∃ F ρ d ρ',aqi7 F H/\RE K F σ ρ/\ρ.length=σ.length/\Rep K F v d/\g d ρ=some ρ'/\∀ σ',RE K F σ' ρ'->ρ'.length=σ'.length->Q σ' H
def DGE (X:Cx) (tg:Expr) (g:GE):Prop:=PG X tg (tGE X.K g)
section
variable {X:Cx} {pos:Pos}
end
structure CI (K:Frag) (F1 H1 F H:Hp) (σ:L2.St) (ρ:aqih) (l:Addr) (done:List O):Prop where
 ext:Ext F1 H1 F H
 re:RE K F σ ρ
 len:ρ.length=σ.length
 fl:F l=none
 hl:∃ acc A,H l=some (.lst acc)/\Owns K F H acc done A/\∀ b,A b->F b=none/\H1 b=none/\b ≠ l
theorem CI.more {K:Frag} {F1 H1 F H F' H':Hp} {σ:L2.St} {ρ:aqih} {l:Addr} {done:List O} (c:CI K F1 H1 F H σ ρ l done) (e:Ext F H F' H'):CI K F1 H1 F' H' σ ρ l done:=by
 obtain ⟨acc,A,h1,h2,h3⟩:=c.hl;have keep:∀ b,F b=none->(∃ u,H b=some u)->F' b=none:=fun b hf ⟨u,hu⟩=>by
  cases z:F' b with
  | none=>rfl
  | some o =>
   rcases e.nw b o z with y | y
   ·rw [hf] at y; cases y
   ·rw [hu] at y; cases y
 refine ⟨c.ext.trans e,c.re.mono e.ff,c.len,keep l c.fl ⟨_,h1⟩,acc,A,e.hh _ _ h1,h2.ext e.ff e.hh,fun b z=>?_⟩;obtain ⟨g1,g2,g3⟩:=h3 b z;obtain ⟨u,hu,_⟩:=h2.there b z;exact ⟨keep b g1 ⟨u,hu⟩,g2,g3⟩
theorem CI.own {K:Frag} {F1 H1 F H:Hp} {σ:L2.St} {ρ:aqih} {l:Addr} {done:List O} (c:CI K F1 H1 F H σ ρ l done) (hB:H1 l=none):∃ A,Own K F H (.ref l) (.lst done) A/\∀ b,A b->F b=none/\H1 b=none:=by
 obtain ⟨acc,A,h1,h2,h3⟩:=c.hl;refine ⟨_,aWb h1 (fun z=>(h3 l z).2.2 rfl) h2,fun b z=>?_⟩;rcases z with rfl | z
 ·exact ⟨c.fl,hB⟩
 ·exact ⟨(h3 b z).1,(h3 b z).2.1⟩
section
variable {X:Cx} {js:List (Option Nat)} {g:GE} {c:FT} {e:FO}
end
def DIfs (X:Cx) (ifs:List Expr) (c:FT):Prop:=PIfs X ifs (tDT X.K c)
def clo (env:Env):List (Str × NameKind)->List (Str × Addr)->Option (List (Str × Addr))
 | [],cs=>some cs
 | (n,k) :: r,cs=>if (k == .free)=true then (env.cells.lookup n).bind fun c=>clo env r ((n,c) :: cs) else clo env r cs
theorem aXa {env:Env}:∀ {ns:List (Str × NameKind)} {cs cl:List (Str × Addr)},clo env ns cs=some cl->(forIn (m:=Sem) ns cs fun (x:Str × NameKind) cs=>if (x.2 == .free)=true then do let c <- cellOf env x.1; pure (ForInStep.yield ((x.1,c) :: cs)) else pure (ForInStep.yield cs))=pure cl
 | [],cs,cl,h=>by cases h; rfl
 | (n,k) :: r,cs,cl,h=>by
  unfold clo at h;rw [List.forIn_cons]
  by_cases hk:(k == .free)=true
  ·rw [if_pos hk] at h
   obtain ⟨c,hc,h⟩:=bind_some h;have e:cellOf env n=pure c:=by unfold cellOf; rw [hc]
   simp only [hk,if_true,e,pure_bind];exact aXa h
  ·rw [if_neg hk] at h
   simp only [hk,if_false,pure_bind];exact aXa h
theorem ax5 {scope:Scope} {env:Env} {cl:List (Str × Addr)} (h:clo env scope.names []=some cl):Lg scope env=pure cl:=by
 have:=aXa h
 simp only [Lg];rw [this];rfl
theorem ak1 {env:Env}:∀ {ns:List (Str × NameKind)} {cs cl:List (Str × Addr)},clo env ns cs=some cl->∀ x c,(x,c)∈cl->(x,c)∈cs \/ env.cells.lookup x=some c
 | [],cs,cl,h,x,c,hx=>by cases h; exact .inl hx
 | (n,k) :: r,cs,cl,h,x,c,hx=>by
  unfold clo at h
  by_cases hk:(k == .free)=true
  ·rw [if_pos hk] at h
   obtain ⟨a,ha,h⟩:=bind_some h;rcases ak1 h x c hx with z | z
   ·rcases Ai.mp z with y | y
    ·cases y; exact .inr ha
    ·exact .inl y
   ·exact .inr z
  ·rw [if_neg hk] at h
   exact ak1 h x c hx
theorem ak2 {env:Env}:∀ {ns:List (Str × NameKind)} {cs cl:List (Str × Addr)},clo env ns cs=some cl->(∀ x c,(x,c)∈cs->(x,c)∈cl)/\∀ x,(x,NameKind.free)∈ns->∃ c,(x,c)∈cl
 | [],cs,cl,h=>by cases h; exact ⟨fun _ _ z=>z,fun x z=>by simp at z⟩
 | (n,k) :: r,cs,cl,h=>by
  unfold clo at h
  by_cases hk:(k == .free)=true
  ·rw [if_pos hk] at h
   obtain ⟨a,ha,h⟩:=bind_some h;obtain ⟨h1,h2⟩:=ak2 h;refine ⟨fun x c z=>h1 x c (mem_cons_of_mem _ z),fun x z=>?_⟩;rcases Ai.mp z with y | y
   ·cases y; exact ⟨a,h1 _ _ mem_cons_self⟩
   ·exact h2 x y
  ·rw [if_neg hk] at h
   obtain ⟨h1,h2⟩:=ak2 h;refine ⟨h1,fun x z=>?_⟩;rcases Ai.mp z with y | y
   ·cases y; exact absurd rfl hk
   ·exact h2 x y
theorem aN {α:Type}:∀ {l:List (Str × α)} {x:Str} {c:α},l.lookup x=some c->(x,c)∈l
 | [],_,_,h=>by cases h
 | (y,d) :: l,x,c,h=>by
  unfold Cz at h;split at h
  ·rename_i e
   cases h;rw [beq_iff_eq] at e;subst e;exact mem_cons_self
  ·exact mem_cons_of_mem _ (aN h)
theorem axd {α:Type}:∀ {l:List (Str × α)} {x:Str} {c:α},(x,c)∈l->∃ d,l.lookup x=some d
 | (y,d) :: l,x,c,h=>by
  by_cases e:(x == y)=true
  ·exact ⟨d,by unfold Cz; rw [e]⟩
  ·rcases Ai.mp h with z | z
   ·cases z; simp at e
   ·obtain ⟨d',hd⟩:=axd z
    refine ⟨d',?_⟩;unfold Cz;cases q:x == y with
    | true=>exact absurd q e
    | false=>exact hd
theorem avr {scope:Scope} {env:Env} (hcell:∀ y∈scope.names,y.2 ≠ .cell) {x:Str} (h:(B6 scope env).names.lookup x=some .cell \/ (B6 scope env).names.lookup x=some .free):(x,NameKind.free)∈scope.names:=by
 have h':∃ k,(x,k)∈(B6 scope env).names/\(k=.cell \/ k=.free):=by
  rcases h with h | h
  ·exact ⟨_,aN h,.inl rfl⟩
  ·exact ⟨_,aN h,.inr rfl⟩
 obtain ⟨k,hk,hkk⟩:=h';unfold B6 at hk;obtain ⟨⟨n,k'⟩,hm,he⟩:=An.mp hk;dsimp only at he;split at he
 ·rename_i hc
  cases he;simp only [Cd,beq_iff_eq] at hc;rw [<- hc.1.1]; exact hm
 ·cases he
  rcases hkk with rfl | rfl
  ·exact absurd rfl (hcell _ hm)
  ·exact hm
section
variable {X:Cx} {elt target iter:Expr} {ifs:List Expr} {scope:Scope} {pos:Pos} {cl:List (Str × Addr)} {N':List Str} {js:List (Option Nat)} {g:GE} {c:FT} {e:FO}
structure CompOk (X:Cx) (scope:Scope) (cl:List (Str × Addr)) (N':List Str) (js:List (Option Nat)):Prop where
 calm:X.calm=true
 clo:clo X.env scope.names []=some cl
 free:aq5 X scope cl js N'
 cell:∀ y∈scope.names,y.2 ≠ .cell
 kind:scope.kind=.function
 names:∀ x∈scope.names,x.2=.local->scope.names.lookup x.1=some .local
theorem CompOk.hcl (k:CompOk X scope cl N' js):∀ x c,cl.lookup x=some c->X.env.cells.lookup x=some c:=fun x c h=>by
 rcases ak1 k.clo x c (aN h) with z | z
 ·simp at z
 ·exact z
theorem CompOk.hhas (k:CompOk X scope cl N' js):∀ x,((B6 scope X.env).names.lookup x=some .cell \/ (B6 scope X.env).names.lookup x=some .free)->∃ c,cl.lookup x=some c:=fun x h=>by
 obtain ⟨c,hc⟩:=(ak2 k.clo).2 x (avr k.cell h);exact axd hc
section
variable {wi:TI} {f:FO} (k:CompOk X scope cl N' js) (hi:PI X target iter wi) (hw:∀ σ H Q,tO X.K f σ H Q->aKd wi (tGE X.K g) (tDT X.K c) (tO X.K e) js σ H Q)
 (hg:∀ C s₀ H₀ ex pn,DGE (aw X N' scope cl C s₀ H₀ ex pn) target g) (ht:∀ C s₀ H₀ ex pn,DIfs (aw X N' scope cl C s₀ H₀ ex pn) ifs c) (he:∀ C s₀ H₀ ex pn,DO (aw X N' scope cl C s₀ H₀ ex pn) elt e)
include k hi hw hg ht he
end
end
end DL
set_option maxHeartbeats 1000000
namespace DL
open PySem PySem.Spec PyProof.Rows L2
theorem aYp {k:Nat} {A:Around} (r:Room k A):A.units + 64 + 1 < cLine:=by have:=r.un; omega
section
variable {X:Cx} {K:Frag} {F:Hp}
theorem aK8 {α β:Type} {R:α->β->Prop} {xs:List α} {ys:List β} (hl:xs.length=ys.length) (is:List Nat) (h:∀ (i:Nat) (a:α),xs[i]?=some a->∃ b,ys[i]?=some b/\R a b):Paired R (is.filterMap (xs[·]?)) (is.filterMap (ys[·]?)):=by
 induction is with
 | nil=>exact .nil
 | cons i is ih =>
  rw [filterMap_cons,filterMap_cons];cases q:xs[i]? with
  | none =>
   have:ys[i]?=none:=by rw [D9] at q ⊢; omega
   rw [this]; exact ih
  | some a =>
   obtain ⟨b,hb,r⟩:=h i a q;rw [hb]; exact .cons r ih
theorem aqem (lo hi st:Option Int) (n:Nat):bndP lo hi st n=D4 lo hi st n:=rfl
theorem aqa6 (a b c:Int):rngP a b c=sliceRange a b c:=rfl
theorem aX0 {xs:List V} {its:List Value} (r:aqi6 xs its) (lo hi st:Option Int):aqi6 (aYj xs lo hi st) (Kp its.toArray lo hi st).toList:=by
 unfold aYj Kp;rw [aqem,aqa6,r.length];simp only [size_toArray,Jz,Kw];exact aK8 r.length _ fun i a h=>r.get h
def rSl3 (K:Frag) (x:V) (lo hi st:Option Int) (H:Hp) (Q:VK):Prop:=∃ a xs,x=.ref a/\SqL K H a xs/\st ≠ some 0/\(aYj xs lo hi st).length <= Ad/\∀ p,H p=none->Q (.ref p) (upd H p (.lst (aYj xs lo hi st)))
theorem aX4 {e st:Expr} {lo hi:Option Expr} {te:TE} {tl th tk:TO} {p2 pos:Pos} (he:PE X e te) (hl:PO X lo tl) (hu:PO X hi th) (hk:PO X (some st) tk) :
  PE X (.Subscript e (.Slice lo hi (some st) p2) pos) (fun σ H Q=>te σ H fun x H1=>tl σ H1 fun l H2=>th σ H2 fun u H3=>tk σ H3 fun k H4=>rSl3 X.K x l u k H4 Q):=by
 intro pins s σ H Q I h;refine Ld (thn (he pins s σ H _ I h) fun v s1 hQ=>?_);obtain ⟨x,H1,I1,r1,q1⟩:=hQ;refine wpAny_Slice (thn (hl pins s1 σ H1 _ I1 q1) fun vl s2 ⟨l,H2,I2,pl,q2⟩=>thn (hu pins s2 σ H2 _ I2 q2) fun vu s3 ⟨u,H3,I3,pu,q3⟩=>thn (hk pins s3 σ H3 _ I3 q3) fun vk s4 hQ=>?_);obtain ⟨k,H4,I4,pk,q4⟩:=hQ;have I5:Inv X pins σ H4 { s4 with heap:=s4.heap.push { cls:=.type "slice",data:=.fields #[vl,vu,vk] } }:=I4.kept (t':=s4.toks) fun b ob q=>Ac _ q;obtain ⟨a,xs,rfl,hx,h0,hz,q⟩:=q4;cases r1;obtain ⟨its,r,ht,hz0⟩:=I5.list hx;have hlen:=r.length;show wpAny (model X.prog X.w) X.A (Ib e (.Slice lo hi (some st) p2) (.ref a) (.ref s4.heap.objs.size)) (EP X pins σ Q) X.xe { s4 with heap:=s4.heap.push { cls:=.type "slice",data:=.fields #[vl,vu,vk] } };refine tail_any (ops:=[.ref a,.ref s4.heap.objs.size]) ht.isList.typeIs Hu.lookup ?_ (by with_unfolding_all rfl);refine Ic ht.isList (Le ..) pl pu pk h0 ?_ (by rw [size_toArray] <;> omega);have rp:=aX0 r l u k;refine ⟨.ref _,_,I5.lnew (t':=s4.toks) (its:=(Kp its.toArray l u k).toList) rp hz,rfl,q _ I5.fresh⟩
theorem aj5:∀ {vs:List V} {ns:List Int},Reps K F vs (ns.map D.int)->vs=ns.map V.int
 | [],[],_=>rfl
 | [],_ :: _,r=>by cases r
 | _ :: _,[],r=>by cases r
 | v :: vs,n :: ns,r=>by
  cases r with
  | cons h t=>cases h; rw [aj5 t]; rfl
theorem blVals:∀ {bs:List Bool} {us:List Value},aqi6 (bs.map V.bl) us->us=bs.map Value.bool
 | [],_,r=>by cases r; rfl
 | b :: bs,_,r=>by
  cases r with
  | cons h t=>cases h; rw [blVals t]; rfl
theorem aW1 {A:Around} {E:Value->Shared->Prop} {s:Shared} {l:Addr} {its:Array Value} {Q:Value->Shared->Prop} {prog:Af} {w:World} (hl:s.heap.IsList l its)
  (h:∀ s₂:Shared,(∀ b o,s.heap.get? b=some o->s₂.heap.get? b=some o)->s₂.toks=s.toks->s₂.os=s.os->s₂.gens=s.gens->s₂={ s with heap:=s₂.heap }->(s₂.heap.IsListIter s.heap.objs.size l 0/\s₂.heap.IsList l its)->l ≠ s.heap.objs.size->Q (.ref s.heap.objs.size) s₂) :
  wpAny (model prog w) A (K9 (.ref l)) Q E s:=by
 have hlt:l < s.heap.objs.size:=by obtain ⟨_,e,_⟩:=hl; exact Ae e
 exact Ey hl (h _ (fun b o e=>Ac _ e) rfl rfl rfl rfl ⟨⟨_,Ag _ rfl,rfl,rfl⟩,hl.push _⟩ (ne_of_lt hlt))
theorem awb {prog:Af} {w:World} {A:Around} (bs:List Bool):TruthOf prog w A (fun i v=>(bs.map Value.bool).toArray[i]?=some v) fun i=>bs.getD i false:=by
 intro i v s Q E hP hQ;rw [Jz,getElem?_map] at hP;obtain ⟨b,hb,rfl⟩:=map_some hP
 have:bs.getD i false=b:=by simp [List.getD,hb]
 exact Cw (by rw [<- this]; exact hQ)
theorem aXx (bs:List Bool):((Ay bs.length).all fun i=>bs.getD i false)=bs.all id:=by
 rw [Ax]; simp only [all_eq_true,Dc];constructor
 ·intro h b hb
  obtain ⟨i,hi,rfl⟩:=List.mem_iff_getElem.mp hb;simpa [hi] using h i hi
 ·intro h i hi
  have:=h bs[i] (getElem_mem hi)
  simpa [hi] using this
theorem ajw (hc:X.calm=true):axp X (.builtin "all") (fun xs H Q=>∃ (p:Addr) (bs:List Bool),xs=[.ref p]/\SqL X.K H p (bs.map V.bl)/\Q (.bl (bs.all id)) H):=by
 intro pins s σ H xs us Q I r h;obtain ⟨p,bs,rfl,hq,q⟩:=h;cases r with
 | cons r1 r =>
  cases r;cases r1;obtain ⟨its,rv,ht,hz⟩:=I.list hq;obtain rfl:=blVals rv;refine call_all_walk (aW1 ht.isList fun s₂ ks et eo eg es st ne=>?_);refine ⟨_,_,_,_,_,_,fun i=>bs.getD i false,rfl,Walks.list (A:=X.A.in1) (I.ok.hd hc) _ p ne (bs.map Value.bool).toArray,st,awb bs,fun h' tk hk=>?_⟩;have e:(bs.map Value.bool).toArray.size=bs.length:=by simp
  rw [e,aXx];rw [es];refine ⟨.bl _,H,I.kept (t':=tk) (h':=h') fun b o eb=>hk b o ?_ (ks b o eb),rfl,q⟩;intro hb;simp at hb;subst hb;exact absurd (Ae eb) (lt_irrefl _)
end
theorem Inv.turnedT {X:Cx} {pins:List (Addr × Obj)} {σ:L2.St} {H:Hp} {s:Shared} {h':Heap} {t':Nat} {fp:List Addr} {T:Addr} {o:HO} (I:Inv X pins σ H s) (k:∀ b u,b ∉ fp->s.heap.get? b=some u->h'.get? b=some u) (hf:∀ b∈fp,FpOk X pins H b)
  (hT:s.heap.objs.size <= T) (new:aqx X.prog X.w (upd H T o) h' T o):Inv X pins σ (upd H T o) { s with heap:=h',toks:=t' }:=by
 have hn:H T=none:=I.hok.fresh hT;have lt:∀ b u,s.heap.get? b=some u->b ≠ T:=fun b u e z=>absurd (Ae e) (by rw [z]; exact Nat.not_lt.mpr hT);have nfp:∀ b u,H b=some u->b ∉ fp:=fun b u e z=>by rw [(hf b z).1] at e; cases e
 refine I.step (g':=s.gens) (d':=s.drawn) (ch:=fp) (fun b hb=>?_) (fun b u _ _ hc e _=>k b u hc e) (fun b u _ _ hc e _=>⟨u.slots,k b u hc e⟩) (fun b u _ e n=>by rw [af (lt b u e)]; exact n)
  (fun b u hc e=>⟨u,k b u hc e⟩) (fun b xs e=>by rw [af (ac e hn)]; exact e) (fun b u w e=>by rw [af (ac e hn)]; exact e) (fun b ps e=>⟨#[],by rw [af (ac e hn),e]; simp⟩) (fun m hm=>?_) (fun b u e=>?_) I.bare
 ·obtain ⟨f0,f1,f2,f3,f4,f5⟩:=hf b hb
  exact ⟨f3,f1,f4,f5⟩
 ·obtain ⟨u,es,ep,ho,r⟩:=hm
  refine ⟨u,es,ep,k _ u (fun z=>(hf _ z).2.1 rfl) ho,r⟩
 ·by_cases hb:b=T
  ·subst hb; rw [cb] at e; cases e; exact new
  ·rw [af hb] at e
   refine (I.hok b u e).stay (fun c v hc q=>k c v ?_ q) (fun c q=>by rw [af (ac q hn)]; exact q) fun c xs q=>by rw [af (ac q hn)]; exact q
   rcases hc with z | z
   ·rw [z]; exact nfp b u e
   ·exact nfp c _ z
theorem Inv.turnedL {X:Cx} {pins:List (Addr × Obj)} {σ:L2.St} {H:Hp} {s:Shared} {h':Heap} {t':Nat} {fp:List Addr} (I:Inv X pins σ H s) (k:∀ b u,b ∉ fp->s.heap.get? b=some u->h'.get? b=some u) (hf:∀ b∈fp,FpOk X pins H b):Inv X pins σ H { s with heap:=h',toks:=t' }:=by
 have nfp:∀ b u,H b=some u->b ∉ fp:=fun b u e z=>by rw [(hf b z).1] at e; cases e
 refine I.step (g':=s.gens) (d':=s.drawn) (ch:=fp) (fun b hb=>?_) (fun b u _ _ hc e _=>k b u hc e) (fun b u _ _ hc e _=>⟨u.slots,k b u hc e⟩) (fun b u _ e n=>n)
  (fun b u hc e=>⟨u,k b u hc e⟩) (fun b xs e=>e) (fun b u w e=>e) (fun b ps e=>⟨#[],by rw [e]; simp⟩) (fun m hm=>?_) (fun b u e=>?_) I.bare
 ·obtain ⟨f0,f1,f2,f3,f4,f5⟩:=hf b hb
  exact ⟨f3,f1,f4,f5⟩
 ·obtain ⟨u,es,ep,ho,r⟩:=hm
  refine ⟨u,es,ep,k _ u (fun z=>(hf _ z).2.1 rfl) ho,r⟩
 ·refine (I.hok b u e).stay (fun c v hc q=>k c v ?_ q) (fun c q=>q) fun c xs q=>q
  rcases hc with z | z
  ·rw [z]; exact nfp b u e
  ·exact nfp c _ z
def Ite (K:Frag) (a:Addr):It :=
 ⟨fun i H=>∃ xs x,SqL K H a xs/\xs[i]?=some x,fun i H x H'=>∃ T v,x=.ref T/\H T=none/\H'=upd H T (.tup [.int (i:Int),v])/\∀ xs,SqL K H a xs->xs[i]?=some v,fun i H=>∃ xs,SqL K H a xs/\xs.length=i⟩
theorem aXm {P:Af} {w:World} {K:Frag} {elts:List Expr} {kk:Nat} {tp:Pos} (a e it:Addr) (hei:e ≠ it) (hae:a ≠ e) (hai:a ≠ it):Turn P w K (.Tuple elts kk tp) (Ite K a) [e,it] e (fun i h=>(∃ old,IsEnum h e it i old)/\h.IsListIter it a i) where
 mem:=by simp
 obj:=fun i h st b hb=>by
  obtain ⟨⟨old,he⟩,⟨o,eo,c,d⟩⟩:=st;have hb':b=e \/ b=it:=by simpa using hb
  rcases hb' with rfl | rfl
  ·exact ⟨_,he,fun v z=>by cases z⟩
  ·exact ⟨o,eo,fun v z=>by rw [d] at z; cases z⟩
 keep:=fun i h h' st k=>by
  obtain ⟨⟨old,he⟩,hi⟩:=st;exact ⟨⟨old,k e (by simp) _ he⟩,hi.at fun o q=>k it (by simp) o q⟩
 item:=by
  intro X hP hw hK hc i pins s σ H E I hf st hg;subst hP hw hK;obtain ⟨xs,x,hq,hx⟩:=hg;obtain ⟨its,rv,p,hz⟩:=I.list hq;obtain ⟨u,hu,ru⟩:=rv.get hx;have W:=WalksT.enumerateD (prog:=X.prog) (w:=X.w) (A:=X.A) (Draws.list (A:=X.A.in1) (I.ok.hd hc) it a hai its.toArray) e hei (by simp; exact ⟨hei,Gq hae⟩) (by simp);have hlt:i < its.toArray.size:=by simp; exact (Aj.mp hu).1
  refine W.item i s _ E hlt ⟨st.1,st.2,p.isList⟩ fun T vals h' tk hP hT htup hmid hk=>⟨.ref T,rfl,?_⟩;refine W.go elts kk tp i T _ _ E hmid fun h'' hst'' hk''=>?_;obtain ⟨t,x',hx',rfl⟩:=hP;have ex:x'=u:=by
   have h1:its[i]?=some x':=by simpa using hx'
   rw [hu] at h1; cases h1; rfl
  subst ex;have nT:T ∉ [e,it]:=W.apart i T h' hmid;obtain ⟨oT,hoT,hcT,nT2,hdT⟩:=id htup;have kall:∀ b u,b ∉ [e,it]->s.heap.get? b=some u->h''.get? b=some u:=fun b u hb e=>hk'' b u hb (hk b u hb e);have new:aqx X.prog X.w (upd H T (.tup [.int (i:Int),x])) h'' T (.tup [.int (i:Int),x]):=by
   refine ⟨by simp [Ah],[.int (i:Int) t,x'],.cons ⟨_,rfl⟩ (.cons ru .nil),?_⟩;exact ⟨oT,hk'' T oT nT hoT,hcT,nT2,hdT⟩
  have I2:=DL.Inv.turnedT I (h':=h'') (t':=tk) kall hf hT new;refine ⟨.ref T,_,I2,rfl,⟨T,x,rfl,I.hok.fresh hT,rfl,fun ys hy=>by rw [I.list_inj hy hq]; exact hx⟩,⟨hst''.1,hst''.2.1⟩,fun b hb=>?_⟩;rw [af (by rintro rfl; exact nT hb)];exact (hf b hb).1
 done:=by
  intro X hP hw hK hc i pins s σ H E I hf st hg;subst hP hw hK;obtain ⟨xs,hq,hx⟩:=hg;obtain ⟨its,rv,p,hz⟩:=I.list hq;have W:=WalksT.enumerateD (prog:=X.prog) (w:=X.w) (A:=X.A) (Draws.list (A:=X.A.in1) (I.ok.hd hc) it a hai its.toArray) e hei (by simp; exact ⟨hei,Gq hae⟩) (by simp);have hl:its.toArray.size=i:=by rw [<- hx,rv.length]; simp
  refine W.done s _ E (by rw [hl]; exact ⟨st.1,st.2,p.isList⟩) fun h' tk hk=>⟨rfl,DL.Inv.turnedL I (fp:=[e,it]) hk hf⟩
 self:=fun _ _ _ _ _ st h=>by
  obtain ⟨⟨old,he⟩,_⟩:=st;exact wpAny_pyIter_enum he h
section
variable {X:Cx} {elts:List Expr} {kk:Nat} {tp p pos:Pos} {a b:Expr}
theorem sq_lt {pins:List (Addr × Obj)} {σ:L2.St} {H:Hp} {s:Shared} {l:Addr} {xs:List V} (I:Inv X pins σ H s) (h:SqL X.K H l xs):l < s.heap.objs.size:=by
 obtain ⟨its,rv,p,hz⟩:=I.list h;obtain ⟨o,e,_⟩:=p.isList;exact Ae e
def iEnum (K:Frag) (tl:TE):TI:=fun σ H R=>tl σ H fun x H1=>∃ a,x=.ref a/\(∃ xs,SqL K H1 a xs)/\R (Ite K a) H1
theorem aqaj {tl:TE} (hg:Gl X "enumerate") (hm:X.mg "enumerate"=none) (hl:PE X a tl) (hs:Ap [a] X.env=[(false,eval a X.env)]:=by rfl):PI X (.Tuple elts kk tp) (.Call (.Name "enumerate" p) [a] [] pos) (iEnum X.K tl):=by
 intro pins s σ H R I h;refine Call_ (az7 I hg hm av8 (Bv (thn ((aa hl ag (by rw [hs]; rfl)) pos pins s σ H (fun vs H1=>∃ x,vs=[x]/\∃ a,x=.ref a/\(∃ xs,SqL X.K H1 a xs)/\R (Ite X.K a) H1) I (by
  show tl σ H fun x H1=>_;exact (show (fun x H1=>∃ a,x=V.ref a/\(∃ xs,SqL X.K H1 a xs)/\R (Ite X.K a) H1)=(fun x H1=>∃ x',[x]=[x']/\∃ a,x'=V.ref a/\(∃ xs,SqL X.K H1 a xs)/\R (Ite X.K a) H1) from by
   funext x H1
   apply propext;exact ⟨fun z=>⟨x,rfl,z⟩,fun ⟨x',e,z⟩=>by cases e; exact z⟩) ▸ h)) fun us s1 ⟨vs,H1,I1,r1,q1⟩=>?_) hs rfl))
 obtain ⟨x,rfl,l,rfl,⟨xs,hq⟩,q⟩:=q1;cases r1 with
 | cons r rr =>
  cases rr;cases r;obtain ⟨its,rv,pl,hz⟩:=I1.list hq;refine call_enumerate_list pl.isList fun h' he hit hsz hk=>?_;have hlt:=sq_lt I1 hq;refine wpAny_pyIter_enum he ?_;have I2:Inv X pins σ H1 { s1 with heap:=h' }:=I1.kept (t':=s1.toks) hk;refine ⟨s1.heap.objs.size + 1,[s1.heap.objs.size + 1,s1.heap.objs.size],_,_,H1,rfl,I2,aXm l _ _ (Nat.succ_ne_self _) (ne_of_lt (lt_succ_of_lt hlt)) (ne_of_lt hlt),⟨⟨_,by simpa using he⟩,hit⟩,fun b hb=>?_,q⟩;have hb':b=s1.heap.objs.size + 1 \/ b=s1.heap.objs.size:=by simpa using hb
  rcases hb' with rfl | rfl
  ·exact I1.fpOk (le_succ _) (I1.hok.fresh (le_succ _))
  ·exact I1.fpOk (le_refl _) (I1.hok.fresh (le_refl _))
variable {js:List (Option Nat)} {g:GE} {c:FT} {e:FO}
end
section
variable {X:Cx} {elts:List Expr} {kk:Nat} {tp p pos:Pos} {a b:Expr}
variable {js:List (Option Nat)} {g:GE} {c:FT} {e:FO}
end
end DL
namespace DL
open PySem
def intsQ:List D->Option (List Int)
 | []=>some []
 | .int n :: ds=>(intsQ ds).map (n :: ·)
 | _=>none
@[simp] theorem aZp:∀ (ns:List Int),intsQ (ns.map D.int)=some ns
 | []=>rfl
 | n :: ns=>by simp [intsQ,aZp ns]
def insL (x:Int):List Int->List Int
 | []=>[x]
 | y :: ys=>if x <= y then x :: y :: ys else y :: insL x ys
def aKh (ns:List Int):List Int:=ns.foldr insL []
theorem azb (x:Int):∀ l:List Int,(insL x l).Perm (x :: l)
 | []=>.refl _
 | y :: ys=>by
  unfold insL;split
  ·exact .refl _
  ·exact ((azb x ys).cons y).trans (List.Perm.swap _ _ _)
theorem aj9:∀ ns:List Int,(aKh ns).Perm ns
 | []=>.refl _
 | n :: ns=>(azb n _).trans ((aj9 ns).cons n)
theorem azz (x:Int):∀ l:List Int,l.Pairwise (· <= ·)->(insL x l).Pairwise (· <= ·)
 | [],_=>by simp [insL]
 | y :: ys,h=>by
  rw [pairwise_cons] at h;unfold insL;split
  ·rename_i hx
   rw [pairwise_cons];refine ⟨fun z hz=>?_,List.pairwise_cons.mpr h⟩;rcases Ai.mp hz with rfl | hz
   ·exact hx
   ·exact Int.le_trans hx (h.1 z hz)
  ·rename_i hx
   rw [pairwise_cons];refine ⟨fun z hz=>?_,azz x ys h.2⟩;rcases Ai.mp ((azb x ys).mem_iff.mp hz) with rfl | hz
   ·omega
   ·exact h.1 z hz
theorem axs:∀ ns:List Int,(aKh ns).Pairwise (· <= ·)
 | []=>.nil
 | n :: ns=>azz n _ (axs ns)
theorem aJ2 {ns ns':List Int} (hp:ns'.Perm ns) (hs:ns'.Pairwise (· <= ·)):ns'=aKh ns :=
 List.Perm.eq_of_pairwise (fun _ _ _ _ a b=>Int.le_antisymm a b) hs (axs ns) (hp.trans (aj9 ns).symm)
end DL
namespace SetW
open PySem
def Ris (xs:Array Nat):Prop:=∀ (i k:Nat),i < k->∀ (a b:Nat),xs[i]?=some a->xs[k]?=some b->a < b
theorem aqbr {xs:Array Nat} {i d a:Nat} (h:xs[i]?=some a):xs.getD i d=a:=by
 rw [Array.getD_eq_getD_getElem?,h]; rfl
theorem aXh {xs:Array Nat} {i:Nat} (h:i < xs.size):∃ a,xs[i]?=some a:=⟨xs[i],by rw [Cq h]⟩
theorem av9 {xs:Array Nat} {j:Nat} (hx:Ris xs):∀ (fuel lo hi:Nat),hi - lo <= fuel->lo <= hi->hi <= xs.size->(∀ i a,i < lo->xs[i]?=some a->a < j)->(∀ i a,hi <= i->xs[i]?=some a->j <= a) ->
  E2 xs j fuel lo hi <= xs.size/\(∀ i a,i < E2 xs j fuel lo hi->xs[i]?=some a->a < j)/\(∀ i a,E2 xs j fuel lo hi <= i->xs[i]?=some a->j <= a)
 | 0,lo,hi,h1,h2,h3,h4,h5=>by
  have:lo=hi:=by omega
  subst this;exact ⟨h3,h4,h5⟩
 | fuel + 1,lo,hi,h1,h2,h3,h4,h5=>by
  unfold E2
  by_cases hl:lo < hi
  ·rw [if_pos hl]
   obtain ⟨m,hm⟩:∃ m,xs[(lo + hi) / 2]?=some m:=aXh (by omega);dsimp only;rw [aqbr hm]
   by_cases hj:m < j
   ·rw [if_pos hj]
    refine av9 hx fuel _ hi (by omega) (by omega) h3 (fun i a hi' ha=>?_) h5
    by_cases e:i=(lo + hi) / 2
    ·subst e; rw [hm] at ha; cases ha; exact hj
    ·exact Lu (hx i _ (by omega) a m ha hm) hj
   ·rw [if_neg hj]
    refine av9 hx fuel lo _ (by omega) (by omega) (by omega) h4 (fun i a hi' ha=>?_)
    by_cases e:i=(lo + hi) / 2
    ·subst e; rw [hm] at ha; cases ha; omega
    ·have:=hx _ i (by omega) m a hm ha; omega
  ·rw [if_neg hl]
   have:lo=hi:=by omega
   subst this;exact ⟨h3,h4,h5⟩
theorem aXg {xs:Array Nat} (hx:Ris xs) (j:Nat):SetTable.below xs j <= xs.size/\(∀ i a,i < SetTable.below xs j->xs[i]?=some a->a < j)/\(∀ i a,SetTable.below xs j <= i->xs[i]?=some a->j <= a) :=
 av9 hx xs.size 0 xs.size (by omega) (by omega) (le_refl _) (fun i a h=>absurd h (Nat.not_lt_zero _)) fun i a h ha=>by
  rw [getElem?_eq_none h] at ha; cases ha
theorem aXw {xs:Array Nat}:Ris xs ↔ xs.toList.Pairwise (· < ·):=by
 rw [Be];constructor
 ·intro h i j hi hj hij
  exact h i j hij _ _ (by rw [<- getElem?_toList]; exact getElem?_eq_getElem hi) (by rw [<- getElem?_toList]; exact getElem?_eq_getElem hj)
 ·intro h i k hik a b ha hb
  rw [<- getElem?_toList] at ha hb;obtain ⟨hi,rfl⟩:=Aj.mp ha;obtain ⟨hk,rfl⟩:=Aj.mp hb;exact h i k hi hk hik
theorem aqa8:Ris #[]:=by intro i k _ a b h; simp at h
theorem aXv (n:Nat):Ris (Array.range n):=by
 rw [aXw,Array.toList_range]; exact Jg
theorem aqa7 {xs:Array Nat} (hx:Ris xs) {j:Nat} (hj:xs[SetTable.below xs j]? ≠ some j):Ris (SetTable.insertAt xs (SetTable.below xs j) j):=by
 obtain ⟨h1,h2,h3⟩:=aXg hx j;generalize SetTable.below xs j=r at h1 h2 h3 hj;have hp:=aXw.mp hx;rw [aXw,SetTable.toList_insertAt,List.pairwise_append,pairwise_cons];have hd:∀ b∈xs.toList.drop r,j < b:=by
  intro b hb;obtain ⟨k,hk⟩:=Kc hb;rw [List.getElem?_drop,getElem?_toList] at hk;have c1:=h3 (r + k) b (by omega) hk;cases k with
  | zero =>
   have:b ≠ j:=by rintro rfl; exact hj hk
   omega
  | succ k =>
   have hlt:r + (k + 1) < xs.size:=by
    by_cases c:r + (k + 1) < xs.size
    ·exact c
    ·rw [getElem?_eq_none (by omega)] at hk; cases hk
   obtain ⟨m,hm⟩:=aXh (xs:=xs) (i:=r) (by omega);have c2:=h3 r m (le_refl _) hm;have c3:=hx r (r + (k + 1)) (by omega) m b hm hk;omega
 have ht:∀ a∈xs.toList.take r,a < j:=by
  intro a ha;obtain ⟨k,hk⟩:=Kc ha;have hkr:k < r:=by
   by_cases c:k < r
   ·exact c
   ·rw [Lh,if_neg c] at hk; cases hk
  rw [Lh,if_pos hkr,getElem?_toList] at hk;exact h2 k a hkr hk
 refine ⟨hp.sublist (take_sublist _ _),⟨hd,hp.sublist (List.drop_sublist _ _)⟩,fun a ha b hb=>?_⟩;rcases Ai.mp hb with rfl | hb
 ·exact ht a ha
 ·exact Lu (ht a ha) (hd b hb)
theorem aXr {t:SetTable} {j:Nat} (h:∀ i,t.slot j ≠ .live i):t.place[SetTable.below t.place j]? ≠ some j:=by
 intro e;refine h (SetTable.below t.place j) ?_;simp [SetTable.slot,e]
theorem aj7 {t:SetTable} {f:Nat->Int} {h:Int}:∀ (fuel:Nat) (p:SetTable.Probe),(∀ d,p.dummy=some d->∀ i,t.slot d ≠ .live i)->∀ j d,SetTable.probe.go t f h fuel p=some (.empty j d)->∀ i,t.slot (d.getD j) ≠ .live i
 | 0,p,_,j,d,e=>by cases e
 | fuel + 1,p,hp,j,d,e=>by
  have had:∀ q:SetTable.Probe,(t.advance q).dummy=q.dummy:=by
   intro q; unfold SetTable.advance; split <;> rfl
  unfold SetTable.probe.go at e;split at e
  ·rename_i hs
   cases e;cases hd:p.dummy with
   | none=>intro i; rw [getD_none,hs]; exact Hk
   | some d=>rw [Option.getD_some]; exact hp d hd
  ·rename_i hs
   refine aj7 fuel _ (fun d hd=>?_) j d e;rw [had] at hd;cases hd;intro i; rw [hs]; exact Hk
  ·split at e
   ·cases e
   ·exact aj7 fuel _ (fun d hd=>hp d (by rw [had] at hd; exact hd)) j d e
def axo (led:Bool) (t:SetTable):Prop:=Ris t.place/\t.led=led
theorem axo.standIn {led:Bool} {t:SetTable} (h:axo led t) (n:Nat):axo led (t.standIn n):=⟨aXv n,h.2⟩
theorem axo.plainOff {led:Bool} {t:SetTable} (h:axo led t):axo led { t with plain:=false }:=h
theorem axo.lay {led:Bool} {t:SetTable} (h:axo led t) (es:Array (Int × Value)) (n:Int) (x:Value):axo led (layNew t es n x).2.1:=by
 unfold layNew;split
 ·rename_i slot wd hf
  have hs:t.place[SetTable.below t.place slot]? ≠ some slot:=by
   unfold SetTable.freeSlot at hf;split at hf
   ·rename_i j d hq
    cases hf;exact aXr (aj7 _ _ (fun d e=>by cases e) _ _ hq)
   ·cases hf
  have hput:axo led (t.put slot).1:=⟨aqa7 h.1 hs,h.2⟩;dsimp only;unfold SetTable.orStandIn;split
  ·exact hput
  ·exact hput.standIn _
 ·exact h.standIn _
theorem fm_pw {f:Nat->Option (Nat × Nat)} (hf:∀ j q,f j=some q->q.1=j):∀ (l:List Nat),l.Pairwise (· < ·)->((l.filterMap f).map (·.1)).Pairwise (· < ·)
 | [],_=>.nil
 | a :: l,h=>by
  rw [pairwise_cons] at h;rw [filterMap_cons];split
  ·exact fm_pw hf l h.2
  ·rename_i q hq
   rw [map_cons,pairwise_cons];refine ⟨fun b hb=>?_,fm_pw hf l h.2⟩;obtain ⟨z,hz,rfl⟩:=An.mp hb;obtain ⟨k,hk,hz'⟩:=Ce.mp hz;rw [hf _ _ hq,hf _ _ hz'];exact h.1 k hk
theorem axo.relay {led:Bool} {t:SetTable} (h:axo led t) (es:Array (Int × Value)) (n:Nat):axo led (E3 t es n).2.1:=by
 unfold E3;split
 ·rename_i t' order hr
  dsimp only;split
  ·unfold SetTable.relaid SetTable.laid at hr
   cases ho:SetTable.layClean (SetTable.sizeAbove n - 1) (es.map (·.1)) with
   | none=>rw [ho] at hr; cases hr
   | some owner =>
    rw [ho] at hr;have hr':=Option.some.inj hr;have e:=congrArg Prod.fst hr';dsimp only at e;rw [<- e];refine ⟨?_,h.2⟩;rw [aXw,Kw];refine fm_pw (fun j q hq=>?_) _ Jg;obtain ⟨z,_,rfl⟩:=Jh.mp hq;rfl
  ·exact h.standIn _
 ·exact h.standIn _
theorem axo.fresh (led:Bool):axo led (.fresh 0 0 led):=⟨aqa8,rfl⟩
end SetW
namespace SetW
open PySem PySem.Spec PyProof.Rows
def aqi4 (w:World):Bool:=w.params.followText "set-order"
section
variable {prog:Af} {w:World} {A:Around} {E:Value->Shared->Prop} {s:Shared}
def aqc (prog:Af) (w:World) (h:Heap) (a:Addr) (S:Int->Bool) (n:Nat):Prop :=
 ∃ o es ep t,h.get? a=some o/\o.ExactSet/\o.data=.set es ep t/\Ji (Co prog w) es.toList/\(∀ k,S k=true ↔ ∃ e∈es.toList,(Co prog w).is k e.2=true)
 /\es.size < Bj/\t.fits es.size=true/\es.size=n/\axo (!aqi4 w) t
theorem aqc.congr {h:Heap} {a:Addr} {S S':Int->Bool} {n n':Nat} (hS:aqc prog w h a S n) (e:∀ k,S k=S' k) (en:n=n'):aqc prog w h a S' n':=by
 have:S=S':=funext e
 subst this; subst en; exact hS
theorem aqc.at {h h':Heap} {a:Addr} {S:Int->Bool} {n:Nat} (hS:aqc prog w h a S n) (e:∀ o,h.get? a=some o->h'.get? a=some o):aqc prog w h' a S n:=by
 obtain ⟨o,es,ep,t,ho,r⟩:=hS;exact ⟨o,es,ep,t,e o ho,r⟩
theorem aqc.store {h:Heap} {a:Addr} {o:Obj} {es:Array (Int × Value)} {ep:Nat} {t:SetTable} (ho:h.get? a=some o) (hex:o.ExactSet) (hd:o.data=.set es ep t)
  {es':Array (Int × Value)} {t':SetTable} {S':Int->Bool} (hel:Ji (Co prog w) es'.toList) (hmem:∀ k,S' k=true ↔ ∃ e∈es'.toList,(Co prog w).is k e.2=true) (hb:es'.size < Bj) (hf:t'.fits es'.size=true) (ht:axo (!aqi4 w) t') :
  (h.update a (G8 es' t')).get? a=some { o with data:=.set es' (ep + 1) t' }/\aqc prog w (h.update a (G8 es' t')) a S' es'.size:=by
 have q:=(SetOf_store (knd:=Co prog w) ho hex hd hel hmem hb hf).1;exact ⟨q,_,es',ep + 1,t',q,hex,rfl,hel,hmem,hb,hf,rfl,ht⟩
theorem aza {a:Addr} {S:Int->Bool} {n:Nat} {k:Int} {x:Value} {Q:Bool->Shared->Prop} (hkey:(Co prog w).is k x=true) (hsc:x.scannable=true) (hS:aqc prog w s.heap a S n)
  (hroom:n + 1 < Bj)
  (h:∀ h',Heap.SameBut a s.heap h'->aqc prog w h' a (fun k'=>S k' || decide (k'=k)) (if S k then n else n + 1)->Q (!S k) { s with heap:=h' }) :
  wpAny (model prog w) A (Jj a x ((Co prog w).hash k)) Q E s:=by
 obtain ⟨o,es,ep,t,ho,hex,hd,hel,hmem,hb,hf,hn,ht⟩:=hS;unfold Jj G9;refine Bc (Aa (wpAny_setState_of ho hd hf ?_));dsimp only;rw [byScan_of hsc hb hel];simp only [↓reduceIte];unfold setAddByScan;refine Aa (Aa (Ci (Aa (wpAny_setScan_of hkey ho hd hf hel ?_))));cases hr:List.findIdx? (fun e=>(Co prog w).is k e.2) es.toList with
 | some j =>
  dsimp only;obtain ⟨hj,hpj,_⟩:=Eu.mp hr;have hSk:S k=true:=(hmem k).mpr ⟨es.toList[j],getElem_mem hj,hpj⟩;refine Ab (Ab ?_)
  have:=h s.heap (Heap.SameBut.refl a s.heap) ⟨o,es,ep,t,ho,hex,hd,hel,fun k'=>by
   rw [En,decide_eq_true_eq,<- hmem k'];exact ⟨fun hk=>hk.elim id (fun e=>e ▸ hSk),.inl⟩,hb,hf,by rw [hSk]; exact hn,ht⟩
  rw [hSk] at this;exact this
 | none =>
  dsimp only;have hSk:S k=false:=by
   cases hk:S k with
   | false=>rfl
   | true=>obtain ⟨e,he,hp⟩:=(hmem k).mp hk; have:=Hl.mp hr e he; rw [hp] at this; exact Bool.noConfusion this
  have hperm:=layNew_perm t es ((Co prog w).hash k) x;have hfits:=layNew_fits t es ((Co prog w).hash k) x;have hok:=ht.lay es ((Co prog w).hash k) x;generalize hL:layNew t es ((Co prog w).hash k) x=L at hperm hfits hok ⊢;obtain ⟨es1,t1,wasDummy,gave⟩:=L;dsimp only at hperm hfits hok ⊢;rw [Array.toList_push] at hperm;have hel1:Ji (Co prog w) es1.toList:=(hel.push hkey hsc).perm hperm;have hmem1:∀ k',(S k' || decide (k'=k))=true ↔ ∃ e∈es1.toList,(Co prog w).is k' e.2=true:=mem_push_iff hkey hmem hperm;have hsz1:es1.size=n + 1:=by rw [<- length_toList,hperm.length_eq,length_append,length_toList,hn]; rfl
  have hb1:es1.size < Bj:=by rw [hsz1]; exact hroom
  have hgw:∀ (b:Bool) {s₁:Shared} {Q':Unit->Shared->Prop},Q' () s₁->wpAny (model prog w) A (match b with | true=>rule "set.scan.the-table-gave-way" | false=>pure ()) Q' E s₁ :=
   fun b s₁ Q' hq=>by cases b <;> first | exact Ab hq | exact Ci hq
  have hend:∀ h',Heap.SameBut a s.heap h'->aqc prog w h' a (fun k'=>S k' || decide (k'=k)) es1.size->Q true { s with heap:=h' }:=by
   intro h' hsb hS'
   have:=h h' hsb
   rw [hSk] at this;rw [hsz1] at hS';exact this hS'
  refine Aa (hgw _ ?_);have fin:∀ t2:SetTable,t2.fits es1.size=true->axo (!aqi4 w) t2->∀ (g:Bool->Sem Unit),(∀ (b:Bool) (s₁:Shared) (Q':Unit->Shared->Prop),Q' () s₁->wpAny (model prog w) A (g b) Q' E s₁) ->
    wpAny (model prog w) A (do
     Mj a es1 t2
     if (!wasDummy && t2.tooFull) = true then do
         g (E3 t2 es1 (Az es1.size)).2.2
         Mj a (E3 t2 es1 (Az es1.size)).1 (E3 t2 es1 (Az es1.size)).2.1
         pure (some true)
      else pure (some true)) (fun r s'=>wpAny (model prog w) A (match r with | some added=>pure added | none=>G9 a x ((Co prog w).hash k) 99999) Q E s') E s:=by
   intro t2 f2 k2 g hg;refine Aa (E4 ho hd ?_ (E5 hb1));obtain ⟨ho1,hS1⟩:=aqc.store (prog:=prog) ho hex hd hel1 hmem1 hb1 f2 k2;have hsb1:=A9 s.heap a (G8 es1 t2);split
   ·have hp:=relayAll_perm t2 es1 (Az es1.size)
    have hfr:=relayAll_fits t2 es1 (Az es1.size);have hkr:=k2.relay es1 (Az es1.size);generalize hRl:E3 t2 es1 (Az es1.size)=Rl at hp hfr hkr ⊢;obtain ⟨es2,t3,gave2⟩:=Rl;dsimp only at hp hfr hkr ⊢;have hel2:Ji (Co prog w) es2.toList:=hel1.perm hp;have hmem2:∀ k',(S k' || decide (k'=k))=true ↔ ∃ e∈es2.toList,(Co prog w).is k' e.2=true:=fun k'=>(hmem1 k').trans ⟨fun ⟨e,he,q⟩=>⟨e,hp.mem_iff.mpr he,q⟩,fun ⟨e,he,q⟩=>⟨e,hp.mem_iff.mp he,q⟩⟩;have hsz:es2.size=es1.size:=by rw [<- length_toList,hp.length_eq,length_toList]
    have hb2:es2.size < Bj:=by rw [hsz]; exact hb1
    refine Aa (hg _ _ _ ?_);refine Aa (E4 ho1 rfl ?_ (E5 hb2));obtain ⟨_,hS2⟩:=aqc.store (prog:=prog) ho1 hex rfl hel2 hmem2 hb2 hfr hkr;rw [hsz] at hS2;exact Ab (Ab (hend _ (hsb1.trans (A9 _ a _)) hS2))
   ·exact Ab (Ab (hend _ hsb1 hS1))
  split
  ·refine Aa ?_
   rw [J0 8 hsc];refine Ab ?_;refine fin _ ?_ ?_ _ ?_
   ·split
    ·exact hfits
    ·exact Im hfits
   ·split
    ·exact hok
    ·exact hok.plainOff
   ·intro b s₁ Q' hq; cases b <;> first | exact Ab hq | exact Ci hq
  ·refine Aa (Ab ?_)
   simp only [↓reduceIte];refine fin _ hfits hok _ ?_;intro b s₁ Q' hq; cases b <;> first | exact Ab hq | exact Ci hq
theorem ax8 {R:L6->Shared->Prop} {I:Addr} {fp wr:List Addr} {G:Array J8->Array J8->Prop} {n:Nat} {P:Nat->Value->Prop} {St:Nat->Shared->Prop} (W:WalksS prog w A.in1 I fp wr G n P St) (S:Addr) (hSf:S ∉ fp)
  (val:Nat->Int) (hval:∀ i v,P i v->∃ t,v=.int (val i) t) (hb:n + 1 < Bj) :
  ∀ (k i:Nat) (s:Shared),n - i=k->i <= n->St i s->aqc prog w s.heap S (fun k'=>(firstMet val i).any (· == k')) (firstMet val i).length ->
   (∀ s',Moved (S :: wr) G s s'->aqc prog w s'.heap S (fun k'=>(firstMet val n).any (· == k')) (firstMet val n).length->R (.ok (.ret .none)) s') ->
   Em (model prog w) A (.builtin "set.update.loop" ⟨[.ref S,.ref I],[]⟩) R s:=by
 have hSw:S ∉ wr:=fun h=>hSf (W.sub _ h);have hsub:∀ b∈wr,b∈S :: wr:=fun b hb=>mem_cons_of_mem _ hb;intro k
 induction k with
 | zero =>
  intro i s hk hi hst hS hR;have hin:i=n:=by omega
  subst hin;refine Bx Dg ?_;rw [Br Bt _];show wpAny _ A.in1 (Ex (.ref I) >>= _) _ _ s;refine Aa (W.done s _ _ hst fun s' hm=>?_);show wpAny _ A.in1 (ret Value.none) _ _ s';exact Ab (hR s' (hm.mono hsub) (hS.at fun o e=>hm.heap S _ hSw e))
 | succ k ih =>
  intro i s hk hi hst hS hR;have hlt:i < n:=by omega
  refine Bx Dg ?_;rw [Br Bt _];show wpAny _ A.in1 (Ex (.ref I) >>= _) _ _ s;refine Aa (W.item i s _ _ hlt hst fun v s' hP hst' hm=>?_);obtain ⟨t,rfl⟩:=hval i v hP;have hS':=hS.at (h':=s'.heap) fun o e=>hm.heap S _ hSw e;show wpAny _ A.in1 (Md [Value.int (val i) t] (setAdd S (.int (val i) t)) >>= _) _ _ s';refine Aa (Bc ?_);unfold setAdd;refine Bc ?_;refine Aa ((Co prog w).pyHash (k:=val i) (intKind_is _ _ _ _) ?_);have hroom:(firstMet val i).length + 1 < Bj:=by have:=firstMet_length_le val i; omega
  refine aza (s:={ s' with toks:=s'.toks + 1 }) (intKind_is _ _ _ _) rfl hS' hroom fun h' hsb hS2=>?_;have hSi:aqc prog w h' S (fun k'=>(firstMet val (i + 1)).any (· == k')) (firstMet val (i + 1)).length :=
   hS2.congr (fun k'=>by rw [firstMet_succ,step_any]) (by rw [firstMet_succ,step_length])
  refine Ab ⟨Ig Bt _,ih (i + 1) _ (by omega) hlt (W.frame _ s' _ _ hst' (le_succ _) fun b hb o e=>?_) hSi fun s'' hm'' hS''=>?_⟩
  ·rw [hsb.2 b (fun h:b=S=>hSf (by rw [<- h]; exact hb))]; exact e
  ·refine hR s'' (Moved.trans W.gtrans ((hm.mono hsub).then_heap (le_succ _) fun b o hb e=>?_) hm'') hS''
   rw [hsb.2 b (fun h:b=S=>hb (by rw [h]; exact mem_cons_self))]; exact e
end
section
variable {prog:Af} {w:World} {A:Around} {E:Value->Shared->Prop} {s:Shared}
theorem azx (a:Value) {Q₁:Value->Shared->Prop}
  (h:Q₁ (.ref s.heap.objs.size) { s with heap:=s.heap.push { cls:=.type "set",dict:=none,data:=.set #[] 0 (.fresh 0 0 (!aqi4 w)) } }) :
  Em (model prog w) A (.call (.builtin "set.__new__") ⟨[.type "set",a],[]⟩) (wants Q₁ E) s:=by
 refine Jt ?_;show wpAny _ A.in1 (do checkBuiltinCall "set.__new__" ⟨[.type "set",a],[]⟩; again (.builtin "set.__new__" ⟨[.type "set",a],[]⟩)) _ _ s;refine Aa (Mc (F.newCall_set_1 a) (Ab ⟨Ig F.plain_set_new _,Bx F.entry_set_new ?_⟩));rw [Br F.plain_set_new _];unfold Builtin.«set.__new__» Builtin.Frozenset.newClass;have hsub:=sub_set_self;obtain ⟨hp,g,d,tk,os⟩:=s;dsimp only
 wp_walk
 refine wpAny_askSetting (Ab ?_);dsimp only;simp only [newObj];refine Aa (wpAny_alloc (Ab ?_));exact Ab h
set_option maxHeartbeats 3200000 in
theorem call_set_in {l:Addr} {items:Array Value} {ns:List Int} {Q:Value->Shared->Prop}
  (hh:A.handled=none) (hl:s.heap.IsList l items) (hi:PyProof.Rows.IntsAre items.toList ns) (hb:items.size + 1 < Bj)
  (h:∀ (h':Heap) (tk:Nat),aqc prog w h' s.heap.objs.size (fun k'=>(Cp (fun i=>ns.getD i 0) items.size).any (· == k')) (Cp (fun i=>ns.getD i 0) items.size).length ->
   (∀ b o,b < s.heap.objs.size->s.heap.get? b=some o->h'.get? b=some o)->Q (.ref s.heap.objs.size) { s with heap:=h',toks:=tk }) :
  wpAny (model prog w) A (call (.type "set") [.ref l]) Q E s:=by
 obtain ⟨c,tl,hmro⟩:=A7.mro;have hmade:=A7.made;have hsub:=A7.sub;refine Lb (Jt ?_);show wpAny _ _ (callAny (.type "set") _) _ _ _;refine Ab ⟨Li _ (by decide +kernel),Bx F.entry_type_call ?_⟩;rw [Lj (J1 "set" [.ref l] []) rfl];have h1:=A7.notType;have h2:=A7.canCreate;have hct:=F.typeCall_set_1 (.ref l)
 repeat (any_goals (first | assumption | wp_step))
 refine C0 (azx (.ref l) (E:=E) (Q₁:=fun obj s₁=>obj=.ref s.heap.objs.size/\s₁={ s with heap:=s.heap.push { cls:=.type "set",dict:=none,data:=.set #[] 0 (.fresh 0 0 (!aqi4 w)) } }) ⟨rfl,rfl⟩) fun r s₁ hr=>?_;cases r with
 | error e=>exact hr
 | ok fl =>
  cases fl with
  | ret obj =>
   obtain ⟨rfl,rfl⟩:=hr;have hS:(s.heap.push { cls:=.type "set",dict:=none,data:=.set #[] 0 (.fresh 0 0 (!aqi4 w)) }).get? s.heap.objs.size=some { cls:=.type "set",dict:=none,data:=.set #[] 0 (.fresh 0 0 (!aqi4 w)) }:=Ag _ rfl;have hT:Fz { s with heap:=s.heap.push { cls:=.type "set",dict:=none,data:=.set #[] 0 (.fresh 0 0 (!aqi4 w)) } } (.ref s.heap.objs.size) "set":=⟨_,hS,rfl⟩;have hli:=A7.init.lookup;have hbi:=A7.init.bind (.ref s.heap.objs.size)
   repeat (any_goals (first | assumption | wp_step))
   refine C0 (Kd (R:=wants (fun r s₂=>r=.none/\∃ h' tk,s₂={ s with heap:=h',toks:=tk } /\
     aqc prog w h' s.heap.objs.size (fun k'=>(Cp (fun i=>ns.getD i 0) items.size).any (· == k')) (Cp (fun i=>ns.getD i 0) items.size).length /\
     (∀ b o,b < s.heap.objs.size->s.heap.get? b=some o->h'.get? b=some o)) E) A7.init.plain F.entry_set_init (check_set_init_1 hT ?_)) fun r₂ s₂ hr₂=>?_
   ·obtain ⟨ol,hol,hcl,nl,hdl⟩:=hl
    obtain ⟨ocls,odict,odata,oslots⟩:=ol;simp only at hcl hdl;subst hcl; subst hdl;have hol':(s.heap.push { cls:=.type "set",dict:=none,data:=.set #[] 0 (.fresh 0 0 (!aqi4 w)) }).get? l=some { cls:=.type "list",dict:=odict,data:=.seq items nl,slots:=oslots }:=Ac _ hol;have hsls:=F.sub_list_set;have hslf:=Ke;have hne:(Value.type "list" == Value.type "dict")=false:=by decide
    have hl1:(s.heap.push { cls:=.type "set",dict:=none,data:=.set #[] 0 (.fresh 0 0 (!aqi4 w)) }).IsList l items:=⟨_,hol',rfl,nl,rfl⟩;unfold Builtin.«set.__init__» noKeywords Gf;generalize hPI:K9=PI
    wp_walk
    subst hPI;refine Ey hl1 ?_;refine Aa (Kf ?_);have hlS:l < s.heap.objs.size:=Ae hol;have hh3:A.in1.in1.in1.handled=none:=by simp [hh]
    have hneI:l ≠ (s.heap.push { cls:=.type "set",dict:=none,data:=.set #[] 0 (.fresh 0 0 (!aqi4 w)) }).objs.size:=by
     rw [Bw]; exact ne_of_lt (lt_succ_of_lt hlS)
    have hSf:s.heap.objs.size ∉ [(s.heap.push { cls:=.type "set",dict:=none,data:=.set #[] 0 (.fresh 0 0 (!aqi4 w)) }).objs.size,l]:=by
     rw [Bw]; simp only [mem_cons,mem_singleton,not_mem_nil,or_false,not_or];exact ⟨ne_of_lt (Fs _),ne_of_gt hlS⟩
    have hval:∀ (i:Nat) (v:Value),items[i]?=some v->∃ t,v=.int ((fun i=>ns.getD i 0) i) t:=fun i v hv =>
     PyProof.Rows.IntsAre.int_at hi i v (by rw [getElem?_toList]; exact hv)
    refine ax8 ((Walks.list hh3 _ l hneI items).toS) s.heap.objs.size
     hSf (fun i=>ns.getD i 0) hval hb (items.size - 0) 0 _ (by omega) (zero_le _)
     ⟨⟨_,Ag _ rfl,rfl,rfl⟩,(hl1.push _)⟩ ?hS0 ?hR
    case hS0 =>
     have hget:((s.heap.push { cls:=.type "set",dict:=none,data:=.set #[] 0 (.fresh 0 0 (!aqi4 w)) }).push { cls:=.type "list_iterator",data:=.fields #[.ref l,.int 0 0] }).get? s.heap.objs.size
      =some { cls:=.type "set",dict:=none,data:=.set #[] 0 (.fresh 0 0 (!aqi4 w)) }:=Ac _ hS
     exact ⟨_,#[],0,_,hget,⟨rfl,rfl,rfl⟩,rfl,fun e he=>by simp at he,fun k=>by simp [Cp],by unfold Bj; decide,by rfl,rfl,axo.fresh _⟩
    case hR =>
     intro s' hm hS';obtain ⟨h',g',d',tk',os'⟩:=s';have eg:g'=s.gens:=hm.gens;have ed:d'=s.drawn:=hm.drawn;have eo:os'=s.os:=hm.os;subst eg; subst ed; subst eo;show wpAny _ _ _ _ _ _;refine Ab ?_;show wpAny _ _ (ret Value.none) _ _ _;refine Ab ⟨rfl,h',tk',rfl,hS',fun b o hb e=>?_⟩;have hb1:b ≠ s.heap.objs.size:=ne_of_lt hb;have hb2:b ≠ (s.heap.push { cls:=.type "set",dict:=none,data:=.set #[] 0 (.fresh 0 0 (!aqi4 w)) }).objs.size:=by
      rw [Bw]; exact ne_of_lt (lt_succ_of_lt hb)
     exact hm.heap b o (by simp only [mem_cons,mem_singleton,not_mem_nil,or_false,not_or]; exact ⟨hb1,hb2⟩) (Ac _ (Ac _ e))
   ·cases r₂ with
    | error e=>exact hr₂
    | ok fl₂ =>
     cases fl₂ with
     | ret r =>
      obtain ⟨rfl,h',tk,rfl,hS',hk'⟩:=hr₂
      repeat (any_goals (first | assumption | wp_step))
      exact h _ _ hS' hk'
     | next=>exact Aq hr₂
     | brk=>exact Aq hr₂
     | cont=>exact Aq hr₂
  | next=>exact Aq hr
  | brk=>exact Aq hr
  | cont=>exact Aq hr
end
section
variable {prog:Af} {w:World} {A:Around} {E:Value->Shared->Prop} {s:Shared}
def aqce (h:Heap) (a:Addr) (es:Array (Int × Value)) (ep:Nat) (t:SetTable):Prop:=∃ o,h.get? a=some o/\o.ExactSet/\o.data=.set es ep t/\t.fits es.size=true
def ItAt (h:Heap) (I a:Addr) (first:Value) (i n ep:Nat):Prop:=∃ o,h.get? I=some o/\o.cls=.type "set_iterator"/\o.data=.fields #[first,.int i 0,.ref a,.int n 0,.int ep 0]
variable {es:Array (Int × Value)} {ep:Nat} {t:SetTable} {a I:Addr} {first:Value} {i n:Nat}
theorem aqce.at {h h':Heap} (x:aqce h a es ep t) (e:∀ o,h.get? a=some o->h'.get? a=some o):aqce h' a es ep t:=let ⟨o,ho,r⟩:=x; ⟨o,e o ho,r⟩
theorem ItAt.at {h h':Heap} (x:ItAt h I a first i n ep) (e:∀ o,h.get? I=some o->h'.get? I=some o):ItAt h' I a first i n ep:=let ⟨o,ho,r⟩:=x; ⟨o,e o ho,r⟩
theorem ItAt.typeIs (x:ItAt s.heap I a first i n ep):s.TypeIs (.ref I) "set_iterator":=let ⟨o,ho,hc,_⟩:=x; ⟨o,ho,hc⟩
theorem aqce.typeIs (x:aqce s.heap a es ep t):s.TypeIs (.ref a) "set":=let ⟨o,ho,hc,_⟩:=x; ⟨o,ho,hc.1⟩
def At (w:World) (t:SetTable) (i sl:Nat):Prop:=aqi4 w=true \/ SetTable.below t.place sl=i
end
section
variable {prog:Af} {w:World} {A:Around} {E:Value->Shared->Prop} {s:Shared}
variable {es:Array (Int × Value)} {ep:Nat} {t:SetTable} {a I:Addr} {first:Value} {i n:Nat}
theorem ItAt.set {h:Heap} (x:ItAt h I a first i n ep) {k:Nat} {v first':Value} {i':Nat} (e:(#[first,.int i 0,.ref a,.int n 0,.int ep 0]:Array Value).setIfInBounds k v=#[first',.int i' 0,.ref a,.int n 0,.int ep 0]):ItAt (h.update I (K3 (·.setIfInBounds k v))) I a first' i' n ep:=by
 obtain ⟨o,ho,hc,hd⟩:=x;exact ⟨_,Fi _ ho (J2 (Eo hd _)),(Obj.cls_mapFields ..).trans hc,by rw [Eo hd,e]⟩
end
end SetW
namespace DL
open PySem PySem.Spec PyProof.Rows L2
section
variable {X:Cx} {K:Frag} {F:Hp}
end
theorem Inv.drawn {pins:List (Addr × Obj)} {σ:St} {H:Hp} {s:Shared} {d':Drawn} {X:Cx} (I:Inv X pins σ H s):Inv X pins σ H { s with drawn:=d' } :=
 ⟨I.ok,I.os,I.bare,I.base,I.loc,I.cell,I.free,I.freeC,I.pin,I.hok,I.len⟩
theorem ajy:∀ {us:List Value} {ns:List Int},IntsAre us ns->aqi6 (ns.map V.int) us
 | _,_,.nil=>.nil
 | _,_,.cons n t hr=>.cons ⟨t,rfl⟩ (ajy hr)
section
variable {X:Cx} {K:Frag} {F:Hp}
theorem av6:axp X (.builtin "sorted") (fun xs H Q=>∃ (p:Addr) (ns:List Int),xs=[.ref p]/\SqL X.K H p (ns.map V.int)/\ns.length < 64/\∀ l,H l=none->Q (.ref l) (upd H l (.lst ((aKh ns).map V.int)))):=by
 intro pins s σ H xs us Q I r h;obtain ⟨p,ns,rfl,hq,h64,q⟩:=h;cases r with
 | cons r1 r =>
  cases r;cases r1;obtain ⟨its,rv,ht,hz⟩:=I.list hq;have ia:=ava rv;have hil:its.length=ns.length:=ia.length;refine sorted_ints ht.isList ia (by rw [hil]; exact h64) fun out ns' a1 a2 a3=>?_;obtain ⟨e,he⟩:=sortedAll_at s.heap its out;have e':=aJ2 a2 a3;subst e';have hlen:(aKh ns).length=ns.length:=(aj9 ns).length_eq;exact ⟨.ref _,_,I.laid (t':=s.toks) (o:=.lst ((aKh ns).map V.int)) (fun b u e=>sortedAll_old e) (le_succ _) ⟨by rw [length_map,hlen,Ah]; omega,out.toList,e,ajy a1,by simpa [B8] using he⟩,rfl,q _ (I.hok.fresh (le_succ _))⟩
end
section
variable {X:Cx} {K:Frag} {F:Hp}
end
section
variable {prog:Af} {w:World} {A:Around} {E:Value->Shared->Prop} {s:Shared}
end
section
variable {X:Cx} {K:Frag} {F:Hp}
end
section
variable {X:Cx} {K:Frag} {F:Hp}
end
end DL
namespace DL
open PySem
end DL
namespace DL
open PySem PySem.Spec PyProof.Rows L2
variable {X:Cx}
end DL
namespace DL
open PySem
end DL
namespace DL
open PySem PySem.Spec PyProof.Rows L2
variable {X:Cx} {tg:Expr}
variable {X:Cx}
section
variable {K:Frag} {β:Bs} {F H:Hp} {σ:St} {ρ:Cs}
end
section
variable {X:Cx} {pos:Pos} {W2:List Nat}
end
end DL
set_option maxHeartbeats 2000000
namespace DL
open PySem PySem.Spec PyProof.Rows L2
section
variable {X:Cx} {elt target iter:Expr} {ifs:List Expr} {scope:Scope} {pos:Pos} {cl:List (Str × Addr)} {kx:Str} {N':List Str} {js:List (Option Nat)}
structure CompOk2 (X:Cx) (scope:Scope) (kx:Str) (cl:List (Str × Addr)) (N':List Str) (js:List (Option Nat)):Prop where
 calm:X.calm=true
 clo:clo X.env scope.names []=some cl
 free:aq5 X scope cl js N'
 cf:∀ (n:Nat) (acc:List (Str × Addr)),L7 n scope.names acc=(kx,n) :: acc
 pc:∀ h:Heap,pushCells h scope.names=h.push { cls:=.type "cell",data:=.cell none }
 kN:∀ p∈js.zip N',p.1=none \/ p.2 ≠ kx
 cell:∀ y∈scope.names,y.2=.cell->y.1=kx
 kind:scope.kind=.function
 names:∀ x∈scope.names,x.2=.local->scope.names.lookup x.1=some .local
theorem CompOk2.hcl (k:CompOk2 X scope kx cl N' js):∀ x c,cl.lookup x=some c->X.env.cells.lookup x=some c:=fun x c h=>by
 rcases ak1 k.clo x c (aN h) with z | z
 ·simp at z
 ·exact z
theorem CompOk2.hhas (k:CompOk2 X scope kx cl N' js):∀ x,((B6 scope X.env).names.lookup x=some .cell \/ (B6 scope X.env).names.lookup x=some .free)->x=kx \/ ∃ c,cl.lookup x=some c:=fun x h=>by
 have h':∃ k,(x,k)∈(B6 scope X.env).names/\(k=.cell \/ k=.free):=by
  rcases h with h | h
  ·exact ⟨_,aN h,.inl rfl⟩
  ·exact ⟨_,aN h,.inr rfl⟩
 obtain ⟨kk,hk,hkk⟩:=h';unfold B6 at hk;obtain ⟨⟨n,k'⟩,hm,he⟩:=An.mp hk;dsimp only at he;have fin:(x,NameKind.free)∈scope.names->x=kx \/ ∃ c,cl.lookup x=some c:=fun z=>by
  obtain ⟨c,hc⟩:=(ak2 k.clo).2 x z;exact .inr (axd hc)
 split at he
 ·rename_i hc
  cases he;simp only [Cd,beq_iff_eq] at hc;rw [hc.1.1] at hm;exact fin hm
 ·cases he
  rcases hkk with rfl | rfl
  ·exact .inl (k.cell _ hm rfl)
  ·exact fin hm
end
section
variable {env:Env} {es:List Expr} {p:Pos}
end
section
variable {X:Cx} {a:Expr} {es:List Expr} {pos:Pos} {x1:Nat} {f:FE} {g:FA} {o:FO} {u:FAO}
end
section
variable {X:Cx} {a e:Expr} {pos pos':Pos} {o:FO}
end
section
variable {P:Af} {w:World} {K:Frag} {mg:Str->Option Value} {base:Heap}
end
end DL
set_option maxHeartbeats 1000000
namespace SortW
open PySem PySem.W PyProof.Rows
def aqhe {α:Type} (lt:Nat->Nat->Bool):KasT α->α
 | .ret a=>a
 | .ask i j k=>aqhe lt (k (lt i j))
theorem aqm {α β:Type} (lt:Nat->Nat->Bool):∀ (t:KasT α) (f:α->KasT β),aqhe lt (t.bind f)=aqhe lt (f (aqhe lt t))
 | .ret a,f=>by simp [L9,aqhe]
 | .ask i j k,f=>by
  rw [L9];show aqhe lt ((k (lt i j)).bind f)=_;rw [aqm lt (k (lt i j)) f];rfl
def at0 (p:Array Nat) (i:Nat):Nat:=p.getD i 0
theorem axl (p:Array Nat) (i:Nat):at0 p i=(p[i]?).getD 0:=by simp [at0]
structure Ord (n:Nat) (lt:Nat->Nat->Bool):Prop where
 trans:∀ a b c,lt a b=true->lt b c=true->lt a c=true
 asym:∀ a b,lt a b=true->lt b a=false
 total:∀ a b,a < n->b < n->a ≠ b->lt a b=false->lt b a=true
def SP (lt:Nat->Nat->Bool) (p:Array Nat) (k:Nat):Prop:=∀ i j,i < j->j < k->lt (at0 p i) (at0 p j)=true
section
variable {n:Nat} {lt:Nat->Nat->Bool} (O:Ord n lt)
def PA (n:Nat) (p:Array Nat):Prop:=p.Perm (Ay n).toArray
theorem PA.size {p:Array Nat} (h:PA n p):p.size=n:=by
 have:=h.size_eq
 simpa using this
theorem PA.bd {p:Array Nat} (h:PA n p) {i:Nat} (hi:i < n):at0 p i < n:=by
 have hs:i < p.size:=by rw [h.size]; exact hi
 have:p[i]∈(Ay n).toArray:=(Array.Perm.mem_iff h).mp (Array.getElem_mem hs)
 have e:at0 p i=p[i]:=by simp [at0,hs]
 rw [e];simpa using this
theorem PA.ne {p:Array Nat} (h:PA n p) {i j:Nat} (hi:i < n) (hj:j < n) (hij:i ≠ j):at0 p i ≠ at0 p j:=by
 have hl:p.toList.Perm (Ay n):=by simpa using h.toList
 have hn:p.toList.Nodup:=hl.nodup_iff.mpr List.nodup_range;have hsi:i < p.toList.length:=by rw [length_toList,h.size]; exact hi
 have hsj:j < p.toList.length:=by rw [length_toList,h.size]; exact hj
 have ei:at0 p i=p.toList[i]:=by simp [at0,show i < p.size by simpa using hsi]
 have ej:at0 p j=p.toList[j]:=by simp [at0,show j < p.size by simpa using hsj]
 rw [ei,ej];exact fun e=>hij ((Ik hn).mp e)
include O
theorem flip {p:Array Nat} (h:PA n p) {i j:Nat} (hi:i < n) (hj:j < n) (hij:i ≠ j) (hf:lt (at0 p i) (at0 p j)=false):lt (at0 p j) (at0 p i)=true:=O.total _ _ (h.bd hi) (h.bd hj) (h.ne hi hj hij) hf
theorem SP.succ {p:Array Nat} {k:Nat} (hs:SP lt p k) (h1:1 <= k) (hl:lt (at0 p (k - 1)) (at0 p k)=true):SP lt p (k + 1):=by
 intro i j hij hj
 by_cases e:j=k
 ·subst e
  by_cases e2:i=j - 1
  ·subst e2; exact hl
  ·exact O.trans _ _ _ (hs i (j - 1) (by omega) (by omega)) hl
 ·exact hs i j hij (by omega)
theorem aYe {p:Array Nat} (h:PA n p):∀ (f x:Nat),1 <= x->x + f <= n->SP lt p x->x <= aqhe lt (C2 p f x)/\aqhe lt (C2 p f x) <= x + f/\SP lt p (aqhe lt (C2 p f x))/\(aqhe lt (C2 p f x) < x + f->lt (at0 p (aqhe lt (C2 p f x))) (at0 p (aqhe lt (C2 p f x) - 1))=true)
 | 0,x,h1,h2,hs=>by
  rw [C2];exact ⟨le_refl _,le_refl _,hs,fun z=>by simp [aqhe] at z⟩
 | f + 1,x,h1,h2,hs=>by
  rw [C2];show _ <= aqhe lt (if lt (at0 p x) (at0 p (x - 1))=true then KasT.ret x else C2 p f (x + 1))/\aqhe lt (if lt (at0 p x) (at0 p (x - 1))=true then KasT.ret x else C2 p f (x + 1)) <= _/\SP lt p (aqhe lt (if lt (at0 p x) (at0 p (x - 1))=true then KasT.ret x else C2 p f (x + 1)))/\(aqhe lt (if lt (at0 p x) (at0 p (x - 1))=true then KasT.ret x else C2 p f (x + 1)) < _->lt (at0 p (aqhe lt (if lt (at0 p x) (at0 p (x - 1))=true then KasT.ret x else C2 p f (x + 1)))) (at0 p (aqhe lt (if lt (at0 p x) (at0 p (x - 1))=true then KasT.ret x else C2 p f (x + 1)) - 1))=true);cases hc:lt (at0 p x) (at0 p (x - 1)) with
  | true =>
   simp only [if_true,aqhe];exact ⟨le_refl _,by omega,hs,fun _=>hc⟩
  | false =>
   simp only [Ao,if_false];have hl:=flip O h (i:=x) (j:=x - 1) (by omega) (by omega) (by omega) hc;obtain ⟨a,b,c,d⟩:=aYe h f (x + 1) (by omega) (by omega) (SP.succ O hs h1 hl);exact ⟨by omega,by omega,c,fun z=>d (by omega)⟩
def DP (lt:Nat->Nat->Bool) (p:Array Nat) (k:Nat):Prop:=∀ i j,i < j->j < k->lt (at0 p j) (at0 p i)=true
theorem aVz {p:Array Nat} (h:PA n p):∀ (f k:Nat),1 <= k->k + f <= n->DP lt p k->∃ m,aqhe lt (F6 f p k 0)=(p,m,0)/\k <= m/\m <= k + f/\DP lt p m
 | 0,k,h1,h2,hd=>⟨k,by rw [F6]; rfl,le_refl _,le_refl _,hd⟩
 | f + 1,k,h1,h2,hd=>by
  rw [F6];show ∃ m,aqhe lt (if lt (at0 p k) (at0 p (k - 1))=true then if 0 > 0 then _ else F6 f p (k + 1) 0 else KasT.ask (at0 p (k - 1)) (at0 p k) fun d=>if d=true then KasT.ret (p,k,0) else F6 f p (k + 1) (0 + 1))=_/\_;cases hc:lt (at0 p k) (at0 p (k - 1)) with
  | true =>
   simp only [if_true,lt_irrefl,gt_iff_lt,if_false];have hd':DP lt p (k + 1):=by
    intro i j hij hj
    by_cases e:j=k
    ·subst e
     by_cases e2:i=j - 1
     ·subst e2; exact hc
     ·exact O.trans _ _ _ hc (hd i (j - 1) (by omega) (by omega))
    ·exact hd i j hij (by omega)
   obtain ⟨m,m1,m2,m3,m4⟩:=aVz h f (k + 1) (by omega) (by omega) hd';exact ⟨m,m1,by omega,by omega,m4⟩
  | false =>
   simp only [Ao,if_false];have hl:=flip O h (i:=k) (j:=k - 1) (by omega) (by omega) (by omega) hc;refine ⟨k,?_,le_refl _,by omega,hd⟩;show aqhe lt (if lt (at0 p (k - 1)) (at0 p k)=true then KasT.ret (p,k,0) else F6 f p (k + 1) (0 + 1))=_;rw [hl];rfl
omit O in
theorem aqa9 {p:Array Nat} {m:Nat} (hm:m <= p.size) (k:Nat):at0 (Me p 0 m) k=if k < m then at0 p (m - 1 - k) else at0 p k:=by
 rw [axl,axl,axl];unfold Me;rw [getElem?_mirror_all hm];simp only [zero_le,true_and,Nat.zero_add];split <;> rfl
theorem aY2 {p:Array Nat} (h:PA n p) {m:Nat} (h1:1 <= m) (hm:m <= n) (hd:DP lt p m):∃ c q,aqhe lt (Ma m n p)=(c,q)/\PA n q/\1 <= c/\c <= n/\SP lt q c:=by
 have hq:PA n (Me p 0 m):=(mirror_perm _ _ _ _).trans h;have hs:SP lt (Me p 0 m) m:=by
  intro i j hij hj;have hz:m <= p.size:=by rw [h.size]; exact hm
  rw [aqa9 hz,aqa9 hz,if_pos (by omega),if_pos hj];exact hd _ _ (by omega) (by omega)
 obtain ⟨a,b,c,_⟩:=aYe O hq (n - m) m h1 (by omega) hs;refine ⟨_,_,?_,hq,?_,?_,c⟩
 ·unfold Ma
  rw [aqm];rfl
 ·omega
 ·omega
theorem aYa {p:Array Nat} (h:PA n p) (h1:1 <= n):∃ c q,aqhe lt (Mb n p)=(c,q)/\PA n q/\1 <= c/\c <= n/\SP lt q c:=by
 have hs1:SP lt p 1:=fun i j hij hj=>by omega
 obtain ⟨a,b,c,d⟩:=aYe O h (n - 1) 1 (le_refl _) (by omega) hs1;unfold Mb;rw [aqm];generalize aqhe lt (C2 p (n - 1) 1)=m at *
 by_cases e:m=n
 ·rw [if_pos (by simpa using e)]
  exact ⟨m,p,rfl,h,a,by omega,c⟩
 ·rw [if_neg (by simpa using e)]
  by_cases e2:m > 1
  ·rw [if_pos e2]
   have hl:=c 0 (m - 1) (by omega) (by omega);refine ⟨m,p,?_,h,a,by omega,c⟩;show aqhe lt (if lt (at0 p 0) (at0 p (m - 1))=true then _ else _)=_;rw [hl];rfl
  ·rw [if_neg e2]
   have em:m=1:=by omega
   subst em;have hl:=d (by omega);have hd:DP lt p 2:=fun i j hij hj=>by
    have:i=0/\j=1:=by omega
    obtain ⟨rfl,rfl⟩:=this;exact hl
   obtain ⟨m,m1,m2,m3,m4⟩:=aVz O h (n - (1 + 1)) (1 + 1) (by omega) (by omega) hd;unfold Lv;rw [aqm,m1];simp only [gt_iff_lt,lt_irrefl,if_false];exact aY2 O h (by omega) (by omega) m4
theorem avs {p:Array Nat} (h:PA n p) {k:Nat} (hk:k < n) (hs:SP lt p k):∀ (f lo hi:Nat),lo <= hi->hi <= k->hi - lo <= f->(∀ i,i < lo->lt (at0 p i) (at0 p k)=true)->(∀ i,hi <= i->i < k->lt (at0 p k) (at0 p i)=true) ->
  aqhe lt (Er p k f lo hi) <= k/\(∀ i,i < aqhe lt (Er p k f lo hi)->lt (at0 p i) (at0 p k)=true)/\(∀ i,aqhe lt (Er p k f lo hi) <= i->i < k->lt (at0 p k) (at0 p i)=true)
 | 0,lo,hi,h1,h2,h3,ha,hb=>by
  rw [Er]
  have:lo=hi:=by omega
  subst this;exact ⟨h2,ha,hb⟩
 | f + 1,lo,hi,h1,h2,h3,ha,hb=>by
  rw [Er]
  by_cases e:lo ≥ hi
  ·rw [if_pos e]
   have:lo=hi:=by omega
   subst this;exact ⟨h2,ha,hb⟩
  ·rw [if_neg e]
   have hmid:(lo + hi) / 2 < hi/\lo <= (lo + hi) / 2:=by omega
   show aqhe lt (if lt (at0 p k) (at0 p ((lo + hi) / 2))=true then _ else _) <= _/\_;simp only [aqhe];have eqd:lt (p.getD k 0) (p.getD ((lo + hi) / 2) 0)=lt (at0 p k) (at0 p ((lo + hi) / 2)):=rfl;rw [eqd];cases hc:lt (at0 p k) (at0 p ((lo + hi) / 2)) with
   | true =>
    simp only [if_true];refine avs h hk hs f lo ((lo + hi) / 2) hmid.2 (by omega) (by omega) ha fun i hi1 hi2=>?_
    by_cases e2:i=(lo + hi) / 2
    ·subst e2; exact hc
    ·exact O.trans _ _ _ hc (hs _ _ (by omega) hi2)
   | false =>
    simp only [Ao,if_false];have hl:=flip O h (i:=k) (j:=(lo + hi) / 2) hk (by omega) (by omega) hc;refine avs h hk hs f ((lo + hi) / 2 + 1) hi (by omega) h2 (by omega) (fun i hi1=>?_) hb
    by_cases e2:i=(lo + hi) / 2
    ·subst e2; exact hl
    ·exact O.trans _ _ _ (hs i ((lo + hi) / 2) (by omega) (by omega)) hl
theorem aqc6:∀ (f:Nat) (p:Array Nat) (x:Nat),PA n p->x + f=n->SP lt p x->PA n (aqhe lt (Kq f p x))/\SP lt (aqhe lt (Kq f p x)) n
 | 0,p,x,h,hx,hs=>by
  rw [Kq]
  have:x=n:=by omega
  subst this;exact ⟨h,hs⟩
 | f + 1,p,x,h,hx,hs=>by
  rw [Kq,aqm];obtain ⟨l1,l2,l3⟩:=avs O h (k:=x) (by omega) hs x 0 x (by omega) (le_refl _) (by omega) (fun i hi=>by omega) (fun i h1 h2=>by omega);generalize aqhe lt (Er p x x 0 x)=l at *;have hsz:x < p.size:=by rw [h.size]; omega
  have hat:∀ k,at0 (bubble p x (x - l)) k=if k=l then at0 p x else if l < k/\k <= x then at0 p (k - 1) else at0 p k:=by
   intro k;rw [axl,axl,axl,axl,getElem?_bubble hsz (x - l) (by omega),show x - (x - l)=l by omega];split
   ·rfl
   ·split <;> rfl
  refine aqc6 f (bubble p x (x - l)) (x + 1) ((bubble_perm _ _ _).trans h) (by omega) fun i j hij hj=>?_;rw [hat,hat]
  by_cases ei:i=l
  ·rw [if_pos ei,if_neg (by omega),if_pos (by omega)]
   exact l3 _ (by omega) (by omega)
  ·rw [if_neg ei]
   by_cases ej:j=l
   ·rw [if_pos ej,if_neg (by omega)]
    exact l2 i (by omega)
   ·rw [if_neg ej]
    by_cases ci:l < i/\i <= x
    ·rw [if_pos ci,if_pos (by omega)]
     exact hs _ _ (by omega) (by omega)
    ·rw [if_neg ci]
     by_cases cj:l < j/\j <= x
     ·rw [if_pos cj]
      exact hs _ _ (by omega) (by omega)
     ·rw [if_neg cj]
      exact hs _ _ hij (by omega)
theorem aY8 (h1:1 <= n):PA n (aqhe lt (Io n))/\SP lt (aqhe lt (Io n)) n:=by
 have h0:PA n (Ay n).toArray:=Array.Perm.refl _;obtain ⟨c,q,e,hq,c1,c2,hs⟩:=aYa O h0 h1;unfold Io;rw [aqm,e];dsimp only
 by_cases hc:c < n
 ·rw [if_pos hc,show max c 1=c by omega]
  exact aqc6 O (n - c) q c hq (by omega) hs
 ·rw [if_neg hc]
  have:c=n:=by omega
  subst this;exact ⟨hq,hs⟩
end
section
variable {prog:Af} {w:World} {A:Around} {E:Value->Shared->Prop} {s:Shared}
theorem az6 {a:Addr} {vs:List Value} {n:Nat} {P:PySem.Fin->Shared->Prop} (ho:s.heap.get? a=some (B8 "list" vs.toArray n)) (h64:vs.length < 64) (h2:2 <= vs.length)
  (h:wpAny (model prog w) A (keyKind' vs.toArray) (fun κ s'=>Lk (kas_ask prog w A κ vs) (Io vs.length) (fun p s''=>s''=s'/\s'={ s with heap:=((s.heap.update a (C7 fun _=>#[])).push (B8 "tuple" vs.toArray 0)).push (B8 "list" #[] 0) }/\P (.done (.ret .none)) { s with heap:=sortedHeap s.heap a vs ((p.toList.map fun i=>vs.getD i .none).toArray) }) s') (fun _ _=>False) { s with heap:=((s.heap.update a (C7 fun _=>#[])).push (B8 "tuple" vs.toArray 0)).push (B8 "list" #[] 0) }) :
  wpAny (model prog w) A (Builtin.«list.sort» { pos:=[Value.ref a] }) P E s:=by
 rw [list_sort_plain a];have ha:=Ae ho;refine Aa (Lw ho rfl (Aa (Ih ho rfl ?_)));obtain ⟨e1,ho1⟩:∃ e1,(s.heap.update a (C7 fun _=>#[])).get? a=some (B8 "list" #[] e1):=⟨_,get?_update_seq ho fun _=>#[]⟩;refine Aa (Kg ho1 rfl (Aa (Kh (Aa (K4 (Bc ?_))))));have ho6:(((s.heap.update a (C7 fun _=>#[])).push (B8 "tuple" vs.toArray 0)).push (B8 "list" #[] 0)).get? a=some (B8 "list" #[] e1):=by
  rw [E6 _ _ _ (by rw [size_push',Fw]; exact ne_of_lt (lt_succ_of_lt ha)),E6 _ _ _ (by rw [Fw]; exact ne_of_lt ha)];exact ho1
 have hsz:¬ vs.toArray.size < 2:=by simp; omega
 refine (?_:wpAny (model prog w) A (if vs.toArray.size < 2 then _ else _) P E { s with heap:=((s.heap.update a (C7 fun _=>#[])).push (B8 "tuple" vs.toArray 0)).push (B8 "list" #[] 0) });rw [if_neg hsz];refine Aa (Av h (fun κ s' hk=>?_) (fun _ _ z=>z.elim));rw [if_neg hsz];refine Aa (Av (kat_run (ks:=vs) (vs:=vs) (E:=E) (Q:=fun st' s''=>∃ p:Array Nat,p.size=vs.length/\arrOf st'=Kr (kas_item (vs.toArray.zip vs.toArray)) p/\failedOf st'=none/\_) rfl h2 h64 (fun p st' s'' hp harr hfail hG=>⟨p,hp,harr,hfail,hG⟩) hk) (fun r s'' hQ=>?_) (fun _ _ z=>z));obtain ⟨p,hps,harr,hfail,rfl,rfl,hP⟩:=hQ;have hs:=kat_snds (vs:=vs) (ks:=vs) rfl harr;obtain ⟨u,st'⟩:=r;dsimp only at hs harr hfail ⊢;refine Aa (Kg ho6 rfl ?_);have hz1:(Kr (fun x=>x.snd) (arrOf st')).size <= Ad + 1:=by rw [hs]; simp [hps,Ah]; omega
 refine Aa (Ih ho6 rfl ?_ (by simp) hz1);simp only [hfail,bne_self_eq_false,Ao,if_false];refine Ab ?_;rw [hs];exact hP
end
def inR {α:Type} (n:Nat) (G:α->Prop):KasT α->Prop
 | .ret a=>G a
 | .ask i j k=>i < n/\j < n/\∀ b,inR n G (k b)
theorem ajh {α β:Type} {n:Nat} {G:α->Prop} {G':β->Prop}:∀ (t:KasT α) (f:α->KasT β),inR n G t->(∀ a,G a->inR n G' (f a))->inR n G' (t.bind f)
 | .ret a,f,h,k=>by rw [L9]; exact k a h
 | .ask i j g,f,h,k=>by
  rw [L9];exact ⟨h.1,h.2.1,fun b=>ajh (g b) f (h.2.2 b) k⟩
theorem PA.all {n:Nat} {p:Array Nat} (h:PA n p) (hn:1 <= n) (i:Nat):p.getD i 0 < n:=by
 by_cases hi:i < n
 ·exact h.bd hi
 ·have:p.getD i 0=0:=by
   have hs:=h.size;simp [Array.getD,show ¬ i < p.size by omega]
  rw [this]; omega
section
variable {n:Nat} (hn:1 <= n)
include hn
theorem aYf {p:Array Nat} (h:PA n p):∀ (f x:Nat),inR n (fun _=>True) (C2 p f x)
 | 0,x=>by rw [C2]; trivial
 | f + 1,x=>by
  rw [C2];refine ⟨h.all hn _,h.all hn _,fun b=>?_⟩;cases b
  ·simpa using aYf h f (x + 1)
  ·trivial
theorem aQr {p:Array Nat} (h:PA n p) (i j:Nat):PA n (Me p i j):=(mirror_perm _ _ _ _).trans h
theorem akz:∀ (f:Nat) (p:Array Nat) (k e:Nat),PA n p->inR n (fun r=>PA n r.1) (F6 f p k e)
 | 0,p,k,e,h=>by rw [F6]; exact h
 | f + 1,p,k,e,h=>by
  rw [F6];refine ⟨h.all hn _,h.all hn _,fun b=>?_⟩;cases b
  ·refine ⟨h.all hn _,h.all hn _,fun d=>?_⟩
   cases d
   ·simpa using akz f p (k + 1) (e + 1) h
   ·exact h
  ·by_cases c:e > 0
   ·simp only [if_true,if_pos c]
    exact akz f _ _ _ (aQr hn h _ _)
   ·simp only [if_true,if_neg c]
    exact akz f _ _ _ h
theorem aZ6 {p:Array Nat} (h:PA n p) (m nrem:Nat):inR n (fun r=>PA n r.2) (Ma m nrem p):=by
 unfold Ma;exact ajh _ _ (aYf hn (aQr hn h _ _) _ _) fun a _=>aQr hn h _ _
theorem ax3 {p:Array Nat} (h:PA n p) (m nrem:Nat):inR n (fun r=>PA n r.2) (Lv m nrem p):=by
 unfold Lv;refine ajh _ _ (akz hn _ _ _ _ h) fun r hr=>?_;split
 ·exact aZ6 hn (aQr hn hr _ _) _ _
 ·exact aZ6 hn hr _ _
theorem aYb {p:Array Nat} (h:PA n p) (nrem:Nat):inR n (fun r=>PA n r.2) (Mb nrem p):=by
 unfold Mb;refine ajh _ _ (aYf hn h _ _) fun m _=>?_;split
 ·exact h
 ·split
  ·refine ⟨h.all hn _,h.all hn _,fun b=>?_⟩
   cases b
   ·simpa using ax3 hn (aQr hn h _ _) _ _
   ·exact h
  ·exact ax3 hn h _ _
theorem avt {p:Array Nat} (h:PA n p) (k:Nat):∀ (f lo hi:Nat),inR n (fun _=>True) (Er p k f lo hi)
 | 0,lo,hi=>by rw [Er]; trivial
 | f + 1,lo,hi=>by
  rw [Er];split
  ·trivial
  ·refine ⟨h.all hn _,h.all hn _,fun b=>?_⟩
   cases b
   ·simpa using avt h k f ((lo + hi) / 2 + 1) hi
   ·simpa using avt h k f lo ((lo + hi) / 2)
theorem aqc7:∀ (f:Nat) (p:Array Nat) (x:Nat),PA n p->inR n (fun r=>PA n r) (Kq f p x)
 | 0,p,x,h=>by rw [Kq]; exact h
 | f + 1,p,x,h=>by
  rw [Kq];exact ajh _ _ (avt hn h _ _ _ _) fun l _=>aqc7 f _ _ ((bubble_perm _ _ _).trans h)
theorem aY9:inR n (fun r=>PA n r) (Io n):=by
 have h0:PA n (Ay n).toArray:=Array.Perm.refl _;unfold Io;refine ajh _ _ (aYb hn h0 _) fun r hr=>?_;split
 ·exact aqc7 hn _ _ _ hr
 ·exact hr
end
theorem aJn {α:Type} {n:Nat} {lt:Nat->Nat->Bool} {cmp:Nat->Nat->(Bool->Shared->Prop)->Shared->Prop} {s:Shared} (hc:∀ i j C,i < n->j < n->C (lt i j) s->cmp i j C s) {G':α->Prop} {G:α->Shared->Prop}:∀ (t:KasT α),inR n G' t->G (aqhe lt t) s->Lk cmp t G s
 | .ret a,_,h=>by rw [Lk]; exact h
 | .ask i j k,hi,h=>by
  rw [Lk];exact hc i j _ hi.1 hi.2.1 (aJn hc (k (lt i j)) (hi.2.2 _) h)
section
variable {prog:Af} {w:World} {A:Around} {E:Value->Shared->Prop} {s:Shared}
end
section
variable {prog:Af} {w:World} {A:Around} {E:Value->Shared->Prop} {s:Shared}
def ZipG (h:Heap) (z TI TO:Addr) (T:Nat) (b:Bool):Prop:=h.get? z=some { cls:=.type "zip",data:=.fields #[Jc (T:Int),.bool b,.bool false,.ref TI,.ref TO] }
end
section
variable {prog:Af} {w:World} {A:Around} {E:Value->Shared->Prop} {s:Shared}
theorem az9:isSubtype (.type "StopIteration") (.type "StopIteration")=pure true:=by rw [isSubtype_type]; kernel_rfl
end
section
variable {prog:Af} {w:World} {A:Around} {E:Value->Shared->Prop} {s:Shared}
theorem aqb {a b:Addr} {n:Nat} (h1:n > a) (h2:n <= b):b ≠ a:=fun e=>absurd h1 (Nat.not_lt.mpr (e ▸ h2))
structure ZSt (h:Heap) (z TI TO i1 i2 l1 l2 S:Addr) (xs ys:Array Value) (N0:Nat) (Ts:List Addr) (c:Nat):Prop where
 zs:(Ts=[]/\IsZip h z TI TO .none/\∃ a b,IsPair h TO a b) \/ (∃ T fb oT,ZipG h z TI TO T fb/\h.get? T=some oT/\N0 <= T)
 ti:IsPair h TI (.ref i1) (.ref i2)
 a1:h.IsListIter i1 l1 Ts.length
 a2:h.IsListIter i2 l2 Ts.length
 la1:h.IsList l1 xs
 la2:h.IsList l2 ys
 ls:h.get? S=some { cls:=.type "list",data:=.seq (Ts.map Value.ref).toArray c }
 tup:∀ (j:Nat) (T:Addr),Ts[j]?=some T->N0 <= T/\∃ x y,xs[j]?=some x/\ys[j]?=some y/\IsPair h T x y
theorem ZSt.type {h:Heap} {z TI TO i1 i2 l1 l2 S:Addr} {xs ys:Array Value} {N0:Nat} {Ts:List Addr} {c:Nat} (q:ZSt h z TI TO i1 i2 l1 l2 S xs ys N0 Ts c) (hs:s.heap=h):s.TypeIs (.ref z) "zip":=by
 subst hs;rcases q.zs with ⟨_,h,_⟩ | ⟨T,fb,oT,h,_⟩
 ·exact ⟨_,h,rfl⟩
 ·exact ⟨_,h,rfl⟩
end
section
variable {prog:Af} {w:World} {A:Around} {E:Value->Shared->Prop} {s:Shared}
structure ZNew (h:Heap) (z TI TO i1 i2 l1 l2:Addr) (xs ys:Array Value):Prop where
 zs:IsZip h z TI TO .none
 ti:IsPair h TI (.ref i1) (.ref i2)
 to:∃ a b,IsPair h TO a b
 a1:h.IsListIter i1 l1 0
 a2:h.IsListIter i2 l2 0
 la1:h.IsList l1 xs
 la2:h.IsList l2 ys
end
section
variable {prog:Af} {w:World} {A:Around} {E:Value->Shared->Prop} {s:Shared}
theorem az5 {a:Addr} {v:Value} {n:Nat} {P:PySem.Fin->Shared->Prop} (ho:s.heap.get? a=some (B8 "list" #[v] n))
  (h:P (.done (.ret .none)) { s with heap:=sortedHeap s.heap a [v] #[v] }) :
  wpAny (model prog w) A (Builtin.«list.sort» { pos:=[Value.ref a] }) P E s:=by
 rw [list_sort_plain a];have ha:=Ae ho;refine Aa (Lw ho rfl (Aa (Ih ho rfl ?_)));obtain ⟨e1,ho1⟩:∃ e1,(s.heap.update a (C7 fun _=>#[])).get? a=some (B8 "list" #[] e1):=⟨_,get?_update_seq ho fun _=>#[]⟩;refine Aa (Kg ho1 rfl (Aa (Kh (Aa (K4 (Bc ?_))))));have ho6:(((s.heap.update a (C7 fun _=>#[])).push (B8 "tuple" #[v] 0)).push (B8 "list" #[] 0)).get? a=some (B8 "list" #[] e1):=by
  rw [E6 _ _ _ (by rw [size_push',Fw]; exact ne_of_lt (lt_succ_of_lt ha)),E6 _ _ _ (by rw [Fw]; exact ne_of_lt ha)];exact ho1
 have hsz:(#[v]:Array Value).size < 2:=by simp
 refine (?_:wpAny (model prog w) A (if (#[v]:Array Value).size < 2 then _ else _) P E { s with heap:=((s.heap.update a (C7 fun _=>#[])).push (B8 "tuple" #[v] 0)).push (B8 "list" #[] 0) });rw [if_pos hsz];refine Aa (Ab ?_);dsimp only;rw [if_pos hsz];refine Aa ?_;refine (?_:wpAny _ _ (pure ((),_)) _ _ _);refine Ab ?_;have hs:Kr (fun x=>x.snd) (arrOf ((),SortSt.mk' Lx (#[v].zip #[v]) #[] 7 none).snd)=#[v]:=by
  show Kr (fun x=>x.snd) (#[v].zip #[v])=#[v]
  simp
 refine Aa (Kg ho6 rfl ?_);refine Aa (Ih ho6 rfl ?_ (by simp) (by rw [hs]; simp [Ah]));have hf:failedOf ((),SortSt.mk' Lx (#[v].zip #[v]) #[] 7 none).snd=none:=rfl;simp only [hf,bne_self_eq_false,Ao,if_false];refine Ab ?_;have hs':Kr (fun x=>x.snd) (arrOf (SortSt.mk' Lx (#[v].zip #[v]) #[] 7 none))=#[v]:=hs;rw [hs'];exact h
end
section
variable {prog:Af} {w:World} {A:Around} {E:Value->Shared->Prop} {s:Shared}
end
end SortW
namespace DL
open PySem PySem.Spec PyProof.Rows L2
section
variable {X:Cx}
end
end DL
namespace DL
open PySem
end DL
namespace DL
open PySem PySem.Spec PyProof.Rows L2
section
variable {K:Frag} {F H:Hp}
end
section
variable {X:Cx} {i j:Nat} {S:List Bool}
end
def veB:List Value:=[.type "ValueError",.type "Exception",.type "BaseException",.type "object"]
structure ExcC (K:Frag) (C:Addr):Prop where
 ex:∃ (nm q:Str) (N:Addr) (bs bm:List Value) (hdct:Bool) (sn:List Str) (sub:List Value) (ab:Bool) (col:Option Bool) (dd:Option Addr) (k0 k1 k2 k3 k5:Option Value),
  K.lookup C=some (excClassObj nm q C N bs bm hdct sn sub ab col dd k0 k1 k2 k3 k5 "ValueError.__new__")/\PySem.W.nsOkIn K N=true/\nsIn K N "__init__"=some none/\PySem.W.tailIn K veB bm=true
section
variable {P:Af} {w:World} {K:Frag} {mg:Str->Option Value} {base:Heap} {N:List Str} {qual:Str} {scope:Scope} {f:Addr} {cd:Value} {A:Around} {outer:List Env} {s:Shared} {H:Hp} {E:XK} {C:Addr}
end
abbrev maX (X:Cx) (a:Addr) (oe:Obj):Cx:={ X with A:=X.A.mark (some (.ref a)),calm:=false,pn:=(a,oe) :: X.pn,xe:=fun _ _=>False }
theorem aqb4 {P:Af} {w:World} {H:Hp} {h:Heap} {a:Addr} {o:HO} (x:aqx P w H h a o):∃ u,h.get? a=some u:=by
 cases o with
 | lst xs=>obtain ⟨_,_,_,_,e⟩:=x; exact ⟨_,e⟩
 | tup xs=>obtain ⟨_,_,_,o,e,_⟩:=x; exact ⟨_,e⟩
 | dK kvs=>obtain ⟨_,_,_,_,o,_,_,e,_⟩:=x; exact ⟨_,e⟩
 | dT kvs=>obtain ⟨_,_,_,_,o,_,_,e,_⟩:=x; exact ⟨_,e⟩
 | set S n=>obtain ⟨o,_,_,_,e,_⟩:=x; exact ⟨_,e⟩
 | ins C dx fs=>obtain ⟨_,_,_,e,_⟩:=x; exact ⟨_,e⟩
 | own y=>exact x
 | xd fs=>obtain ⟨_,⟨_,_,_,e,_⟩,_⟩:=x; exact ⟨_,e⟩
 | rng lo hi=>obtain ⟨_,_,_,e⟩:=x; exact ⟨_,e⟩
 | frz ob u=>obtain ⟨e,_⟩:=x; exact ⟨_,e⟩
 | tbl ps=>exact ⟨_,x⟩
 | met f y=>exact ⟨_,x⟩
 | ext φ=>obtain ⟨_,e,_⟩:=x; exact e
section
variable {X:Cx} {pins:List (Addr × Obj)} {σ:L2.St} {H:Hp} {s s':Shared} {a:Addr} {oe:Obj} {C C':Addr} {E:XK} {e:Value}
theorem ma_in (I:L2.Inv X pins σ H s) (h1:s.heap.get? a=some oe) (h2:H a=none) (h3:a ≠ X.env.locals) (h4:a ∉ X.fs) (h5:∀ v,oe.data ≠ .cell v):L2.Inv (maX X a oe) pins σ H s:=by
 have o:=I.ok;refine ⟨⟨o.mod,o.kind,o.glob,o.blt,o.above,o.inj,o.has,o.cab,(fun h=>absurd (show false=true from h) (by decide)),o.frames,o.stk,o.exf,o.bs,o.bsz,o.noex,o.exfs,o.funs,o.frf⟩,I.os,I.bare,I.base,I.loc,I.cell,I.free,I.freeC,fun p hp=>?_,I.hok,I.len⟩;rcases Ai.mp (show p∈(a,oe) :: (X.pn++pins) from hp) with rfl | hp
 ·exact ⟨h1,h2,h3,h4,h5⟩
 ·exact I.pin p hp
theorem aZf (o:X.Ok) (I:L2.Inv (maX X a oe) pins σ H s):L2.Inv X pins σ H s :=
 ⟨o,I.os,I.bare,I.base,I.loc,I.cell,I.free,I.freeC,fun p hp=>I.pin p (mem_cons_of_mem _ hp),I.hok,I.len⟩
end
structure ExcH (K:Frag) (C C':Addr):Prop where
 ty:De K (.ref C')=some (.type "type")
 cl:(C8 K C').isSome=true
 be:As K C' (.type "BaseException")=some true
 su:As K C (.ref C')=some true
theorem avf {K:Frag} {M:Model} {h:Heap} {C:Addr} (KX:K.In h) (e:(C8 K C).isSome=true):PySem.W.Looks M h (isType (.ref C)) true:=by
 unfold C8 at e;split at e
 ·rename_i ho
  exact (Ip (KX _ _ ho)).andThen .now
 ·cases e
theorem awt {M:Model} {A:Around} {E:Value->Shared->Prop} {K:Frag} {s:Shared} {a C C':Addr} {oe:Obj} {Q:Bool->Shared->Prop} (KX:K.In s.heap) (Z:ExcH K C C') (hx:s.heap.get? a=some oe) (hc:oe.cls=.ref C) (hq:Q true s) :
  wpAny M A (Ll (.ref a) (.ref C')) Q E s:=by
 obtain ⟨h,g,d,t,os⟩:=s;have L0:PySem.W.Looks M h (Mg (.ref a)) (.ref C):=hc ▸ (Ip hx).andThen .now;have L1:=Ki (M:=M) KX Z.ty;have L2:=Eb (M:=M) KX Z.be;have L3:=Eb (M:=M) KX Z.su;have L4:=avf (M:=M) KX Z.cl;have L5:PySem.W.Looks M h (isSubtype (.type "type") (.type "tuple")) false:=.of_pure tc_notTuple;unfold Ll isInstance isExcClass
 repeat lk
 exact hq
theorem ma_sp {X:Cx} {pins:List (Addr × Obj)} {D:Ends} {fl:Flow} {s:Shared} {a:Addr} {oe:Obj} (o:X.Ok) (h:SP (maX X a oe) pins D fl s):SP X pins D fl s:=by
 cases fl with
 | next=>obtain ⟨σ,H,I,q⟩:=h; exact ⟨σ,H,aZf o I,q⟩
 | ret u=>obtain ⟨v,σ,H,I,r,q⟩:=h; exact ⟨v,σ,H,aZf o I,r,q⟩
 | brk=>obtain ⟨σ,H,I,q⟩:=h; exact ⟨σ,H,aZf o I,q⟩
 | cont=>obtain ⟨σ,H,I,q⟩:=h; exact ⟨σ,H,aZf o I,q⟩
section
variable {X:Cx} {C C':Addr} {k:Nat} {f:Addr} {fd:Am} {ps:List Str} {sp:Sp}
end
end DL
namespace DL
open PySem PySem.Spec PyProof.Rows L2
open Builtin Builtin.ObjectAttr Builtin.Getset_descriptor
structure ExcI (K:Frag) (C:Addr):Prop where
 cl:(C8 K C).isSome=true
 ga:Ar K (.ref C) "__getattribute__"=some (some (.builtin "BaseException.__getattribute__"))
 kl:Ar K (.ref C) "__class__"=some (some (.builtin "object.__class__"))
 gt:Hr K (.builtin "object.__class__") "__get__"=some (some (.builtin "getset_descriptor.__get__"))
 tk:PySem.W.takesIn K (.builtin "object.__class__")=some true
 ob:As K C (.type "object")=some true
 be:As K C (.type "BaseException")=some true
 no:Ar K (.ref C) "__getattr__"=some none
section
variable {prog:Af} {w:World} {A:Around} {E:Value->Shared->Prop} {K:Frag} {s:Shared} {a C:Addr} {oe:Obj}
end
section
variable {X:Cx} {a C:Addr} {oe:Obj}
end
section
variable {X:Cx} {C C':Addr} {k:Nat} {f:Addr} {fd:Am} {ps:List Str} {sp:Sp}
end
theorem aP {K:Frag} {C:Addr} (q:Ec K C [.type "ValueError",.type "Exception",.type "BaseException",.type "object"] "ValueError.__new__"=true):ExcC K C/\(C8 K C).isSome=true:=by
 unfold Ec at q;split at q
 ·rename_i dd cd sl ho
  have cl:(C8 K C).isSome=true:=by unfold C8; rw [ho]; rfl
  split at q
  ·rename_i C' bm k0 k1 k2 k3 n k5 hm hs
   have q1:=C3.mp q;have q2:=C3.mp q1.1;have q3:=C3.mp q2.1;have q4:=C3.mp q3.1;have q5:=C3.mp q4.1;have c1:C'=C:=beq_iff_eq.mp q5.1;have c2:n="ValueError.__new__":=beq_iff_eq.mp q5.2;have c3:cd.hasDel=false:=by have:=q4.2; cases h:cd.hasDel <;> simp_all
   subst c1 c2;obtain ⟨sl⟩:=sl;have hs:sl=[k0,k1,k2,k3,some (.builtin "ValueError.__new__"),k5]:=hs;subst hs;refine ⟨⟨cd.name,cd.qualname,cd.ns,cd.bases,bm,cd.hasDict,cd.slotNames,cd.subclasses,cd.abstract,cd.collection,dd,k0,k1,k2,k3,k5,?_,q2.2,beq_iff_eq.mp q1.2,q3.2⟩,cl⟩;obtain ⟨a1,a2,a3,a4,a5,a6,a7,a8,a9,a10,a11⟩:=cd;cases hm;cases c3;exact ho
  ·cases q
 ·cases q
end DL
namespace DL
open PySem
def aqhp:List Int->List Int->Bool
 | _,[]=>false
 | [],_ :: _=>true
 | a :: s,b :: t=>decide (a < b) || (decide (a=b) && aqhp s t)
def aqhv (m:List Int):List (List Int)->List (List Int)
 | []=>[m]
 | k :: ks=>if m=k then k :: ks else if aqhp m k=true then m :: k :: ks else k :: aqhv m ks
def aJ (l:List (List Int)):List (List Int):=l.foldr aqhv []
def wtK (h:List (Int × List Int)) (m:List Int):Int:=((h.filter fun p=>decide (p.2=m)).map fun p=>p.1).sum
def azs (h:List (Int × List Int)):List (Int × List Int):=(aJ (h.map fun p=>p.2)).map fun m=>(wtK h m,m)
def kInt:D->Option Int
 | .int i=>some i
 | _=>none
def aqbm:D->Option (List Int)
 | .lst xs=>xs.mapM kInt
 | _=>none
def aqbl:D->Option (Int × List Int)
 | .tup [.int w,m]=>(aqbm m).map fun l=>(w,l)
 | _=>none
def aYo:D->Option (List (Int × List Int))
 | .lst xs=>xs.mapM aqbl
 | _=>none
def aQz (p:Int × List Int):O:=.tup [.sh (.int p.1),ow (p.2.map D.int)]
def aY1:List D->Option O
 | [d]=>(aYo d).bind fun h=>if h.length < 60/\(h.all fun p=>decide (p.2.length < 60))=true then some (.lst ((azs h).map aQz)) else none
 | _=>none
def lawD:List D->Option D
 | [d]=>(aqbm d).bind fun ns=>if ns.length <= 63 then some (.bl true) else none
 | _=>none
theorem aZh (ns:List Int) (h:ns.length <= 63):lawD [.lst (ns.map .int)]=some (.bl true):=by
 have:∀ l:List Int,(l.map D.int).mapM kInt=some l:=by
  intro l
  induction l with
  | nil=>rfl
  | cons a l ih=>rw [map_cons,mapM_cons,ih]; rfl
 simp [lawD,aqbm,this,h]
end DL
namespace DL
open PySem PySem.Spec PyProof.Rows L2
theorem fsc {N P:List Str} {sc:Scope} (a:sc.kind=.function:=by rfl) (b:sc.isCoroutine=false:=by rfl) (c:sc.isGenerator=false:=by rfl) (d:N.Nodup:=by decide +kernel) (e:N.take P.length=P:=by rfl) (f:∀ x∈P,sc.names.lookup x=some .local \/ sc.names.lookup x=some .cell:=by decide +kernel) (g:∀ y∈sc.names,y.2 ≠ .free:=by decide +kernel):FnScope N P sc:=⟨a,b,c,d,e,f,g⟩
theorem hm {k n:Nat} {A:Around} (h:Room n A) (d:k <= n:=by decide):Room k A:=h.mono d
theorem pgc {X:Cx} {N':List Str} {scope:Scope} {cl:List (Str × Addr)} {C:Addr} {s₀:Shared} {H₀:Hp} {ex:List Addr} {pn:List (Addr × Obj)} (i:Nat) {x:Str} {pos:Pos} (hN:N'.Nodup:=by decide) (hi:N'[i]?=some x:=by rfl) (hx:Loc (aw X N' scope cl C s₀ H₀ ex pn).env.scope x:=by first | exact .inl rfl | exact .inr rfl) (hf:(aw X N' scope cl C s₀ H₀ ex pn).fn x=true \/ (aw X N' scope cl C s₀ H₀ ex pn).env.scope.names.lookup x=some .local:=by first | exact .inl rfl | exact .inr rfl | assumption):PG (aw X N' scope cl C s₀ H₀ ex pn) (.Name x pos) (aqw i):=ajk hN hi hx hf
theorem aqhk {X:Cx} {N':List Str} {scope:Scope} {cl:List (Str × Addr)} (C:Addr) (s₀:Shared) (H₀:Hp) (ex:List Addr) (pn:List (Addr × Obj)):PIfs (aw X N' scope cl C s₀ H₀ ex pn) [] ajq:=.inl ⟨rfl,fun _ _ _ h=>h⟩
end DL
namespace MB
open PySem DL
theorem aqen {n k:Nat} (h:n < 2 ^ k) (hk:k <= 1000000):n < BIG:=by
 unfold BIG;exact lt_of_lt_of_le h (D6 (by decide) hk)
theorem aWq {a b m n:Nat} (h:a < 2 ^ m) (h':b < 2 ^ n):a * b < 2 ^ (m + n):=by
 rw [Nat.pow_add];exact Nat.mul_lt_mul_of_lt_of_lt h h'
def rng (n:Nat):Nat:=max 1 (min n 30)
def Sz (k:Nat) (v:Int):Prop:=v.natAbs < 2 ^ k
theorem Sz.mono {a b:Nat} {v:Int} (h:Sz a v) (hab:a <= b):Sz b v:=lt_of_lt_of_le h (D6 (by decide) hab)
theorem Sz.mul {a b:Nat} {x y:Int} (h:Sz a x) (h':Sz b y):Sz (a + b) (x * y):=by
 unfold Sz; rw [E7]; exact aWq h h'
theorem Sz.sub {a:Nat} {x y:Int} (h:Sz a x) (h':Sz a y):Sz (a + 1) (x - y):=by
 unfold Sz at *; rw [Nat.pow_succ]; omega
theorem Sz.big {a:Nat} {x:Int} (h:Sz a x) (ha:a <= 1000000):x.natAbs < BIG:=aqen h ha
theorem Sz.one:Sz 1 1:=by show (1:Int).natAbs < 2 ^ 1; decide
def nf1 (t b:Int):Int:=t / (Jk t b:Int)
def nf2 (t b:Int):Int:=b / (Jk t b:Int)
section
variable {t b:Int}
theorem aJx (hb:0 < b):0 < (Jk t b:Int):=by
 have:Jk t b ≠ 0:=fun h=>by have:=(Int.gcd_eq_zero_iff.mp h).2; omega
 omega
theorem aqb9:nf1 t b * (Jk t b:Int)=t:=Kx (Int.gcd_dvd_left t b)
theorem aqb8:nf2 t b * (Jk t b:Int)=b:=Kx (Int.gcd_dvd_right t b)
theorem aqdo (hb:0 < b):(nf1 t b).natAbs <= t.natAbs:=by
 have h1:=congrArg Int.natAbs (aqb9 (t:=t) (b:=b));rw [E7] at h1;rw [<- h1]
 have:=aJx (t:=t) hb
 exact Iq _ (by omega)
theorem aqdn (hb:0 < b):(nf2 t b).natAbs <= b.natAbs:=by
 have h1:=congrArg Int.natAbs (aqb8 (t:=t) (b:=b));rw [E7] at h1;rw [<- h1]
 have:=aJx (t:=t) hb
 exact Iq _ (by omega)
end
def fr (p q:Int):D:=.tup [.int p,.int q]
def frD (a:Rat):D:=.tup [.int a.num,.int a.den]
theorem aqbu {a b:Rat} (h:a.num=b.num) (h':(a.den:Int)=b.den):a=b:=Rat.ext h (by omega)
@[simp] theorem aqfj (a:Rat):imm (frD a)=true:=by simp [frD]
@[simp] theorem aqez {n:Nat} (a:Rat):shp (n + 1) (frD a)=true:=by simp [frD]
theorem aVy (a b:Rat):eqD (frD a) (frD b)=decide (a=b):=by
 rw [Ax];simp only [frD,eqD,aqhz,Bool.and_true,Cd,beq_iff_eq,decide_eq_true_eq];exact ⟨fun ⟨h,h'⟩=>aqbu h h',fun h=>by subst h; exact ⟨rfl,rfl⟩⟩
@[simp] theorem aqfy (a b:Rat):dEq (frD a) (frD b)=some (.bl (decide (a=b))):=by simp [dEq,aVy]
@[simp] theorem aqfu (a b:Rat):dNe (frD a) (frD b)=some (.bl (!decide (a=b))):=by simp [dNe,aVy]
theorem aqb7 {t:Int} {b:Nat} (hb:b ≠ 0):nf1 t b=(Rat.normalize t b hb).num/\nf2 t b=((Rat.normalize t b hb).den:Int):=by
 rw [Rat.normalize_eq];unfold nf1 nf2;have e:Jk t (b:Int)=t.natAbs.gcd b:=by simp [Jk]
 rw [e];exact ⟨rfl,by rw [Int.natCast_ediv]⟩
theorem aqd3 (a b:Rat):mkRat (a.num * b.den - b.num * a.den) (a.den * b.den)=a - b:=by rw [Rat.sub_def,E8]
theorem aqba (a b:Rat):mkRat (a.num * b.num) (a.den * b.den)=a * b:=by rw [Rat.mul_def,E8]
def Bd (n d:Nat) (a:Rat):Prop:=a.num.natAbs < 2 ^ n/\a.den < 2 ^ d
theorem Bd.mono {n d n' d':Nat} {a:Rat} (h:Bd n d a) (hn:n <= n') (hd:d <= d'):Bd n' d' a:=⟨lt_of_lt_of_le h.1 (D6 (by decide) hn),lt_of_lt_of_le h.2 (D6 (by decide) hd)⟩
theorem Bd.num {n d:Nat} {a:Rat} (h:Bd n d a):Sz n a.num:=h.1
theorem Bd.den {n d:Nat} {a:Rat} (h:Bd n d a):Sz d (a.den:Int):=by show (a.den:Int).natAbs < 2 ^ d; rw [Ha]; exact h.2
theorem Bd.mk {n d:Nat} {t:Int} {b:Nat} (hb:b ≠ 0) (ht:Sz n t) (hd:b < 2 ^ d):Bd n d (mkRat t b):=by
 obtain ⟨h1,h2⟩:=aqb7 (t:=t) hb;rw [E8] at h1 h2;have hp:(0:Int) < b:=by omega
 refine ⟨?_,?_⟩
 ·rw [<- h1]; exact lt_of_le_of_lt (aqdo hp) ht
 ·have:=aqdn (t:=t) hp
  rw [h2] at this;omega
theorem Bd.sub {n d m e:Nat} {a b:Rat} (ha:Bd n d a) (hb:Bd m e b):Bd (max (n + e) (m + d) + 1) (d + e) (a - b):=by
 rw [<- aqd3];refine Bd.mk (Nat.mul_ne_zero a.den_nz b.den_nz) ?_ (aWq ha.2 hb.2);exact Sz.sub ((ha.num.mul hb.den).mono (Nat.le_max_left _ _)) ((hb.num.mul ha.den).mono (Nat.le_max_right _ _))
theorem Bd.mul {n d m e:Nat} {a b:Rat} (ha:Bd n d a) (hb:Bd m e b):Bd (n + m) (d + e) (a * b):=by
 rw [<- aqba];exact Bd.mk (Nat.mul_ne_zero a.den_nz b.den_nz) (ha.num.mul hb.num) (aWq ha.2 hb.2)
def ev {α:Type}:List α->List α
 | []=>[]
 | [x]=>[x]
 | x :: _ :: l=>x :: ev l
def od {α:Type}:List α->List α
 | []=>[]
 | [_]=>[]
 | _ :: y :: l=>y :: od l
theorem awf (n:Nat):Ay (n + 1)=0 :: (Ay n).map (· + 1):=by
 rw [List.range_succ_eq_map]
theorem aJz {α:Type}:∀ (l:List α),(Ay l.length).filterMap (l[·]?)=l
 | []=>rfl
 | x :: l=>by
  rw [length_cons,awf];simp only [filterMap_cons,List.getElem?_cons_zero,List.filterMap_map,Function.comp_def,List.getElem?_cons_succ];rw [aJz l]
theorem aQ0 {α:Type} (l:List α):aYj l none none (some (-1))=l.reverse:=by
 unfold aYj;have e:rngP (bndP none none (some (-1)) l.length).1 (bndP none none (some (-1)) l.length).2.1 (bndP none none (some (-1)) l.length).2.2=(Ay l.length).map fun k=>l.length - 1 - k:=by
  have h1:¬ ((-1:Int) > 0):=by decide
  have hc:(if ((l.length:Int) - 1) > -1 then ((l.length:Int) - 1 - -1 - -1 - 1) / (- -1) else 0).toNat=l.length:=by
   split
   ·simp
   ·omega
  simp only [bndP,rngP,Option.getD_some,h1,if_false,hc];apply map_congr_left;intro k hk
  have:=Dc.mp hk
  omega
 rw [e];have e1:((Ay l.length).map fun k=>l.length - 1 - k)=(Ay l.length).reverse:=by
  apply Ir
  ·simp
  ·intro i h1 h2
   simp
 rw [e1,List.filterMap_reverse,aJz]
abbrev aqib:=Int × List Int
def aqv (l:List Int):D:=.lst (l.map .int)
def aw1 (p:aqib):D:=.tup [.int p.1,aqv p.2]
def azi (h:List aqib):D:=.lst (h.map aw1)
@[simp] theorem aqcr (l:List Int):imm (aqv l)=false:=by simp [aqv]
@[simp] theorem aqci {n:Nat} (l:List Int):shp (n + 1) (aqv l)=true:=by simp [aqv]
@[simp] theorem aqch {n:Nat} (p:aqib):shp (n + 2) (aw1 p)=true:=by simp [aw1]
@[simp] theorem aqcj {n:Nat} (h:List aqib):shp (n + 3) (azi h)=true:=by
 simp only [azi,aqa1];exact aKi.mpr fun d m=>by obtain ⟨p,_,rfl⟩:=An.mp m; simp
@[simp] theorem aqcq (p:aqib):imm (aw1 p)=false:=by simp [aw1]
@[simp] theorem aqcs (h:List aqib):imm (azi h)=false:=by simp [azi]
theorem azk (a b:List Int):eqD (aqv a) (aqv b)=decide (a=b):=by simp [aqv,eqD,aZt]
@[simp] theorem aZy (a b:List Int):dEq (aqv a) (aqv b)=some (.bl (decide (a=b))):=by simp [dEq,azk]
@[simp] theorem aqct (a b:List Int):dNe (aqv a) (aqv b)=some (.bl (!decide (a=b))):=by simp [dNe,azk]
theorem aZu (p q:aqib):eqD (aw1 p) (aw1 q)=decide (p=q):=by
 obtain ⟨a,l⟩:=p;obtain ⟨b,m⟩:=q;rw [Ax];simp [aw1,eqD,aqhz,azk]
theorem aJ3 {α:Type} [DecidableEq α] {inj:α->D} (h:∀ a b,eqD (inj a) (inj b)=decide (a=b)):∀ (xs ys:List α),aqhz (xs.map inj) (ys.map inj)=decide (xs=ys)
 | [],[]=>by simp [aqhz]
 | [],_ :: _=>by simp [aqhz]
 | _ :: _,[]=>by simp [aqhz]
 | x :: xs,y :: ys=>by rw [Ax]; simp [aqhz,h,aJ3 h xs ys]
theorem akw (h k:List aqib):eqD (azi h) (azi k)=decide (h=k):=by
 simp only [azi,eqD];exact aJ3 aZu h k
@[simp] theorem aqcz (a b:List aqib):dEq (azi a) (azi b)=some (.bl (decide (a=b))):=by simp [dEq,akw]
@[simp] theorem aqcu (a b:List aqib):dNe (azi a) (azi b)=some (.bl (!decide (a=b))):=by simp [dNe,akw]
def has (l:List Int) (c:Int):Bool:=l.contains c
theorem aqbp {l:List Int} {c:Int}:has l c=true ↔ c∈l:=by simp [has]
theorem axn (c:Int) (l:List Int):((l.map D.int).any fun y=>eqD y (.int c))=has l c:=by
 rw [Ax,aqbp];simp [Iu,eqD]
@[simp] theorem aqei (c:Int) (l:List Int):dIn (.int c) (aqv l)=some (.bl (has l c)):=by
 have:=axn c l
 simp only [aqv,dIn,this]; simp
@[simp] theorem aYs (c:Int) (l:List Int):dNotIn (.int c) (aqv l)=some (.bl (!has l c)):=by
 have:=axn c l
 simp only [aqv,dNotIn,this]; simp
@[simp] theorem aqcy (p:aqib):dIx (aw1 p) (.int 0)=some (.int p.1):=aqeh
@[simp] theorem aqcx (p:aqib):dIx (aw1 p) (.int 1)=some (aqv p.2):=aqeg
@[simp] theorem aqbd (l:List Int):lstOf (aqv l)=some (l.map .int):=rfl
@[simp] theorem aqbe (h:List aqib):lstOf (azi h)=some (h.map aw1):=rfl
@[simp] theorem aqcv (l:List Int):dLen [aqv l]=some (.int l.length):=by simp [aqv]
@[simp] theorem aqcw (h:List aqib):dLen [azi h]=some (.int h.length):=by simp [azi]
@[simp] theorem aqcm (l:List Int):aqhu "list" (aqv l)=some (.bl true):=rfl
@[simp] theorem aqcn (l:List aqib):aqhu "list" (azi l)=some (.bl true):=rfl
@[simp] theorem aqcl (l:aqib):aqhu "tuple" (aw1 l)=some (.bl true):=rfl
@[simp] theorem aqe2 (l:List Int):isT (aqv l) "list"=true:=rfl
@[simp] theorem aqbh (l:List Int):lList [aqv l]=some (l.map .int):=rfl
end MB
namespace MT
open MB DL
theorem lex_irr:∀ s,aqhp s s=false:=by
 intro s
 induction s with
 | nil=>rfl
 | cons a s ih=>simp [aqhp,ih]
theorem lex_tr:∀ {s t u},aqhp s t=true->aqhp t u=true->aqhp s u=true:=by
 intro s
 induction s with
 | nil =>
  intro t u h1 h2;cases u with
  | nil=>cases t <;> simp [aqhp] at h2
  | cons _ _=>rfl
 | cons a s ih =>
  intro t u h1 h2;cases t with
  | nil=>simp [aqhp] at h1
  | cons b t =>
   cases u with
   | nil=>simp [aqhp] at h2
   | cons c u =>
    simp only [aqhp,En,Cd,decide_eq_true_eq] at h1 h2 ⊢;rcases h1 with h1 | ⟨rfl,h1⟩ <;> rcases h2 with h2 | ⟨rfl,h2⟩
    ·left; omega
    ·left; exact h1
    ·left; exact h2
    ·right; exact ⟨rfl,ih h1 h2⟩
theorem lex_tot:∀ s t,aqhp s t=false->s ≠ t->aqhp t s=true:=by
 intro s
 induction s with
 | nil=>intro t h1 h2; cases t with
  | nil=>exact absurd rfl h2
  | cons _ _=>simp [aqhp] at h1
 | cons a s ih =>
  intro t h1 h2;cases t with
  | nil=>rfl
  | cons b t =>
   simp only [aqhp,En,Cd,decide_eq_true_eq,Bool.or_eq_false_iff,Bool.and_eq_false_iff,decide_eq_false_iff_not] at h1 ⊢
   by_cases e:a=b
   ·subst e
    right
    refine ⟨rfl,ih t ?_ ?_⟩
    ·rcases h1.2 with h | h
     ·exact absurd rfl h
     ·exact h
    ·intro e; exact h2 (by rw [e])
   ·left; omega
theorem aVs {m x:List Int} {ks:List (List Int)}:x∈aqhv m ks ↔ x=m \/ x∈ks:=by
 induction ks with
 | nil=>simp [aqhv]
 | cons k ks ih =>
  simp only [aqhv];split
  ·rename_i e; subst e; simp
  ·split
   ·simp
   ·simp only [mem_cons,ih]
    constructor
    ·rintro (h | h | h) <;> simp [h]
    ·rintro (h | h | h) <;> simp [h]
theorem mem_keys {x:List Int} {l:List (List Int)}:x∈aJ l ↔ x∈l:=by
 induction l with
 | nil=>simp [aJ]
 | cons a l ih=>simp only [aJ,List.foldr_cons,aVs,mem_cons] at ih ⊢; rw [ih]
theorem aVx (m:List Int):∀ ks:List (List Int),(aqhv m ks).length <= ks.length + 1
 | []=>by simp [aqhv]
 | k :: ks=>by
  unfold aqhv
  have:=aVx m ks
  split
  ·simp
  ·split
   ·simp
   ·simp; omega
theorem keys_len (l:List (List Int)):(aJ l).length <= l.length:=by
 induction l with
 | nil=>simp [aJ]
 | cons a l ih =>
  have:=aVx a (aJ l)
  have e:aJ (a :: l)=aqhv a (aJ l):=rfl;rw [e]
  simp; omega
def Ris (ks:List (List Int)):Prop:=ks.Pairwise fun a b=>aqhp a b=true
theorem aqbo {m:List Int} {ks:List (List Int)} (h:Ris ks):Ris (aqhv m ks):=by
 induction ks with
 | nil=>simp [aqhv,Ris]
 | cons k ks ih =>
  simp only [Ris,pairwise_cons] at h ih;simp only [aqhv];split
  ·simpa [Ris] using h
  ·rename_i e
   split
   ·rename_i e2
    simp only [Ris,pairwise_cons,mem_cons];refine ⟨?_,h⟩;rintro x (rfl | hx)
    ·exact e2
    ·exact lex_tr e2 (h.1 x hx)
   ·rename_i e2
    simp only [Ris,pairwise_cons];refine ⟨?_,ih h.2⟩;intro x hx;rcases aVs.mp hx with rfl | hx
    ·exact lex_tot _ _ (by simpa using e2) e
    ·exact h.1 x hx
theorem keys_ris (l:List (List Int)):Ris (aJ l):=by
 induction l with
 | nil=>simp [aJ,Ris]
 | cons a l ih=>exact aqbo ih
theorem ris_eq:∀ {a b:List (List Int)},Ris a->Ris b->(∀ x,x∈a ↔ x∈b)->a=b:=by
 intro a
 induction a with
 | nil =>
  intro b _ _ h;cases b with
  | nil=>rfl
  | cons x _=>exact absurd ((h x).mpr (by simp)) (by simp)
 | cons x a ih =>
  intro b ha hb h;cases b with
  | nil=>exact absurd ((h x).mp (by simp)) (by simp)
  | cons y b =>
   simp only [Ris,pairwise_cons] at ha hb;have exy:x=y:=by
    rcases Ai.mp ((h x).mp (by simp)) with e | hx
    ·exact e
    ·rcases Ai.mp ((h y).mpr (by simp)) with e | hy
     ·exact e.symm
     ·have:=lex_tr (hb.1 x hx) (ha.1 y hy)
      rw [lex_irr] at this; exact absurd this (by simp)
   subst exy;congr 1;refine ih ha.2 hb.2 fun z=>?_;have nx:∀ {c:List (List Int)},(∀ w∈c,aqhp x w=true)->x ∉ c:=fun hc hm=>by
    have:=hc x hm; rw [lex_irr] at this; exact absurd this (by simp)
   constructor
   ·intro hz
    rcases Ai.mp ((h z).mp (by simp [hz])) with e | hz'
    ·subst e; exact absurd hz (nx ha.1)
    ·exact hz'
   ·intro hz
    rcases Ai.mp ((h z).mpr (by simp [hz])) with e | hz'
    ·subst e; exact absurd hz (nx hb.1)
    ·exact hz'
theorem wt_none {h:List aqib} {m:List Int} (n:m ∉ h.map fun p=>p.2):wtK h m=0:=by
 have:(h.filter fun p=>decide (p.2=m))=[]:=by
  rw [E9];intro p hp;simp only [decide_eq_true_eq];intro e;exact n (by rw [<- e]; exact List.mem_map_of_mem hp)
 simp [wtK,this]
theorem wt_append (h k:List aqib) (m:List Int):wtK (h++k) m=wtK h m + wtK k m:=by simp [wtK]
end MT
namespace L2
open PySem PySem.Spec PyProof.Rows
section
variable {κ:Type} [DecidableEq κ]
def aqh9 (kvs:List (κ × V)) (k:κ):Option V:=(kvs.find? fun kv=>decide (kv.1=k)).map (·.2)
def aqhh (kvs:List (κ × V)) (k:κ) (v:V):List (κ × V) :=
 if (kvs.any fun kv=>decide (kv.1=k))=true then kvs.map (fun kv=>if kv.1=k then (kv.1,v) else kv) else kvs++[(k,v)]
def aXk (kvs:List (κ × V)) (k:κ):List (κ × V):=kvs.filter fun kv=>decide (kv.1 ≠ k)
theorem aG {p:κ × V} {r:List (κ × V)} {k:κ} (e:p.1=k):aqh9 (p :: r) k=some p.2:=by simp [aqh9,find?_cons,e]
theorem aH {p:κ × V} {r:List (κ × V)} {k:κ} (e:¬ p.1=k):aqh9 (p :: r) k=aqh9 r k:=by simp [aqh9,find?_cons,e]
theorem aqd (k:κ):∀ kvs:List (κ × V),(kvs.any fun kv=>decide (kv.1=k))=(aqh9 kvs k).isSome
 | []=>rfl
 | p :: r=>by
  rw [any_cons]
  by_cases e:p.1=k
  ·simp only [aG e,decide_eq_true e,Bool.true_or,Option.isSome_some]
  ·rw [aH e,decide_eq_false e,Bool.false_or]; exact aqd k r
theorem aw4 (k j:κ) (y:V):∀ kvs:List (κ × V),aqh9 (kvs.map fun kv=>if kv.1=k then (kv.1,y) else kv) j=(aqh9 kvs j).map fun x=>if j=k then y else x
 | []=>rfl
 | p :: r=>by
  have ih:=aw4 k j y r;rw [map_cons]
  by_cases h:p.1=k
  ·rw [if_pos h]
   by_cases e:p.1=j
   ·rw [aG (p:=(p.1,y)) e,aG e,Option.map_some,if_pos (e.symm.trans h)]
   ·rw [aH (p:=(p.1,y)) e,aH e,ih]
  ·rw [if_neg h]
   by_cases e:p.1=j
   ·rw [aG (p:=p) e,aG e,Option.map_some,if_neg (fun z=>h (e.trans z))]
   ·rw [aH (p:=p) e,aH e,ih]
theorem akb (k j:κ) (y:V):∀ kvs:List (κ × V),aqh9 kvs k=none->aqh9 (kvs++[(k,y)]) j=if j=k then some y else aqh9 kvs j
 | [],_=>by
  by_cases e:k=j
  ·rw [if_pos e.symm]; exact aG (p:=(k,y)) e
  ·rw [if_neg (fun z=>e z.symm)]; exact aH (p:=(k,y)) e
 | p :: r,hn=>by
  rw [List.cons_append];have hk:¬ p.1=k:=fun z=>by rw [aG z] at hn; cases hn
  rw [aH hk] at hn;have ih:=akb k j y r hn
  by_cases e:p.1=j
  ·rw [aG e,aG e,if_neg (fun z=>hk (e.trans z))]
  ·rw [aH e,aH e,ih]
theorem aw3 (kvs:List (κ × V)) (k j:κ) (y:V):aqh9 (aqhh kvs k y) j=if j=k then some y else aqh9 kvs j:=by
 unfold aqhh
 by_cases a:(kvs.any fun kv=>decide (kv.1=k))=true
 ·rw [if_pos a,aw4]
  rw [aqd] at a
  by_cases e:j=k
  ·obtain ⟨x,hx⟩:=Ia.mp a
   rw [if_pos e,e,hx,Option.map_some,if_pos rfl]
  ·rw [if_neg e]
   cases aqh9 kvs j with
   | none=>rfl
   | some x=>rw [Option.map_some,if_neg e]
 ·rw [if_neg a]
  refine akb k j y kvs ?_;rw [aqd] at a;cases q:aqh9 kvs k with
  | none=>rfl
  | some x=>rw [q] at a; exact (a rfl).elim
theorem ajg (kvs:List (κ × V)) (k:κ) (v:V):(aqhh kvs k v).length <= kvs.length + 1:=by
 unfold aqhh;split
 ·rw [length_map]; omega
 ·rw [length_append,length_cons,Ju]; omega
theorem aqi9.isSome_eq {o:Option V} {u:Option Value} (r:aqi9 o u):o.isSome=u.isSome:=by
 cases o with
 | none=>cases u with
  | none=>rfl
  | some _=>exact (show False from r).elim
 | some _=>cases u with
  | none=>exact (show False from r).elim
  | some _=>rfl
theorem aqi9.getD {o:Option V} {u:Option Value} {d:V} {d':Value} (r:aqi9 o u) (rd:aqi8 d d'):aqi8 (o.getD d) (u.getD d'):=by
 cases o with
 | none=>cases u with
  | none=>exact rd
  | some _=>exact (show False from r).elim
 | some _=>cases u with
  | none=>exact (show False from r).elim
  | some _=>exact r
theorem KV.val {kvs:List (κ × V)} {vs:List (κ × Value)} (r:KV kvs vs) (k:κ):aqi9 (aqh9 kvs k) (Ks vs k):=by
 unfold KV at r
 induction r with
 | nil=>exact True.intro
 | @cons p q ps qs h t ih =>
  obtain ⟨h1,h2⟩:=h
  by_cases e:p.1=k
  ·have e':q.1=k:=h1.symm.trans e
   have b:Ks (q :: qs) k=some q.2:=by simp [Ks,find?_cons,e']
   rw [aG e,b]; exact h2
  ·have e':¬ q.1=k:=fun z=>e (h1.trans z)
   have b:Ks (q :: qs) k=Ks qs k:=by simp [Ks,find?_cons,e']
   rw [aH e,b]; exact ih
theorem KV.any {kvs:List (κ × V)} {vs:List (κ × Value)} (r:KV kvs vs) (k:κ):(kvs.any fun kv=>decide (kv.1=k))=vs.any fun kv=>decide (kv.1=k):=by
 unfold KV at r
 induction r with
 | nil=>rfl
 | cons h t ih=>rw [any_cons,any_cons,ih,h.1]
theorem KV.repl {kvs:List (κ × V)} {vs:List (κ × Value)} (r:KV kvs vs) (k:κ) {y:V} {u:Value} (ry:aqi8 y u) :
  KV (kvs.map fun kv=>if kv.1=k then (kv.1,y) else kv) (vs.map fun kv=>if kv.1=k then (kv.1,u) else kv):=by
 unfold KV at r ⊢
 induction r with
 | nil=>exact .nil
 | @cons p q ps qs h t ih =>
  rw [map_cons,map_cons];refine .cons ?_ ih;obtain ⟨h1,h2⟩:=h
  by_cases e:p.1=k
  ·rw [if_pos e,if_pos (h1.symm.trans e)]; exact ⟨h1,ry⟩
  ·rw [if_neg e,if_neg (fun z=>e (h1.trans z))]; exact ⟨h1,h2⟩
theorem KV.put {kvs:List (κ × V)} {vs:List (κ × Value)} (r:KV kvs vs) (k:κ) {y:V} {u:Value} (ry:aqi8 y u):KV (aqhh kvs k y) (stored vs k u):=by
 unfold aqhh stored;rw [r.any k]
 by_cases e:(vs.any fun kv=>decide (kv.1=k))=true
 ·rw [if_pos e,if_pos e]; exact r.repl k ry
 ·rw [if_neg e,if_neg e]; exact Paired.snoc r ⟨rfl,ry⟩
theorem KV.drop {kvs:List (κ × V)} {vs:List (κ × Value)} (r:KV kvs vs) (k:κ):KV (aXk kvs k) (without vs k):=by
 unfold KV at r ⊢;unfold aXk without
 induction r with
 | nil=>exact .nil
 | @cons p q ps qs h t ih =>
  obtain ⟨h1,h2⟩:=h;rw [List.filter_cons,List.filter_cons]
  by_cases e:p.1=k
  ·have a:¬ decide (p.1 ≠ k)=true:=by simp [e]
   have b:¬ decide (q.1 ≠ k)=true:=by simp [h1.symm.trans e]
   rw [if_neg a,if_neg b]; exact ih
  ·have e':¬ q.1=k:=fun z=>e (h1.trans z)
   have a:decide (p.1 ≠ k)=true:=by simp [e]
   have b:decide (q.1 ≠ k)=true:=by simp [e']
   rw [if_pos a,if_pos b]; exact .cons ⟨h1,h2⟩ ih
theorem KV.length {kvs:List (κ × V)} {vs:List (κ × Value)} (r:KV kvs vs):kvs.length=vs.length:=Paired.length r
theorem aW8 (kvs:List (κ × V)) (k:κ):(aXk kvs k).length <= kvs.length:=length_filter_le _ _
end
theorem aqbk {P:Af} {w:World} {k:Key} {u:Value} (r:aqi8 (kV k) u):(aF P w).is k u=true:=by
 cases k with
 | inl i=>obtain ⟨t,e⟩:=(show ∃ t,u=Value.int i t from r); subst e; exact awk P w i t
 | inr x=>obtain ⟨t,e⟩:=(show ∃ t,u=Value.str x t from r); subst e; exact awj P w x t
theorem aks {P:Af} {w:World}:∀ {ks:List Key} {us:List Value},aqi6 (ks.map kV) us->ItemsAre (aF P w) ks us
 | [],_,r=>by rw [map_nil] at r; cases r; exact .nil
 | k :: ks,_,r=>by
  rw [map_cons] at r;cases r with
  | cons h t=>exact .cons (aqbk h) (aks t)
abbrev KT (H:Hp):List (List Key × V)->List (List Key × Addr × Value)->Prop:=Paired fun p q=>p.1=q.1/\H q.2.1=some (.tup (p.1.map kV))/\aqi8 p.2 q.2.2
theorem KT.val {H:Hp} {kvs:List (List Key × V)} {xs:List (List Key × Addr × Value)} (r:KT H kvs xs) (k:List Key):aqi9 (aqh9 kvs k) ((atKey xs k).map (·.2)):=by
 induction r with
 | nil=>exact True.intro
 | @cons p q ps qs h t ih =>
  obtain ⟨h1,_,h2⟩:=h
  by_cases e:p.1=k
  ·have e':q.1=k:=h1.symm.trans e
   have b:atKey (q :: qs) k=some q.2:=by simp [atKey,find?_cons,e']
   rw [aG e,b]; exact h2
  ·have e':¬ q.1=k:=fun z=>e (h1.trans z)
   have b:atKey (q :: qs) k=atKey qs k:=by simp [atKey,find?_cons,e']
   rw [aH e,b]; exact ih
theorem KT.repl {H:Hp} {kvs:List (List Key × V)} {xs:List (List Key × Addr × Value)} (r:KT H kvs xs) (k:List Key) {y:V} {u:Value} (ry:aqi8 y u) :
  KT H (kvs.map fun kv=>if kv.1=k then (kv.1,y) else kv) (xs.map (putAt k u)):=by
 induction r with
 | nil=>exact .nil
 | @cons p q ps qs h t ih =>
  rw [map_cons,map_cons];refine .cons ?_ ih;obtain ⟨h1,h2,h3⟩:=h;unfold putAt
  by_cases e:p.1=k
  ·rw [if_pos e,if_pos (h1.symm.trans e)]; exact ⟨h1,h2,ry⟩
  ·rw [if_neg e,if_neg (fun z=>e (h1.trans z))]; exact ⟨h1,h2,h3⟩
theorem KT.put {H:Hp} {kvs:List (List Key × V)} {xs:List (List Key × Addr × Value)} (r:KT H kvs xs) (k:List Key) {b:Addr} {y:V} {u:Value} (hb:H b=some (.tup (k.map kV))) (ry:aqi8 y u) :
  KT H (aqhh kvs k y) (storedH xs k b u):=by
 have e:(kvs.any fun kv=>decide (kv.1=k))=(atKey xs k).isSome:=by
  rw [aqd,(r.val k).isSome_eq,Option.isSome_map]
 unfold aqhh storedH;rw [e]
 by_cases q:(atKey xs k).isSome=true
 ·rw [if_pos q,if_pos q]; exact r.repl k ry
 ·rw [if_neg q,if_neg q]; exact Paired.snoc r ⟨rfl,hb,ry⟩
theorem KT.keeps {H H':Hp} {kvs:List (List Key × V)} {xs:List (List Key × Addr × Value)} (r:KT H kvs xs) (ht:∀ b ys,H b=some (.tup ys)->H' b=some (.tup ys)):KT H' kvs xs :=
 Paired.mapP r fun _ _ z=>⟨z.1,ht _ _ z.2.1,z.2.2⟩
section
variable {P:Af} {w:World} {H:Hp} {h:Heap} {a:Addr}
theorem rd_of {u:HO} (ok:HOk P w H h) (e:Rd H a u):aqx P w H h a u:=e.ok ok
theorem aYr {kvs:List (Key × V)} (ok:HOk P w H h) (e:Rd H a (.dK kvs)):kvs.length <= Ad/\(a == Bo)=false/\∃ vs,KV kvs vs/\h.DictOf (aF P w) a vs :=
 show aqx P w H h a (.dK kvs) from rd_of ok e
theorem dk_of {kvs:List (Key × V)} (ok:HOk P w H h) (e:H a=some (.dK kvs)):kvs.length <= Ad/\(a == Bo)=false/\∃ vs,KV kvs vs/\h.DictOf (aF P w) a vs:=aYr ok (.inl e)
theorem awm {ks:List Key} (ok:HOk P w H h) (e:H a=some (.tup (ks.map kV))):(Ep (aF P w)).is h ks a:=by
 obtain ⟨_,its,r,o,h1,h2,n,h3⟩:=(show aqx P w H h a (.tup (ks.map kV)) from ok a _ e);exact ⟨o,its.toArray,n,h1,h2,h3,by simpa using aks r⟩
theorem aYq {kvs:List (List Key × V)} (ok:HOk P w H h) (e:Rd H a (.dT kvs)):kvs.length <= Ad/\(a == Bo)=false /\
  ∃ xs,KT H kvs xs/\h.DictOfH (Ep (aF P w)) a xs:=by
 obtain ⟨z,y,xs,r,o,es,ep,h1,h2,h3,h4,h5⟩:=(show aqx P w H h a (.dT kvs) from rd_of ok e);refine ⟨z,y,xs,r,o,es,ep,h1,h2,h3,h4,fun x hx=>?_,h5⟩;have all:∀ {l:List (List Key × V)} {m:List (List Key × Addr × Value)},KT H l m->∀ x∈m,(Ep (aF P w)).is h x.1 x.2.1:=by
  intro l m q
  induction q with
  | nil=>intro x hx; exact nomatch hx
  | @cons p q ps qs hq t ih =>
   intro x hx;rcases Ai.mp hx with e | hx
   ·subst e
    exact awm ok (by rw [<- hq.1]; exact hq.2.1)
   ·exact ih x hx
 exact all r x hx
theorem dt_of {kvs:List (List Key × V)} (ok:HOk P w H h) (e:H a=some (.dT kvs)):kvs.length <= Ad/\(a == Bo)=false /\
  ∃ xs,KT H kvs xs/\h.DictOfH (Ep (aF P w)) a xs:=aYq ok (.inl e)
end
def aqig (H:Hp) (a:Addr) (y:V) (r:Option V):Prop :=
 (∃ kvs k,Rd H a (.dK kvs)/\y=kV k/\r=aqh9 kvs k) \/ ∃ kvs k b,Rd H a (.dT kvs)/\y=.ref b/\H b=some (.tup (k.map kV))/\r=aqh9 kvs k
def DPut (H:Hp) (a:Addr) (y v:V) (H':Hp):Prop :=
 (∃ kvs k,H a=some (.dK kvs)/\y=kV k/\kvs.length < Ad/\H'=upd H a (.dK (aqhh kvs k v))) \/
 ∃ kvs k b,H a=some (.dT kvs)/\y=.ref b/\H b=some (.tup (k.map kV))/\kvs.length < Ad/\H'=upd H a (.dT (aqhh kvs k v))
theorem aqig.t {H:Hp} {a b:Addr} {kvs:List (List Key × V)} {k:List Key} (e:H a=some (.dT kvs)) (eb:H b=some (.tup (k.map kV))):aqig H a (.ref b) (aqh9 kvs k):=.inr ⟨kvs,k,b,.inl e,rfl,eb,rfl⟩
theorem DPut.t {H:Hp} {a b:Addr} {kvs:List (List Key × V)} {k:List Key} {v:V} (e:H a=some (.dT kvs)) (eb:H b=some (.tup (k.map kV))) (hl:kvs.length < Ad) :
  DPut H a (.ref b) v (upd H a (.dT (aqhh kvs k v))):=.inr ⟨kvs,k,b,e,rfl,eb,hl,rfl⟩
section
variable {X:Cx} {pins:List (Addr × Obj)} {σ:St} {H:Hp} {s:Shared} {a:Addr} {y v:V} {u r:Value} {o:Option V} {A:Around} {E:Value->Shared->Prop}
theorem Inv.big (I:Inv X pins σ H s):Bo < s.heap.objs.size:=by
 have h:Ak < s.heap.objs.size:=(I.mod.glob.keeps I.bk).lt;exact Lu (by decide) h
theorem aZx {Q:Value->Shared->Prop} (hu:A.units + 1 < cLine) (I:Inv X pins σ H s) (g:aqig H a y (some v)) (ry:aqi8 y u) (h:∀ w' s',Inv X pins σ H s'->aqi8 v w'->Q w' s') :
  wpAny (model X.prog X.w) A (Ls (.ref a) u) Q E s:=by
 rcases g with ⟨kvs,k,e,ey,l⟩ | ⟨kvs,k,b,e,ey,eb,l⟩
 ·subst ey
  obtain ⟨z,hd,vs,rel,dd⟩:=aYr I.hok e;obtain ⟨w',hw,rw'⟩:=aqi9.some_of (v:=v) (o:=Ks vs k) (by rw [l]; exact rel.val k);exact wpAny_getItem_of (aqbk ry) dd.mapOf hw (h w' _ (I.tok _) rw')
 ·subst ey
  cases (show u=Value.ref b from ry);obtain ⟨z,hd,xs,rel,dd⟩:=aYq I.hok e;obtain ⟨w',hw,rw'⟩:=aqi9.some_of (v:=v) (o:=(atKey xs k).map (·.2)) (by rw [l]; exact rel.val k);obtain ⟨p,hp,hp2⟩:=Jh.mp hw;refine wpAny_getItem_heap (Cj hu) (awm I.hok eb) dd hp ?_;rw [hp2];exact h w' _ (I.tok _) rw'
theorem aqbz {Q:Value->Shared->Prop} (hu:A.units + 1 < cLine) (I:Inv X pins σ H s) (g:aqig H a y o) (ry:aqi8 y u) (h:∀ s',Inv X pins σ H s'->Q (.bool (!o.isSome)) s') :
  wpAny (model X.prog X.w) A (Bi .NotIn u (.ref a)) Q E s:=by
 rcases g with ⟨kvs,k,e,ey,l⟩ | ⟨kvs,k,b,e,ey,eb,l⟩
 ·subst ey
  obtain ⟨z,hd,vs,rel,dd⟩:=aYr I.hok e;refine wpAny_notIn_of (aqbk ry) hd dd.mapOf ?_;rw [<- (rel.val k).isSome_eq,<- l];exact h _ (I.tok _)
 ·subst ey
  cases (show u=Value.ref b from ry);obtain ⟨z,hd,xs,rel,dd⟩:=aYq I.hok e;refine wpAny_notIn_heap (Cj hu) (awm I.hok eb) hd dd ?_;have q:=(rel.val k).isSome_eq;rw [Option.isSome_map] at q;rw [<- q,<- l];exact h _ (I.tok _)
theorem aJ6 {h':Heap} {t':Nat} {ob:HO} (I:Inv X pins σ H s) (mu:Mut (H a)) (hs:Heap.SameBut a s.heap h') (he:∃ q,h'.get? a=some q) (new:aqx X.prog X.w (upd H a ob) h' a ob) :
  Inv X pins σ (upd H a ob) { s with heap:=h',toks:=t' } :=
 I.write (x:=a) (e:=a) mu (.inl rfl) (fun b q hb z=>(hs.2 b hb).trans z) he new
theorem aqed {P:Af} {w:World} {H':Hp} {h':Heap} {kvs:List (Key × V)} {vs:List (Key × Value)} (z:kvs.length <= Ad) (hd:(a == Bo)=false) (rel:KV kvs vs) (dd:h'.DictOf (aF P w) a vs) :
  aqx P w H' h' a (.dK kvs):=⟨z,hd,vs,rel,dd⟩
theorem aZw {H':Hp} {Q:Unit->Shared->Prop} (hu:A.units + 1 < cLine) (I:Inv X pins σ H s) (g:DPut H a y v H') (ry:aqi8 y u) (rv:aqi8 v r) (h:∀ s',Inv X pins σ H' s'->Q () s') :
  wpAny (model X.prog X.w) A (setItem (.ref a) u r) Q E s:=by
 rcases g with ⟨kvs,k,e,ey,l,eH⟩ | ⟨kvs,k,b,e,ey,eb,l,eH⟩
 ·subst ey eH
  obtain ⟨z,hd,vs,rel,dd⟩:=dk_of I.hok e;have hz:vs.length <= Ad:=by rw [<- rel.length]; exact z
  have hl:(aqhh kvs k v).length <= Ad:=by have:=ajg kvs k v; omega
  refine wpAny_setItem_pairs (hsz:=hz) (aqbk ry) dd fun h' dd' hs=>h _ ?_;have he:∃ q,h'.get? a=some q:=let ⟨q,_,_,hq,_⟩:=dd'; ⟨q,hq⟩;exact aJ6 I (by rw [e]; exact True.intro) hs he (aqed hl hd (rel.put k rv) dd')
 ·subst ey eH
  cases (show u=Value.ref b from ry);obtain ⟨z,hd,xs,rel,dd⟩:=dt_of I.hok e;have hz:xs.length <= Ad:=by rw [<- Paired.length rel]; exact z
  have hl:(aqhh kvs k v).length <= Ad:=by have:=ajg kvs k v; omega
  refine wpAny_setItem_heap (hsz:=hz) (Cj hu) (awm I.hok eb) dd fun h' dd' hs=>h _ ?_;obtain ⟨q,es,ep,hq,h2,h3,h4,_,h5⟩:=dd';refine aJ6 I (by rw [e]; exact True.intro) hs ⟨q,hq⟩ ⟨hl,hd,_,(rel.put k eb rv).keeps fun c ys ec=>?_,q,es,ep,hq,h2,h3,h4,h5⟩;rw [af (aqb ec e (fun z=>nomatch z))];exact ec
end
section
variable {X:Cx} {pins:List (Addr × Obj)} {σ:St} {H:Hp} {s:Shared} {a:Addr} {kvs:List (Key × V)} {k:Key} {u:Value} {A:Around} {E:Value->Shared->Prop}
end
def NoSl (i:Expr):Prop:=∀ ov iv,Kb i false ov iv=operate [ov,iv] (Ls ov iv)
theorem aY6 {prog:Af} {w:World} {A:Around} {E:Value->Shared->Prop} {s:Shared} {env:Env} {value slice:Expr} {pos:Pos} {T id:String} {Q:Value->Shared->Prop}
  (hl:typeLookup (.type T) "__getitem__"=pure (some (.builtin id))) (hs:NoSl slice)
  (h:wpAny (model prog w) A (eval value env) (fun o s₁=>wpAny (model prog w) A (eval slice env) (fun i s₂=>s₂.TypeIs o T/\wpAny (model prog w) A (Ls o i) Q E s₂) E s₁) E s) :
  wpAny (model prog w) A (eval (.Subscript value slice pos) env) Q E s:=by
 refine Ld (Av h (fun o s₁ h₁=>Av h₁ (fun i s₂ h₂=>?_) fun _ _ x=>x) fun _ _ x=>x);obtain ⟨hT,h₂⟩:=h₂;unfold Ib;refine Aa ?_;rw [getitemInPython_of_ne hT.not_modules];refine Aa (wpAny_specialOf hT hl ?_);have fin:wpAny (model prog w) A (Kb slice false o i) (fun r s₃=>wpAny (model prog w) A (letTemporaryGo value o r >>= fun _=>pure r) Q E s₃) E s₂:=by
  rw [hs o i];exact wpAny_operating (Av h₂ (fun r s₃ h₃=>Aa (wpAny_letTemporaryGo (Ab h₃))) fun _ _ x=>x)
 first
  | exact Ab (Aa fin)
  | exact Aa (Ab (Aa fin))
  | exact Aa fin
theorem aww {X:Cx} {pins:List (Addr × Obj)} {σ:St} {H:Hp} {s:Shared} {a:Addr} {y:V} {o:Option V} (I:Inv X pins σ H s) (g:aqig H a y o):s.TypeIs (.ref a) "dict":=by
 rcases g with ⟨kvs,k,e,_,_⟩ | ⟨kvs,k,b,e,_,_,_⟩
 ·obtain ⟨_,_,vs,_,dd⟩:=aYr I.hok e
  exact dd.typeIs
 ·obtain ⟨_,_,xs,_,dd⟩:=aYq I.hok e
  exact dd.typeIs
def tDGet (td ty:TE):TE:=fun σ H Q=>td σ H fun x H1=>ty σ H1 fun y H2=>∃ a v,x=.ref a/\aqig H2 a y (some v)/\Q v H2
def tDNotIn (ty td:TE):TE:=fun σ H Q=>ty σ H fun y H1=>td σ H1 fun x H2=>∃ a o,x=.ref a/\aqig H2 a y o/\Q (.bl (!o.isSome)) H2
def sDPut (td ty tv:TE):TS:=fun D σ H=>tv σ H fun v H1=>td σ H1 fun x H2=>ty σ H2 fun y H3=>∃ a H4,x=.ref a/\DPut H3 a y v H4/\D.nx σ H4
section
variable {X:Cx} {o i e value:Expr} {pos pos' tpos:Pos} {td ty tv:TE}
theorem aQ6 (hu:X.A.units + 1 < cLine) (ho:PE X o td) (hi:PE X i ty) (hs:NoSl i):PE X (.Subscript o i pos) (tDGet td ty):=by
 intro pins s σ H Q I h;refine aY6 PySem.F.slot_dict_getitem.lookup hs (thn (ho pins s σ H _ I h) fun u s1 ⟨x,H1,I1,rx,q1⟩=>thn (hi pins s1 σ H1 _ I1 q1) fun iv s2 hQ=>?_);obtain ⟨y,H2,I2,ry,a,v,ex,g,q2⟩:=hQ;subst ex;obtain rfl:u=Value.ref a:=rx;exact ⟨aww I2 g,aZx hu I2 g ry fun w' s3 I3 rw'=>⟨v,H2,I3,rw',q2⟩⟩
theorem akl (hu:X.A.units + 1 < cLine) (hi:PE X i ty) (ho:PE X o td):PC X .NotIn i o (tDNotIn ty td):=by
 intro pins s σ H Q I h;refine thn (hi pins s σ H _ I h) fun iv s1 ⟨y,H1,I1,ry,q1⟩=>thn (ho pins s1 σ H1 _ I1 q1) fun u s2 hQ=>?_;obtain ⟨x,H2,I2,rx,a,ov,ex,g,q2⟩:=hQ;subst ex;obtain rfl:u=Value.ref a:=rx;exact aqbz hu I2 g ry fun s3 I3=>⟨.bl (!ov.isSome),H2,I3,rfl,q2⟩
theorem aQx (hu:X.A.units + 1 < cLine) (ho:PE X o td) (hi:PE X i ty) (hv:PE X value tv) (hs:Il value (some (.Subscript o i pos')) pos.line X.env=pure false) :
  PS X (.Assign [.Subscript o i pos'] value pos) (sDPut td ty tv):=by
 intro pins s σ H D I h;refine wpAny_Assign_Subscript (thn (hv pins s σ H _ I h) fun r s1 ⟨v,H1,I1,rv,q1⟩=>thn (ho pins s1 σ H1 _ I1 q1) fun u s2 ⟨x,H2,I2,rx,q2⟩=>thn (hi pins s2 σ H2 _ I2 q2) fun iv s3 hQ=>?_) hs;obtain ⟨y,H3,I3,ry,a,H4,ex,g,q3⟩:=hQ;subst ex;obtain rfl:u=Value.ref a:=rx;exact aZw hu I3 g ry rv fun s4 I4=>⟨σ,H4,I4,q3⟩
end
theorem aW7 {P:Af} {w:World} {H:Hp} (h:Heap) (hb:Bo < h.objs.size):aqx P w H (h.push { cls:=.type "dict",data:=.dict #[] }) h.objs.size (.dT []) :=
 ⟨zero_le _,beq_eq_false_iff_ne.mpr (Gq (ne_of_lt hb)),[],.nil,_,#[],0,Ag _ rfl,⟨rfl,rfl,rfl⟩,rfl,rfl,List.nodup_nil⟩
def tDNewT:TE:=fun _ H Q=>∀ p,H p=none->Q (.ref p) (upd H p (.dT []))
section
variable {X:Cx} {pos:Pos}
theorem azc:PE X (.Dict [] [] pos) tDNewT:=fun pins s σ H Q I h =>
 wpAny_Dict_empty ⟨.ref s.heap.objs.size,_,I.laid (a:=s.heap.objs.size) (o:=.dT []) (t':=s.toks) (fun _ _ q=>Ac _ q) (le_refl _) (aW7 s.heap I.big),rfl,h _ (I.hok.fresh (le_refl _))⟩
end
structure M1 (X:Cx) (o:Expr) (m:Str) (apos:Pos) (e:Expr) (cpos:Pos):Prop where
 base:C6 o m X.env (eval o X.env)=eval o X.env
 few:((Dl cpos (Ap [e] X.env)).all (fun x=>!x.1) && (Ka cpos (F5 [] X.env)).all (fun x=>x.1.isSome)
  && decide (([e]:List Expr).length + ([]:List Ht).length + (if ([]:List Ht).isEmpty then 0 else 1) < 30))=true
 line:(apos.endLine == cpos.line)=true
 trees:Dl cpos (Ap [e] X.env)=[(false,eval e X.env)]
structure M2 (X:Cx) (o:Expr) (m:Str) (apos:Pos) (e f:Expr) (cpos:Pos):Prop where
 base:C6 o m X.env (eval o X.env)=eval o X.env
 few:((Dl cpos (Ap [e,f] X.env)).all (fun x=>!x.1) && (Ka cpos (F5 [] X.env)).all (fun x=>x.1.isSome)
  && decide (([e,f]:List Expr).length + ([]:List Ht).length + (if ([]:List Ht).isEmpty then 0 else 1) < 30))=true
 line:(apos.endLine == cpos.line)=true
 trees:Dl cpos (Ap [e,f] X.env)=[(false,eval e X.env),(false,eval f X.env)]
def IsD (H:Hp) (a:Addr):Prop:=(∃ kvs,Rd H a (.dK kvs)) \/ ∃ kvs,Rd H a (.dT kvs)
theorem aW2 {X:Cx} {pins:List (Addr × Obj)} {σ:St} {H:Hp} {s:Shared} {a:Addr} (I:Inv X pins σ H s) (d:IsD H a) :
  s.TypeIs (.ref a) "dict"/\(∀ b,Value.ref a=.ref b->∃ ob,s.heap.get? b=some ob/\ob.dict=none)/\(a == Bo)=false:=by
 rcases d with ⟨kvs,e⟩ | ⟨kvs,e⟩
 ·obtain ⟨_,hd,vs,_,dd⟩:=aYr I.hok e
  refine ⟨dd.typeIs,fun b q=>?_,hd⟩;cases q;obtain ⟨ob,_,_,h1,h2,_⟩:=dd;exact ⟨ob,h1,h2.2.1⟩
 ·obtain ⟨_,hd,xs,_,dd⟩:=aYq I.hok e
  refine ⟨dd.typeIs,fun b q=>?_,hd⟩;cases q;obtain ⟨ob,_,_,h1,h2,_⟩:=dd;exact ⟨ob,h1,h2.2.1⟩
section
variable {X:Cx} {pins:List (Addr × Obj)} {σ:St} {H:Hp} {s:Shared} {a:Addr} {y d:V} {u r:Value} {o:Option V} {A:Around} {E:Value->Shared->Prop}
theorem aqee {Q:Value->Shared->Prop} (hu:A.units + 1 < cLine) (I:Inv X pins σ H s) (g:aqig H a y o) (ry:aqi8 y u) (rd:aqi8 d r) (h:∀ w' s',Inv X pins σ H s'->aqi8 (o.getD d) w'->Q w' s') :
  wpAny (model X.prog X.w) A (call (.builtin "dict.get") [.ref a,u,r]) Q E s:=by
 rcases g with ⟨kvs,k,e,ey,l⟩ | ⟨kvs,k,b,e,ey,eb,l⟩
 ·subst ey
  obtain ⟨z,hd,vs,rel,dd⟩:=aYr I.hok e;refine call_meetsIn Fj dd.typeIs Jl (Iv _ _ _) (meets_dict_get_default (aF X.prog X.w) a (aqbk ry) hd r) ⟨_,dd.mapOf,h _ _ (I.tok _) ?_⟩;rw [l];exact (rel.val k).getD rd
 ·subst ey
  cases (show u=Value.ref b from ry);obtain ⟨z,hd,xs,rel,dd⟩:=aYq I.hok e;refine call_meetsIn Fj dd.typeIs Jl (Iv _ _ _) (meetsH_dict_get_default (Ep (aF X.prog X.w)) a b hd r) ⟨Cj hu,k,xs,awm I.hok eb,dd,h _ _ (I.tok _) ?_⟩;rw [l];exact (rel.val k).getD rd
end
def aY5 (td ty tx:TE):TE:=fun σ H Q=>td σ H fun x H1=>∃ a,x=.ref a/\IsD H1 a/\ty σ H1 fun y H2=>tx σ H2 fun z H3=>∃ o,aqig H3 a y o/\Q (o.getD z) H3
section
variable {X:Cx} {o e f:Expr} {apos cpos:Pos} {td ty tx:TE}
theorem azd (hu:X.A.units + 1 < cLine) (ho:PE X o td) (he:PE X e ty) (hf:PE X f tx) (m:M2 X o "get" apos e f cpos):PE X (.Call (.Attribute o "get" apos) [e,f] [] cpos) (aY5 td ty tx):=by
 intro pins s σ H Q I h;refine Fb m.base m.few m.line Dh Fj PySem.F.type_dict_get (thn (ho pins s σ H _ I h) fun u s1 hQ=>?_);obtain ⟨x,H1,I1,rx,a,ex,d,q1⟩:=hQ;subst ex;obtain rfl:u=Value.ref a:=rx;obtain ⟨t1,t2,_⟩:=aW2 I1 d;refine ⟨t1,t2,?_⟩;rw [m.trees];refine Cc rfl (C1 (B0 (thn (he pins s1 σ H1 _ I1 q1) fun iv s2 ⟨y,H2,I2,ry,q2⟩ =>
  B0 (thn (hf pins s2 σ H2 _ I2 q2) fun fv s3 ⟨z,H3,I3,rz,ov,g,q3⟩=>Dw ?_))))
 exact aqee hu I3 g ry rz fun w' s4 I4 rw'=>⟨_,H3,I4,rw',q3⟩
end
section
variable {X:Cx} {pins:List (Addr × Obj)} {σ:St} {H:Hp} {s:Shared} {a:Addr} {kvs:List (Key × V)} {A:Around} {E:Value->Shared->Prop}
end
section
variable {X:Cx} {pins:List (Addr × Obj)} {σ:St} {H:Hp} {s:Shared} {a:Addr} {y:V} {u:Value} {A:Around} {E:Value->Shared->Prop}
end
end L2
namespace DL
open PySem PySem.W PyProof.Rows PySem.SeqAt MeetsSeq MeetsSeq2 MeetsSeq3 PySem.Spec
open AutoSeq1 (wpAny_loadPart')
theorem aJt:∀ {vs:List Value} {ns:List Int} {i:Nat} {n:Int},IntsAre vs ns->ns[i]?=some n->∃ t,vs[i]?=some (.int n t)
 | _,_,_,_,.nil,h=>by simp at h
 | _,_,0,_,.cons n t _,h=>by simp at h; subst h; exact ⟨t,by simp⟩
 | _,_,i + 1,_,.cons n t r,h=>by
  obtain ⟨u,hu⟩:=aJt (i:=i) r (by simpa using h);exact ⟨u,by simpa using hu⟩
theorem aWz {a b:List Int} {i:Nat} (h:i=a.length \/ i=b.length) (h1:i <= a.length) (h2:i <= b.length):aqhp (a.drop i) (b.drop i)=decide (a.length < b.length):=by
 rcases h with h | h
 ·rw [Fc (by omega)]
  cases q:b.drop i with
  | nil =>
   have:=congrArg List.length q
   simp at this;simp [aqhp]; omega
  | cons x r =>
   have:=congrArg List.length q
   simp at this;simp [aqhp]; omega
 ·rw [Fc (l:=b) (by omega)]
  have:aqhp (a.drop i) []=false:=by cases a.drop i <;> rfl
  rw [this]
  simp; omega
theorem aqbf {a b:List Int} {i:Nat} {x y:Int} (hx:a[i]?=some x) (hy:b[i]?=some y):aqhp (a.drop i) (b.drop i)=(decide (x < y) || (decide (x=y) && aqhp (a.drop (i + 1)) (b.drop (i + 1)))):=by
 obtain ⟨h1,e1⟩:=Aj.mp hx;obtain ⟨h2,e2⟩:=Aj.mp hy;rw [Cr h1,Cr h2,e1,e2];rfl
end DL
namespace DL
open PySem PySem.Spec PyProof.Rows L2
section
variable {X:Cx} {K:Frag}
theorem akp:∀ {ds:List D} {ns:List Int},ds.mapM kInt=some ns->ds=ns.map D.int
 | [],ns,h=>by simp at h; subst h; rfl
 | d :: ds,ns,h=>by
  rw [mapM_cons] at h;obtain ⟨n,hn,h⟩:=bind_some h;obtain ⟨r,hr,h⟩:=bind_some h;cases h;cases d <;> cases hn;rw [akp hr]; rfl
theorem az8 {d:D} {ns:List Int} (h:aqbm d=some ns):d=.lst (ns.map D.int):=by
 cases d <;> first | (cases h; done) | skip
 rw [akp h]
end
end DL
namespace DL
open PySem PySem.W PyProof.Rows PySem.SeqAt MeetsSeq MeetsSeq2 MeetsSeq3 PySem.Spec
open AutoSeq1 (wpAny_loadPart')
theorem aXn (l b:Addr) (its its2:List Value) (ns ms:List Int) (n n2:Nat) (dd dd2:Option Addr) (sl sl2:Array (Option Value)) (ia:IntsAre its ns) (ib:IntsAre its2 ms) :
  Meets (Builtin.«tuple.__lt__» ⟨[.ref l,.ref b],[]⟩)
   (fun A R s=>s.heap.get? l=some { cls:=.type "tuple",dict:=dd,data:=.seq its.toArray n,slots:=sl }/\s.heap.get? b=some { cls:=.type "tuple",dict:=dd2,data:=.seq its2.toArray n2,slots:=sl2 }/\R (.ok (.ret (.bool (aqhp ns ms)))) s) :=
 .of_wp fun prog w A R s h=>by
  obtain ⟨hp,g,d,tk,os⟩:=s; obtain ⟨hl,hb,h⟩:=h;have l1:=ia.length;have l2:=ib.length;have f2:=AutoSeq1.sub_tuple_tuple
  wp_walk using wpAny_loadPart' hl,wpAny_loadPart' hb,wpAny_forIn_list _ (fun aqhg b s'=>b.1=none/\s'=⟨hp,g,d,tk,os⟩/\∃ i,i <= ns.length/\i <= ms.length/\aqhg=(its.zip its2).drop i /\
   R (.ok (.ret (.bool (aqhp (ns.drop i) (ms.drop i))))) ⟨hp,g,d,tk,os⟩) _
  case turn =>
   rintro ⟨y,x⟩ aqhg b s' ⟨hb',rfl,i,hi,hj,hz,hR⟩;have hlt:i < (its.zip its2).length:=by
    rcases Nat.lt_or_ge i (its.zip its2).length with h' | h'
    ·exact h'
    ·rw [Fc h'] at hz; cases hz
   have hm:i < ns.length/\i < ms.length:=by simp at hlt; omega
   rw [Cr hlt] at hz;injection hz with hyx hrest;obtain ⟨p,hp1⟩:∃ p,ns[i]?=some p:=⟨ns[i]'hm.1,by simp⟩;obtain ⟨q,hq1⟩:∃ q,ms[i]?=some q:=⟨ms[i]'hm.2,by simp⟩;obtain ⟨t,ht⟩:=aJt ia hp1;obtain ⟨u,hu⟩:=aJt ib hq1;have e:(its.zip its2)[i]=(Value.int p t,Value.int q u):=by
    obtain ⟨_,e1⟩:=Aj.mp ht;obtain ⟨_,e2⟩:=Aj.mp hu;simp [e1,e2]
   rw [e] at hyx;injection hyx with e1 e2;subst e1 e2;rw [aqbf hp1 hq1] at hR;refine Aa (Ij ?_)
   by_cases e:p=q
   ·subst e
    simp only [beq_self_eq_true]
    wp_walk
    exact ⟨rfl,rfl,i + 1,hm.1,hm.2,hrest,by simpa using hR⟩
   ·have e':(p == q)=false:=by simpa using e
    rw [e'];simp only [Bool.not_false,if_true];refine Aa (Ci (Aa (Ky ?_)))
    wp_walk
    exact ⟨_,rfl,by simpa [e] using hR⟩
  case fin =>
   rintro ⟨b1,b2⟩ s' ⟨hb',rfl,i,hi,hj,hz,hR⟩;simp only at hb';subst hb';have hge:i=ns.length \/ i=ms.length:=by
    rcases Nat.lt_or_ge i (its.zip its2).length with h' | h'
    ·rw [Cr h'] at hz; cases hz
    ·simp at h'; omega
   rw [aWz hge hi hj] at hR
   wp_walk
   refine ⟨_,rfl,?_⟩;simpa [Builtin.Tuple.tupleCompareSizes,l1,l2] using hR
  case h =>
   exact ⟨rfl,rfl,0,zero_le _,zero_le _,rfl,by simpa using h⟩
end DL
namespace SortW
open PySem PySem.W PyProof.Rows DL
def awa (h:Heap) (x:Addr) (ns:List Int):Prop:=∃ (its:List Value) (n:Nat) (dd:Option Addr) (sl:Array (Option Value)),h.get? x=some { cls:=.type "tuple",dict:=dd,data:=.seq its.toArray n,slots:=sl }/\IntsAre its ns
theorem awa.keep {h h':Heap} {x:Addr} {ns:List Int} (t:awa h x ns) (k:∀ o,h.get? x=some o->h'.get? x=some o):awa h' x ns:=by
 obtain ⟨its,n,dd,sl,e,r⟩:=t;exact ⟨its,n,dd,sl,k _ e,r⟩
section
variable {prog:Af} {w:World} {A:Around} {E:Value->Shared->Prop} {s:Shared}
theorem ax0 {fin:Bool} {C:Bool->Shared->Prop}:∀ {its its2:List Value} {ns ms:List Int} (i:Nat),IntsAre its ns->IntsAre its2 ms->fin=decide (ns.length < ms.length)->C (aqhp ns ms) s->KatLex prog w A true fin C (its.zip its2) i s
 | _,_,_,_,i,.nil,.nil,hf,h=>by subst hf; exact kat_nil (by simpa [aqhp] using h)
 | _,_,_,_,i,.nil,.cons _ _ _,hf,h=>by subst hf; exact kat_nil (by simpa [aqhp] using h)
 | _,_,_,_,i,.cons _ _ _,.nil,hf,h=>by subst hf; exact kat_nil (by simpa [aqhp] using h)
 | _,_,_,_,i,.cons n t r,.cons m u q,hf,h=>by
  rw [List.zip_cons_cons];refine kat_cons (Ij ?_)
  by_cases e:n=m
  ·subst e
   rw [show (n == n)=true by simp];exact kat_yes (ax0 (i + 1) r q (by rw [hf]; simp) (by simpa [aqhp] using h))
  ·rw [show (n == m)=false by simpa using e]
   have h':C (decide (n < m)) s:=by simpa [aqhp,e] using h
   refine kat_no ?_;cases i with
   | zero=>exact oneLt_int h'
   | succ i=>exact kat_one _ _ (Ky h')
def TK (κ:SortKind):Prop:=κ=tuples' true \/ κ=oneType' \/ κ=Lx
theorem aXd {x y:Addr} {a b:List Int} {Q:Value->Shared->Prop} (hx:awa s.heap x a) (hy:awa s.heap y b) (h:Q (.bool (aqhp a b)) s):wpAny (model prog w) A (call (.builtin "tuple.__lt__") [.ref x,.ref y]) Q E s:=by
 obtain ⟨its,n,dd,sl,e,r⟩:=hx;obtain ⟨its2,n2,dd2,sl2,e2,r2⟩:=hy;exact G6 Jv ⟨_,e,rfl⟩ F.entry_tuple_lt (F.args_tuple_lt_2 _ _) (aXn x y its its2 a b n n2 dd dd2 sl sl2 r r2) ⟨e,e2,h⟩
theorem azh (x y:Value):keyLt' Lx x y=oneLt' false x y:=rfl
theorem aYd {κ:SortKind} (hκ:TK κ) (hu:A.units < cLine) {x y:Addr} {a b:List Int} {C:Bool->Shared->Prop} (hx:awa s.heap x a) (hy:awa s.heap y b) (h:C (aqhp a b) s):wpAny (model prog w) A (keyLt' κ (.ref x) (.ref y)) C E s:=by
 have tx:s.TypeIs (.ref x) "tuple":=by obtain ⟨_,_,_,_,e,_⟩:=hx; exact ⟨_,e,rfl⟩
 have ty:s.TypeIs (.ref y) "tuple":=by obtain ⟨_,_,_,_,e,_⟩:=hy; exact ⟨_,e,rfl⟩
 rcases hκ with rfl | rfl | rfl
 ·obtain ⟨its,n,dd,sl,e,r⟩:=hx
  obtain ⟨its2,n2,dd2,sl2,e2,r2⟩:=hy;refine kat_lt e rfl e2 rfl ?_;simp only [size_toArray];exact ax0 0 r r2 (by rw [r.length,r2.length]) h
 ·rw [keyLt'_oneType,oneLt'_eq]
  simp only [if_true];refine Aa (wpAny_cRoomFor hu ?_);refine Aa (wpAny_callSpecialIfBound?_slot tx Jv (aXd hx hy ?_));exact Cw h
 ·rw [azh]
  refine kat_one _ _ ?_;refine (?_:wpAny (model prog w) A (richCompare .Lt (.ref x) (.ref y)) (PySem.W.BoolBack C) E s);exact wpAny_richCompare_same_room (T:="tuple") (op:=.Lt) (id:="tuple.__lt__") tx ty Jv (aXd hx hy ⟨by simp,h⟩) hu
theorem ax1:∀ (Ts:List Addr) (keys:List (List Int)) {Q:List (Option Value)->Shared->Prop},Ts.length=keys.length->(∀ i (h:i < Ts.length),awa s.heap Ts[i] (keys.getD i []))->(∀ fs:List (Option Value),fs.length=Ts.length->(fs.all (·.isSome)=true->∀ k∈keys,k ≠ [])->Q fs s)->wpAny (model prog w) A ((Ts.map Value.ref).mapM firstOfTuple') Q E s
 | [],[],_,_,_,h=>by
  rw [map_nil,List.mapM_nil]; exact Ab (h [] rfl (by simp))
 | [],_ :: _,_,hl,_,_=>by simp at hl
 | _ :: _,[],_,hl,_,_=>by simp at hl
 | T :: Ts,k :: ks,Q,hl,ht,h=>by
  rw [map_cons,mapM_cons];obtain ⟨its,n,dd,sl,e,r⟩:=ht 0 (by simp);refine Aa ?_;rw [kas_first_eq];refine Aa (Looks.here (show Looks (model prog w) s.heap (Mg (.ref T)) (.type "tuple") from (Looks.ld e).andThen .now) ?_);rw [if_neg (by first | decide | simp)];refine Aa (Lw e rfl (Ab ?_));refine Aa (ax1 Ts ks (by simpa using hl) (fun i hi=>ht (i + 1) (Nat.succ_lt_succ hi)) fun fs hfs hn=>Ab (h _ (by simp [hfs]) fun ha k' hk=>?_));rw [List.all_cons,Cd] at ha;rcases Ai.mp hk with rfl | hk
  ·rintro rfl
   simp at r;cases r;simp at ha
  ·exact hn ha.2 k' hk
theorem aw8:∀ (Ts:List Addr) (keys:List (List Int)),Ts.length=keys.length->(∀ i (h:i < Ts.length),awa s.heap Ts[i] (keys.getD i []))->(∀ k∈keys,k ≠ [])->∃ fs,KatTups s.heap (Ts.map Value.ref) fs/\fs.length=Ts.length/\∀ v∈fs,∃ k t,v=Value.int k t
 | [],[],_,_,_=>⟨[],KatTups.nil ..,rfl,by simp⟩
 | [],_ :: _,hl,_,_=>by simp at hl
 | _ :: _,[],hl,_,_=>by simp at hl
 | T :: Ts,k :: ks,hl,ht,hn=>by
  obtain ⟨fs,h1,h2,h3⟩:=aw8 Ts ks (by simpa using hl) (fun i hi=>ht (i + 1) (Nat.succ_lt_succ hi)) fun k hk=>hn k (mem_cons_of_mem _ hk);obtain ⟨its,n,dd,sl,e,r⟩:=ht 0 (by simp);simp at e r;cases r with
  | nil=>exact absurd rfl (hn [] (by simp))
  | cons m t r =>
   exact ⟨Value.int m t :: fs,KatTups.cons e rfl rfl (by simp) h1,by simp [h2],fun v hv=>by
    rcases Ai.mp hv with rfl | hv
    ·exact ⟨_,_,rfl⟩
    ·exact h3 v hv⟩
theorem aZi {Ts:List Addr} {keys:List (List Int)} {Q:SortKind->Shared->Prop} (h0:0 < Ts.length) (hl:Ts.length=keys.length) (ht:∀ i (h:i < Ts.length),awa s.heap Ts[i] (keys.getD i [])) (h:∀ κ,TK κ->Q κ s):wpAny (model prog w) A (keyKind' (Ts.map Value.ref).toArray) Q E s:=by
 by_cases hn:∀ k∈keys,k ≠ []
 ·obtain ⟨fs,h1,h2,h3⟩:=aw8 Ts keys hl ht hn
  refine kat_kind (T:=.type "int") h1 (by omega) (fun v hv=>?_) (by decide) (h _ (.inl rfl));obtain ⟨k,t,rfl⟩:=h3 v hv;exact Looks.of_pure rfl
 ·rw [kat_kind_eq,List.mapM_toArray,map_eq_pure_bind]
  refine Aa (Aa (ax1 Ts keys hl ht fun fs hfs ha=>Ab ?_));rw [if_neg (by rw [List.all_toArray]; exact fun z=>hn (ha z))];refine wpAny_ite_split (fun _=>Ab (h _ (.inr (.inr rfl)))) fun _=>?_;rw [oneTypeOnly'_eq,List.mapM_toArray,map_eq_pure_bind];refine Aa (Aa (Aa (kas_mapM (r:=Value.type "tuple") _ (fun v hv Q' hq=>?_) (Ab ?_))))
  ·obtain ⟨T,hT,rfl⟩:=An.mp hv
   obtain ⟨i,hi,rfl⟩:=getElem_of_mem hT;obtain ⟨its,n,dd,sl,e,r⟩:=ht i hi;exact Looks.here (show Looks (model prog w) s.heap (Mg (.ref Ts[i])) (.type "tuple") from (Looks.ld e).andThen .now) hq
  ·split
   ·refine Ab (Ab ?_)
    split
    ·exact h _ (.inr (.inl rfl))
    ·exact h _ (.inr (.inr rfl))
   ·refine Ab (Ab ?_)
    split
    ·exact h _ (.inr (.inl rfl))
    ·exact h _ (.inr (.inr rfl))
theorem aWy {n:Nat} {key:Nat->List Int} (hinj:∀ i j,i < n->j < n->key i=key j->i=j):Ord n fun i j=>aqhp (key i) (key j) where
 trans:=fun a b c h1 h2=>MT.lex_tr h1 h2
 asym:=fun a b h1=>by
  cases q:aqhp (key b) (key a) with
  | false=>rfl
  | true=>have:=MT.lex_tr h1 q; rw [MT.lex_irr] at this; cases this
 total:=fun a b ha hb hab h1=>MT.lex_tot _ _ h1 fun e=>hab (hinj a b ha hb e)
end
section
variable {prog:Af} {w:World} {A:Around} {E:Value->Shared->Prop} {s:Shared}
theorem awl {keys:List (List Int)} {n:Nat} {p:Array Nat} (hl:n=keys.length) (hn:keys.Nodup) (pa:PA n p) (sp:SP (fun i j=>aqhp (keys.getD i []) (keys.getD j [])) p n):(p.toList.map fun i=>keys.getD i [])=aJ keys:=by
 have hp:p.toList.Perm (Ay n):=by
  have:=pa
  unfold PA at this;exact Hb.mp this
 have e:keys=(Ay n).map fun i=>keys.getD i []:=by
  apply Ir
  ·simp [hl]
  ·intro i h1 h2; simp [h1]
 have hperm:(p.toList.map fun i=>keys.getD i []).Perm keys:=by
  conv=>rhs; rw [e]
  exact hp.map _
 refine MT.ris_eq ?_ (MT.keys_ris _) fun x=>by rw [hperm.mem_iff,MT.mem_keys]
 have hs:p.size=n:=by have:=hp.length_eq; simpa using this
 unfold MT.Ris;rw [pairwise_map,Be];intro i j hi hj hij
 have:=sp i j hij (by simpa [hs] using hj)
 simp at hi hj;have a0:∀ k,(hk:k < p.size)->at0 p k=p.toList[k]'(by simpa using hk):=fun k hk=>by simp [at0,hk]
 rw [a0 i hi,a0 j hj] at this;exact this
theorem aZj {keys:List (List Int)} (hn:keys.Nodup):(aJ keys).length=keys.length:=by
 have hd:(aJ keys).Nodup:=(MT.keys_ris keys).imp fun {a b} h e=>by subst e; rw [MT.lex_irr] at h; cases h
 have:∀ {a b:List (List Int)},a.Nodup->b.Nodup->(∀ x,x∈a ↔ x∈b)->a.length=b.length:=by
  intro a b ha hb h;exact ((Hd ha hb).mpr h).length_eq
 exact this hd hn fun x=>MT.mem_keys
theorem aXp {a:Addr} {Ts:List Addr} {keys:List (List Int)} {n:Nat} {P:PySem.Fin->Shared->Prop} (hu:A.units < cLine) (ho:s.heap.get? a=some (B8 "list" (Ts.map Value.ref).toArray n)) (hl:Ts.length=keys.length) (hnd:keys.Nodup)
  (ht:∀ i (h:i < Ts.length),awa s.heap Ts[i] (keys.getD i [])) (hta:∀ T∈Ts,T ≠ a) (h64:Ts.length < 64)
  (h:∀ out:List Addr,out.length=(aJ keys).length->(∀ j (hj:j < out.length),∃ i,∃ hi:i < Ts.length,out[j]=Ts[i]/\(aJ keys).getD j []=keys.getD i [])->P (.done (.ret .none)) { s with heap:=sortedHeap s.heap a (Ts.map Value.ref) (out.map Value.ref).toArray }) :
  wpAny (model prog w) A (Builtin.«list.sort» { pos:=[Value.ref a] }) P E s:=by
 by_cases h2:2 <= Ts.length
 ·refine az6 (vs:=Ts.map Value.ref) ho (by simpa using h64) (by simpa using h2) ?_
  generalize hh6:((s.heap.update a (C7 fun _=>#[])).push (B8 "tuple" (Ts.map Value.ref).toArray 0)).push (B8 "list" #[] 0)=h6;have t6:∀ i (h:i < Ts.length),awa h6 Ts[i] (keys.getD i []):=fun i hi=>(ht i hi).keep fun o hb=>by
   rw [<- hh6];refine Ac _ (Ac _ ?_);rw [Jf _ _ (Gq (hta _ (getElem_mem hi)))];exact hb
  refine aZi (s:={ s with heap:=h6 }) (by omega) hl t6 fun κ hκ=>?_;have hinj:∀ i j,i < Ts.length->j < Ts.length->keys.getD i []=keys.getD j []->i=j:=fun i j hi hj e=>by
   rw [hl] at hi hj;have e':keys[i]=keys[j]:=by
    rw [getD_eq_getElem?_getD,getD_eq_getElem?_getD,getElem?_eq_getElem hi,getElem?_eq_getElem hj] at e;exact e
   exact (Ik hnd).mp e'
  have ord:=aWy (n:=Ts.length) (key:=fun i=>keys.getD i []) hinj;obtain ⟨pa,sp⟩:=aY8 ord (by omega);rw [show (Ts.map Value.ref).length=Ts.length by simp];refine aJn (n:=Ts.length) (lt:=fun i j=>aqhp (keys.getD i []) (keys.getD j [])) (fun i j C hi hj hC=>?_) _ (aY9 (by omega)) ⟨rfl,rfl,?_⟩
  ·unfold kas_ask
   have e1:(Ts.map Value.ref).getD i .none=.ref Ts[i]:=by simp [hi]
   have e2:(Ts.map Value.ref).getD j .none=.ref Ts[j]:=by simp [hj]
   rw [e1,e2];exact aYd hκ hu (t6 i hi) (t6 j hj) hC
  generalize aqhe _ (Io Ts.length)=p at pa sp;have hsl:=awl hl hnd pa sp;have hpl:p.toList.Perm (Ay Ts.length):=Hb.mp pa;have hpb:∀ i∈p.toList,i < Ts.length:=fun i hi=>Dc.mp (hpl.mem_iff.mp hi);have eo:(p.toList.map fun i=>(Ts.map Value.ref).getD i .none)=(p.toList.map fun i=>Ts.getD i 0).map Value.ref:=by
   rw [map_map];apply map_congr_left;intro i hi
   have:=hpb i hi
   simp [this]
  rw [eo];refine h _ (by rw [<- hsl]; simp) fun j hj=>?_;have hj':j < p.toList.length:=by simpa using hj
  have hb:=hpb p.toList[j] (getElem_mem hj');refine ⟨p.toList[j],hb,by simp only [List.getElem_map]; rw [getD_eq_getElem?_getD,getElem?_eq_getElem hb]; rfl,?_⟩;rw [<- hsl,getD_eq_getElem?_getD,getElem?_map,getElem?_eq_getElem hj'];rfl
 ·match Ts,hl,ht,ho,h,h2 with
  | [],hl,ht,ho,h,h2 =>
   have hk:keys=[]:=Iw.mp (by simpa using hl.symm);subst hk;refine list_sort_tree (vs:=[]) (ns:=[]) ho .nil (by simp) fun out ns' a1 a2 a3=>?_
   have:ns'=[]:=Iw.mp a2.length_eq
   subst this;have ol:=a1.length
   have:out=#[]:=by
    apply Array.eq_empty_of_size_eq_zero;simpa using ol
   subst this;exact h [] rfl fun j hj=>by simp at hj
  | [T],hl,ht,ho,h,h2 =>
   refine az5 (v:=.ref T) ho ?_;obtain ⟨k,rfl⟩:∃ k,keys=[k]:=Jn.mp (by simpa using hl.symm);exact h [T] rfl fun j hj=>⟨j,hj,rfl,rfl⟩
  | _ :: _ :: _,_,_,_,_,h2=>simp at h2
end
def aqia (h:Heap) (d:Addr) (es:Array DictEntry) (ep:Nat):Prop:=∃ o,h.get? d=some o/\o.ExactDict/\o.data=.dict es ep
theorem aqia.keep {h h':Heap} {d:Addr} {es:Array DictEntry} {ep:Nat} (x:aqia h d es ep) (k:∀ o,h.get? d=some o->h'.get? d=some o):aqia h' d es ep:=by
 obtain ⟨o,e,r⟩:=x; exact ⟨o,k o e,r⟩
section
variable {prog:Af} {w:World} {A:Around} {E:Value->Shared->Prop} {s:Shared} {d:Addr} {es:Array DictEntry} {ep:Nat}
theorem aqia.ty (x:aqia s.heap d es ep):s.TypeIs (.ref d) "dict":=by
 obtain ⟨o,e,c,_⟩:=x; exact ⟨o,e,c.1⟩
theorem aW0 {Q:Value->Shared->Prop} (hd:(d == Bo)=false) (hm:aqia s.heap d es ep)
  (hQ:Q (.ref s.heap.objs.size) { s with heap:=s.heap.push { cls:=.type "dict_keyiterator",data:=.fields #[.ref d,.int 0 0,.int es.size 0,.int ep 0] } }):wpAny (model prog w) A (K9 (.ref d)) Q E s:=by
 have hT:=hm.ty;obtain ⟨o,ho,hc,hdat⟩:=hm;refine Hw hT Jo (Bu Jo hT PySem.F.entry_dict_iter ?_ (PySem.F.args_dict_iter_1 _));unfold Builtin.«dict.__iter__» Builtin.Dict.dictSlotNone;refine Aa (Aa (Fk hT ?_));refine (?_:wpAny _ _ (pure (Value.ref d)) _ _ s);refine Ab ?_;refine (?_:wpAny _ _ (Dt d >>= _) _ _ s);unfold Dt;rw [hd];simp only [Ao,if_false];refine Aa (Ab (Aa (Ba ho hdat (Aa (Ds ho hdat ?_)))));refine Aa (Bh (Ab ⟨_,rfl,"dict_keyiterator",_,⟨_,Ag _ rfl,rfl⟩,Ck.lookup,?_⟩));simpa [Jc] using hQ
theorem aJe {it:Addr} {i:Nat} {Q:Option Value->Shared->Prop} (hit:s.heap.IsKeyIter it d i es.size ep) (hm:aqia s.heap d es ep)
  (h:wpAny (model prog w) A.in1 (Builtin.«dict_keyiterator.__next__» ⟨[.ref it],[]⟩) (fun fin s'=>∃ v,fin=.done (.ret v)/\Q (some v) s') (fun e s'=>s'.TypeIs e "StopIteration"/\Q none s') s):wpAny (model prog w) A (Ex (.ref it)) Q E s:=by
 unfold Ex;refine Aa (wpAny_attempt (Es (name:=D8 "__next__") hit.typeIs Ck (Bu Ck hit.typeIs PySem.F.entry_dict_keyiterator_next ?_ (PySem.F.args_dict_keyiterator_next_1 _))));refine Av h (fun fin s' hq=>?_) (fun e s' hq=>?_)
 ·obtain ⟨v,rfl,hq⟩:=hq
  exact ⟨v,rfl,Ab hq⟩
 ·obtain ⟨t,hq⟩:=hq
  refine Aa (wpAny_isInstance (T:="StopIteration") (b:=true) t az9 ?_);exact Ab hq
theorem av1 {it:Addr} {i:Nat} (o:Obj) (hd:o.data=.fields #[.ref d,.int i 0,.int es.size 0,.int ep 0]) {h:Heap} (ho:h.get? it=some o) (hc:o.cls=.type "dict_keyiterator"):(h.update it (K3 (·.setIfInBounds 1 (Jc ((i:Int) + 1))))).IsKeyIter it d (i + 1) es.size ep :=
 ⟨_,Fi _ ho (J2 (Eo hd _)),(Obj.cls_mapFields ..).trans hc,by rw [Eo hd]; simp [Jc]⟩
theorem aZd {it:Addr} {i:Nat} {Q:Option Value->Shared->Prop} (hit:s.heap.IsKeyIter it d i es.size ep) (hm:aqia s.heap d es ep) (hi:i < es.size)
  (hQ:∀ h',h'.IsKeyIter it d (i + 1) es.size ep->Heap.SameBut it s.heap h'->Q (some es[i].key) { s with heap:=h' }):wpAny (model prog w) A (Ex (.ref it)) Q E s:=by
 refine aJe hit hm ?_;obtain ⟨o,ho,hc,hd⟩:=id hit;obtain ⟨od,hod,hcd,hdd⟩:=hm;refine Aa (Ab (Aa (Aa ?_)));refine Aa (B4 hit.typeIs (Ab ?_));refine Aa (He ho hd ?_);have own:Bn "dict_keyiterator"=false:=by decide
 simp only [own,Ao,if_false];refine (?_:wpAny _ _ (if (Value.ref d == Value.none)=true then _ else _) _ _ s);rw [if_neg (show ¬ ((Value.ref d == Value.none)=true) from Al)];refine Aa (Ab (Aa (Ba hod hdd ?_)));rw [if_neg (by simp)];refine Aa (Ab (Aa (Ds hod hdd ?_)));rw [if_neg (by simp)];refine Ab ?_;simp only [show ¬ ((i:Int) < 0) from by omega,if_false,D2,Cq hi];refine Aa (Aa (B4 hit.typeIs (Ab ?_)));refine Aa (J3 hit.typeIs ?_);refine (?_:wpAny _ _ (Ml (.ref it) 1 (Jc ((i:Int) + 1)) >>= _) _ _ s);refine Aa (Kj ho hd (by simp) ?_);have hit':=av1 o hd ho hc;refine Aa (Bc (Aa ?_));refine J3 (s:={ s with heap:=s.heap.update it (K3 (·.setIfInBounds 1 (Jc ((i:Int) + 1)))) }) hit'.typeIs ?_;refine (?_:wpAny _ _ (pure es[i].key) _ _ _);exact Ab (Ab ⟨_,rfl,hQ _ hit' (A9 ..)⟩)
theorem aWp {it:Addr} {i:Nat} {Q:Option Value->Shared->Prop} (hh:A.handled=none) (hit:s.heap.IsKeyIter it d i es.size ep) (hm:aqia s.heap d es ep) (hi:es.size <= i)
  (hQ:∀ h',Heap.ExtBut it s.heap h'->Q none { s with heap:=h' }):wpAny (model prog w) A (Ex (.ref it)) Q E s:=by
 refine aJe hit hm ?_;obtain ⟨o,ho,hc,hd⟩:=id hit;obtain ⟨od,hod,hcd,hdd⟩:=hm;refine Aa (Ab (Aa (Aa ?_)));refine Aa (B4 hit.typeIs (Ab ?_));refine Aa (He ho hd ?_);have own:Bn "dict_keyiterator"=false:=by decide
 simp only [own,Ao,if_false];refine (?_:wpAny _ _ (if (Value.ref d == Value.none)=true then _ else _) _ _ s);rw [if_neg (show ¬ ((Value.ref d == Value.none)=true) from Al)];refine Aa (Ab (Aa (Ba hod hdd ?_)));rw [if_neg (by simp)];refine Aa (Ab (Aa (Ds hod hdd ?_)));rw [if_neg (by simp)];refine Ab ?_;simp only [show ¬ ((i:Int) < 0) from by omega,if_false,D2,getElem?_eq_none hi];refine Aa (Aa (B4 hit.typeIs (Ab ?_)));refine (?_:wpAny _ _ (Ml (.ref it) 0 .none >>= _) _ _ s);refine Aa (Kj ho hd (by simp) ?_);refine (?_:wpAny _ _ (newExc (.type "StopIteration") [] >>= _) _ _ _);simp only [newExc,newTuple];refine Aa (Aa (Bh ?_ (by size_fits)));refine Aa (m:=Hf _ _) (Mc (a:=Value.none) (by first | rfl | (simp only [Hf]; rfl)) ?_);refine Bh ?_ (by size_fits);simp only [raiseNew];refine Aa (wpAny_handled ?_);rw [show A.in1.handled=none from hh];refine Aa (Ab (wpAny_throw ⟨⟨_,Ag _ rfl,rfl⟩,?_⟩));exact hQ _ (((A9 ..).extBut.push _).push _)
theorem aqaa (lo:(d == Bo)=false):KdlSrc prog w "dict" d d es.size (fun i v=>∃ h:i < es.size,v=es[i].key) (fun h=>aqia h d es ep) where
 type:=fun _ hm=>hm.ty
 there:=fun _ hm=>by obtain ⟨o,e,_⟩:=hm; exact ⟨Ae e,Ae e⟩
 keep:=fun _ _ hm hk=>hm.keep fun o e=>hk d (.inl rfl) o e
 notList:=by decide
 notTuple:=by decide
 hint:=fun _ _ _ _ hm hq=>kdl_hint_dict hm.ty hq
 iter:=fun A s hh hm=>by
  have hlt:d < s.heap.objs.size:=by obtain ⟨o,e,_⟩:=hm; exact Ae e
  refine ⟨_,fun i h=>h.IsKeyIter s.heap.objs.size d i es.size ep/\aqia h d es ep,fun _ _ hq=>aW0 lo hm hq,⟨fun b hb=>by simp at hb; simp [hb],fun _ _ _ st hk=>⟨st.1.at fun o e=>hk _ (by simp) o e,st.2.keep fun o e=>hk d (by simp) o e⟩,fun i s1 Q E hi st hQ=>?_,fun s1 Q E st hQ=>?_,fun _ _ _ _ st hQ=>wpAny_pyIter_keyiter st.1 hQ⟩,⟨_,Ag _ rfl,rfl,rfl⟩,hm.keep fun o e=>Ac _ e⟩
  ·exact aZd st.1 st.2 hi fun h' hit' hs'=>hQ _ h' s1.toks ⟨hi,rfl⟩ ⟨hit',st.2.keep fun o e=>hs'.extBut d o (ne_of_lt hlt) e⟩ fun b o hb e=>hs'.extBut b o (fun h=>hb (by simp [h])) e
  ·exact aWp hh st.1 st.2 (le_refl _) fun h' he'=>hQ h' s1.toks fun b o hb e=>he' b o (fun h=>hb (by simp [h])) e
end
section
variable {prog:Af} {w:World} {A:Around} {E:Value->Shared->Prop} {s:Shared} {d:Addr} {es:Array DictEntry} {ep:Nat}
theorem awz {T:String} {r:Addr} {n:Nat} {P:Nat->Value->Prop} {OK:Heap->Prop} {R:List Value->Shared->Prop} (K:KdlSrc prog w T r d n P OK) (hh:A.handled=none) (hok:OK s.heap) (hn:n <= Ad)
  (h:∀ (h':Heap) (tk:Nat) (acc:Array Value),s.heap.objs.size < h'.objs.size->(∀ b o,s.heap.get? b=some o->h'.get? b=some o)->ItemsOf P acc n->R acc.toList { s with heap:=h',toks:=tk }):wpAny (model prog w) A (collect (.ref r)) R E s:=by
 have lt:=K.there _ hok;unfold collect;refine Aa (Kf (Bx entry_proto_collect' ?_));rw [Br PySem.F.plain_proto_collect _];refine (?_:wpAny _ A.in1 (newList [] >>= fun l=>again (.builtin "list.__iadd__" ⟨[l,.ref r],[]⟩)) _ _ s);refine Aa (Bh (Ab ⟨Ig Iy _,Bx entry_list_iadd' ?_⟩));rw [Br Iy _];have e0:(s.heap.push { cls:=.type "list",data:=.seq ([]:List Value).toArray }).get? s.heap.objs.size=some { cls:=.type "list",data:=.seq #[] }:=Ag _ rfl;refine (?_:wpAny _ A.in1 (Builtin.List.listExtendWith (.ref s.heap.objs.size) (.ref r) (.ref s.heap.objs.size)) _ _ _);have fin:∀ (q:L6) (s':Shared),(∃ (h':Heap) (tk:Nat) (acc':Array Value) (c':Nat),q=.ok (.ret (.ref s.heap.objs.size))/\s'={ s with heap:=h',toks:=tk }/\(∀ b o,s.heap.get? b=some o->h'.get? b=some o)/\h'.get? s.heap.objs.size=some { cls:=.type "list",dict:=none,data:=.seq acc' c',slots:=#[] }/\ItemsOf P acc' n) ->
   ∃ (h':Heap) (tk:Nat) (acc':Array Value) (c':Nat),q=.ok (.ret (.ref s.heap.objs.size))/\s'={ s with heap:=h',toks:=tk }/\h'.get? s.heap.objs.size=some { cls:=.type "list",dict:=none,data:=.seq acc' c',slots:=#[] }/\R acc'.toList s':=by
  rintro q s' ⟨h',tk,acc',c',e1,e2,e3,e4,e5⟩;exact ⟨h',tk,acc',c',e1,e2,e4,e2 ▸ h h' tk acc' (Ae e4) e3 e5⟩
 refine Av (kdl_extend (A:=A) (s:={ s with heap:=s.heap.push { cls:=.type "list",data:=.seq ([]:List Value).toArray } }) (R:=fun q s'=>∃ (h':Heap) (tk:Nat) (acc':Array Value) (c':Nat),q=.ok (.ret (.ref s.heap.objs.size))/\s'={ s with heap:=h',toks:=tk }/\(∀ b o,s.heap.get? b=some o->h'.get? b=some o)/\h'.get? s.heap.objs.size=some { cls:=.type "list",dict:=none,data:=.seq acc' c',slots:=#[] }/\ItemsOf P acc' n)
  K hh (K.keep _ _ hok fun b _ o e=>Ac _ e) s.heap.objs.size (ne_of_gt lt.1) (ne_of_gt lt.2) (.ref s.heap.objs.size) 0 e0 (fun h' tk acc' c' hk hS' hacc=>⟨h',tk,acc',c',rfl,rfl,fun b o e=>hk b o (ne_of_lt (Ae e)) (Ac _ e),hS',hacc⟩) hn) (fun q s' x=>?_) fun e s' x=>?_
 ·cases q with
  | done f =>
   obtain ⟨h',tk,acc',c',e,rfl,hS',hr⟩:=fin _ _ x;cases e;refine (?_:wpAny _ A (load s.heap.objs.size >>= _) _ _ _);exact Aa (wpAny_load hS' (Ab hr))
  | again c₁ =>
   refine ⟨x.1,C0 x.2 fun q s₂ y=>?_⟩;obtain ⟨h',tk,acc',c',rfl,rfl,hS',hr⟩:=fin _ _ y;refine (?_:wpAny _ A (load s.heap.objs.size >>= _) _ _ _);exact Aa (wpAny_load hS' (Ab hr))
 ·obtain ⟨_,_,_,_,e',_⟩:=x
  cases e'
theorem awc {Ts:List Addr} {keys:List (List Int)} {Q:Value->Shared->Prop} (hu:A.in1.in1.units < cLine) (hh:A.handled=none) (lo:(d == Bo)=false) (hm:aqia s.heap d es ep) (hes:es.toList.map (·.key)=Ts.map Value.ref) (hl:Ts.length=keys.length) (hnd:keys.Nodup)
  (ht:∀ i (h:i < Ts.length),awa s.heap Ts[i] (keys.getD i [])) (h64:Ts.length < 64)
  (h:∀ (D:Addr) (out:List Addr) (n:Nat) (h':Heap) (tk:Nat),s.heap.objs.size <= D->h'.get? D=some { cls:=.type "list",data:=.seq (out.map Value.ref).toArray n }->out.length=(aJ keys).length->(∀ j (hj:j < out.length),∃ i,∃ hi:i < Ts.length,out[j]=Ts[i]/\(aJ keys).getD j []=keys.getD i []) ->
   (∀ b o,s.heap.get? b=some o->h'.get? b=some o)->Q (.ref D) { s with heap:=h',toks:=tk }) :
  wpAny (model prog w) A (call (.builtin "sorted") [.ref d]) Q E s:=by
 have hsz:es.size=Ts.length:=by have:=congrArg List.length hes; simpa using this
 refine Hm kind_sorted plain_sorted entry_sorted (args_sorted1 _) ?_;unfold Builtin.«sorted»;refine Aa (m:=checkCount "sorted" 1 1 _) (Ab ?_);refine Aa (awz (A:=A.in1) (aqaa lo) hh hm (by rw [Ah]; omega) fun h1 tk acc hgr hk hacc=>?_);have hacc':acc.toList=Ts.map Value.ref:=by
  rw [<- hes];apply List.ext_getElem?;intro i;rw [getElem?_toList,getElem?_map,getElem?_toList]
  by_cases hi:i < es.size
  ·have hi':i < acc.size:=by rw [hacc.1]; exact hi
   obtain ⟨_,e⟩:=hacc.2 i acc[i] (by simp [hi']);simp [hi,hi',e]
  ·have hi':¬ i < acc.size:=by rw [hacc.1]; exact hi
   simp [hi,hi']
 rw [hacc'];refine Aa (K4 ?_ (by rw [Ah]; simp; omega));have hoL:(h1.push (B8 "list" (Ts.map Value.ref).toArray 0)).get? h1.objs.size=some (B8 "list" (Ts.map Value.ref).toArray 0):=Ag _ rfl;have ltT:∀ i (hi:i < Ts.length),Ts[i] < h1.objs.size:=fun i hi=>by
  obtain ⟨_,_,_,_,e,_⟩:=ht i hi;exact Ae (hk _ _ e)
 refine Aa (Bc (Bu slot_list_sort ⟨_,hoL,rfl⟩ entry_list_sort ?_ (args_list_sort _)));refine aXp (s:={ s with heap:=h1.push (B8 "list" (Ts.map Value.ref).toArray 0),toks:=tk }) hu hoL hl hnd (fun i hi=>(ht i hi).keep fun o e=>Ac _ (hk _ _ e)) (fun T hT=>?_) h64 fun out ho hout=>⟨_,rfl,Ab ⟨_,rfl,?_⟩⟩
 ·obtain ⟨i,hi,rfl⟩:=getElem_of_mem hT
  exact ne_of_lt (ltT i hi)
 obtain ⟨e,he⟩:=sortedHeap_at (out:=(out.map Value.ref).toArray) hoL;refine h _ out e _ tk ?_ (by simpa [B8] using he) ho hout fun b o hb=>?_
 ·exact le_of_lt hgr
 ·have hlt:=Ae (hk b o hb)
  rw [sortedHeap_old (ne_of_lt hlt) (by rw [size_push']; exact lt_succ_of_lt hlt)];exact Ac _ (hk b o hb)
end
end SortW
namespace DL
open PySem PySem.Spec PyProof.Rows L2
def dkv (kvs:List (List Int × V)):List (List Key × V):=kvs.map fun p=>(p.1.map Sum.inl,p.2)
theorem ajo (k:List Int):(k.map Sum.inl:List Key).map kV=k.map V.int:=by
 rw [map_map]; rfl
theorem avb {a b:List Int} (h:(a.map Sum.inl:List Key)=b.map Sum.inl):a=b:=by
 have:=congrArg (List.map (fun k:Key=>match k with | .inl i=>i | .inr _=>0)) h
 simpa [map_map,Function.comp_def] using this
theorem aqbi {H:Hp}:∀ {kvs:List (List Int × V)} {xs:List (List Key × Addr × Value)},KT H (dkv kvs) xs->xs.length=kvs.length/\xs.map (·.1)=kvs.map (fun p=>p.1.map Sum.inl)/\∀ i (h:i < xs.length),H xs[i].2.1=some (.tup ((kvs.map (·.1)).getD i [] |>.map V.int))
 | [],_,.nil=>⟨rfl,rfl,fun i h=>by simp at h⟩
 | p :: kvs,_,.cons (b:=q) hq t=>by
  obtain ⟨h1,h2,h3⟩:=aqbi t;refine ⟨by simp [h1],?_,fun i h=>?_⟩
  ·simp only [map_cons]
   rw [h2,<- hq.1]
  ·cases i with
   | zero =>
    have:=hq.2.1
    rw [ajo] at this;exact this
   | succ i=>exact h3 i (by simpa using h)
theorem aKc {X:Cx} {pins:List (Addr × Obj)} {σ:St} {H:Hp} {s:Shared} {b:Addr} {k:List Int} (I:Inv X pins σ H s) (e:H b=some (.tup (k.map V.int))):SortW.awa s.heap b k:=by
 obtain ⟨its,r,⟨o,h1,h2,n,h3⟩,_⟩:=I.tuple (SqT.of e);obtain ⟨c,dd,dt,sl⟩:=o;cases h2;cases h3;exact ⟨its,n,dd,sl,by simpa using h1,ava r⟩
theorem axi (hu:X.A.units + 64 < cLine) (hc:X.calm=true):axp X (.builtin "sorted") (fun xs H Q=>∃ (p:Addr) (kvs:List (List Int × V)),xs=[.ref p]/\H p=some (.dT (dkv kvs))/\kvs.length < 64/\∀ l (bs:List Addr),H l=none->bs.length=(aJ (kvs.map (·.1))).length->(∀ j (hj:j < bs.length),H bs[j]=some (.tup (((aJ (kvs.map (·.1))).getD j []).map V.int)))->Q (.ref l) (upd H l (.lst (bs.map V.ref)))):=by
 intro pins s σ H xs us Q I r h;obtain ⟨p,kvs,rfl,hp,h64,q⟩:=h;obtain ⟨u,rfl,ru⟩:=r.one;cases ru;obtain ⟨z,hd,xs,rel,o,es,ep,g1,g2,g3,g4,g5,g6⟩:=dt_of I.hok hp;obtain ⟨k1,k2,k3⟩:=aqbi rel;have hes:es.toList.map (·.key)=(xs.map (·.2.1)).map Value.ref:=by
  rw [g4,map_map,map_map]; rfl
 have hnd:(kvs.map (·.1)).Nodup:=by
  rw [k2] at g6
  have:(kvs.map (fun p=>(p.1.map Sum.inl:List Key)))=(kvs.map (·.1)).map (fun k=>(k.map Sum.inl:List Key)):=by rw [map_map]; rfl
  rw [this] at g6;exact (Hy.mp g6).imp fun h e=>h (congrArg _ e)
 have hT:∀ i (h:i < (xs.map (·.2.1)).length),H (xs.map (·.2.1))[i]=some (.tup (((kvs.map (·.1)).getD i []).map V.int)):=fun i hi=>by
  simp only [List.getElem_map];exact k3 i (by simpa using hi)
 refine SortW.awc (keys:=kvs.map (·.1)) (by simp only [units_in1]; omega) (I.ok.hd hc) hd ⟨o,g1,g2,g3⟩ hes (by simp [k1]) hnd (fun i hi=>aKc I (hT i hi)) (by simp [k1]; omega) fun D out n h' tk hD hget hlen hout hk=>?_;refine ⟨.ref D,_,I.laid (a:=D) (o:=.lst (out.map V.ref)) hk hD ⟨?_,out.map Value.ref,n,?_,hget⟩,rfl,q D out (I.hok.fresh hD) hlen fun j hj=>?_⟩
 ·rw [length_map,hlen,SortW.aZj hnd,length_map,Ah]; omega
 ·clear hout hget hlen
  induction out with
  | nil=>exact .nil
  | cons a out ih=>exact .cons rfl ih
 ·obtain ⟨i,hi,e1,e2⟩:=hout j hj
  rw [e1,e2];exact hT i hi
theorem aJ4 (kvs:List (List Int × V)) (k:List Int):aqh9 (dkv kvs) (k.map Sum.inl)=aqh9 kvs k:=by
 induction kvs with
 | nil=>rfl
 | cons p r ih =>
  show aqh9 ((p.1.map Sum.inl,p.2) :: dkv r) _=_
  by_cases e:p.1=k
  ·rw [aG (by rw [e]),aG e]
  ·rw [aH fun h=>e (avb h),aH e,ih]
theorem aqbv (kvs:List (List Int × V)) (k:List Int) (v:V):aqhh (dkv kvs) (k.map Sum.inl) v=dkv (aqhh kvs k v):=by
 have ha:((dkv kvs).any fun kv=>decide (kv.1=(k.map Sum.inl:List Key)))=(kvs.any fun kv=>decide (kv.1=k)):=by rw [aqd,aqd,aJ4]
 unfold aqhh;rw [ha];split
 ·unfold dkv
  rw [map_map,map_map];apply map_congr_left;intro p _;simp only [Function.comp_apply]
  by_cases e:p.1=k
  ·rw [if_pos (by rw [e]),if_pos e]
  ·rw [if_neg fun h=>e (avb h),if_neg e]
 ·simp [dkv]
def TWt (kvs:List (List Int × V)) (hp:List (Int × List Int)):Prop:=kvs.length <= hp.length/\∀ k,aqh9 kvs k=if k∈hp.map (·.2) then some (.int (wtK hp k)) else none
theorem aYw:TWt [] []:=⟨le_refl _,fun k=>rfl⟩
theorem aYx {kvs:List (List Int × V)} {hp:List (Int × List Int)} (h:TWt kvs hp) (k:List Int):(aqh9 kvs k).getD (.int 0)=.int (wtK hp k):=by
 rw [h.2 k];split
 ·rfl
 ·rename_i hn
  rw [MT.wt_none hn]; rfl
theorem aYv {kvs:List (List Int × V)} {hp:List (Int × List Int)} (h:TWt kvs hp) (w:Int) (k:List Int):TWt (aqhh kvs k (.int (wtK hp k + w))) (hp++[(w,k)]):=by
 refine ⟨le_trans (ajg _ _ _) (by have:=h.1; simp; omega),fun j=>?_⟩;rw [aw3,h.2 j,MT.wt_append]
 by_cases e:j=k
 ·subst e
  rw [if_pos rfl,if_pos (by simp)];simp [wtK]
 ·rw [if_neg e]
  have:j∈(hp++[(w,k)]).map (·.2) ↔ j∈hp.map (·.2):=by simp [e]
  have ek:¬ k=j:=fun z=>e z.symm
  by_cases hm:j∈hp.map (·.2)
  ·rw [if_pos hm,if_pos (this.mpr hm)]
   simp [wtK,ek]
  ·rw [if_neg hm,if_neg fun z=>hm (this.mp z)]
theorem aKa {kvs:List (List Int × V)} {hp:List (Int × List Int)} (h:TWt kvs hp):aJ (kvs.map (·.1))=aJ (hp.map (·.2)):=by
 refine MT.ris_eq (MT.keys_ris _) (MT.keys_ris _) fun x=>?_;rw [MT.mem_keys,MT.mem_keys];have e:x∈kvs.map (·.1) ↔ (aqh9 kvs x).isSome=true:=by
  rw [<- aqd,Iu];constructor
  ·intro hx
   obtain ⟨p,hp,rfl⟩:=An.mp hx;exact ⟨p,hp,by simp⟩
  ·rintro ⟨p,hp,e⟩
   exact An.mpr ⟨p,hp,by simpa using e⟩
 rw [e,h.2 x];split
 ·rename_i hx; simp [hx]
 ·rename_i hx; simp [hx]
section
variable {K:Frag} {F1 H1 F H:Hp} {σ:L2.St} {ρ:aqih} {l:Addr} {done:List O}
theorem aqej (ci:CI K F1 H1 F H σ ρ l done) (hB:H1 l=none) {y:V} {o:O} {A4:AS} {F4 H4:Hp} (e4:Ext F H F4 H4) (r4:Own K F4 H4 y o A4) (n4:∀ b,A4 b->F4 b=none/\H b=none) :
  ∃ acc,H4 l=some (.lst acc)/\acc.length=done.length/\CI K F1 H1 F4 (upd H4 l (.lst (acc++[y]))) σ ρ l (done++[o]):=by
 have ci4:=ci.more e4;obtain ⟨acc3,A3,k1,k2,k3⟩:=ci.hl;have t4:H4 l=some (.lst acc3):=e4.hh _ _ k1;have k2':=k2.ext e4.ff e4.hh;refine ⟨acc3,t4,k2.length,?_⟩;have nl:¬ A4 l:=fun z=>by have:=(n4 l z).2; rw [k1] at this; cases this
 refine ⟨⟨ci4.ext.ff,fun b u hb=>by rw [af (ac hb ci4.fl)]; exact ci4.ext.fh _ _ hb,fun b u hb=>by rw [af (ac hb hB)]; exact ci4.ext.hh _ _ hb,ci4.ext.nw⟩,ci4.re,ci4.len,ci4.fl,acc3++[y],fun b=>A3 b \/ A4 b,cb,?_,fun b z=>?_⟩
 ·refine (k2'.stay (aqi7.refl _) (H':=upd H4 l (.lst (acc3++[y]))) fun b z=>af (k3 b z).2.2).append (.cons (r4.stay (aqi7.refl _) (H':=upd H4 l (.lst (acc3++[y]))) fun b z=>af (by rintro rfl; exact nl z)) (.nil (A:=fun _=>False) fun _ z=>z) (fun _ _ z=>z) fun b=>⟨.inl,fun z=>z.elim id Aq⟩) fun b z y=>?_
  obtain ⟨u,hu,_⟩:=k2.there b z;rw [(n4 b y).2] at hu; cases hu
 ·rcases z with z | z
  ·obtain ⟨g1,g2,g3⟩:=k3 b z
   obtain ⟨u,hu,_⟩:=k2.there b z;refine ⟨?_,g2,g3⟩;cases w:F4 b with
   | none=>rfl
   | some o =>
    rcases e4.nw b o w with y | y
    ·rw [g1] at y; cases y
    ·rw [hu] at y; cases y
  ·exact ⟨(n4 b z).1,ci.ext.hh.free (n4 b z).2,by rintro rfl; exact nl z⟩
theorem aWa (s:aqi7 F H) {q p:Addr} {w:Int} {k:List Int} (hq:H q=none) (hp:upd H q (.lst (k.map V.int)) p=none) :
  Ext F H (upd F p (.tup [.int w,.ref q])) (upd (upd H q (.lst (k.map V.int))) p (.tup [.int w,.ref q]))/\Own K (upd F p (.tup [.int w,.ref q])) (upd (upd H q (.lst (k.map V.int))) p (.tup [.int w,.ref q])) (.ref p) (aQz (w,k)) (fun b=>b=q)/\∀ b,b=q->upd F p (.tup [.int w,.ref q]) b=none/\H b=none:=by
 have npq:q ≠ p:=by rintro rfl; rw [cb] at hp; cases hp
 have e1:=Ext.laidH (o:=.lst (k.map V.int)) s hq;have e2:=Ext.laid (o:=.tup [.int w,.ref q]) e1.fh hp;refine ⟨e1.trans e2,.tup cb (.cons (.sh (.int w) (A:=fun _=>False) fun _ z=>z) (.cons (aqaq (a:=q) (by rw [af npq,cb]) (aqn k)) (.nil (A:=fun _=>False) fun _ z=>z) (fun _ _ z=>z) (A:=fun b=>b=q) fun b=>⟨.inl,fun z=>z.elim id Aq⟩) (fun _ z=>z.elim) fun b=>⟨.inr,fun z=>z.elim Aq id⟩),?_⟩;rintro b rfl;exact ⟨by rw [af npq]; exact s.free hq,hq⟩
end
theorem aE {X:Cx} {elt target iter:Expr} {ifs:List Expr} {scope:Scope} {pos:Pos} {cl:List (Str × Addr)} {N':List Str} {js:List (Option Nat)} {wi:TI} {g:TG} {tc:TT} {te:TE} (k:CompOk X scope cl N' js) (hi:PI X target iter wi)
  (hg:∀ C s₀ H₀ ex pn,PG (aw X N' scope cl C s₀ H₀ ex pn) target g) (ht:∀ C s₀ H₀ ex pn,PIfs (aw X N' scope cl C s₀ H₀ ex pn) ifs tc) (he:∀ C s₀ H₀ ex pn,PE (aw X N' scope cl C s₀ H₀ ex pn) elt te) (hs:∀ x,Du iter X.env x=pure x:=by intro _; rfl):PE X (.ListComp elt [⟨target,iter,ifs,0⟩] scope pos) (aKd wi g tc te js) :=
 aqam k.calm hi (ax5 k.clo) k.free k.hcl k.hhas k.cell k.kind k.names hg ht he hs
def rLOf (K:Frag):List V->Hp->VK->Prop:=fun xs H Q=>∃ p ys,xs=[.ref p]/\(SqL K H p ys \/ SqT K H p ys)/\∀ l,H l=none->Q (.ref l) (upd H l (.lst ys))
theorem aXe {X:Cx} {K:Frag} (h:X.K=K):axp X (.type "list") (rLOf K):=by subst h; exact axj
theorem aJo {d:D} {p:Int × List Int} (h:aqbl d=some p):d=.tup [.int p.1,.lst (p.2.map D.int)]:=by
 unfold aqbl at h;split at h
 ·obtain ⟨l,hl,rfl⟩:=map_some h
  rw [az8 hl]
 ·cases h
theorem aJp {d:D} {hp:List (Int × List Int)} (h:aYo d=some hp):d=.lst (hp.map fun p=>.tup [.int p.1,.lst (p.2.map D.int)]):=by
 unfold aYo at h;split at h
 ·rename_i xs
  congr 1
  induction xs generalizing hp with
  | nil=>simp at h; subst h; rfl
  | cons x xs ih =>
   rw [mapM_cons] at h;obtain ⟨p,hp1,h⟩:=bind_some h;obtain ⟨r,hr,h⟩:=bind_some h;cases h;rw [aJo hp1,ih hr]; rfl
 ·cases h
theorem aK2 {K:Frag} {F:Hp} {v:V} {p:Int × List Int} (r:Rep K F v (.tup [.int p.1,.lst (p.2.map D.int)])):∃ t m,v=.ref t/\SqT K F t [.int p.1,.ref m]/\SqE K F m (p.2.map V.int):=by
 cases r with
 | tup h r =>
  cases r with
  | cons r1 r=>cases r with
   | cons r2 r=>cases r with
    | nil =>
     cases r1;cases r2 with
     | lst h2 t =>
      have:=aj5 t
      subst this;exact ⟨_,_,rfl,h,h2⟩
theorem aXo {K:Frag} {F0 H H':Hp} {c0 c2 c3 c4:Option V} {d:Addr} {kvs:List (List Int × V)} {hp:List (Int × List Int)} {Q:VK} (sm:aqi7 F0 H) (s1:aqi7 H H') (hd:H' d=some (.dT (dkv kvs))) (tw:TWt kvs hp) (hl:hp.length < 60) (hm:∀ p∈hp,p.2.length < 60)
  (k:∀ v F' H' A,Ext F0 H F' H'->Own K F' H' v (.lst ((azs hp).map aQz)) A->(∀ b,A b->F' b=none/\H b=none)->Q v H') :
  aKd (iList K (tCB (fun xs H Q=>∃ (p:Addr) (kvs:List (List Int × V)),xs=[.ref p]/\H p=some (.dT (dkv kvs))/\kvs.length < 64/\∀ l (bs:List Addr),H l=none->bs.length=(aJ (kvs.map (·.1))).length->(∀ j (hj:j < bs.length),H bs[j]=some (.tup (((aJ (kvs.map (·.1))).getD j []).map V.int)))->Q (.ref l) (upd H l (.lst (bs.map V.ref)))) (axq (aqhb 1) aqhc)))
   (aqw 0) ajq (tTup (axq (tDGet (aqhb 1) (aqhb 0)) (axq (tCB (rLOf K) (axq (aqhb 0) aqhc)) aqhc))) [none,some 1] [c0,some (.ref d),c2,c3,c4] H' Q:=by
 refine ⟨_,rfl,d,kvs,rfl,hd,by have:=tw.1; omega,fun l bs hl1 hbl hbs=>⟨l,rfl,⟨_,SqL.of cb⟩,fun L hL=>?_⟩⟩;rw [aKa tw] at hbl hbs;have hld:d ≠ l:=ac hd hl1;have hd1:upd H' l (.lst (bs.map V.ref)) d=some (.dT (dkv kvs)):=by rw [af hld]; exact hd
 have s2:aqi7 H' (upd H' l (.lst (bs.map V.ref))):=gd hl1;have sF:aqi7 F0 (upd H' l (.lst (bs.map V.ref))):=(sm.trans s1).trans s2;have hn:bs.length=(azs hp).length:=by rw [hbl]; simp [azs]
 have e0:Ext F0 H F0 (upd H' l (.lst (bs.map V.ref))):=⟨aqi7.refl _,sF,s1.trans s2,fun _ _ h=>.inl h⟩;have re0:∀ (F:Hp) (σ:L2.St),RE K F σ [none,none]:=fun F σ i d h=>by
  match i,h with
  | 0,h=>cases h
  | 1,h=>cases h
 generalize hH1:upd H' l (.lst (bs.map V.ref))=H1 at *;have hl2:H1 l=some (.lst (bs.map V.ref)):=by rw [<- hH1]; exact cb
 refine ⟨fun i m σ' H''=>i <= bs.length/\m=bs.length - i/\∃ F' c,σ'=[c,some (.ref d)]/\CI K F0 H1 F' H'' σ' [none,none] L (((azs hp).take i).map aQz),⟨_,zero_le _,rfl,F0,none,rfl,Ext.laidH sF hL,re0 _ _,rfl,sF.free hL,[],fun _=>False,cb,.nil fun _ z=>z,fun _ z=>z.elim⟩,?_⟩;rintro i m σ' H'' ⟨hi,rfl,F',c,rfl,ci⟩;have hq:SqL K H'' l (bs.map V.ref):=SqL.of (ci.ext.hh _ _ hl2)
 by_cases hlt:i < bs.length
 ·have hm':(bs.map V.ref)[i]?=some (.ref bs[i]):=by simp [hlt]
  refine .inr ⟨⟨_,_,hq,hm'⟩,fun x H2 y=>?_⟩;obtain ⟨rfl,y⟩:=y;have hx:x=.ref bs[i]:=by
   have:=y _ hq
   rw [hm'] at this;exact (Option.some.inj this).symm
  subst hx;unfold aqw ajq;dsimp only;rw [if_pos rfl];have hki:i < (aJ (hp.map (·.2))).length:=by rw [<- hbl]; exact hlt
  have hkey:H2 bs[i]=some (.tup (((aJ (hp.map (·.2)))[i]).map V.int)):=by
   have:=hbs i hlt
   rw [getD_eq_getElem?_getD,getElem?_eq_getElem hki] at this;exact ci.ext.hh _ _ (s2 _ _ this)
  have hmem:(aJ (hp.map (·.2)))[i]∈hp.map (·.2):=MT.mem_keys.mp (getElem_mem hki);have hv:aqh9 (dkv kvs) (((aJ (hp.map (·.2)))[i]).map Sum.inl)=some (.int (wtK hp (aJ (hp.map (·.2)))[i])):=by
   rw [aJ4,tw.2,if_pos hmem]
  have hz:((aJ (hp.map (·.2)))[i]).length < 60:=by
   obtain ⟨p,hp1,e⟩:=An.mp hmem;rw [<- e]; exact hm p hp1
  have hdg:=aqig.t (ci.ext.hh _ _ hd1) (k:=((aJ (hp.map (·.2)))[i]).map Sum.inl) (b:=bs[i]) (by rw [ajo]; exact hkey);rw [hv] at hdg;refine ⟨_,rfl,_,rfl,d,_,rfl,hdg,_,rfl,bs[i],_,rfl,.inr (SqT.of hkey),fun q hq1=>⟨by show 2 <= Ad; rw [Ah]; omega,fun p hp1=>?_⟩⟩;obtain ⟨e4,r4,n4⟩:=aWa (K:=K) (w:=wtK hp (aJ (hp.map (·.2)))[i]) ci.ext.fh hq1 hp1;have ci2:CI K F0 H1 F' H2 [some (.ref bs[i]),some (.ref d)] [none,none] L (((azs hp).take i).map aQz):=⟨ci.ext,re0 _ _,rfl,ci.fl,ci.hl⟩;obtain ⟨acc,a1,a2,a3⟩:=aqej ci2 hL e4 r4 n4;refine ⟨acc,a1,?_,_,Nat.sub_succ_lt_self _ _ hlt,hlt,rfl,upd F' p (.tup [.int (wtK hp (aJ (hp.map (·.2)))[i]),.ref q]),_,rfl,?_⟩
  ·rw [a2,length_map,length_take,Ah]
   have:(azs hp).length=bs.length:=hn.symm
   have hk2:(aJ (hp.map (·.2))).length <= hp.length:=by
    have:=MT.keys_len (hp.map (·.2))
    simpa using this
   omega
  ·have ht:(azs hp).take (i + 1)=(azs hp).take i++[(wtK hp (aJ (hp.map (·.2)))[i],(aJ (hp.map (·.2)))[i])]:=by
    rw [take_succ_eq_append_getElem (by omega)];simp [azs]
   rw [ht,map_append];exact a3
 ·refine .inl ⟨⟨_,hq,by simp; omega⟩,?_⟩
  have e:(azs hp).take i=azs hp:=take_of_length_le (by omega);rw [e] at ci;obtain ⟨A,o1,o2⟩:=ci.own hL;exact k (.ref L) F' H'' A (e0.trans ci.ext) o1 fun b z=>⟨(o2 b z).1,e0.hh.free (o2 b z).2⟩
theorem aw9 {K:Frag} {F0 H:Hp} {vs:List V} {ds:List D} {o:O} {Q:VK} (sm:aqi7 F0 H) (r:Reps K F0 vs ds) (hl:ds.length=1) (hg:aY1 ds=some o) (k:∀ v F' H' A,Ext F0 H F' H'->Own K F' H' v o A->(∀ b,A b->F' b=none/\H b=none)->Q v H') :
  tSeq (tAsg tDNewT (aqw 1)) (tSeq (tFor (iList K (aqhb 0)) (gTup K 2 (awp (aqw 2) (awp (aqw 3) gNil))) (tSeq (tAsg (tCB (fun xs H Q=>∃ p ys,xs=[.ref p]/\((SqL K H p ys/\∀ l,H l=none->Q (.ref l) (upd H l (.tup ys))) \/ (SqT K H p ys/\Q (.ref p) H))) (axq (aqhb 3) aqhc)) (aqw 4)) (sDPut (aqhb 1) (aqhb 4) (tOp (rI0 fun i j=>.int (i + j)) (aY5 (aqhb 1) (aqhb 4) (tC (.int 0))) (aqhb 2)))))
   (tRet (aKd (iList K (tCB (fun xs H Q=>∃ (p:Addr) (kvs:List (List Int × V)),xs=[.ref p]/\H p=some (.dT (dkv kvs))/\kvs.length < 64/\∀ l (bs:List Addr),H l=none->bs.length=(aJ (kvs.map (·.1))).length->(∀ j (hj:j < bs.length),H bs[j]=some (.tup (((aJ (kvs.map (·.1))).getD j []).map V.int)))->Q (.ref l) (upd H l (.lst (bs.map V.ref)))) (axq (aqhb 1) aqhc)))
    (aqw 0) ajq (tTup (axq (tDGet (aqhb 1) (aqhb 0)) (axq (tCB (rLOf K) (axq (aqhb 0) aqhc)) aqhc))) [none,some 1]))) { nx:=fun _ H'=>Q .non H',rt:=Q } (vs.map some++Au (5 - vs.length) none) H:=by
 cases r with
 | nil=>cases hl
 | cons r1 r=>cases r with
  | cons r2 r=>cases hl
  | nil =>
   obtain ⟨hp,hk,hg⟩:=bind_some (show (aYo _).bind _=some o from hg);split at hg
   ·rename_i hc
    cases hg
    have:=aJp hk
    subst this;cases r1 with
    | lst q t =>
     rename_i a vs0;have hmk:∀ p∈hp,p.2.length < 60:=fun p hp1=>by simpa using List.all_eq_true.mp hc.2 p hp1
     have hvl:vs0.length=hp.length:=by rw [t.length]; simp
     refine fun d hd=>?_;refine ⟨_,rfl,a,rfl,⟨vs0,(seqE (sm.trans (gd hd)) q).l⟩,aJy (xs:=vs0) (fun i σ' H'=>∃ c2 c3 c4 kvs,σ'=[some (.ref a),some (.ref d),c2,c3,c4]/\aqi7 H H'/\H' d=some (.dT (dkv kvs))/\TWt kvs (hp.take i))
      ⟨none,none,none,[],rfl,gd hd,cb,by simpa using aYw⟩ (fun i σ' H' _ ⟨_,_,_,_,_,s1,_⟩=>(seqE (sm.trans s1) q).l) (fun i x σ' H' hx hI=>?_) fun σ' H' hI=>?_⟩
     ·obtain ⟨c2,c3,c4,kvs,rfl,s1,hd1,tw⟩:=hI
      obtain ⟨dd,hdd,rp⟩:=t.get hx;rw [getElem?_map] at hdd;obtain ⟨p,hpi,rfl⟩:=map_some hdd;obtain ⟨t',m,rfl,ht,hm⟩:=aK2 rp;refine ⟨t',[.int p.1,.ref m],rfl,seqT (sm.trans s1) ht,rfl,_,_,rfl,_,_,rfl,rfl,?_⟩;refine ⟨_,rfl,m,_,rfl,.inl ⟨(seqE (sm.trans s1) hm).l,fun kt hkt=>?_⟩⟩;have hdk:d ≠ kt:=ac hd1 hkt;have hd2:upd H' kt (.tup (p.2.map V.int)) d=some (.dT (dkv kvs)):=by rw [af hdk]; exact hd1
      have hk2:upd H' kt (.tup (p.2.map V.int)) kt=some (.tup ((p.2.map Sum.inl:List Key).map kV)):=by rw [ajo]; exact cb
      have hdg:=aqig.t hd2 hk2;have hlen:(dkv kvs).length < Ad:=by
       have:=tw.1
       simp at this;simp [dkv,Ah]; omega
      have hgd:(aqh9 (dkv kvs) (p.2.map Sum.inl)).getD (.int 0)=.int (wtK (hp.take i) p.2):=by rw [aJ4]; exact aYx tw p.2
      refine ⟨_,rfl,d,rfl,.inr ⟨_,.inl hd2⟩,_,rfl,_,hdg,_,rfl,_,_,hgd,rfl,_,rfl,_,rfl,d,_,rfl,DPut.t hd2 hk2 hlen,?_⟩;refine ⟨_,_,_,aqhh kvs p.2 (.int (wtK (hp.take i) p.2 + p.1)),rfl,fun b u hb=>?_,by rw [cb,aqbv],?_⟩
      ·rw [af (ac hb hd),af (ac (s1 _ _ hb) hkt)]
       exact s1 _ _ hb
      ·have e:hp.take (i + 1)=hp.take i++[(p.1,p.2)]:=by
        obtain ⟨hi,e⟩:=Aj.mp hpi;rw [take_succ_eq_append_getElem hi,e]
       rw [e];exact aYv tw p.1 p.2
     ·obtain ⟨c2,c3,c4,kvs,rfl,s1,hd1,tw⟩:=hI
      rw [hvl,take_length] at tw;exact aXo sm s1 hd1 tw hc.1 hmk k
   ·cases hg
section
variable {P:Af} {w:World} {K:Frag} {mg:Str->Option Value} {base:Heap} {N:List Str} {qual:Str} {scope:Scope} {f:Addr} {cd:Value} {A:Around} {outer:List Env} {s:Shared} {H:Hp} {E:XK} {C:Addr}
end
section
variable {X:Cx} {pins p2:List (Addr × Obj)} {R:Addr->Hp->Prop} {σ:L2.St} {H:Hp} {s:Shared}
structure ExcS (K:Frag) (C C':Addr):Prop where
 ty:De K (.ref C')=some (.type "type")
 cl:(C8 K C').isSome=true
 be:As K C' (.type "BaseException")=some true
 su:As K C (.ref C')=some false
theorem aJ1 {M:Model} {A:Around} {E:Value->Shared->Prop} {K:Frag} {s:Shared} {a C C':Addr} {oe:Obj} {Q:Bool->Shared->Prop} (KX:K.In s.heap) (Z:ExcS K C C') (hx:s.heap.get? a=some oe) (hc:oe.cls=.ref C) (hq:Q false s) :
  wpAny M A (Ll (.ref a) (.ref C')) Q E s:=by
 obtain ⟨h,g,d,t,os⟩:=s;have L0:PySem.W.Looks M h (Mg (.ref a)) (.ref C):=hc ▸ (Ip hx).andThen .now;have L1:=Ki (M:=M) KX Z.ty;have L2:=Eb (M:=M) KX Z.be;have L3:=Eb (M:=M) KX Z.su;have L4:=avf (M:=M) KX Z.cl;have L5:PySem.W.Looks M h (isSubtype (.type "type") (.type "tuple")) false:=.of_pure tc_notTuple;unfold Ll isInstance isExcClass
 repeat lk
 exact hq
def PH (X:Cx) (hs:List Ed) (C:Addr) (ts:TS):Prop:=∀ (pins:List (Addr × Obj)) (σ:L2.St) (H:Hp) (D:Ends) (s:Shared) (a t:Addr) (B:Heap),X.Ok->Gx B X.stack a (.ref C) (.ref t) s.heap ->
 (∀ h6,Gx B X.stack a (.ref C) (.ref t) h6->s.heap.UpToSlots h6->∃ oe,oe.cls=.ref C/\h6.get? a=some oe/\L2.Inv X pins σ H { s with heap:=h6 }/\L2.Inv (maX X a oe) pins σ H { s with heap:=h6 })->ts D σ H ->
 wpAny (model X.prog X.w) X.A (handleBy (.ref a) X.env hs) (SP X pins D) X.xe s
theorem akj {C C':Addr} {y:Str} {np hpos:Pos} {b0:Stmt} {suite:List Stmt} {aqhg:List Ed} {ts:TS} (Z:ExcH X.K C C') (hgy:Gl X y) (hmy:X.mg y=some (.ref C')) (hs:∀ a oe,PSs (maX X a oe) (b0 :: suite) ts) (hdy:(y == ("__debug__":Str))=false:=by decide) :
  PH X (.ExceptHandler (some (.Name y np)) none (b0 :: suite) hpos :: aqhg) C ts:=by
 intro pins σ H D s a t B ok fl ld q;obtain ⟨oe,hc,hoe,J,Jm⟩:=ld s.heap fl (Et fun _ _ e=>e);refine Kz (J4 (axz (X:=maX X a oe) Jm hgy hmy ?_ hdy)) (by intro q; cases q);refine awt Jm.kIn Z hoe hc ?_;refine codeAny_handlers_suite ?_;refine lands_againW fl fun h6 fl6 sm6=>?_;obtain ⟨oe6,hc6,hoe6,J6,Jm6⟩:=ld h6 fl6 sm6;exact wpAny_noRaise (Av (hs a oe6 pins _ σ H D Jm6 q) (fun fl s4 w=>ma_sp ok w) fun _ _ z=>z)
theorem axt {C C':Addr} {y:Str} {np hpos:Pos} {b0:Stmt} {suite:List Stmt} {aqhg:List Ed} {ts:TS} (Z:ExcS X.K C C') (hgy:Gl X y) (hmy:X.mg y=some (.ref C')) (hr:PH X aqhg C ts) (hdy:(y == ("__debug__":Str))=false:=by decide) :
  PH X (.ExceptHandler (some (.Name y np)) none (b0 :: suite) hpos :: aqhg) C ts:=by
 intro pins σ H D s a t B ok fl ld q;obtain ⟨oe,hc,hoe,J,Jm⟩:=ld s.heap fl (Et fun _ _ e=>e);refine Kz (J4 (axz (X:=maX X a oe) Jm hgy hmy ?_ hdy)) (by intro q; cases q);refine aJ1 Jm.kIn Z hoe hc ?_;exact hr pins σ H D s a t B ok fl ld q
end
section
variable {X:Cx}
theorem awd (x:Str) (h:1 <= x.length):(Txt.slice x (some 1) none)=⟨(x.cps.toList.drop 1).toArray⟩:=by
 unfold Txt.slice;have e:Gz (some 1) none 1 x.length=Gz (some ((1:Nat):Int)) (some (x.length:Int)) 1 x.length:=by
  rw [StrLaws.sliceIdx_none_hi]; rfl
 rw [e];have e2:=StrLaws.strSliceIndices_plain h (le_refl x.length);have e3:=StrLaws.sliced_plain x h (le_refl x.length);rw [if_neg (by rw [e2]; simp; omega),e3];congr 2;rw [take_of_length_le (by simp [Str.length])]
def rSl1:V->Option Int->Option Int->Hp->VK->Prop:=fun x lo hi H Q=>∃ z:Str,x=.str z/\lo=some 1/\hi=none/\1 <= z.length/\z.length <= Ad/\Q (.str ⟨(z.cps.toList.drop 1).toArray⟩) H
theorem aqa0:SlR X rSl1:=by
 intro pins s σ H x v vl vu lo hi sl Q I rx hs pl pu h;obtain ⟨z,rfl,rfl,rfl,h1,hz,q⟩:=h;obtain ⟨t,rfl⟩:=rx;cases pl with
 | int i ti =>
  cases pu with
  | none =>
   refine ⟨"str",_,slot_str_getitem.lookup,Fu s z t,?_⟩;have hs':s.heap.IsSlice sl (some (1,ti)) none none:=hs;refine wpAny_getItem_str_slice hs' rfl (post_val_or_str ⟨le_trans (Txt.slice_le z (some 1) none) hz,fun t' k=>?_⟩);refine ⟨.str ⟨(z.cps.toList.drop 1).toArray⟩,H,I.tok k,⟨t',?_⟩,q⟩;rw [<- awd z h1];rfl
theorem aWu:MtR X "str.index" (fun x vs H Q=>∃ z y i aqhg,x=.str z/\vs=[.str y]/\B5 z y 0 z.length 1=i :: aqhg/\Q (.int (i:Nat)) H):=by
 intro pins s σ H x vs v us Q I rx rv h;obtain ⟨z,y,i,aqhg,rfl,rfl,ho,q⟩:=h;obtain ⟨t,rfl⟩:=rx;obtain ⟨u,rfl,ru⟩:=rv.one;obtain ⟨t2,rfl⟩:=ru;refine call_gives F.slot_str_index (Fu s z t) F.entry_str_index (F.args_str_index_2 _ _) (gives_str_index z y t t2 i aqhg ho) ?_;exact ⟨.int i,H,I.tok _,⟨_,rfl⟩,q⟩
def aO:Str:="abcdefghijklmnopqrstuvwxyz"
theorem ajn:∀ i,i < 26->∃ aqhg,B5 aO ⟨#[97 + i]⟩ 0 aO.length 1=i :: aqhg:=by
 intro i hi;refine ⟨[],?_⟩
 revert i
 decide +kernel
end
section
variable {X:Cx} {pins:List (Addr × Obj)} {σ:L2.St} {H:Hp} {s:Shared}
end
theorem aji {X:Cx} {ss:List Stmt}:PSs X ss (fun _ _ _=>False):=fun _ _ _ _ _ _ h=>Aq h
theorem aX3 {X:Cx} {hs:List Ed} {C:Addr} {ts ts':TS} (h:PH X hs C ts) (k:∀ D σ H,ts' D σ H->ts D σ H):PH X hs C ts':=fun pins σ H D s a t B ok fl ld q=>h pins σ H D s a t B ok fl ld (k _ _ _ q)
end DL
namespace SortW
open PySem PySem.W PyProof.Rows DL
section
variable {prog:Af} {w:World} {A:Around} {E:Value->Shared->Prop} {s:Shared} {d it:Addr} {es:Array DictEntry} {ep i:Nat} {ok ov:Value}
theorem aJs {Q:Option Value->Shared->Prop} (hit:Dp s.heap it d i es.size ep ok ov)
  (h:wpAny (model prog w) A.in1 (Builtin.«dict_itemiterator.__next__» ⟨[.ref it],[]⟩) (fun fin s'=>∃ v,fin=.done (.ret v)/\Q (some v) s') (fun e s'=>s'.TypeIs e "StopIteration"/\Q none s') s):wpAny (model prog w) A (Ex (.ref it)) Q E s:=by
 have hT:s.TypeIs (.ref it) "dict_itemiterator":=⟨_,hit,rfl⟩;unfold Ex;refine Aa (wpAny_attempt (Es (name:=D8 "__next__") hT Bk (Bu Bk hT PySem.F.entry_dict_itemiterator_next ?_ (PySem.F.args_dict_itemiterator_next_1 _))));refine Av h (fun fin s' hq=>?_) (fun e s' hq=>?_)
 ·obtain ⟨v,rfl,hq⟩:=hq
  exact ⟨v,rfl,Ab hq⟩
 ·obtain ⟨t,hq⟩:=hq
  refine Aa (wpAny_isInstance (T:="StopIteration") (b:=true) t az9 ?_);exact Ab hq
theorem aK9 {k v:Value} {Q:Value->Shared->Prop} (hit:Dp s.heap it d i es.size ep ok ov)
  (hQ:∀ h',K5 h' it d i es.size ep k v s.heap.objs.size->h'.get? s.heap.objs.size=some { cls:=.type "tuple",data:=.seq #[k,v] }->h'.objs.size=s.heap.objs.size + 1->(∀ b o,b ≠ it->s.heap.get? b=some o->h'.get? b=some o)->Q (.ref s.heap.objs.size) { s with heap:=h' }) :
  wpAny (model prog w) A (C4 (.ref it) 6 k v) Q E s:=by
 obtain ⟨hp,g,dr,tk,os⟩:=s;have hil:it ≠ hp.objs.size:=ne_of_lt (Ae hit);unfold C4;refine Aa (Kh ?_);have he:Dp (hp.push { cls:=.type "tuple",data:=.seq #[k,v] }) it d i es.size ep ok ov:=Ac _ hit;have ht:(hp.push { cls:=.type "tuple",data:=.seq #[k,v] }).get? hp.objs.size=some { cls:=.type "tuple",data:=.seq #[k,v] }:=Ag _ rfl;have hz:(hp.push { cls:=.type "tuple",data:=.seq #[k,v] }).objs.size=hp.objs.size + 1:=Bw _ _;have hk:∀ b o,b ≠ it->hp.get? b=some o->(hp.push { cls:=.type "tuple",data:=.seq #[k,v] }).get? b=some o:=fun b o _ e=>Ac _ e;generalize hp.push { cls:=.type "tuple",data:=.seq #[k,v] }=h2 at he ht hz hk;refine (?_:wpAny _ _ (Ee (.ref it) >>= _) _ _ ⟨h2,g,dr,tk,os⟩);refine Aa ?_;unfold Ee;refine Aa (Kk he rfl (x:=.none) rfl (Ab ?_));simp only [if_true];refine Aa (Kk he rfl (x:=ok) rfl (Aa (Kk he rfl (x:=ov) rfl ?_)));refine Aa (Dq he (by simp) fun h3 he3 hs3=>?_);refine Aa (Dq (show Dp h3 it d i es.size ep k ov from he3) (by simp) fun h4 he4 hs4=>?_);refine Aa (Dq (show Dp h4 it d i es.size ep k v from he4) (by simp) fun h5 he5 hs5=>?_);refine Aa (Dq (show K5 h5 it d i es.size ep k v hp.objs.size from he5) (by simp) fun h6 he6 hs6=>?_);have all:∀ b o,b ≠ it->h2.get? b=some o->h6.get? b=some o:=fun b o hb e=>(show Heap.SameBut it h5 h6 from hs6).extBut b o hb ((show Heap.SameBut it h4 h5 from hs5).extBut b o hb ((show Heap.SameBut it h3 h4 from hs4).extBut b o hb ((show Heap.SameBut it h2 h3 from hs3).extBut b o hb e)));refine Aa (Kl (Ab (hQ h6 he6 (all _ _ hil.symm ht) ?_ fun b o hb e=>all b o hb (hk b o hb e))));rw [(show Heap.SameBut it h5 h6 from hs6).1,(show Heap.SameBut it h4 h5 from hs5).1,(show Heap.SameBut it h3 h4 from hs4).1,(show Heap.SameBut it h2 h3 from hs3).1,hz]
theorem aJr {Q:Option Value->Shared->Prop} (hit:Dp s.heap it d i es.size ep ok ov) (hm:aqia s.heap d es ep) (hi:i < es.size)
  (hQ:∀ h',K5 h' it d (i + 1) es.size ep es[i].key es[i].val s.heap.objs.size->h'.get? s.heap.objs.size=some { cls:=.type "tuple",data:=.seq #[es[i].key,es[i].val] }->h'.objs.size=s.heap.objs.size + 1 ->
   (∀ b o,b ≠ it->s.heap.get? b=some o->h'.get? b=some o)->Q (some (.ref s.heap.objs.size)) { s with heap:=h' }):wpAny (model prog w) A (Ex (.ref it)) Q E s:=by
 refine aJs hit ?_;obtain ⟨hp,g,dr,tk,os⟩:=s;obtain ⟨od,hod,hcd,hdd⟩:=hm;have hT:Fz ⟨hp,g,dr,tk,os⟩ (.ref it) "dict_itemiterator":=⟨_,hit,rfl⟩;refine Aa (Ab (Aa (Aa ?_)));refine Aa (B3 hT (Ab ?_));refine Aa (He hit rfl ?_);have own:Bn "dict_itemiterator"=true:=by decide
 simp only [own,if_true];refine (?_:wpAny _ _ (if (Value.ref d == Value.none)=true then _ else _) _ _ _);rw [if_neg (show ¬ ((Value.ref d == Value.none)=true) from Al)];refine Aa (Ab (Aa (Ba hod hdd ?_)));rw [if_neg (by simp)];refine Aa (Ab (Aa (Ds hod hdd ?_)));rw [if_neg (by simp)];refine Ab ?_;simp only [show ¬ ((i:Int) < 0) from by omega,if_false,D2,Cq hi];refine Aa (Aa (B3 hT (Ab ?_)));refine Aa (Fe hT ?_);refine (?_:wpAny _ _ (Ml (.ref it) 3 (Jc ((i:Int) + 1)) >>= _) _ _ ⟨hp,g,dr,tk,os⟩);refine Aa (Dq hit (by simp) fun h1 he1 hs1=>?_);have hs1':Heap.SameBut it hp h1:=hs1;have he1':Dp h1 it d (i + 1) es.size ep ok ov:=by
  have e:((i + 1:Nat):Int)=(i:Int) + 1:=by omega
  unfold Dp; rw [e]; simpa [Jc] using he1
 have hT1:Fz ⟨h1,g,dr,tk,os⟩ (.ref it) "dict_itemiterator":=⟨_,he1',rfl⟩;refine Aa (Bc (Aa (Fe hT1 (Aa (Fe hT1 ?_)))));refine (?_:wpAny _ _ (C4 (.ref it) 6 es[i].key es[i].val) _ _ ⟨h1,g,dr,tk,os⟩);have hz1:h1.objs.size=hp.objs.size:=hs1'.1;refine aK9 he1' fun h' a1 a2 a3 a4=>Ab ⟨_,rfl,?_⟩;have e1:(Shared.mk h1 g dr tk os).heap.objs.size=hp.objs.size:=hz1;rw [e1] at a1 a2 a3 ⊢;exact hQ h' a1 a2 a3 fun b o hb e=>a4 b o hb (hs1'.extBut b o hb e)
theorem aZn {Q:Option Value->Shared->Prop} (hh:A.handled=none) (hit:Dp s.heap it d i es.size ep ok ov) (hm:aqia s.heap d es ep) (hi:es.size <= i)
  (hQ:∀ h',Heap.ExtBut it s.heap h'->Q none { s with heap:=h' }):wpAny (model prog w) A (Ex (.ref it)) Q E s:=by
 refine aJs hit ?_;obtain ⟨od,hod,hcd,hdd⟩:=hm;have hT:s.TypeIs (.ref it) "dict_itemiterator":=⟨_,hit,rfl⟩;refine Aa (Ab (Aa (Aa ?_)));refine Aa (B3 hT (Ab ?_));refine Aa (He hit rfl ?_);have own:Bn "dict_itemiterator"=true:=by decide
 simp only [own,if_true];refine (?_:wpAny _ _ (if (Value.ref d == Value.none)=true then _ else _) _ _ s);rw [if_neg (show ¬ ((Value.ref d == Value.none)=true) from Al)];refine Aa (Ab (Aa (Ba hod hdd ?_)));rw [if_neg (by simp)];refine Aa (Ab (Aa (Ds hod hdd ?_)));rw [if_neg (by simp)];refine Ab ?_;simp only [show ¬ ((i:Int) < 0) from by omega,if_false,D2,getElem?_eq_none hi];refine Aa (Aa (B3 hT (Ab ?_)));refine (?_:wpAny _ _ (Ml (.ref it) 2 .none >>= _) _ _ s);refine Aa (Kj hit rfl (by simp) ?_);refine (?_:wpAny _ _ (newExc (.type "StopIteration") [] >>= _) _ _ _);simp only [newExc,newTuple];refine Aa (Aa (Bh ?_ (by size_fits)));refine Aa (m:=Hf _ _) (Mc (a:=Value.none) (by first | rfl | (simp only [Hf]; rfl)) ?_);refine Bh ?_ (by size_fits);simp only [raiseNew];refine Aa (wpAny_handled ?_);rw [show A.in1.handled=none from hh];refine Aa (Ab (wpAny_throw ⟨⟨_,Ag _ rfl,rfl⟩,?_⟩));exact hQ _ (((A9 ..).extBut.push _).push _)
end
end SortW
namespace DL
open PySem PySem.Spec PyProof.Rows L2 SortW
section
variable {X:Cx} {pins:List (Addr × Obj)} {σ:L2.St} {H:Hp} {s:Shared}
theorem Inv.freezeT (I:L2.Inv X pins σ H s) {d:Addr} {kvs:List (List Key × V)} (e:H d=some (.dT kvs)):∃ o es ep,s.heap.get? d=some o/\o.ExactDict/\o.data=.dict es ep/\es.size=kvs.length/\(d == Bo)=false/\L2.Inv X pins σ (upd H d (.frz o (.dT kvs))) s:=by
 obtain ⟨z1,z2,xs,r,o,es,ep,ho,hc,hd,he,hn⟩:=(show aqx X.prog X.w H s.heap d (.dT kvs) from I.hok d _ e);refine ⟨o,es,ep,ho,hc,hd,?_,z2,?_⟩
 ·have:=congrArg List.length he
  rw [length_map] at this;rw [<- length_toList,this,r.length]
 ·have nt:∀ b ys,H b=some (.tup ys)->b ≠ d:=fun b ys q=>aqb q e (by intro z; cases z)
  exact I.write (x:=d) (e:=d) (h':=s.heap) (t':=s.toks) (by rw [e]; exact True.intro) (.inl rfl) (fun b q hb z=>z) ⟨o,ho⟩ ⟨ho,z1,z2,xs,Paired.mapP r fun p q z=>⟨z.1,by rw [af (nt _ _ z.2.1)]; exact z.2.1,z.2.2⟩,o,es,ep,ho,hc,hd,he,hn⟩
theorem Inv.thaw (I:L2.Inv X pins σ H s) {d:Addr} {o:Obj} {u:HO} (e:H d=some (.frz o u)) (h0:∀ o' u',X.H₀ d ≠ some (.frz o' u')):L2.Inv X pins σ (upd H d u) s:=by
 have nn:∀ b,H b=none->b ≠ d:=fun b n z=>by rw [z,e] at n; cases n
 have nt:∀ b ys,H b=some (.tup ys)->b ≠ d:=fun b ys q=>aqb q e (by intro z; cases z);have no:∀ b y,H b=some (.own y)->b ≠ d:=fun b y q=>aqb q e (by intro z; cases z);refine ⟨I.ok,I.os,I.bare,⟨I.base.keep,I.base.slot,fun b ob q n hx=>?_,I.base.there,fun b xs q=>?_,fun b ob w q=>?_,fun b ps q=>?_⟩,I.loc,I.cell,by rw [af (nn _ I.free)]; exact I.free,fun x c q=>by rw [af (nn _ (I.freeC x c q))]; exact I.freeC x c q,fun p hp=>?_,fun b w q=>?_,I.len⟩
 ·have z:=I.base.free b ob q n hx
  rw [af (nn _ z)]; exact z
 ·have z:=I.base.tups b xs q
  rw [af (nt _ _ z)]; exact z
 ·have z:=I.base.frzs b ob w q
  rw [af (by rintro rfl; exact h0 _ _ q)]; exact z
 ·obtain ⟨more,z⟩:=I.base.tbls b ps q
  exact ⟨more,by rw [af (aqb z e (by intro z; cases z))]; exact z⟩
 ·obtain ⟨a1,a2,a3⟩:=I.pin p hp
  exact ⟨a1,by rw [af (nn _ a2)]; exact a2,a3⟩
 ·by_cases hb:b=d
  ·subst hb
   rw [cb] at q;cases q;obtain ⟨_,z⟩:=(show aqx X.prog X.w H s.heap b (.frz o u) from I.hok b _ e);exact z.stay (fun _ _ _ z=>z) (fun c z=>by rw [af (no _ _ z)]; exact z) fun c xs z=>by rw [af (nt _ _ z)]; exact z
  ·rw [af hb] at q
   exact (I.hok b w q).stay (fun _ _ _ z=>z) (fun c z=>by rw [af (no _ _ z)]; exact z) fun c xs z=>by rw [af (nt _ _ z)]; exact z
end
def tThaw (H₀:Hp) (t:TE):TE:=fun σ H Q=>t σ H fun v H1=>∃ d o u,H1 d=some (.frz o u)/\(∀ o' u',H₀ d ≠ some (.frz o' u'))/\Q v (upd H1 d u)
theorem aqal {X:Cx} {e:Expr} {t:TE} (h:PE X e t):PE X e (tThaw X.H₀ t):=by
 intro pins s σ H Q I q;refine thn (h pins s σ H _ I q) fun v s1 hQ=>?_;obtain ⟨x,H1,I1,r1,d,o,u,e1,h0,q1⟩:=hQ;exact ⟨x,_,Inv.thaw I1 e1 h0,r1,q1⟩
def ItI (d:Addr) (o:Obj) (kvs:List (List Key × V)):It :=
 ⟨fun i H=>H d=some (.frz o (.dT kvs))/\i < kvs.length,fun i H x H'=>∃ T k p,x=.ref T/\H T=none/\kvs[i]?=some p/\H k=some (.tup (p.1.map kV))/\H'=upd H T (.tup [.ref k,p.2]),fun i H=>H d=some (.frz o (.dT kvs))/\kvs.length <= i⟩
theorem az0 {α β:Type} {R:α->β->Prop}:∀ {xs:List α} {ys:List β},Paired R xs ys->∀ {i:Nat} {x:α},xs[i]?=some x->∃ y,ys[i]?=some y/\R x y
 | _,_,.cons h t,0,x,e=>by simp at e; subst e; exact ⟨_,rfl,h⟩
 | _,_,.cons h t,i + 1,x,e=>by
  obtain ⟨y,hy,r⟩:=az0 t (i:=i) (x:=x) (by simpa using e);exact ⟨y,by simpa using hy,r⟩
theorem aw7 {P:Af} {w:World} {K:Frag} {elts:List Expr} {kk:Nat} {tp:Pos} (d it:Addr) (o:Obj) (kvs:List (List Key × V)) (ep:Nat) (es:Array DictEntry) (hd:o.data=.dict es ep) (hz:es.size=kvs.length) :
  Turn P w K (.Tuple elts kk tp) (ItI d o kvs) [it] it (fun i h=>∃ ok ov,Dp h it d i es.size ep ok ov) where
 mem:=by simp
 obj:=fun i h st b hb=>by
  obtain ⟨ok,ov,st⟩:=st;have e:b=it:=by simpa using hb
  subst e;exact ⟨_,st,fun v z=>by
   have z':Data.fields _=Data.cell v:=z;cases z'⟩
 keep:=fun i h h' st k=>by
  obtain ⟨ok,ov,st⟩:=st;exact ⟨ok,ov,k it (by simp) _ st⟩
 item:=by
  intro X hP hw hK hc i pins s σ H E I hf st hg;subst hP hw hK;obtain ⟨ok,ov,st⟩:=st;obtain ⟨hg,hi⟩:=hg;obtain ⟨ho,z1,z2,xs,r,o',es',ep',ho',hx,hxd,hxs,hn⟩:=(show aqx X.prog X.w H s.heap d (.frz o (.dT kvs)) from I.hok d _ hg);rw [ho] at ho';cases ho';rw [hd] at hxd;cases hxd;have hi':i < es.size:=by omega
  obtain ⟨y,hy,e1,e2,e3⟩:=az0 r (i:=i) (x:=kvs[i]) (by simp [hi]);have he:es[i]=entryOfKey (Ep (aF X.prog X.w)) y:=by
   have h1:es.toList[i]?=some es[i]:=by simp [hi']
   rw [hxs,getElem?_map,hy] at h1;exact (Option.some.inj h1).symm
  have hit:it < s.heap.objs.size:=Ae st;refine aJr st ⟨o,ho,hx,hd⟩ hi' fun h' a1 a2 a3 a4=>⟨_,rfl,?_⟩;rw [he] at a1 a2;refine wpAny_letOwnedTupleGo_items (s:={ s with heap:=h' }) a1 fun h'' b1 b2=>?_;have nT:s.heap.objs.size ≠ it:=ne_of_gt hit;have kall:∀ b u,b ∉ [it]->s.heap.get? b=some u->h''.get? b=some u:=fun b u hb e=>b2.extBut b u (by simpa using hb) (a4 b u (by simpa using hb) e);have new:aqx X.prog X.w (upd H s.heap.objs.size (.tup [.ref y.2.1,kvs[i].2])) h'' s.heap.objs.size (.tup [.ref y.2.1,kvs[i].2]) :=
   ⟨by simp [Ah],[.ref y.2.1,y.2.2],.cons rfl (.cons e3 .nil),_,b2.extBut _ _ nT a2,rfl,0,rfl⟩
  have I2:=DL.Inv.turnedT I (h':=h'') (t':=s.toks) kall hf (le_refl _) new;refine ⟨.ref s.heap.objs.size,_,I2,rfl,⟨_,y.2.1,kvs[i],rfl,I.hok.fresh (le_refl _),by simp [hi],e2,rfl⟩,⟨_,_,b1⟩,fun b hb=>?_⟩;have hb':b=it:=by simpa using hb
  subst hb';rw [af nT.symm];exact (hf b (by simp)).1
 done:=by
  intro X hP hw hK hc i pins s σ H E I hf st hg;subst hP hw hK;obtain ⟨ok,ov,st⟩:=st;obtain ⟨hg,hi⟩:=hg;obtain ⟨f0,f1,f2,f3,f4,f5⟩:=hf it (by simp);obtain ⟨ho,z1,z2,xs,r,o',es',ep',ho',hx,hxd,hxs,hn⟩:=(show aqx X.prog X.w H s.heap d (.frz o (.dT kvs)) from I.hok d _ hg);exact aZn (I.ok.hd hc) st ⟨o,ho,by rw [ho] at ho'; cases ho'; exact hx,hd⟩ (by omega) fun h' eb=>⟨rfl,I.turned (t':=s.toks) (fun b o hb e=>eb b o hb e) f0 f1 f3 f4 f5⟩
 self:=fun A i s Q E st h=>by
  obtain ⟨ok,ov,st⟩:=st;have hT:s.TypeIs (.ref it) "dict_itemiterator":=⟨_,st,rfl⟩;have hen:entryFor table "dict_itemiterator.__iter__"=some Builtin.«dict_keyiterator.__iter__»:=entryFor_alias (id':="dict_keyiterator.__iter__") (by kernel_rfl) rfl (by decide +kernel) (by kernel_rfl);refine Hw hT Ef (Bu Ef hT hen ?_ (PySem.F.args_dict_itemiterator_iter_1 _));refine (?_:wpAny _ _ (ret (.ref it)) _ _ s);exact Ab ⟨_,rfl,"dict_itemiterator",_,hT,Bk.lookup,h⟩
theorem axg {κ:Type} [DecidableEq κ] {β:Type}:∀ {xs:List (κ × β)},(xs.map (·.1)).Nodup->∀ {j:Nat} {k:κ} {p:β},xs[j]?=some (k,p)->xs.eraseIdx j=xs.filter fun x=>decide (x.1 ≠ k)
 | [],_,j,k,p,h=>by simp at h
 | x :: xs,hn,0,k,p,h=>by
  simp at h;subst h;rw [map_cons,nodup_cons] at hn;simp only [List.eraseIdx_zero,List.tail_cons];rw [Di (by simp)];refine (Cb.mpr fun y hy=>?_).symm
  have:y.1∈xs.map (·.1):=An.mpr ⟨y,hy,rfl⟩
  simp
  rintro rfl;exact hn.1 this
 | x :: xs,hn,j + 1,k,p,h=>by
  rw [map_cons,nodup_cons] at hn;have hj:xs[j]?=some (k,p):=by simpa using h
  have hk:k∈xs.map (·.1):=An.mpr ⟨(k,p),mem_of_getElem? hj,rfl⟩;have ne:x.1 ≠ k:=by rintro e; rw [e] at hn; exact hn.1 hk
  rw [Iz,axg hn.2 hj,Dj (by simpa using ne)]
theorem ako {α β:Type} (f:α->β):∀ (xs:List α) (j:Nat),(xs.map f).eraseIdx j=(xs.eraseIdx j).map f
 | [],_=>by simp
 | x :: xs,0=>by simp
 | x :: xs,j + 1=>by simp only [map_cons,Iz,ako f xs j]
theorem KT.drop {H:Hp} {kvs:List (List Key × V)} {xs:List (List Key × Addr × Value)} (r:KT H kvs xs) (k:List Key):KT H (aXk kvs k) (xs.filter fun x=>decide (x.1 ≠ k)):=by
 unfold aXk
 induction r with
 | nil=>exact .nil
 | @cons p q ps qs h t ih =>
  by_cases e:p.1=k
  ·rw [Di (by simp [e]),Di (by simp [<- h.1,e])]; exact ih
  ·rw [Dj (by simp [e]),Dj (by simp [<- h.1,e])]; exact .cons h ih
section
variable {prog:Af} {w:World} {κ:Type} [DecidableEq κ] {knd:HeapKind prog w κ} {A:Around} {E:Value->Shared->Prop} {s:Shared} {d a:Addr} {xs:List (κ × Addr × Value)} {k:κ}
theorem aj0 {Q:Option DictEntry->Shared->Prop} (hu:knd.room A) (hkey:knd.is s.heap k a) (hm:s.heap.DictOfH knd d xs) (hsz:xs.length <= Ad)
  (hnone:atKey xs k=none->Q none { s with toks:=s.toks + knd.draws k })
  (hsome:∀ p h',atKey xs k=some p->h'.DictOfH knd d (xs.filter fun x=>decide (x.1 ≠ k))->Heap.SameBut d s.heap h'->Q (some (entryOfKey knd (k,p))) { s with heap:=h',toks:=s.toks + knd.draws k }) :
  wpAny (model prog w) A (Km d (.ref a)) Q E s:=by
 obtain ⟨o,es,ep,ho,hc,hd,he,his,hn⟩:=hm;unfold Km;refine Bc ?_;refine Aa (knd.pyHash hu hkey (Aa (wpAny_dictFind_heap (s:={ s with toks:=s.toks + knd.draws k }) hu hkey ho hd he his hn ?_ ?_)))
 ·intro hno
  exact Ab (hnone (atKey_none_of_get hno))
 ·intro j p hj
  refine Aa (Ba (s:={ s with toks:=s.toks + knd.draws k }) ho hd ?_);rw [entry_at he j,hj];have hz:es.size <= Ad:=by rw [size_of_entries he]; exact hsz
  have hjl:j < es.size:=by
   rw [size_of_entries he];exact (Aj.mp hj).1
  refine Aa (wpAny_updateDictKeys (hz:=hz) (s:={ s with toks:=s.toks + knd.draws k }) ho hd (Ab (hsome p _ (atKey_of_get hn hj)
   ⟨_,_,ep + 1,Fi _ ho (Obj.isFreed_of_dict (Kn hd _)),hc.mapDictKeys _,Kn hd _,?_,fun x hx=>?_,?_⟩ (A9 ..))))
  ·rw [Array.toList_eraseIdxIfInBounds,he,<- axg hn hj,ako]
  ·exact knd.keeps (his x (Bl.mp hx).1) ho hd (A9 ..)
  ·exact (List.Sublist.map _ Gp).nodup hn
end
section
variable {X:Cx} {pins:List (Addr × Obj)} {σ:L2.St} {H:Hp} {s:Shared} {a b:Addr} {kvs:List (List Key × V)} {k:List Key} {A:Around} {E:Value->Shared->Prop}
theorem aqby {more:List Value} {Q:Value->Shared->Prop} (hu:A.units + 1 < cLine) (I:L2.Inv X pins σ H s) (e:H a=some (.dT kvs)) (eb:H b=some (.tup (k.map kV))) (hm:more=[] \/ ∃ x,more=[x])
  (h1:∀ v w' s',aqh9 kvs k=some v->L2.Inv X pins σ (upd H a (.dT (aXk kvs k))) s'->aqi8 v w'->Q w' s') (h2:aqh9 kvs k=none->∃ x,more=[x]/\∀ s',L2.Inv X pins σ H s'->Q x s') :
  wpAny (model X.prog X.w) A (call (.builtin "dict.pop") (.ref a :: .ref b :: more)) Q E s:=by
 obtain ⟨z,hd,xs,rel,dd⟩:=dt_of I.hok e;have hz:xs.length <= Ad:=by rw [<- Paired.length rel]; exact z
 have ha:argsOk "dict.pop" ⟨.ref a :: .ref b :: more,[]⟩:=by
  rcases hm with q | ⟨x,q⟩
  ·subst q; exact PySem.F.args_dict_pop_2 _ _
  ·subst q; exact PySem.F.args_dict_pop_3 _ _ _
 have kk:=awm I.hok eb;refine Bu Fm dd.typeIs PySem.F.entry_dict_pop ?_ ha;unfold Builtin.«dict.pop»;refine Aa ?_;unfold Builtin.Dict.keyAndDefault;refine Aa (Fk dd.typeIs ?_);obtain ⟨o,es,ep,ho,hc,hdat,he,his,hn⟩:=id dd;have emp:es.isEmpty=true->aqh9 kvs k=none:=by
  intro hem
  have:es.toList=[]:=by simpa using hem
  rw [this] at he;have hx:xs=[]:=by simpa using he.symm
  subst hx;cases rel;rfl
 have non:atKey xs k=none->aqh9 kvs k=none:=by
  intro hno
  have:=rel.val k
  rw [hno] at this;cases q:aqh9 kvs k with
  | none=>rfl
  | some v=>rw [q] at this; exact this.elim
 have got:∀ p h',atKey xs k=some p->h'.DictOfH (Ep (aF X.prog X.w)) a (xs.filter fun x=>decide (x.1 ≠ k))->Heap.SameBut a s.heap h'->Q p.2 { s with heap:=h',toks:=s.toks + (Ep (aF X.prog X.w)).draws k }:=by
  intro p h' hp dd' hs;have rv:=rel.val k;rw [hp] at rv;cases q:aqh9 kvs k with
  | none=>rw [q] at rv; exact rv.elim
  | some v =>
   rw [q] at rv;refine h1 v _ _ q ?_ rv;obtain ⟨q1,es1,ep1,hq1,g2,g3,g4,_,g5⟩:=dd';refine aJ6 I (by rw [e]; exact True.intro) hs ⟨q1,hq1⟩ ⟨le_trans (aW8 kvs k) z,hd,_,(KT.drop rel k).keeps fun c ys ec=>?_,q1,es1,ep1,hq1,g2,g3,g4,g5⟩;rw [af (aqb ec e (fun z=>nomatch z))];exact ec
 rcases hm with rfl | ⟨x,rfl⟩
 ·refine (?_:wpAny _ _ (pure (a,Value.ref b,none)) _ _ s)
  refine Ab ?_;dsimp only;rw [if_neg (show ¬ (keyPart (Value.ref b)).isSome=true from by simp [keyPart])];refine Aa (Ba ho hdat (Aa (Ab ?_)))
  by_cases hem:es.isEmpty=true
  ·obtain ⟨x,hx,_⟩:=h2 (emp hem)
   cases hx
  ·rw [if_neg hem]
   refine Aa (aj0 (Cj hu) kk dd hz (fun hno=>?_) fun p h' hp dd' hs=>?_)
   ·obtain ⟨x,hx,_⟩:=h2 (non hno)
    cases hx
   ·simp only [Lm,Ao,if_false]
    exact Aa (Kl (Ab ⟨_,rfl,got p h' hp dd' hs⟩))
 ·refine (?_:wpAny _ _ (pure (a,Value.ref b,some x)) _ _ s)
  refine Ab ?_;dsimp only;rw [if_neg (show ¬ (keyPart (Value.ref b)).isSome=true from by simp [keyPart])];refine Aa (Ba ho hdat (Aa (Ab ?_)))
  by_cases hem:es.isEmpty=true
  ·rw [if_pos hem]
   refine Aa (Ci (Aa (Ab ?_)));simp only [Ln,if_true];refine Aa (Hn hd ?_);obtain ⟨y,hy,hq⟩:=h2 (emp hem);cases hy;exact Aa (Ci (Ab ⟨x,rfl,hq s I⟩))
  ·rw [if_neg hem]
   refine Aa (aj0 (Cj hu) kk dd hz (fun hno=>?_) fun p h' hp dd' hs=>?_)
   ·simp only [Ln,if_true]
    refine Aa (Hn hd ?_);obtain ⟨y,hy,hq⟩:=h2 (non hno);cases hy;exact Aa (Ci (Ab ⟨x,rfl,hq _ (I.tok _)⟩))
   ·simp only [Lm,Ao,if_false]
    exact Aa (Kl (Ab ⟨_,rfl,got p h' hp dd' hs⟩))
end
end DL
namespace DL
open PySem PySem.Spec PyProof.Rows L2
def CXmC (P:Af) (w:World) (C:Addr) (H1:Hp) (outer:List Env) (H:Hp) (s:Shared) (e:Value) (s':Shared):Prop :=
 ∃ (a t:Addr) (h1 B:Heap),e=.ref a/\s'.os=s.os/\Fx s'.gens/\Un (frs outer) [] H H1 s.heap h1/\HOk P w H1 h1 /\
 (∀ b o,h1.get? b=some o->b ∉ frs outer->(b < s.heap.objs.size \/ H1 b ≠ none)->B.get? b=some o)/\Gx B outer a (.ref C) (.ref t) s'.heap/\h1.UpToSlots s'.heap
def CXm (P:Af) (w:World):CXT:=fun outer H s E e s'=>∃ C H1,E (.ref C) none H1/\CXmC P w C H1 outer H s e s'
section
variable {X:Cx} {pins:List (Addr × Obj)} {σ:L2.St} {H H1:Hp} {s s':Shared} {C:Addr} {e:Value}
theorem landM (I:L2.Inv X pins σ H s) (hx:CXmC X.prog X.w C H1 X.stack H s e s'):∃ (a t:Addr) (B:Heap),e=.ref a/\Gx B X.stack a (.ref C) (.ref t) s'.heap /\
  ∀ (h6:Heap) (tk:Nat),Gx B X.stack a (.ref C) (.ref t) h6->s'.heap.UpToSlots h6->∃ oe,oe.cls=.ref C/\h6.get? a=some oe/\L2.Inv X pins σ H1 { s' with heap:=h6,toks:=tk }/\L2.Inv (maX X a oe) pins σ H1 { s' with heap:=h6,toks:=tk }:=by
 obtain ⟨a,t,h1,B,rfl,ho,hb,un,hok,kB,fl,us⟩:=hx;refine ⟨a,t,B,rfl,fl,fun h6 tk fl6 us6=>?_⟩;have fr1:∀ b,b∈frs X.stack->H1 b=none:=fun b z=>by
  obtain ⟨_,o',q',_⟩:=I.stack.mem z;exact un.free b o' q' (I.stkFree b z) (by simp)
 have nf:∀ b o,H1 b=some o->b ∉ frs X.stack:=fun b o q z=>by rw [fr1 b z] at q; cases q
 have un6:Un (frs X.stack) [] H H1 s.heap h6:=by
  refine ⟨fun b o q n hb hx=>?_,fun b o q n hb hx=>?_,un.free,fun b o q hx=>?_,un.tups,un.frzs,un.tbls⟩
  ·exact fl6.1 b o (kB b o (un.keep b o q n hb hx) hb (.inl (Ae q)))
  ·obtain ⟨sl,q1⟩:=un.slot b o q n hb hx
   obtain ⟨_,o',q',nf'⟩:=I.stack.mem hb;rw [q] at q'; cases q';obtain ⟨sl',q2⟩:=(us.trans us6) b _ q1 nf';exact ⟨sl',q2⟩
  ·obtain ⟨o',q1⟩:=un.there b o q hx
   by_cases hbf:b∈frs X.stack
   ·obtain ⟨sl,q3⟩:=un.slot b o q (I.stkFree b hbf) hbf hx
    obtain ⟨_,o2,q',nf'⟩:=I.stack.mem hbf;rw [q] at q'; cases q';obtain ⟨sl',q2⟩:=(us.trans us6) b _ q3 nf';exact ⟨_,q2⟩
   ·exact ⟨o',fl6.1 b o' (kB b o' q1 hbf (.inl (Ae q)))⟩
 have hok6:HOk X.prog X.w H1 h6:=fun b o q=>(hok b o q).stay (fun c u hc r=>by
  rcases hc with rfl | hc
  ·exact fl6.1 c u (kB c u r (nf c _ q) (.inr (by rw [q]; simp)))
  ·exact fl6.1 c u (kB c u r (nf c _ hc) (.inr (by rw [hc]; simp)))) (fun _ r=>r) fun _ _ r=>r
 have I6:L2.Inv X pins σ H1 { s' with heap:=h6,toks:=tk }:=I.call' (s':={ s' with heap:=h6,toks:=tk }) (ch:=[]) ho un6 hok6 hb (fun b z=>absurd z (by simp));obtain ⟨oe,vs,he,hc,hd,_⟩:=fl6.first
 have na:H1 a=none:=by
  cases q:H1 a with
  | none=>rfl
  | some o =>
   obtain ⟨u,r⟩:=aqb4 (hok a o q)
   have:=kB a u r (nf a o q) (.inr (by rw [q]; simp))
   rw [fl.2.1] at this; cases this
 have nfr:a ∉ frs X.stack:=fun z=>by
  obtain ⟨_,o',q',nf'⟩:=fl6.2.2.1.mem z;rw [he] at q'; cases q';exact nf' _ hd
 refine ⟨oe,hc,he,I6,ma_in I6 he na (fun z=>?_) (fun z=>?_) (fun v z=>by rw [hd] at z; cases z)⟩
 ·subst z
  obtain ⟨m,⟨o,es,ep,ho',hd',_⟩,_⟩:=I6.loc;have ho':h6.get? X.env.locals=some o:=ho';rw [he] at ho'; cases ho';rw [hd] at hd'; cases hd'
 ·refine nfr ?_
  rcases I.ok.stk with q | ⟨q,_⟩
  ·rw [q]; exact z
  ·rw [q]
   obtain ⟨env,h1,h2⟩:=Ce.mp z;exact Ce.mpr ⟨env,mem_cons_of_mem _ h1,h2⟩
end
section
variable {P:Af} {w:World} {K:Frag} {mg:Str->Option Value} {base:Heap} {N:List Str} {qual:Str} {scope:Scope} {f:Addr} {cd:Value} {A:Around} {outer:List Env} {s:Shared} {H:Hp} {E:XK} {C:Addr}
theorem aqo {x:Str} {np cpos pos:Pos} {e:Expr} {es:List Expr} {t:TA} (Z:ExcC K C) (hm:mg x=some (.ref C)) (hg:Gl (aqi2 (CXm P w) P w K mg base N qual scope f cd A outer s H E) x)
  (ha:PA (aqi2 (CXm P w) P w K mg base N qual scope f cd A outer s H E) (e :: es) t) (hdb:(x == ("__debug__":Str))=false:=by decide)
  (hst:Ap (e :: es) (aqi2 (CXm P w) P w K mg base N qual scope f cd A outer s H E).env=(false,eval e (aqi2 (CXm P w) P w K mg base N qual scope f cd A outer s H E).env) :: Ap es (aqi2 (CXm P w) P w K mg base N qual scope f cd A outer s H E).env:=by rfl)
  (hpl:(Dl cpos (Ap es (aqi2 (CXm P w) P w K mg base N qual scope f cd A outer s H E).env)).any (·.1)=false:=by rfl) :
  PS (aqi2 (CXm P w) P w K mg base N qual scope f cd A outer s H E) (.Raise (some (.Call (.Name x np) (e :: es) [] cpos)) none pos) (fun _ σ H'=>t σ H' fun vs H''=>vs.length <= Ad/\E (.ref C) none H''):=by
 intro pins s1 σ H1 D I hq;obtain ⟨nm,q,N',bs,bm,hdct,sn,sub,ab,col,dd,k0,k1,k2,k3,k5,lk,ok,ni,tl⟩:=Z.ex;have hN:=PySem.Heap.Ns.of_isNs (PySem.W.isNs_of_in I.mod.kin ok);have hni:=PySem.W.nsMap_none_of_in I.mod.kin ok ni;refine wpAny_Raise_call_subU (C:=C) (nm:=nm) (q:=q) (N:=N') (bs:=bs) (bm:=bm) (hdct:=hdct) (sn:=sn) (sub:=sub) (ab:=ab) (col:=col) (dd:=dd) (k0:=k0) (k1:=k1) (k2:=k2) (k3:=k3) (k5:=k5)
  D7 (bmB:=veB) (by decide +kernel) D7 ((Lo I.kIn tl).hasType D7.hasBase) (I.ok.hd rfl) (by rw [hst]; exact hpl) hni (axz I hg hm ⟨rfl,?_⟩ hdb)
 have hr:=ha cpos pins s1 σ H1 _ I hq;rw [hst] at hr ⊢;refine C1 (Av hr (fun us s2 ⟨vs,H2,I2,r,hl,hE⟩=>⟨rfl,by rw [<- r.length]; exact hl,I2.kIn _ _ lk,hN.keeps I2.bk,Lo I2.kIn tl,fun h' e hx=>?_⟩) fun _ _ y=>y);have hin:∀ env∈(E1 qual scope s.heap.objs.size f cd :: outer),∀ b,env.frame=some b->b∈frs (E1 qual scope s.heap.objs.size f cd :: outer):=fun env he b hb=>Ce.mpr ⟨env,he,hb⟩;refine wpAny_leaves_madeW (base:=PySem.W.hideAll s2.heap (frs (E1 qual scope s.heap.objs.size f cd :: outer))) (outer:=outer) (L:=s.heap.objs.size) I2.ok.frames rfl (fun b o q=>K7 _ q) (PySem.W.funFrames_hide I2.stack hin) hx fun h'' t x1 x2 x3 x4=>?_;refine ⟨C,H2,hE,e,t,s2.heap,_,rfl,I2.os,I2.bare,I2.base,I2.hok,fun b o q hb hlt=>Kt _ q fun z=>?_,x1,(Et hx.keeps).trans x4⟩;rcases Ai.mp (show b∈s.heap.objs.size :: frs outer from z) with z | z
 ·rcases hlt with hlt | hlt
  ·rw [z] at hlt; exact absurd hlt (lt_irrefl _)
  ·rw [z] at hlt; exact hlt I2.free
 ·exact hb z
theorem aYk:azp (CXm P w) (aqi2 (CXm P w) P w K mg base N qual scope f cd A outer s H E) (fun v _ H'=>∃ C,v=.ref C/\E (.ref C) none H'):=by
 rintro pins σ Hc sc e s' I ⟨C,H1,⟨C',h1,h2⟩,a,t,hh,B,rfl,ho,hb,un,hok,kB,fl,us⟩;cases h1;have fr1:H1 s.heap.objs.size=none:=by
  obtain ⟨m,⟨o,_,_,hq,_⟩,_⟩:=I.loc;exact un.free _ o hq I.free (by simp)
 have lt:∀ b o,s.heap.get? b=some o->b ≠ s.heap.objs.size:=fun b o q=>ne_of_lt (Ae q);have nst:∀ b,b ≠ s.heap.objs.size->b ∉ frs outer->b ∉ frs (E1 qual scope s.heap.objs.size f cd :: outer):=fun b h1 h2 z=>by
  rcases Ai.mp (show b∈s.heap.objs.size :: frs outer from z) with z | z
  ·exact h1 z
  ·exact h2 z
 refine wpAny_leaves_onW (L:=s.heap.objs.size) I.ok.frames rfl fl fun h' fl' us'=>⟨C,H1,h2,a,t,hh,B,rfl,ho.trans I.os,hb,⟨fun b o q n hbf hx=>?_,fun b o q n hbf hx=>?_,fun b o q n hx=>?_,fun b o q hx=>?_,fun b xs q=>un.tups b xs (I.base.tups b xs q),fun b o u q=>un.frzs b o u (I.base.frzs b o u q),fun b ps q=>?_⟩,hok,fun b o q hbf hlt=>?_,fl',us.trans us'⟩
 ·exact un.keep b o (I.base.keep b o q n hbf hx) (I.base.free b o q n hx) (nst b (lt b o q) hbf) hx
 ·obtain ⟨sl,q1⟩:=I.base.slot b o q n hbf hx
  obtain ⟨sl',q2⟩:=un.slot b _ q1 (I.base.free b o q n hx) (mem_cons_of_mem _ hbf) hx;exact ⟨sl',q2⟩
 ·obtain ⟨o',q1⟩:=I.base.there b o q hx
  exact un.free b o' q1 (I.base.free b o q n hx) hx
 ·obtain ⟨o',q1⟩:=I.base.there b o q hx
  exact un.there b o' q1 hx
 ·obtain ⟨m1,e1⟩:=I.base.tbls b ps q
  obtain ⟨m2,e2⟩:=un.tbls b _ e1;exact ⟨m1++m2,by rw [e2,append_assoc]⟩
 ·refine kB b o q (nst b ?_ hbf) ?_
  ·rcases hlt with hlt | hlt
   ·exact ne_of_lt hlt
   ·rintro rfl; exact hlt fr1
  ·rcases hlt with hlt | hlt
   ·exact .inl (lt_of_lt_of_le hlt I.sz)
   ·exact .inr hlt
theorem fnM {x qual:Str} {st:Stmt} {f:Addr} {fd:Am} {N ps:List Str} {k:Nat} {sp:Sp} (F:Fun K x qual st f fd) (S:FnScope N ps (ai st)) (len:∀ vs H Q E,sp vs H Q E->vs.length=ps.length)
  (hbody:∀ (cdv:Value) (A:Around) (outer:List Env) (s:Shared) (H:Hp) (vs:List V) (Q:VK) (E:XK),Room k (A.deeper (E1 qual (ai st) s.heap.objs.size f cdv))->sp vs H Q E ->
   ∃ t,PSs (aqi2 (CXm P w) P w K mg base N qual (ai st) f cdv A outer s H E) (aQ st) t/\t { nx:=fun _ H'=>Q .non H',rt:=Q } (start N vs) H):FnOk P w K mg base (CXm P w) (k + 1) f fd ps sp:=by
 obtain ⟨oc,od,kV,doc,pm,an,cdv,ct,osl,rfl,lk,hcd⟩:=F.ex;exact fn_of lk hcd S len fun A outer s H vs Q E hr hsp=>hbody cdv A outer s H vs Q E hr hsp
end
abbrev tryM (X:Cx) (pins:List (Addr × Obj)) (R:Addr->Hp->Prop):Cx:={ X with pn:=X.pn++pins,xe:=fun e s'=>∃ σ H s C H1,L2.Inv X pins σ H s/\CXmC X.prog X.w C H1 X.stack H s e s'/\R C H1 }
section
variable {X:Cx} {pins p2:List (Addr × Obj)} {R:Addr->Hp->Prop} {σ:L2.St} {H:Hp} {s:Shared}
theorem aY0 (I:L2.Inv X pins σ H s):L2.Inv (tryM X pins R) [] σ H s:=by
 have o:=I.ok;refine ⟨⟨o.mod,o.kind,o.glob,o.blt,o.above,o.inj,o.has,o.cab,o.hd,o.frames,o.stk,o.exf,o.bs,o.bsz,o.noex,o.exfs,o.funs,o.frf⟩,I.os,I.bare,I.base,I.loc,I.cell,I.free,I.freeC,fun p hp=>?_,I.hok,I.len⟩;exact I.pin p (by simpa using hp)
theorem ajz (o:X.Ok) (I:L2.Inv (tryM X pins R) p2 σ H s):L2.Inv X pins σ H s :=
 ⟨o,I.os,I.bare,I.base,I.loc,I.cell,I.free,I.freeC,fun p hp=>I.pin p (D3 _ hp),I.hok,I.len⟩
theorem aYz {D:Ends} {fl:Flow} (o:X.Ok) (h:SP (tryM X pins R) [] D fl s):SP X pins D fl s:=by
 cases fl with
 | next=>obtain ⟨σ,H,I,q⟩:=h; exact ⟨σ,H,ajz o I,q⟩
 | ret u=>obtain ⟨v,σ,H,I,r,q⟩:=h; exact ⟨v,σ,H,ajz o I,r,q⟩
 | brk=>obtain ⟨σ,H,I,q⟩:=h; exact ⟨σ,H,ajz o I,q⟩
 | cont=>obtain ⟨σ,H,I,q⟩:=h; exact ⟨σ,H,ajz o I,q⟩
theorem aX7 (o:X.Ok):azp (CXm X.prog X.w) (tryM X pins R) (fun v _ H=>∃ C,v=.ref C/\R C H):=by
 rintro p2 σ H s e s' I ⟨C,H1,⟨C',h1,h2⟩,hx⟩;cases h1;exact ⟨σ,H,s,C,H1,ajz o I,hx,h2⟩
theorem aK4 {body:List Stmt} {h0:Ed} {hs:List Ed} {pos:Pos} {t:(Addr->Hp->Prop)->TS} {th:Addr->TS} {OK:Addr->Prop} (stk:X.stack=X.env :: X.outer/\X.env.frame=some X.env.locals)
  (hb:∀ pins R,X.Ok->PSs (tryM X pins R) body (t R)) (hh:∀ C,OK C->PH X (h0 :: hs) C (th C)):PS X (.Try body (h0 :: hs) [] [] pos) (fun D σ H=>t (fun C H'=>OK C/\∀ σ',σ'.length=σ.length->th C D σ' H') D σ H):=by
 intro pins s σ H D I h;refine wpAny_Try_except (Av (hb pins (fun C H'=>OK C/\∀ σ',σ'.length=σ.length->th C D σ' H') I.ok [] s σ H D (aY0 I) h) (fun fl s1 w=>?_) fun e s' w=>?_)
 ·have w':=aYz I.ok w
  cases fl with
  | next=>exact El w'
  | ret u=>exact w'
  | brk=>exact w'
  | cont=>exact w'
 ·obtain ⟨σ1,H1,s1,C,H2,I1,hx,hC,hR⟩:=w
  obtain ⟨a,t',B,rfl,fl,ld⟩:=landM I1 hx;have hfr:X.A.frames=some (X.env :: X.outer):=stk.1 ▸ I.ok.frames;have fl':=fl;rw [stk.1] at fl';refine wpAny_looks_onW hfr stk.2 fl' fun h4 held4 sm4=>?_;refine wpAny_landsW held4 fun h5 fl5 sm5=>?_;have hlen:σ1.length=σ.length:=by rw [I1.len,I.len]
  exact hh C hC pins σ1 H2 D _ a t' B I.ok (stk.1 ▸ fl5) (fun h6 fl6 sm6=>ld h6 s'.toks fl6 ((sm4.trans sm5).trans sm6)) (hR σ1 hlen)
end
end DL
namespace DL
open PySem PySem.Spec PyProof.Rows L2 SortW
def iItemsT (tl:TE):TI:=fun σ H R=>tl σ H fun x H1=>∃ d kvs,x=.ref d/\H1 d=some (.dT kvs)/\∀ o,R (ItI d o kvs) (upd H1 d (.frz o (.dT kvs)))
theorem aX2 {X:Cx} {e:Expr} {elts:List Expr} {kk:Nat} {tp apos pos:Pos} {tl:TE} (hl:PE X e tl) (hbase:C6 e "items" X.env (eval e X.env)=eval e X.env:=by rfl) (hline:(apos.endLine == pos.line)=true:=by rfl) :
  PI X (.Tuple elts kk tp) (.Call (.Attribute e "items" apos) [] [] pos) (iItemsT tl):=by
 intro pins s σ H R I h;refine Fb (T:="dict") (id:="dict.items") hbase rfl hline Dh I0 PySem.F.type_dict_items (thn (hl pins s σ H _ I h) fun v s1 hQ=>?_);obtain ⟨x,H1,I1,r1,d,kvs,ex,ed,q⟩:=hQ;subst ex;obtain rfl:v=Value.ref d:=r1;obtain ⟨o,es,ep,ho,hc,hd,hz,hsys,I2⟩:=Inv.freezeT I1 ed;have hT:s1.TypeIs (.ref d) "dict":=⟨o,ho,hc.1⟩;refine ⟨hT,fun b q=>by cases q; exact ⟨o,ho,hc.2.1⟩,?_⟩;refine (?_:wpAny _ _ (callWith pos (.builtin "dict.items") [.ref d] [] []) _ _ s1);refine Cc rfl (PySem.evalArgs_none ?_);refine Bu I0 hT PySem.F.entry_dict_items ?_ (PySem.F.args_dict_items_1 _);unfold Builtin.«dict.items» Builtin.Dict.noArgs;refine Aa (Aa (Fk hT ?_));refine (?_:wpAny _ _ (pure d) _ _ s1);refine Ab ?_;refine (?_:wpAny _ _ (Dt d >>= _) _ _ s1);unfold Dt;rw [if_neg (by rw [hsys]; exact Al)];refine Aa (Ab (Aa (Bh (Ab ⟨_,rfl,?_⟩))));have I3:=I2.kept (h':=s1.heap.push { cls:=.type "dict_items",data:=.fields #[.ref d] }) (t':=s1.toks) fun b u q=>Ac _ q;have hv:(s1.heap.push { cls:=.type "dict_items",data:=.fields #[.ref d] }).get? s1.heap.objs.size=some { cls:=.type "dict_items",data:=.fields #[.ref d] }:=Ag _ rfl;have ho3:(s1.heap.push { cls:=.type "dict_items",data:=.fields #[.ref d] }).get? d=some o:=Ac _ ho;generalize hh3:s1.heap.push { cls:=.type "dict_items",data:=.fields #[.ref d] }=h3 at I3 hv ho3;have hTv:Fz { s1 with heap:=h3 } (.ref s1.heap.objs.size) "dict_items":=⟨_,hv,rfl⟩;refine (?_:wpAny _ _ (K9 (.ref s1.heap.objs.size)) _ _ { s1 with heap:=h3 });refine Hw hTv Gg (Bu Gg hTv PySem.F.entry_dict_items_iter ?_ (PySem.F.args_dict_items_iter_1 _));unfold Builtin.«dict_items.__iter__»;refine Aa (Ab (Aa ?_));unfold Builtin.Dict_items.dictOf;refine Aa (Kk hv rfl (x:=.ref d) rfl (Ab (Aa ?_)));unfold Builtin.Dict_items.newIterator;refine Aa (Ba ho3 hd (Aa (Ds ho3 hd ?_)));have own:Bn "dict_itemiterator"=true:=by decide
 simp only [own,if_true];refine Bh (Ab ⟨_,rfl,"dict_itemiterator",_,⟨_,Ag _ rfl,rfl⟩,Bk.lookup,?_⟩)
  (by simp only [sizeOk,Eg,size_toArray,length_append,length_cons,Ju,Ah]; omega)
 have I4:=I3.kept (h':=h3.push { cls:=.type "dict_itemiterator",data:=.fields #[.none,.bool false,.ref d,.int 0 0,.int es.size 0,.int ep 0,.none,.none] }) (t':=s1.toks) fun b u q=>Ac _ q;have fin:PIE X pins σ (.Tuple elts kk tp) R (.ref h3.objs.size) { s1 with heap:=h3.push { cls:=.type "dict_itemiterator",data:=.fields #[.none,.bool false,.ref d,.int 0 0,.int es.size 0,.int ep 0,.none,.none] } }:=by
  refine ⟨_,[_],_,_,_,rfl,I4,aw7 d _ o kvs ep es hd hz,⟨_,_,Ag _ rfl⟩,fun b hb=>?_,q o⟩;have hb':b=h3.objs.size:=by simpa using hb
  subst hb';exact I3.fpOk (le_refl _) (I3.hok.fresh (le_refl _))
 simpa [Jc,Eg] using fin
def aY4 (td ty:TE):TE:=fun σ H Q=>td σ H fun x H1=>∃ a,x=.ref a/\IsD H1 a/\ty σ H1 fun y H2=>∃ kvs k v b,H2 a=some (.dT kvs)/\y=.ref b/\H2 b=some (.tup (k.map kV))/\aqh9 kvs k=some v/\Q v (upd H2 a (.dT (aXk kvs k)))
def aY3 (td ty tx:TE):TE:=fun σ H Q=>td σ H fun x H1=>∃ a,x=.ref a/\IsD H1 a/\ty σ H1 fun y H2=>tx σ H2 fun z H3=>∃ kvs k b,H3 a=some (.dT kvs)/\y=.ref b/\H3 b=some (.tup (k.map kV)) /\
 (∀ v,aqh9 kvs k=some v->Q v (upd H3 a (.dT (aXk kvs k))))/\(aqh9 kvs k=none->Q z H3)
section
variable {X:Cx} {o e f:Expr} {td ty tx:TE} {apos cpos:Pos}
theorem aX6 (hu:X.A.units + 1 < cLine) (ho:PE X o td) (he:PE X e ty) (m:M1 X o "pop" apos e cpos):PE X (.Call (.Attribute o "pop" apos) [e] [] cpos) (aY4 td ty):=by
 intro pins s σ H Q I h;refine Fb m.base m.few m.line Dh Fm J5 (thn (ho pins s σ H _ I h) fun u s1 hQ=>?_);obtain ⟨x,H1,I1,rx,a,ex,d,q1⟩:=hQ;subst ex;obtain rfl:u=Value.ref a:=rx;obtain ⟨t1,t2,_⟩:=aW2 I1 d;refine ⟨t1,t2,?_⟩;rw [m.trees];refine Cc rfl (C1 (B0 (thn (he pins s1 σ H1 _ I1 q1) fun iv s2 ⟨y,H2,I2,ry,kvs,k,v,b,ea,ey,eb,l,q2⟩=>Dw ?_)));subst ey;obtain rfl:iv=Value.ref b:=ry;exact aqby hu I2 ea eb (.inl rfl) (fun v' w' s3 e1 I3 r3=>by rw [l] at e1; cases e1; exact ⟨v,_,I3,r3,q2⟩) fun e1=>by rw [l] at e1; cases e1
theorem aX5 (hu:X.A.units + 1 < cLine) (ho:PE X o td) (he:PE X e ty) (hf:PE X f tx) (m:M2 X o "pop" apos e f cpos):PE X (.Call (.Attribute o "pop" apos) [e,f] [] cpos) (aY3 td ty tx):=by
 intro pins s σ H Q I h;refine Fb m.base m.few m.line Dh Fm J5 (thn (ho pins s σ H _ I h) fun u s1 hQ=>?_);obtain ⟨x,H1,I1,rx,a,ex,d,q1⟩:=hQ;subst ex;obtain rfl:u=Value.ref a:=rx;obtain ⟨t1,t2,_⟩:=aW2 I1 d;refine ⟨t1,t2,?_⟩;rw [m.trees];refine Cc rfl (C1 (B0 (thn (he pins s1 σ H1 _ I1 q1) fun iv s2 ⟨y,H2,I2,ry,q2⟩ =>
  B0 (thn (hf pins s2 σ H2 _ I2 q2) fun fv s3 ⟨z,H3,I3,rz,kvs,k,b,ea,ey,eb,q3,q4⟩=>Dw ?_))))
 subst ey;obtain rfl:iv=Value.ref b:=ry;exact aqby hu I3 ea eb (.inr ⟨fv,rfl⟩) (fun v' w' s4 e1 I4 r4=>⟨v',_,I4,r4,q3 v' e1⟩) fun e1=>⟨fv,rfl,fun s4 I4=>⟨z,H3,I4,rz,q4 e1⟩⟩
end
section
variable {prog:Af} {w:World} {A:Around} {E:Value->Shared->Prop} {s:Shared} {d:Addr} {es:Array DictEntry} {ep:Nat}
theorem aqbg {R:Value->Shared->Prop} (hd:(d == Bo)=false) (hm:aqia s.heap d es ep) (h:R (.int es.size s.toks) { s with toks:=s.toks + 1 }) :
  wpAny (model prog w) A (Builtin.«dict.__len__» ⟨[.ref d],[]⟩) (fun fin s'=>∃ v,fin=.done (.ret v)/\R v s') E s:=by
 obtain ⟨o,ho,hc,hdat⟩:=hm;refine (?_:wpAny _ _ (dictSize d >>= _) _ _ s);unfold dictSize;refine Aa (Aa (Ba ho hdat (Ab ?_)));refine (?_:wpAny _ _ (Builtin.Dict.pendingCount d >>= _) _ _ s);refine Aa (wpAny_pendingCount_other hd ?_);refine wpAny_ret_mkInt ?_;simpa using h
theorem av7 {Q:Value->Shared->Prop} (hd:(d == Bo)=false) (hm:aqia s.heap d es ep) (hfit:(es.size:Int) < 2 ^ 63) (h:∀ t tk,Q (.int es.size t) { s with toks:=tk }):wpAny (model prog w) A (call (.builtin "len") [.ref d]) Q E s:=by
 refine Hm kind_len plain_len entry_len (args_len1 _) ?_;unfold Builtin.«len»;refine Aa (m:=oneArg "len" _) (Ab ?_);refine Aa (m:=callSpecial? (.ref d) (D8 "__len__")) (Es (name:=D8 "__len__") hm.ty J7
  (Bu J7 hm.ty PySem.F.entry_dict_len (aqbg hd hm ?_) (PySem.F.args_dict_len_1 _)))
 refine Aa (Bc (Ab ?_));refine Aa (Kl ?_);refine (?_:wpAny _ _ (if ((es.size:Nat):Int) < 0 then _ else _) _ _ _);rw [if_neg (by omega)];refine (?_:wpAny _ _ (if ((es.size:Nat):Int) ≥ 2 ^ 63 then _ else _) _ _ _);rw [if_neg (by omega)];exact Aa (wpAny_mkInt (Ab ⟨_,rfl,h _ _⟩))
end
theorem ak5 {X:Cx}:axp X (.builtin "len") (fun xs H Q=>∃ a kvs,xs=[V.ref a]/\H a=some (.dT kvs)/\Q (.int kvs.length) H):=by
 intro pins s σ H xs us Q I r h;obtain ⟨a,kvs,rfl,ha,q⟩:=h;obtain ⟨u,rfl,ru⟩:=aw2 r;cases ru;obtain ⟨o,es,ep,ho,hc,hd,hz,hsys,_⟩:=Inv.freezeT I ha;obtain ⟨z,_⟩:=(show aqx X.prog X.w H s.heap a (.dT kvs) from I.hok a _ ha);refine av7 hsys ⟨o,ho,hc,hd⟩ (by rw [hz]; rw [Ah] at z; omega) fun t tk=>⟨.int kvs.length,H,I.tok _,⟨t,by rw [hz]⟩,q⟩
end DL
namespace DL
open PySem PySem.Spec PyProof.Rows L2
theorem aVn {X:Cx} {K:Frag} (h:X.K=K) (hu:X.A.units + 64 + 1 < cLine):OpR X (Bi .In) (rInD K false):=by subst h; exact aX9 hu
theorem aQ5 {X:Cx} {K:Frag} {e:Expr} {f:Str} {pos:Pos} {ta:TE} (h:X.K=K) (he:PE X e ta) (hb:C6 e f X.env (eval e X.env)=eval e X.env):PE X (.Attribute e f pos) (tFld K ta f):=by subst h; exact aqa he hb
theorem aQ1 {X:Cx} {K:Frag} {pos:Pos} {es:List Expr} {k:Nat} {t:TGs} {n:Nat} (h:X.K=K) (hc:X.calm=true) (ht:PGs X es t)
  (hn:(Fp es X.env).length=n:=by rfl) (hst:(Fp es X.env).findIdx? (·.1)=none:=by rfl):PG X (.Tuple es k pos) (gTup K n t):=by subst h; exact aqak hc ht hn hst
theorem aqp {α β:Type} {xs:List α} {c:α->Bool} {e:α->β} {i:Nat} {x:α} (h:xs[i]?=some x):(((xs.take (i + 1)).filter c).map e)=(((xs.take i).filter c).map e)++(if c x=true then [e x] else []):=by
 have hi:=(Aj.mp h).1;have hx:=(Aj.mp h).2;rw [take_succ_eq_append_getElem hi,hx,List.filter_append,map_append];congr 1
 by_cases hc:c x=true
 ·simp [hc]
 ·simp [hc]
theorem aqk {K:Frag} {z:Addr} {xs:List V} {j:Nat} {tc:TT} {te:TE} {js:List (Option Nat)} {σ:L2.St} {H:Hp} {Q:Addr->Hp->Prop} (hz:SqL K H z xs) (hlen:xs.length < Ad) (c:V->Bool) (e:V->V) (S:L2.St->Prop) (hS:S (mkS js σ))
  (step:∀ (i:Nat) (x:V) (σ':L2.St) (H':Hp),xs[i]?=some x->S σ'->aqi7 H H'->S (σ'.set j (some x))/\(∀ R:Bool->Hp->Prop,R (c x) H'->tc (σ'.set j (some x)) H' R)/\(∀ R:VK,c x=true->R (e x) H'->te (σ'.set j (some x)) H' R))
  (k:∀ l,H l=none->Q l (upd H l (.lst ((xs.filter c).map e)))) :
  ∀ l,H l=none->∃ W:Nat->Nat->L2.St->Hp->Prop,(∃ m,W 0 m (mkS js σ) (upd H l (.lst [])))/\∀ i m σ H,W i m σ H ->
   ((Itl K z).stop i H/\Q l H) \/ ((Itl K z).go i H/\∀ x H',(Itl K z).yld i H x H'->aqw j x σ H' fun σ2 H2=>tc σ2 H2 fun b H3 =>
     if b=true then te σ2 H3 fun y H4=>∃ acc,H4 l=some (.lst acc)/\acc.length < Ad/\∃ m',m' < m/\W (i + 1) m' σ2 (upd H4 l (.lst (acc++[y]))) else ∃ m',m' < m/\W (i + 1) m' σ2 H3):=by
 intro l hl;refine ⟨fun i m σ' H'=>m=xs.length - i/\i <= xs.length/\S σ'/\H'=upd H l (.lst (((xs.take i).filter c).map e)),⟨_,rfl,zero_le _,hS,by simp⟩,?_⟩;rintro i m σ' H' ⟨rfl,hi,hs,rfl⟩;have sm:aqi7 H (upd H l (.lst (((xs.take i).filter c).map e))):=gd hl
 by_cases hlt:i < xs.length
 ·refine .inr ⟨⟨xs,xs[i],sm.seq hz,by simp [hlt]⟩,fun x H2 y=>?_⟩
  obtain ⟨rfl,y⟩:=y;have hx:=y xs (sm.seq hz);obtain ⟨s1,s2,s3⟩:=step i x σ' _ hx hs sm;refine s2 _ ?_
  by_cases hc:c x=true
  ·rw [if_pos hc]
   refine s3 _ hc ⟨_,cb,?_,_,(by omega:xs.length - (i + 1) < xs.length - i),rfl,hlt,s1,?_⟩
   ·have h1:(((xs.take i).filter c).map e).length <= (xs.take i).length:=by rw [length_map]; exact length_filter_le _ _
    rw [length_take] at h1;omega
   ·rw [aqp hx,if_pos hc]
    funext b
    by_cases hb:b=l
    ·subst hb; rw [cb,cb]
    ·rw [af hb,af hb,af hb]
  ·rw [if_neg hc]
   refine ⟨_,(by omega:xs.length - (i + 1) < xs.length - i),rfl,hlt,s1,?_⟩;rw [aqp hx,if_neg hc,Jq]
 ·have e1:i=xs.length:=by omega
  subst e1;refine .inl ⟨⟨xs,sm.seq hz,le_refl _⟩,?_⟩;rw [take_length];exact k l hl
theorem aJ9 {K:Frag} {z:Addr} {xs:List V} {j j':Nat} {tc:TT} {te:TE} {js:List (Option Nat)} {σ:L2.St} {H:Hp} {Q:Addr->Hp->Prop} (hz:SqL K H z xs) (hlen:xs.length < Ad) (c:Nat->V->Bool) (e:Nat->V->V) (S:L2.St->Prop) (hS:S (mkS js σ))
  (step:∀ (i:Nat) (x:V) (σ':L2.St) (H':Hp),xs[i]?=some x->S σ'->aqi7 H H'->S ((σ'.set j (some (.int (i:Int)))).set j' (some x))/\(∀ R:Bool->Hp->Prop,R (c i x) H'->tc ((σ'.set j (some (.int (i:Int)))).set j' (some x)) H' R)/\(∀ R:VK,c i x=true->R (e i x) H'->te ((σ'.set j (some (.int (i:Int)))).set j' (some x)) H' R))
  (k:∀ l H',H l=none->aqi7 H H'->H' l=some (.lst ((xs.zipIdx.filter fun p=>c p.2 p.1).map fun p=>e p.2 p.1))->Q l H') :
  ∀ l,H l=none->∃ W:Nat->Nat->L2.St->Hp->Prop,(∃ m,W 0 m (mkS js σ) (upd H l (.lst [])))/\∀ i m σ H,W i m σ H ->
   ((Ite K z).stop i H/\Q l H) \/ ((Ite K z).go i H/\∀ x H',(Ite K z).yld i H x H'->gTup K 2 (awp (aqw j) (awp (aqw j') gNil)) x σ H' fun σ2 H2=>tc σ2 H2 fun b H3 =>
     if b=true then te σ2 H3 fun y H4=>∃ acc,H4 l=some (.lst acc)/\acc.length < Ad/\∃ m',m' < m/\W (i + 1) m' σ2 (upd H4 l (.lst (acc++[y]))) else ∃ m',m' < m/\W (i + 1) m' σ2 H3):=by
 intro l hl;refine ⟨fun i m σ' H'=>m=xs.length - i/\i <= xs.length/\S σ'/\aqi7 H H'/\H' l=some (.lst (((xs.zipIdx.take i).filter fun p=>c p.2 p.1).map fun p=>e p.2 p.1)),⟨_,rfl,zero_le _,hS,gd hl,by simp [cb]⟩,?_⟩;rintro i m σ' H' ⟨rfl,hi,hs,sm,hl'⟩
 by_cases hlt:i < xs.length
 ·refine .inr ⟨⟨xs,xs[i],sm.seq hz,by simp [hlt]⟩,fun x H2 y=>?_⟩
  obtain ⟨T,v,rfl,hT,rfl,y⟩:=y;have hx:=y xs (sm.seq hz);have hx':xs.zipIdx[i]?=some (v,i):=by rw [List.getElem?_zipIdx,hx]; simp
  have sT:aqi7 H' (upd H' T (.tup [.int (i:Int),v])):=gd hT;have sm2:=sm.trans sT;have hl2:=sT _ _ hl';obtain ⟨s1,s2,s3⟩:=step i v σ' _ hx hs sm2;refine ⟨T,_,rfl,.inl (.inl cb),rfl,_,_,rfl,_,_,rfl,rfl,s2 _ ?_⟩
  by_cases hc:c i v=true
  ·rw [if_pos hc]
   refine s3 _ hc ⟨_,hl2,?_,_,(by omega:xs.length - (i + 1) < xs.length - i),rfl,hlt,s1,?_,?_⟩
   ·have h1:(((xs.zipIdx.take i).filter fun p=>c p.2 p.1).map fun p=>e p.2 p.1).length <= (xs.zipIdx.take i).length:=by rw [length_map]; exact length_filter_le _ _
    rw [length_take] at h1;omega
   ·intro b o hb
    rw [af (ac hb hl)];exact sm2 _ _ hb
   ·rw [cb,aqp (c:=fun p:V × Nat=>c p.2 p.1) (e:=fun p=>e p.2 p.1) hx',if_pos hc]
  ·rw [if_neg hc]
   refine ⟨_,(by omega:xs.length - (i + 1) < xs.length - i),rfl,hlt,s1,sm2,?_⟩;rw [aqp (c:=fun p:V × Nat=>c p.2 p.1) (e:=fun p=>e p.2 p.1) hx',if_neg hc,Jq];exact hl2
 ·have e1:i=xs.length:=by omega
  subst e1;refine .inl ⟨⟨xs,sm.seq hz,rfl⟩,?_⟩;rw [take_of_length_le (by simp)] at hl';exact k l _ hl sm hl'
def aqhj (p:List Int × Int):D:=.tup [.int p.2,.lst (p.1.map D.int)]
theorem akg {K:Frag} {F:Hp}:∀ {vs:List V} {ds:List D} {v:V} {d:D},Reps K F vs ds->Rep K F v d->Reps K F (vs++[v]) (ds++[d])
 | _,_,_,_,.nil,h=>.cons h .nil
 | _,_,_,_,.cons a t,h=>.cons a (akg t h)
theorem awy {K:Frag} {d:Addr} {o:Obj} {kv:List (List Int × Int)} {js:List (Option Nat)} {σ:L2.St} {H:Hp} {Q:Addr->Hp->Prop} (hd:H d=some (.frz o (.dT (kv.map fun p=>(p.1.map Sum.inl,V.int p.2))))) (hlen:kv.length < Ad) (hS:∃ c c',mkS js σ=[c,c'])
  (k:∀ l H' F,H l=none->aqi7 H H'->H' d=some (.frz o (.dT (kv.map fun p=>(p.1.map Sum.inl,V.int p.2))))->aqi7 F H'->F d=none->F l=none->(∃ ts,H' l=some (.lst ts)/\Reps K F ts (kv.map aqhj))->Q l H') :
  ∀ l,H l=none->∃ W:Nat->Nat->L2.St->Hp->Prop,(∃ m,W 0 m (mkS js σ) (upd H l (.lst [])))/\∀ i m σ H,W i m σ H ->
   ((ItI d o (kv.map fun p=>(p.1.map Sum.inl,V.int p.2))).stop i H/\Q l H) \/ ((ItI d o (kv.map fun p=>(p.1.map Sum.inl,V.int p.2))).go i H/\∀ x H',(ItI d o (kv.map fun p=>(p.1.map Sum.inl,V.int p.2))).yld i H x H'->gTup K 2 (awp (aqw 0) (awp (aqw 1) gNil)) x σ H' fun σ2 H2=>ajq σ2 H2 fun b H3 =>
     if b=true then tTup (axq (aqhb 1) (axq (tCB (rLOf K) (axq (aqhb 0) aqhc)) aqhc)) σ2 H3 fun y H4=>∃ acc,H4 l=some (.lst acc)/\acc.length < Ad/\∃ m',m' < m/\W (i + 1) m' σ2 (upd H4 l (.lst (acc++[y]))) else ∃ m',m' < m/\W (i + 1) m' σ2 H3):=by
 intro l hl;have nld:d ≠ l:=ac hd hl;refine ⟨fun i m σ' H'=>m=kv.length - i/\i <= kv.length/\(∃ c c',σ'=[c,c'])/\aqi7 H H'/\∃ F ts,aqi7 F H'/\F d=none/\F l=none/\H' l=some (.lst ts)/\ts.length=i/\Reps K F ts ((kv.take i).map aqhj),⟨_,rfl,zero_le _,hS,gd hl,fun _=>none,[],(fun b o e=>by cases e),rfl,rfl,cb,rfl,.nil⟩,?_⟩;rintro i m σ' H' ⟨rfl,hi,⟨c,c',rfl⟩,sm,F,ts,sF,Fd,Fl,hl',hts,rp⟩
 by_cases hlt:i < kv.length
 ·refine .inr ⟨⟨sm _ _ hd,by rw [length_map]; exact hlt⟩,fun x H2 y=>?_⟩
  obtain ⟨T,a,p,rfl,hT,hp,ha,rfl⟩:=y;rw [getElem?_map,getElem?_eq_getElem hlt] at hp;have hp':p=(kv[i].1.map Sum.inl,V.int kv[i].2):=(Option.some.inj hp).symm;subst hp';rw [show ((kv[i].1.map Sum.inl:List Key).map kV)=kv[i].1.map V.int by rw [map_map]; rfl] at ha;have sT:aqi7 H' (upd H' T (.tup [.ref a,.int kv[i].2])):=gd hT;refine ⟨T,_,rfl,.inl (.inl cb),rfl,_,_,rfl,_,_,rfl,rfl,?_⟩;dsimp only [ajq];rw [if_pos rfl];have ha1:=sT _ _ ha;have hl1:=sT _ _ hl';have sm1:=sm.trans sT;have sF1:=sF.trans sT;generalize upd H' T (.tup [.ref a,.int kv[i].2])=H1 at ha1 hl1 sm1 sF1 ⊢;refine ⟨_,rfl,_,rfl,a,_,rfl,.inr (.inl (.inl ha1)),fun q hq=>⟨by show 2 <= Ad; decide,fun t ht=>?_⟩⟩;have s2:aqi7 H1 (upd H1 q (.lst (kv[i].1.map V.int))):=gd hq;have s3:aqi7 (upd H1 q (.lst (kv[i].1.map V.int))) (upd (upd H1 q (.lst (kv[i].1.map V.int))) t (.tup [.int kv[i].2,.ref q])):=gd ht;have nql:q ≠ l:=(ac hl1 hq).symm;have ntl:t ≠ l:=(ac (s2 _ _ hl1) ht).symm;have nqd:q ≠ d:=(ac (sm1 _ _ hd) hq).symm;have ntd:t ≠ d:=(ac (s2 _ _ (sm1 _ _ hd)) ht).symm;have ntq:q ≠ t:=ac cb ht;have Fq:F q=none:=sF1.free hq;have Ft:(upd F q (.lst (kv[i].1.map V.int))) t=none:=by rw [af ntq.symm]; exact sF1.free (s2.free ht)
  have sA:aqi7 F (upd (upd F q (.lst (kv[i].1.map V.int))) t (.tup [.int kv[i].2,.ref q])):=(gd Fq).trans (gd Ft);refine ⟨ts,s3 _ _ (s2 _ _ hl1),by omega,_,(by omega:kv.length - (i + 1) < kv.length - i),rfl,hlt,⟨_,_,rfl⟩,fun b o' hb=>?_,upd (upd F q (.lst (kv[i].1.map V.int))) t (.tup [.int kv[i].2,.ref q]),ts++[.ref t],fun b o' hb=>?_,?_,?_,cb,by simp [hts],?_⟩
  ·rw [af (ac hb hl)]
   exact s3 _ _ (s2 _ _ (sm1 _ _ hb))
  ·by_cases hbt:b=t
   ·subst hbt
    rw [cb] at hb;rw [af ntl,cb]; exact hb
   ·rw [af hbt] at hb
    by_cases hbq:b=q
    ·subst hbq
     rw [cb] at hb;rw [af nql,af hbt,cb]; exact hb
    ·rw [af hbq] at hb
     have nbl:b ≠ l:=ac hb Fl;rw [af nbl,af hbt,af hbq];exact sF1 _ _ hb
  ·rw [af ntd.symm,af nqd.symm]; exact Fd
  ·rw [af ntl.symm,af nql.symm]; exact Fl
  ·rw [take_succ_eq_append_getElem hlt,map_append]
   refine akg ((aj6 sA).2 rp) ?_;refine .tup (.inl (.inl cb)) (.cons (.int _) (.cons (.lst (.inl (.inl ?_)) (aqn _)) .nil));rw [af ntq,cb]
 ·have e1:i=kv.length:=by omega
  subst e1;refine .inl ⟨⟨sm _ _ hd,by rw [length_map]; exact le_refl _⟩,?_⟩;rw [take_length] at rp;exact k l H' F hl sm (sm _ _ hd) sF Fd Fl ⟨ts,hl',rp⟩
def aqhx (st:List Str) (y:Str):Nat:=st.findIdx fun x=>decide (x=y)
def aVk (K:Frag):V->List V->Hp->VK->Prop:=fun x vs H Q=>∃ (l:Addr) (st:List Str) (y:Str),x=.ref l/\vs=[.str y]/\SqL K H l (st.map V.str)/\y∈st/\st.length <= 100/\Q (.int (aqhx st y:Nat)) H
theorem aY7 (x y:Str):(x.cps.toList == y.cps.toList)=decide (x=y):=by
 rw [Ax,decide_eq_true_eq,beq_iff_eq];constructor
 ·intro h
  obtain ⟨⟨l⟩⟩:=x;obtain ⟨⟨m⟩⟩:=y;simp at h;rw [h]
 ·rintro rfl; rfl
theorem aZe {X:Cx} {K:Frag} (hK:X.K=K):MtR X "list.index" (aVk K):=by
 subst hK;intro pins s σ H x vs v us Q I rx rv h;obtain ⟨l,st,y,rfl,rfl,hq,hin,hlen,q⟩:=h;cases rx;obtain ⟨u,rfl,t,rfl⟩:=rv.one;obtain ⟨its,r,hpl,hz⟩:=I.list hq;have hsz:its.length=st.length:=by rw [<- r.length,length_map]
 have hit:∀ (i:Nat) (hi:i < its.length),∃ t,its[i]=.str (st.getD i "") t:=by
  intro i hi;have hi':i < st.length:=by omega
  obtain ⟨u,hu,ru⟩:=r.get (i:=i) (x:=.str st[i]) (by simp [hi']);obtain ⟨t,rfl⟩:=ru;refine ⟨t,?_⟩;rw [Aj] at hu;obtain ⟨h1,h2⟩:=hu;rw [h2];simp [hi']
 have hj:aqhx st y < st.length:=Ff ⟨y,hin,by simp⟩;obtain ⟨⟨cls,dd,data,sl⟩,ho,hc,n,hd⟩:=id hpl.isList;simp only at hc hd;subst hc hd;have e1:∀ i (hi:i < its.length),(match its[i] with | .str x _=>decide (x=y) | _=>false)=decide (st.getD i ""=y):=by
  intro i hi;obtain ⟨t',e⟩:=hit i hi;rw [e]
 refine G6 Ja ⟨_,ho,rfl⟩ PySem.F.entry_list_index (PySem.F.args_list_index_2 _ _)
  (SeqAt.list_indexAt l its.toArray n dd sl (.str y t) (fun v=>match v with | .str x _=>decide (x=y) | _=>false) (aqhx st y) (by simpa [hsz] using hj) (by omega) ?_ ?_) ⟨ho,fun v hv=>?_,?_⟩
 ·have:=e1 (aqhx st y) (by omega)
  refine Eq.trans (show _=_ from this) ?_;rw [decide_eq_true_eq];have h2:=Ko (p:=fun x=>decide (x=y)) (xs:=st) (w:=hj);simp at h2;simp only [getD_eq_getElem?_getD];rw [getElem?_eq_getElem hj];exact h2
 ·intro m hm hlt
  have hm':m < its.length:=by simpa using hm
  refine Eq.trans (show _=_ from e1 m hm') ?_;rw [decide_eq_false_iff_not];have h2:=List.not_of_lt_findIdx (p:=fun x=>decide (x=y)) (xs:=st) (i:=m) hlt;simp at h2;have hm2:m < st.length:=by omega
  simp only [getD_eq_getElem?_getD];rw [getElem?_eq_getElem hm2];exact h2
 ·obtain ⟨i,hi,rfl⟩:=getElem_of_mem (by simpa using hv:v∈its)
  obtain ⟨t',e⟩:=hit i hi;rw [e];show SeqAt.EqAt _ _ _ _ (decide (st.getD i ""=y));rw [<- aY7];exact (SeqRoads2.EqGives.str _ _ _ _).at _ _
 ·exact ⟨.int (aqhx st y:Nat),H,I.tok _,⟨_,rfl⟩,q⟩
end DL
namespace DL
open PySem PySem.Spec PyProof.Rows L2 SortW PySem.W
section
variable {prog:Af} {w:World} {A:Around} {E:Value->Shared->Prop} {s:Shared} {a b:Addr} {es es':Array DictEntry} {ep ep':Nat}
end
end DL
namespace DL
open PySem PySem.Spec PySem.Builtin.Str PyProof PyProof.Rows L2
theorem aZ8:∀ {l:List (Str × Tok)} {ys:List Str},l.map (·.1)=ys->aqi6 (ys.map V.str) (strValues l)
 | [],[],_=>.nil
 | p :: l,y :: ys,h=>by
  obtain ⟨rfl,h'⟩:=List.cons.inj h;exact .cons ⟨p.2,rfl⟩ (aZ8 h')
 | [],_ :: _,h=>by cases h
 | _ :: _,[],h=>by cases h
theorem aj1:∀ {ys:List Str} {its:List Value},aqi6 (ys.map V.str) its->StrsAre its ys
 | [],[],_=>.nil
 | y :: ys,v :: its,h=>by
  cases h with
  | cons a b =>
   obtain ⟨t,rfl⟩:=a;exact .cons _ _ (aj1 b)
 | [],_ :: _,h=>by cases h
 | _ :: _,[],h=>by cases h
def rJoin (K:Frag):V->List V->Hp->VK->Prop:=fun x vs H Q=>∃ (z:Str) (l:Addr) (ys:List Str),x=.str z/\vs=[.ref l]/\SqL K H l (ys.map V.str)/\(ys.map (·.length)).sum + ys.length * z.length <= 16777216/\Q (.str (Eh z ys)) H
theorem axw {X:Cx} {K:Frag} (hK:X.K=K):MtR X "str.join" (rJoin K):=by
 subst hK;intro pins s σ H x vs v us Q I rx rv h;obtain ⟨z,l,ys,rfl,rfl,hq,hz,q⟩:=h;obtain ⟨t,rfl⟩:=rx;obtain ⟨u,rfl,ru⟩:=rv.one;cases ru;obtain ⟨its,r,hpl,_⟩:=I.list hq;exact join_list hpl.isList (by simpa using aj1 r) hz fun t' k=>⟨.str _,H,I.tok _,⟨t',rfl⟩,q⟩
def rSplit:V->List V->Hp->VK->Prop:=fun x vs H Q=>∃ (z y:Str),x=.str z/\vs=[.str y]/\(y.length == 0)=false/\z.length + 2 <= Ad/\∀ l,H l=none->Q (.ref l) (upd H l (.lst ((Txt.split z y).map V.str)))
theorem aWt {X:Cx}:MtR X "str.split" rSplit:=by
 intro pins s σ H x vs v us Q I rx rv h;obtain ⟨x,y,rfl,rfl,hy,hsz,q⟩:=h;obtain ⟨t,rfl⟩:=rx;obtain ⟨w',rfl,u,rfl⟩:=rv.one;have hn:(partsBetween x (occurrences x y 0 x.length (x.length + 1)) y.length).length <= Ad:=by
  have e1:=StrLaws.occ_length_le x y 0 x.length (x.length + 1);rw [length_partsBetween]; omega
 have fin:∀ (l:List (Str × Tok)) (k:Nat),l.map (·.1)=Txt.split x y->l.length <= Ad->EP X pins σ Q (.ref s.heap.objs.size) { s with heap:=s.heap.push { cls:=.type "list",data:=.seq (strValues l).toArray },toks:=k }:=fun l k e hl =>
  ⟨.ref s.heap.objs.size,_,I.laid (t':=k) (fun b o hb=>Ac _ hb) (le_refl _) (show aqx X.prog X.w _ _ _ (.lst ((Txt.split x y).map V.str)) from ⟨by rw [length_map,<- e,length_map]; exact hl,strValues l,_,aZ8 e,Ag _ rfl⟩),rfl,q _ (I.hok.fresh (le_refl _))⟩
 cases h1:(decide (x.length < y.length) || decide (strKind x < strKind y))
 ·cases hf:(occurrences x y 0 x.length (x.length + 1)).isEmpty
  ·refine G6 Jb (Fu _ _ _) Hz (Hg _ _) (meets_str_split_sep x y t u h1 hy hf (by omega) hn) ?_
   show wants _ _ _ { s with toks:=_,heap:=s.heap.push { cls:=.type "list",data:=.seq (strsFrom s.toks (partsBetween x (occurrences x y 0 x.length (x.length + 1)) y.length)).toArray } };rw [strsFrom_eq];exact fin (numbered s.toks _) _ ((numbered_texts _ _).trans ((if_neg (ne_true_of_eq_false h1)).trans (if_neg (ne_true_of_eq_false hf))).symm) (by rw [<- length_map (f:=(·.1)),numbered_texts]; exact hn)
  ·exact G6 Jb (Fu _ _ _) Hz (Hg _ _) (meets_str_split_not_found x y t u h1 hy hf)
    (fin [(x,t)] s.toks ((if_neg (ne_true_of_eq_false h1)).trans (if_pos hf)).symm (by show 1 <= Ad; decide))
 ·exact G6 Jb (Fu _ _ _) Hz (Hg _ _) (meets_str_split_cannot_occur x y t u h1)
   (fin [(x,t)] s.toks (if_pos h1).symm (by show 1 <= Ad; decide))
end DL
namespace DL
open PySem PySem.Spec PyProof PyProof.Rows L2
def Its (x:Str):It:=⟨fun i _=>i < x.cps.size,fun i H v H'=>H'=H/\∃ c,x.cps[i]?=some c/\v=.str ⟨#[c]⟩,fun i _=>x.cps.size <= i⟩
theorem aKb {P:Af} {w:World} {K:Frag} {tg:Expr} (it:Addr) (x:Str) (t:Tok):Turn P w K tg (Its x) [it] it (fun i h=>h.IsStrIter it "str_ascii_iterator" x t i) where
 mem:=by simp
 obj:=fun i h st b hb=>by
  have e:b=it:=by simpa using hb
  subst e;obtain ⟨o,e,c,d⟩:=st;exact ⟨o,e,fun v z=>by rw [d] at z; cases z⟩
 keep:=fun i h h' st k=>by
  obtain ⟨o,e,c,d⟩:=st;exact ⟨o,k it (by simp) o e,c,d⟩
 item:=by
  intro X hP hw hK hc i pins s σ H E I hf st hg;subst hP hw hK;have hi:i < x.cps.size:=hg;obtain ⟨f0,f1,f2,f3,f4,f5⟩:=hf it (by simp);have hx:x.cps[i]?=some x.cps[i]:=Cq hi;refine wpAny_pyNext_ascii_item st hx fun h' st' sb=>?_;have I1:L2.Inv X pins σ H { s with heap:=h',toks:=s.toks + 1 }:=I.turned (fun b o hb e=>(sb.2 b hb).trans e) f0 f1 f3 f4 f5;obtain ⟨o,e,c,d⟩:=id st';exact ⟨_,rfl,go_of (s:={ s with heap:=h',toks:=s.toks + 1 }) e c d (by decide) ⟨.str ⟨#[x.cps[i]]⟩,H,I1,⟨s.toks,rfl⟩,⟨rfl,_,hx,rfl⟩,st',fun b hb=>(hf b hb).1⟩⟩
 done:=by
  intro X hP hw hK hc i pins s σ H E I hf st hg;subst hP hw hK;have hi:x.cps.size <= i:=hg;obtain ⟨f0,f1,f2,f3,f4,f5⟩:=hf it (by simp);exact wpAny_pyNext_ascii_end (I.ok.hd hc) st (getElem?_eq_none hi) fun h' eb=>⟨rfl,I.turned (t':=s.toks) (fun b o hb e=>eb b o hb e) f0 f1 f3 f4 f5⟩
 self:=fun _ _ _ _ _ st h=>wpAny_pyIter_striter_ascii st h
def iStr (tl:TE):TI:=fun σ H R=>tl σ H fun v H1=>∃ x:Str,v=.str x/\x.cps.all (· < 128)=true/\R (Its x) H1
theorem aqai {X:Cx} {tg l:Expr} {tl:TE} (hl:PE X l tl):PI X tg l (iStr tl):=by
 intro pins s σ H R I h;refine thn (hl pins s σ H _ I h) fun v s1 hQ=>?_;obtain ⟨x,H1,I1,r1,q1⟩:=hQ;obtain ⟨z,rfl,ha,q⟩:=q1;obtain ⟨t,rfl⟩:=r1;refine wpAny_pyIter_ascii ha ?_;refine ⟨s1.heap.objs.size,[s1.heap.objs.size],_,_,H1,rfl,I1.kept (t':=s1.toks) fun b o e=>Ac _ e,aKb _ z t,⟨_,Ag _ rfl,rfl,rfl⟩,fun b hb=>?_,q⟩;have e:b=s1.heap.objs.size:=by simpa using hb
 subst e;exact I1.fpOk (le_refl _) (I1.hok.fresh (le_refl _))
theorem azm {X:Cx}:axp X (.type "int") (fun xs H Q=>∃ (x:Str) (n:Int),xs=[.str x]/\PySem.intText? x=some n/\x.length <= 640/\Q (.int n) H):=by
 intro pins s σ H xs us Q I r h;obtain ⟨x,n,rfl,hn,hl,q⟩:=h;obtain ⟨u,rfl,t,rfl⟩:=aw2 r;exact PySem.W.KIN.call_text hn hl ⟨.int n,H,I.tok _,⟨_,rfl⟩,q⟩
theorem ak4 {X:Cx}:axp X (.type "str") (fun xs H Q=>(∃ i:Int,xs=[.int i]/\i.natAbs.log2 < 1920/\Q (.str (toString i)) H) \/ ∃ x:Str,xs=[.str x]/\Q (.str x) H):=by
 intro pins s σ H xs us Q I r h;rcases h with ⟨i,rfl,hz,q⟩ | ⟨x,rfl,q⟩
 ·obtain ⟨u,rfl,t,rfl⟩:=aw2 r
  exact La hz ⟨.str _,H,I.tok _,⟨_,rfl⟩,q⟩
 ·obtain ⟨u,rfl,t,rfl⟩:=aw2 r
  exact PySem.P.str_of_str ⟨.str x,H,I,⟨t,rfl⟩,q⟩
end DL
namespace SetT
open PySem PySem.Spec PyProof PyProof.Rows SetW
def dd (σ:List Str) (v:Str):List Str:=if v∈σ then σ else σ++[v]
def fmv (val:Nat->Str) (i:Nat):List Str:=((Ay i).map val).foldl dd []
theorem fmv_succ (val:Nat->Str) (i:Nat):fmv val (i + 1)=dd (fmv val i) (val i):=by
 unfold fmv; rw [List.range_succ,map_append,List.foldl_append]; rfl
theorem dd_len (σ:List Str) (v:Str):(dd σ v).length=if decide (v∈σ)=true then σ.length else σ.length + 1:=by
 unfold dd
 by_cases h:v∈σ
 ·rw [if_pos h,if_pos (by simpa using h)]
 ·rw [if_neg h,if_neg (by simpa using h)]; simp
theorem dd_mem (σ:List Str) (v k:Str):decide (k∈dd σ v)=(decide (k∈σ) || decide (k=v)):=by
 rw [Ax,En,decide_eq_true_eq,decide_eq_true_eq,decide_eq_true_eq];unfold dd;split
 ·rename_i h
  exact ⟨.inl,fun z=>z.elim id fun e=>e ▸ h⟩
 ·simp
theorem fmv_len (val:Nat->Str):∀ i,(fmv val i).length <= i
 | 0=>le_refl _
 | i + 1=>by
  have ih:=fmv_len val i;rw [fmv_succ,dd_len];split <;> omega
theorem strAt {vs:List Value} {ys:List Str} (h:StrsAre vs ys):∀ (i:Nat) (v:Value),vs[i]?=some v->∃ t:Tok,v=Value.str (ys.getD i "") t:=by
 induction h with
 | nil=>intro i v e; simp at e
 | cons y t r ih =>
  intro i v e;cases i with
  | zero=>cases e; exact ⟨t,rfl⟩
  | succ i=>exact ih i v (by simpa using e)
section
variable {prog:Af} {w:World} {A:Around} {E:Value->Shared->Prop} {s:Shared}
def aqc (prog:Af) (w:World) (h:Heap) (a:Addr) (S:Str->Bool) (n:Nat):Prop :=
 ∃ o es ep t,h.get? a=some o/\o.ExactSet/\o.data=.set es ep t/\Ji (strKind prog w) es.toList/\(∀ k,S k=true ↔ ∃ e∈es.toList,(strKind prog w).is k e.2=true)
 /\es.size < Bj/\t.fits es.size=true/\es.size=n/\axo (!aqi4 w) t
theorem aqc.congr {h:Heap} {a:Addr} {S S':Str->Bool} {n n':Nat} (hS:aqc prog w h a S n) (e:∀ k,S k=S' k) (en:n=n'):aqc prog w h a S' n':=by
 have:S=S':=funext e
 subst this; subst en; exact hS
theorem aqc.at {h h':Heap} {a:Addr} {S:Str->Bool} {n:Nat} (hS:aqc prog w h a S n) (e:∀ o,h.get? a=some o->h'.get? a=some o):aqc prog w h' a S n:=by
 obtain ⟨o,es,ep,t,ho,r⟩:=hS;exact ⟨o,es,ep,t,e o ho,r⟩
theorem aqc.store {h:Heap} {a:Addr} {o:Obj} {es:Array (Int × Value)} {ep:Nat} {t:SetTable} (ho:h.get? a=some o) (hex:o.ExactSet) (hd:o.data=.set es ep t)
  {es':Array (Int × Value)} {t':SetTable} {S':Str->Bool} (hel:Ji (strKind prog w) es'.toList) (hmem:∀ k,S' k=true ↔ ∃ e∈es'.toList,(strKind prog w).is k e.2=true) (hb:es'.size < Bj) (hf:t'.fits es'.size=true) (ht:axo (!aqi4 w) t') :
  (h.update a (G8 es' t')).get? a=some { o with data:=.set es' (ep + 1) t' }/\aqc prog w (h.update a (G8 es' t')) a S' es'.size:=by
 have q:=(SetOf_store (knd:=strKind prog w) ho hex hd hel hmem hb hf).1;exact ⟨q,_,es',ep + 1,t',q,hex,rfl,hel,hmem,hb,hf,rfl,ht⟩
theorem aza {a:Addr} {S:Str->Bool} {n:Nat} {k:Str} {x:Value} {Q:Bool->Shared->Prop} (hkey:(strKind prog w).is k x=true) (hsc:x.scannable=true) (hS:aqc prog w s.heap a S n)
  (hroom:n + 1 < Bj)
  (h:∀ h',Heap.SameBut a s.heap h'->aqc prog w h' a (fun k'=>S k' || decide (k'=k)) (if S k then n else n + 1)->Q (!S k) { s with heap:=h' }) :
  wpAny (model prog w) A (Jj a x ((strKind prog w).hash k)) Q E s:=by
 obtain ⟨o,es,ep,t,ho,hex,hd,hel,hmem,hb,hf,hn,ht⟩:=hS;unfold Jj G9;refine Bc (Aa (wpAny_setState_of ho hd hf ?_));dsimp only;rw [byScan_of hsc hb hel];simp only [↓reduceIte];unfold setAddByScan;refine Aa (Aa (Ci (Aa (wpAny_setScan_of hkey ho hd hf hel ?_))));cases hr:List.findIdx? (fun e=>(strKind prog w).is k e.2) es.toList with
 | some j =>
  dsimp only;obtain ⟨hj,hpj,_⟩:=Eu.mp hr;have hSk:S k=true:=(hmem k).mpr ⟨es.toList[j],getElem_mem hj,hpj⟩;refine Ab (Ab ?_)
  have:=h s.heap (Heap.SameBut.refl a s.heap) ⟨o,es,ep,t,ho,hex,hd,hel,fun k'=>by
   rw [En,decide_eq_true_eq,<- hmem k'];exact ⟨fun hk=>hk.elim id (fun e=>e ▸ hSk),.inl⟩,hb,hf,by rw [hSk]; exact hn,ht⟩
  rw [hSk] at this;exact this
 | none =>
  dsimp only;have hSk:S k=false:=by
   cases hk:S k with
   | false=>rfl
   | true=>obtain ⟨e,he,hp⟩:=(hmem k).mp hk; have:=Hl.mp hr e he; rw [hp] at this; exact Bool.noConfusion this
  have hperm:=layNew_perm t es ((strKind prog w).hash k) x;have hfits:=layNew_fits t es ((strKind prog w).hash k) x;have hok:=ht.lay es ((strKind prog w).hash k) x;generalize hL:layNew t es ((strKind prog w).hash k) x=L at hperm hfits hok ⊢;obtain ⟨es1,t1,wasDummy,gave⟩:=L;dsimp only at hperm hfits hok ⊢;rw [Array.toList_push] at hperm;have hel1:Ji (strKind prog w) es1.toList:=(hel.push hkey hsc).perm hperm;have hmem1:∀ k',(S k' || decide (k'=k))=true ↔ ∃ e∈es1.toList,(strKind prog w).is k' e.2=true:=mem_push_iff hkey hmem hperm;have hsz1:es1.size=n + 1:=by rw [<- length_toList,hperm.length_eq,length_append,length_toList,hn]; rfl
  have hb1:es1.size < Bj:=by rw [hsz1]; exact hroom
  have hgw:∀ (b:Bool) {s₁:Shared} {Q':Unit->Shared->Prop},Q' () s₁->wpAny (model prog w) A (match b with | true=>rule "set.scan.the-table-gave-way" | false=>pure ()) Q' E s₁ :=
   fun b s₁ Q' hq=>by cases b <;> first | exact Ab hq | exact Ci hq
  have hend:∀ h',Heap.SameBut a s.heap h'->aqc prog w h' a (fun k'=>S k' || decide (k'=k)) es1.size->Q true { s with heap:=h' }:=by
   intro h' hsb hS'
   have:=h h' hsb
   rw [hSk] at this;rw [hsz1] at hS';exact this hS'
  refine Aa (hgw _ ?_);have fin:∀ t2:SetTable,t2.fits es1.size=true->axo (!aqi4 w) t2->∀ (g:Bool->Sem Unit),(∀ (b:Bool) (s₁:Shared) (Q':Unit->Shared->Prop),Q' () s₁->wpAny (model prog w) A (g b) Q' E s₁) ->
    wpAny (model prog w) A (do
     Mj a es1 t2
     if (!wasDummy && t2.tooFull) = true then do
         g (E3 t2 es1 (Az es1.size)).2.2
         Mj a (E3 t2 es1 (Az es1.size)).1 (E3 t2 es1 (Az es1.size)).2.1
         pure (some true)
      else pure (some true)) (fun r s'=>wpAny (model prog w) A (match r with | some added=>pure added | none=>G9 a x ((strKind prog w).hash k) 99999) Q E s') E s:=by
   intro t2 f2 k2 g hg;refine Aa (E4 ho hd ?_ (E5 hb1));obtain ⟨ho1,hS1⟩:=aqc.store (prog:=prog) ho hex hd hel1 hmem1 hb1 f2 k2;have hsb1:=A9 s.heap a (G8 es1 t2);split
   ·have hp:=relayAll_perm t2 es1 (Az es1.size)
    have hfr:=relayAll_fits t2 es1 (Az es1.size);have hkr:=k2.relay es1 (Az es1.size);generalize hRl:E3 t2 es1 (Az es1.size)=Rl at hp hfr hkr ⊢;obtain ⟨es2,t3,gave2⟩:=Rl;dsimp only at hp hfr hkr ⊢;have hel2:Ji (strKind prog w) es2.toList:=hel1.perm hp;have hmem2:∀ k',(S k' || decide (k'=k))=true ↔ ∃ e∈es2.toList,(strKind prog w).is k' e.2=true:=fun k'=>(hmem1 k').trans ⟨fun ⟨e,he,q⟩=>⟨e,hp.mem_iff.mpr he,q⟩,fun ⟨e,he,q⟩=>⟨e,hp.mem_iff.mp he,q⟩⟩;have hsz:es2.size=es1.size:=by rw [<- length_toList,hp.length_eq,length_toList]
    have hb2:es2.size < Bj:=by rw [hsz]; exact hb1
    refine Aa (hg _ _ _ ?_);refine Aa (E4 ho1 rfl ?_ (E5 hb2));obtain ⟨_,hS2⟩:=aqc.store (prog:=prog) ho1 hex rfl hel2 hmem2 hb2 hfr hkr;rw [hsz] at hS2;exact Ab (Ab (hend _ (hsb1.trans (A9 _ a _)) hS2))
   ·exact Ab (Ab (hend _ hsb1 hS1))
  split
  ·refine Aa ?_
   rw [J0 8 hsc];refine Ab ?_;refine fin _ ?_ ?_ _ ?_
   ·split
    ·exact hfits
    ·exact Im hfits
   ·split
    ·exact hok
    ·exact hok.plainOff
   ·intro b s₁ Q' hq; cases b <;> first | exact Ab hq | exact Ci hq
  ·refine Aa (Ab ?_)
   simp only [↓reduceIte];refine fin _ hfits hok _ ?_;intro b s₁ Q' hq; cases b <;> first | exact Ab hq | exact Ci hq
theorem ax8 {R:L6->Shared->Prop} {I:Addr} {fp wr:List Addr} {G:Array J8->Array J8->Prop} {n:Nat} {P:Nat->Value->Prop} {St:Nat->Shared->Prop} (W:WalksS prog w A.in1 I fp wr G n P St) (S:Addr) (hSf:S ∉ fp)
  (val:Nat->Str) (hval:∀ i v,P i v->∃ t,v=.str (val i) t) (hb:n + 1 < Bj) :
  ∀ (k i:Nat) (s:Shared),n - i=k->i <= n->St i s->aqc prog w s.heap S (fun k'=>decide (k'∈fmv val i)) (fmv val i).length ->
   (∀ s',Moved (S :: wr) G s s'->aqc prog w s'.heap S (fun k'=>decide (k'∈fmv val n)) (fmv val n).length->R (.ok (.ret .none)) s') ->
   Em (model prog w) A (.builtin "set.update.loop" ⟨[.ref S,.ref I],[]⟩) R s:=by
 have hSw:S ∉ wr:=fun h=>hSf (W.sub _ h);have hsub:∀ b∈wr,b∈S :: wr:=fun b hb=>mem_cons_of_mem _ hb;intro k
 induction k with
 | zero =>
  intro i s hk hi hst hS hR;have hin:i=n:=by omega
  subst hin;refine Bx Dg ?_;rw [Br Bt _];show wpAny _ A.in1 (Ex (.ref I) >>= _) _ _ s;refine Aa (W.done s _ _ hst fun s' hm=>?_);show wpAny _ A.in1 (ret Value.none) _ _ s';exact Ab (hR s' (hm.mono hsub) (hS.at fun o e=>hm.heap S _ hSw e))
 | succ k ih =>
  intro i s hk hi hst hS hR;have hlt:i < n:=by omega
  refine Bx Dg ?_;rw [Br Bt _];show wpAny _ A.in1 (Ex (.ref I) >>= _) _ _ s;refine Aa (W.item i s _ _ hlt hst fun v s' hP hst' hm=>?_);obtain ⟨t,rfl⟩:=hval i v hP;have hS':=hS.at (h':=s'.heap) fun o e=>hm.heap S _ hSw e;show wpAny _ A.in1 (Md [Value.str (val i) t] (setAdd S (.str (val i) t)) >>= _) _ _ s';refine Aa (Bc ?_);unfold setAdd;refine Bc ?_;refine Aa ((strKind prog w).pyHash (k:=val i) (strKind_is _ _ _ _) ?_);have hroom:(fmv val i).length + 1 < Bj:=by have:=fmv_len val i; omega
  refine aza (s:={ s' with toks:=s'.toks + 1 }) (strKind_is _ _ _ _) rfl hS' hroom fun h' hsb hS2=>?_;have hSi:aqc prog w h' S (fun k'=>decide (k'∈fmv val (i + 1))) (fmv val (i + 1)).length :=
   hS2.congr (fun k'=>by rw [fmv_succ,dd_mem]) (by rw [fmv_succ,dd_len])
  refine Ab ⟨Ig Bt _,ih (i + 1) _ (by omega) hlt (W.frame _ s' _ _ hst' (le_succ _) fun b hb o e=>?_) hSi fun s'' hm'' hS''=>?_⟩
  ·rw [hsb.2 b (fun h:b=S=>hSf (by rw [<- h]; exact hb))]; exact e
  ·refine hR s'' (Moved.trans W.gtrans ((hm.mono hsub).then_heap (le_succ _) fun b o hb e=>?_) hm'') hS''
   rw [hsb.2 b (fun h:b=S=>hb (by rw [h]; exact mem_cons_self))]; exact e
set_option maxHeartbeats 3200000 in
theorem call_set_in {l:Addr} {items:Array Value} {ns:List Str} {Q:Value->Shared->Prop}
  (hh:A.handled=none) (hl:s.heap.IsList l items) (hi:StrsAre items.toList ns) (hb:items.size + 1 < Bj)
  (h:∀ (h':Heap) (tk:Nat),aqc prog w h' s.heap.objs.size (fun k'=>decide (k'∈fmv (fun i=>ns.getD i "") items.size)) (fmv (fun i=>ns.getD i "") items.size).length ->
   (∀ b o,b < s.heap.objs.size->s.heap.get? b=some o->h'.get? b=some o)->Q (.ref s.heap.objs.size) { s with heap:=h',toks:=tk }) :
  wpAny (model prog w) A (call (.type "set") [.ref l]) Q E s:=by
 obtain ⟨c,tl,hmro⟩:=A7.mro;have hmade:=A7.made;have hsub:=A7.sub;refine Lb (Jt ?_);show wpAny _ _ (callAny (.type "set") _) _ _ _;refine Ab ⟨Li _ (by decide +kernel),Bx F.entry_type_call ?_⟩;rw [Lj (J1 "set" [.ref l] []) rfl];have h1:=A7.notType;have h2:=A7.canCreate;have hct:=F.typeCall_set_1 (.ref l)
 repeat (any_goals (first | assumption | wp_step))
 refine C0 (azx (.ref l) (E:=E) (Q₁:=fun obj s₁=>obj=.ref s.heap.objs.size/\s₁={ s with heap:=s.heap.push { cls:=.type "set",dict:=none,data:=.set #[] 0 (.fresh 0 0 (!aqi4 w)) } }) ⟨rfl,rfl⟩) fun r s₁ hr=>?_;cases r with
 | error e=>exact hr
 | ok fl =>
  cases fl with
  | ret obj =>
   obtain ⟨rfl,rfl⟩:=hr;have hS:(s.heap.push { cls:=.type "set",dict:=none,data:=.set #[] 0 (.fresh 0 0 (!aqi4 w)) }).get? s.heap.objs.size=some { cls:=.type "set",dict:=none,data:=.set #[] 0 (.fresh 0 0 (!aqi4 w)) }:=Ag _ rfl;have hT:Fz { s with heap:=s.heap.push { cls:=.type "set",dict:=none,data:=.set #[] 0 (.fresh 0 0 (!aqi4 w)) } } (.ref s.heap.objs.size) "set":=⟨_,hS,rfl⟩;have hli:=A7.init.lookup;have hbi:=A7.init.bind (.ref s.heap.objs.size)
   repeat (any_goals (first | assumption | wp_step))
   refine C0 (Kd (R:=wants (fun r s₂=>r=.none/\∃ h' tk,s₂={ s with heap:=h',toks:=tk } /\
     aqc prog w h' s.heap.objs.size (fun k'=>decide (k'∈fmv (fun i=>ns.getD i "") items.size)) (fmv (fun i=>ns.getD i "") items.size).length /\
     (∀ b o,b < s.heap.objs.size->s.heap.get? b=some o->h'.get? b=some o)) E) A7.init.plain F.entry_set_init (check_set_init_1 hT ?_)) fun r₂ s₂ hr₂=>?_
   ·obtain ⟨ol,hol,hcl,nl,hdl⟩:=hl
    obtain ⟨ocls,odict,odata,oslots⟩:=ol;simp only at hcl hdl;subst hcl; subst hdl;have hol':(s.heap.push { cls:=.type "set",dict:=none,data:=.set #[] 0 (.fresh 0 0 (!aqi4 w)) }).get? l=some { cls:=.type "list",dict:=odict,data:=.seq items nl,slots:=oslots }:=Ac _ hol;have hsls:=F.sub_list_set;have hslf:=Ke;have hne:(Value.type "list" == Value.type "dict")=false:=by decide
    have hl1:(s.heap.push { cls:=.type "set",dict:=none,data:=.set #[] 0 (.fresh 0 0 (!aqi4 w)) }).IsList l items:=⟨_,hol',rfl,nl,rfl⟩;unfold Builtin.«set.__init__» noKeywords Gf;generalize hPI:K9=PI
    wp_walk
    subst hPI;refine Ey hl1 ?_;refine Aa (Kf ?_);have hlS:l < s.heap.objs.size:=Ae hol;have hh3:A.in1.in1.in1.handled=none:=by simp [hh]
    have hneI:l ≠ (s.heap.push { cls:=.type "set",dict:=none,data:=.set #[] 0 (.fresh 0 0 (!aqi4 w)) }).objs.size:=by
     rw [Bw]; exact ne_of_lt (lt_succ_of_lt hlS)
    have hSf:s.heap.objs.size ∉ [(s.heap.push { cls:=.type "set",dict:=none,data:=.set #[] 0 (.fresh 0 0 (!aqi4 w)) }).objs.size,l]:=by
     rw [Bw]; simp only [mem_cons,mem_singleton,not_mem_nil,or_false,not_or];exact ⟨ne_of_lt (Fs _),ne_of_gt hlS⟩
    have hval:∀ (i:Nat) (v:Value),items[i]?=some v->∃ t,v=.str ((fun i=>ns.getD i "") i) t:=fun i v hv =>
     strAt hi i v (by rw [getElem?_toList]; exact hv)
    refine ax8 ((Walks.list hh3 _ l hneI items).toS) s.heap.objs.size
     hSf (fun i=>ns.getD i "") hval hb (items.size - 0) 0 _ (by omega) (zero_le _)
     ⟨⟨_,Ag _ rfl,rfl,rfl⟩,(hl1.push _)⟩ ?hS0 ?hR
    case hS0 =>
     have hget:((s.heap.push { cls:=.type "set",dict:=none,data:=.set #[] 0 (.fresh 0 0 (!aqi4 w)) }).push { cls:=.type "list_iterator",data:=.fields #[.ref l,.int 0 0] }).get? s.heap.objs.size
      =some { cls:=.type "set",dict:=none,data:=.set #[] 0 (.fresh 0 0 (!aqi4 w)) }:=Ac _ hS
     exact ⟨_,#[],0,_,hget,⟨rfl,rfl,rfl⟩,rfl,fun e he=>by simp at he,fun k=>by simp [fmv],by unfold Bj; decide,by rfl,rfl,axo.fresh _⟩
    case hR =>
     intro s' hm hS';obtain ⟨h',g',d',tk',os'⟩:=s';have eg:g'=s.gens:=hm.gens;have ed:d'=s.drawn:=hm.drawn;have eo:os'=s.os:=hm.os;subst eg; subst ed; subst eo;show wpAny _ _ _ _ _ _;refine Ab ?_;show wpAny _ _ (ret Value.none) _ _ _;refine Ab ⟨rfl,h',tk',rfl,hS',fun b o hb e=>?_⟩;have hb1:b ≠ s.heap.objs.size:=ne_of_lt hb;have hb2:b ≠ (s.heap.push { cls:=.type "set",dict:=none,data:=.set #[] 0 (.fresh 0 0 (!aqi4 w)) }).objs.size:=by
      rw [Bw]; exact ne_of_lt (lt_succ_of_lt hb)
     exact hm.heap b o (by simp only [mem_cons,mem_singleton,not_mem_nil,or_false,not_or]; exact ⟨hb1,hb2⟩) (Ac _ (Ac _ e))
   ·cases r₂ with
    | error e=>exact hr₂
    | ok fl₂ =>
     cases fl₂ with
     | ret r =>
      obtain ⟨rfl,h',tk,rfl,hS',hk'⟩:=hr₂
      repeat (any_goals (first | assumption | wp_step))
      exact h _ _ hS' hk'
     | next=>exact Aq hr₂
     | brk=>exact Aq hr₂
     | cont=>exact Aq hr₂
  | next=>exact Aq hr
  | brk=>exact Aq hr
  | cont=>exact Aq hr
end
end SetT
namespace DL
open PySem PySem.Spec PyProof PyProof.Rows L2
def dst (ys:List Str):List Str:=SetT.fmv (fun i=>ys.getD i "") ys.length
theorem aqeb (ys:List Str):dst ys=ys.foldl SetT.dd []:=by
 unfold dst SetT.fmv;congr 1;apply Ir
 ·simp
 ·intro i h1 h2
  simp at h1 ⊢;simp [h1]
theorem aqbx:∀ (ys σ:List Str),σ.Nodup->(∀ y∈ys,y ∉ σ)->ys.Nodup->ys.foldl SetT.dd σ=σ++ys
 | [],σ,_,_,_=>by simp
 | y :: ys,σ,hs,hn,hy=>by
  rw [nodup_cons] at hy;have e:SetT.dd σ y=σ++[y]:=by unfold SetT.dd; rw [if_neg (hn y (by simp))]
  rw [List.foldl_cons,e,aqbx ys _ (Fg.mpr ⟨hs,by simp,fun a ha b hb=>by simp at hb; subst hb; rintro rfl; exact hn a (by simp) ha⟩) (fun z hz hm=>?_) hy.2,List.append_assoc]
  ·rfl
  ·rcases Bm.mp hm with h | h
   ·exact hn z (mem_cons_of_mem _ hz) h
   ·exact hy.1 (by rw [<- Bp.mp h]; exact hz)
theorem aqea {ys:List Str} (h:ys.Nodup):(dst ys).length=ys.length:=by
 rw [aqeb,aqbx ys [] (by simp) (by simp) h]; rfl
section
variable {X:Cx}
theorem aQ4 {e:Expr} {te:TE} {p p2 p3 pos:Pos} (hc:X.calm=true) (hg1:Gl X "len") (hg2:Gl X "set") (hm1:X.mg "len"=none) (hm2:X.mg "set"=none) (he:PE X e te) (hs:Ap [e] X.env=(false,eval e X.env) :: Ap [] X.env:=by rfl) :
  PE X (.Call (.Name "len" p) [.Call (.Name "set" p2) [e] [] p3] [] pos) (fun σ H Q=>te σ H fun x H1=>∃ (a:Addr) (ns:List Str),x=.ref a/\SqL X.K H1 a (ns.map V.str)/\ns.length < 4000/\Q (.int (dst ns).length) H1):=by
 intro pins s σ H Q I h;refine Cg (az7 I hg1 hm1 ajb ?_ (by decide) (by decide));refine callWith_builtin1 ?_ rfl rfl;show wpAny _ _ (spliced ((false,eval (.Call (.Name "set" p2) [e] [] p3) X.env) :: Dl pos (Ap [] X.env))) _ _ s;refine B0 ?_;refine Cg (az7 I hg2 hm2 aqek ?_ (by decide) (by decide));have ha:=(aa he ag hs) p3 pins s σ H (fun xs H1=>∃ (a:Addr) (ns:List Str),xs=[.ref a]/\SqL X.K H1 a (ns.map V.str)/\ns.length < 4000/\Q (.int (dst ns).length) H1) I (by
  refine (?_:te σ H _);refine cast (congrArg (te σ H) (funext fun x=>funext fun H1=>?_)) h;simp [aqhc])
 refine Bv (thn ha fun us s1 hQ=>?_) hs rfl;obtain ⟨vs,H1,I1,r1,a,ns,ev,hq,hl4,q⟩:=hQ;subst ev;obtain ⟨u,rfl,ru⟩:=r1.one;cases ru;obtain ⟨its,rv,ht,hz⟩:=I1.list hq;have ia:=aj1 rv;have hil:its.length=ns.length:=by have:=rv.length; simpa using this.symm
 refine SetT.call_set_in (items:=its.toArray) (ns:=ns) (I1.ok.hd hc) ht.isList (by simpa using ia) (by rw [size_toArray,hil]; unfold Bj; omega) fun h' tk hS hk=>?_;refine Dw ?_;have hk':∀ b o,s1.heap.get? b=some o->h'.get? b=some o:=fun b o e=>hk b o (Ae e) e;rw [show its.toArray.size=ns.length by rw [size_toArray,hil]] at hS;obtain ⟨o,es,ep,t,ho,hex,hd,hel,hmem,hb,hf,hn,ht⟩:=hS;have hb':es.size < 4096:=hb;refine call_len_set (s:={ s1 with heap:=h',toks:=tk }) ho hex hd hf (by omega) ?_;rw [hn];exact ⟨.int _,H1,I1.kept hk',⟨_,rfl⟩,q⟩
end
def aqhn (n:Int):Str:=D8 (toString n)
theorem awv:∀ (m:Nat),1 <= m->∃ c t,Nat.toDigits 10 m=c :: t/\c ≠ '0':=by
 intro m
 induction m using Nat.strongRecOn with
 | ind m ih =>
  intro h
  by_cases hl:m < 10
  ·refine ⟨K6 m,[],Nat.toDigits_of_lt_base hl,?_⟩
   have:∀ k:Nat,k < 10->1 <= k->K6 k ≠ '0':=by decide
   exact this m hl h
  ·obtain ⟨c,t,e,hc⟩:=ih (m / 10) (by omega) (by omega)
   exact ⟨c,t++[K6 (m % 10)],by rw [Nat.toDigits_of_base_le (by decide) (by omega),e]; rfl,hc⟩
structure NumOk (n:Int):Prop where
 l1:1 <= (aqhn n).length
 l19:(aqhn n).length <= 19
 dg:∀ c∈(aqhn n).cps.toList,48 <= c/\c <= 57
 hd:∃ c t,(aqhn n).cps.toList=c :: t/\c ≠ 48
 rd:PySem.intText? (aqhn n)=some n
theorem az4 {n:Int} (h1:1 <= n) (h2:n <= 1000000000000000000):NumOk n:=by
 have hl:(aqhn n).length <= 19:=toString_length_le (k:=19) (by omega) (by decide) (by omega);obtain ⟨m,rfl⟩:=Df (show 0 <= n by omega);have sg:(aqhn (m:Int)).cps.toList=(Nat.toDigits 10 m).map Char.toNat:=PySem.W.KIN.signs_num m;have dg:PySem.NumText.AllDigits (aqhn (m:Int)).cps.toList:=by
  intro c hc;rw [sg] at hc;obtain ⟨ch,hch,e⟩:=An.mp hc;have r:=digit_range (Nat.isDigit_of_mem_toDigits (by decide) (by decide) hch);rw [<- e];exact r
 obtain ⟨c,t,e,hc⟩:=awv m (by omega);have hd:(aqhn (m:Int)).cps.toList=c.toNat :: t.map Char.toNat:=by rw [sg,e]; rfl
 have len:(aqhn (m:Int)).cps.toList.length=(aqhn (m:Int)).length:=length_toList;refine ⟨by rw [<- len,hd]; simp,hl,dg,⟨_,_,hd,fun z=>hc ?_⟩,?_⟩
 ·exact Char.toNat_inj.mp z
 ·have e:=PySem.intText_digits dg (by rw [hd]; simp) (le_trans hl (by decide))
  rw [sg,PySem.W.KIN.val_back] at e;exact e
theorem aV4 {c:Nat}:∀ {p p' X X':List Nat},c ∉ p->c ∉ p'->p++c :: X=p'++c :: X'->p=p'/\X=X'
 | [],[],_,_,_,_,e=>⟨rfl,(List.cons.inj e).2⟩
 | [],a :: p',X,X',_,h',e=>absurd (by rw [(List.cons.inj e).1]; simp) h'
 | a :: p,[],X,X',h,_,e=>absurd (by rw [<- (List.cons.inj e).1]; simp) h
 | a :: p,b :: p',X,X',h,h',e=>by
  obtain ⟨e1,e2⟩:=List.cons.inj e;obtain ⟨h1,h2⟩:=aV4 (fun z=>h (mem_cons_of_mem _ z)) (fun z=>h' (mem_cons_of_mem _ z)) e2;exact ⟨by rw [e1,h1],h2⟩
theorem aQc {x y:Str} (h:x.cps.toList=y.cps.toList):x=y:=by
 obtain ⟨⟨l⟩⟩:=x;obtain ⟨⟨m⟩⟩:=y;simp at h;rw [h]
theorem aja (c:Nat) (p q:Str) (r:List Str):(Fh ⟨#[c]⟩ (p :: q :: r)).cps.toList=p.cps.toList++c :: (Fh ⟨#[c]⟩ (q :: r)).cps.toList:=by
 show (p++⟨#[c]⟩++Fh ⟨#[c]⟩ (q :: r)).cps.toList=_;simp only [Str.cps_append,K0]
 simp
theorem aJq {c:Nat}:∀ {ws ws':List Str},ws ≠ []->ws' ≠ []->(∀ p∈ws,c ∉ p.cps.toList)->(∀ p∈ws',c ∉ p.cps.toList)->(Fh ⟨#[c]⟩ ws).cps.toList=(Fh ⟨#[c]⟩ ws').cps.toList->ws=ws'
 | [],_,h,_,_,_,_=>absurd rfl h
 | _,[],_,h,_,_,_=>absurd rfl h
 | [p],[q],_,_,_,_,e=>by rw [aQc (show p.cps.toList=q.cps.toList from e)]
 | [p],q :: q' :: r,_,_,h,_,e=>by
  rw [aja] at e;exact absurd (by rw [show p.cps.toList=_ from e]; simp) (h p (by simp))
 | p :: p' :: r,[q],_,_,_,h,e=>by
  rw [aja] at e;exact absurd (by rw [show q.cps.toList=_ from e.symm]; simp) (h q (by simp))
 | p :: p' :: r,q :: q' :: r',_,_,h,h',e=>by
  rw [aja,aja] at e;obtain ⟨e1,e2⟩:=aV4 (h p (by simp)) (h' q (by simp)) e;rw [aQc e1,aJq (by simp) (by simp) (fun x hx=>h x (mem_cons_of_mem _ hx)) (fun x hx=>h' x (mem_cons_of_mem _ hx)) e2]
theorem aKf (x:Str) (c:Nat):Txt.split x ⟨#[c]⟩ ≠ []:=by
 unfold Txt.split;split
 ·simp
 ·split
  ·simp
  ·rw [StrLaws.partsBetween_eq]
   obtain ⟨p,r,e⟩:=StrLaws.partsFrom_ne x (⟨#[c]⟩:Str).length 0 (B5 x ⟨#[c]⟩ 0 x.length (x.length + 1));rw [e]; simp
theorem aQg {c:Nat} {ws:List Str} (hn:ws ≠ []) (hf:∀ p∈ws,c ∉ p.cps.toList):Txt.split (Fh ⟨#[c]⟩ ws) ⟨#[c]⟩=ws :=
 aJq (aKf _ _) hn (fun p hp=>StrLaws.split_free _ c p hp) hf (by rw [StrLaws.join_split])
end DL
namespace MB
open PySem DL
@[simp] theorem gN_ap {i:Nat} {d:D} {ρ:Cs}:gN i d ρ=some (ρ.set i (some (.sh d))):=rfl
theorem aqh {α:Type} [DecidableEq α]:∀ {l m:List α},l.Nodup->(∀ x∈l,x∈m)->l.length <= m.length
 | [],_,_,_=>by simp
 | a :: l,m,hn,hs=>by
  have ha:a∈m:=hs a (by simp);rw [nodup_cons] at hn;have ih:=aqh (l:=l) (m:=m.erase a) hn.2 fun x hx=>by
   have:x ≠ a:=fun e=>hn.1 (e ▸ hx)
   exact (List.mem_erase_of_ne this).mpr (hs x (by simp [hx]))
  have:=List.length_erase_of_mem ha
  have hp:=List.length_pos_of_mem ha
  simp
  omega
def six:List Int:=[0,1,2,3,4,5]
def okH (h:List aqib):Prop:=∀ p∈h,p.2.Sublist six
theorem okH.len {h:List aqib} (k:okH h):∀ p∈h,p.2.length <= 6:=fun p m=>(k p m).length_le
theorem okH.mem {h:List aqib} (k:okH h) {p:aqib} (m:p∈h) {x:Int} (hx:x∈p.2):x∈six:=(k p m).subset hx
end MB
namespace DL
open PySem PySem.Spec PyProof.Rows L2
theorem aw0:∀ r:Nat,r < 26->atI aO.cps.toList (r:Int)=some (97 + r):=by decide +kernel
theorem axk {r:Int} (h0:0 <= r) (h:r < 26):atI aO.cps.toList r=some (97 + r.toNat):=by
 have:=aw0 r.toNat (by omega)
 rwa [show ((r.toNat:Nat):Int)=r by omega] at this
theorem axx:aO.length <= Ad:=by decide +kernel
def ay (x:Str):Prop:=1 <= x.length/\x.length <= 8/\∀ c∈x.cps.toList,97 <= c/\c < 123
theorem aZ7 (x:Str) (c:Nat):(x++(⟨#[c]⟩:Str)).cps.toList=x.cps.toList++[c]:=by
 show (x.cps++#[c]).toList=_
 simp
theorem aqc5 (l:List Nat) (c:Nat):((⟨#[c]⟩:Str)++(⟨l.toArray⟩:Str))=⟨(c :: l).toArray⟩:=by
 show (⟨#[c]++l.toArray⟩:Str)=_
 simp
theorem aj2 (x:Str):x.length=x.cps.toList.length:=by simp [Str.length]
def adv (m:Nat) (x:Str):Str:=match x.cps.toList with
 | []=>x
 | c :: t=>⟨((97 + (c - 97 + m) % 26) :: t).toArray⟩
theorem avi {x:Str} {c:Nat} {t:List Nat} (h:x.cps.toList=c :: t) (m:Nat):adv m x=⟨((97 + (c - 97 + m) % 26) :: t).toArray⟩:=by
 unfold adv; rw [h]
theorem aq8 {x:Str} (h:ay x):∃ c t,x.cps.toList=c :: t/\97 <= c/\c < 123/\x=⟨(c :: t).toArray⟩:=by
 obtain ⟨h1,h2,h3⟩:=h;rw [aj2] at h1;cases q:x.cps.toList with
 | nil=>rw [q] at h1; simp at h1
 | cons c t =>
  refine ⟨c,t,rfl,(h3 c (by rw [q]; simp)).1,(h3 c (by rw [q]; simp)).2,?_⟩;rw [<- q]
theorem aYg {x:Str} (h:ay x):adv 0 x=x:=by
 obtain ⟨c,t,e,h1,h2,h3⟩:=aq8 h;rw [avi e,h3];congr 3;omega
theorem aqeu {x:Str} (h:ay x) (m:Nat):ay (adv m x):=by
 obtain ⟨c,t,e,h1,h2,h3⟩:=aq8 h;rw [avi e];obtain ⟨g1,g2,g3⟩:=h;rw [aj2,e] at g1 g2;refine ⟨by rw [aj2]; simp,by rw [aj2]; simpa using g2,fun d hd=>?_⟩;simp at hd;rcases hd with rfl | hd
 ·omega
 ·exact g3 d (by rw [e]; exact mem_cons_of_mem _ hd)
theorem aqcc {x:Str} (h:ay x) (m n:Nat):adv m (adv n x)=adv (n + m) x:=by
 obtain ⟨c,t,e,h1,h2,h3⟩:=aq8 h;rw [avi e,avi e,avi (c:=97 + (c - 97 + n) % 26) (t:=t) (by simp)];congr 3;omega
theorem aqcb {x:Str} (h:ay x) {m n:Nat} (hm:m < 26) (hn:n < 26) (e:adv m x=adv n x):m=n:=by
 obtain ⟨c,t,ec,h1,h2,h3⟩:=aq8 h;rw [avi ec,avi ec] at e
 have:=congrArg (fun s:Str=>s.cps.toList.head?) e
 simp at this;omega
theorem aYh {x:Str} (h:ay x) (names:List Str) (hl:names.length < 26):∃ m,m < 26/\adv m x ∉ names:=by
 apply A5;intro hn;have hall:∀ m,m < 26->adv m x∈names:=fun m hm=>A5 fun hx=>hn ⟨m,hm,hx⟩;have nd:((Ay 26).map fun m=>adv m x).Nodup:=by
  rw [List.Nodup,pairwise_map];refine Ii (fun {a b} ha hb hab e=>?_) (List.nodup_range (n:=26));exact hab (aqcb h (Dc.mp ha) (Dc.mp hb) e)
 have:=MB.aqh nd (m:=names) fun y hy=>by
  obtain ⟨m,hm,rfl⟩:=An.mp hy;exact hall m (Dc.mp hm)
 simp at this;omega
theorem aqy {x:Str} (h:ay x) (n:Nat):shp n (.str x)=true:=by
 have:x.cps.all (fun c=>decide (c < 0x110000))=true:=by
  rw [<- Array.all_toList,all_eq_true];intro c hc
  have:=h.2.2 c hc
  simp; omega
 simpa [shp] using this
theorem bD {l:List Str} (h:∀ x∈l,ay x) (n:Nat):aqhd n (l.map D.str)=true:=by
 induction l with
 | nil=>rfl
 | cons x l ih =>
  simp only [map_cons,aqhd,Cd];exact ⟨aqy (h x (by simp)) n,ih fun y hy=>h y (mem_cons_of_mem _ hy)⟩
theorem aqq (l:List Str) (x:Str):((l.map D.str).any fun y=>eqD y (.str x))=decide (x∈l):=by
 rw [Ax,Iu,decide_eq_true_eq];constructor
 ·rintro ⟨d,hd,e⟩
  obtain ⟨y,hy,rfl⟩:=An.mp hd;have e':(y == x)=true:=e;rw [<- eq_of_beq e']; exact hy
 ·intro h
  refine ⟨.str x,An.mpr ⟨x,h,rfl⟩,?_⟩;show (x == x)=true
  simp
theorem aK {K:Frag} {F:Hp} (l:List Str):Reps K F (l.map V.str) (l.map D.str):=by
 induction l with
 | nil=>exact .nil
 | cons x l ih=>exact .cons (.str x) ih
end DL
namespace MB
def aqic (D:Nat) (a:Rat):Prop:=∃ x:Int,a * (D:Rat)=(x:Rat)
theorem aqic.sub {D:Nat} {a b:Rat} (ha:aqic D a) (hb:aqic D b):aqic D (a - b):=by
 obtain ⟨x,hx⟩:=ha;obtain ⟨y,hy⟩:=hb;have e:(a - b) * (D:Rat)=a * D - b * D:=by grind
 exact ⟨x - y,by rw [e,hx,hy]; simp⟩
theorem aqic.mn {D:Nat} {a b:Rat} (ha:aqic D a) (hb:aqic D b):aqic D (min a b):=by
 have:min a b=a \/ min a b=b:=by grind
 rcases this with e | e <;> rw [e] <;> assumption
theorem aVr (D:Nat):(((D:Nat):Int):Rat)=(D:Rat):=rfl
theorem aqb5 (a:Rat):a * (a.den:Rat)=(a.num:Rat):=by
 rw [<- aqba];have e1:((a.den:Rat)).num=(a.den:Int):=by simp
 have e2:((a.den:Rat)).den=1:=by simp
 rw [e1,e2,Nat.mul_one];have e3:(a.num:Rat)=mkRat a.num 1:=by simp [Rat.mkRat_one]
 rw [e3,Rat.mkRat_eq_iff a.den_nz (by decide)]
 simp
theorem aqic.den {D:Nat} {a:Rat} (ha:aqic D a):a.den ∣ D:=by
 obtain ⟨x,hx⟩:=ha;have h1:a.num * (D:Int)=x * (a.den:Int):=by
  have h2:a * (a.den:Rat)=(a.num:Rat):=aqb5 a;have h3:((a.num * (D:Int):Int):Rat)=((x * (a.den:Int):Int):Rat):=by
   have e1:((a.num * (D:Int):Int):Rat)=(a.num:Rat) * (D:Rat):=by simp [aVr]
   have e2:((x * (a.den:Int):Int):Rat)=(x:Rat) * (a.den:Rat):=by simp [aVr]
   rw [e1,e2,<- hx,<- h2]; grind
  exact_mod_cast h3
 have h4:a.den ∣ a.num.natAbs * D:=by
  have:=congrArg Int.natAbs h1
  rw [E7,E7,Ha,Ha] at this;exact ⟨x.natAbs,by rw [this,Nat.mul_comm]⟩
 exact (Nat.Coprime.dvd_of_dvd_mul_left (Nat.Coprime.symm a.reduced) h4)
theorem aqic.bd {D d m:Nat} {a:Rat} (ha:aqic D a) (hD:0 < D) (hd:D < 2 ^ d) (hlo:-((2 ^ m:Nat):Rat) <= a) (hhi:a <= ((2 ^ m:Nat):Rat)):Bd (m + d) d a:=by
 have h1:a.den <= D:=Nat.le_of_dvd hD ha.den;refine ⟨?_,lt_of_le_of_lt h1 hd⟩;have hden:(0:Rat) <= (a.den:Rat):=by exact_mod_cast zero_le _
 have e:=aqb5 a;have u1:(a.den:Rat) * a <= (a.den:Rat) * ((2 ^ m:Nat):Rat):=F7 hhi hden;have u2:(a.den:Rat) * (-((2 ^ m:Nat):Rat)) <= (a.den:Rat) * a:=F7 hlo hden;have v1:(a.num:Rat) <= ((a.den * 2 ^ m:Nat):Rat):=by
  have:((a.den * 2 ^ m:Nat):Rat)=(a.den:Rat) * ((2 ^ m:Nat):Rat):=by simp
  rw [this]; grind
 have v2:-((a.den * 2 ^ m:Nat):Rat) <= (a.num:Rat):=by
  have:((a.den * 2 ^ m:Nat):Rat)=(a.den:Rat) * ((2 ^ m:Nat):Rat):=by simp
  rw [this]; grind
 have w1:a.num <= ((a.den * 2 ^ m:Nat):Int):=by exact_mod_cast v1
 have w2:-((a.den * 2 ^ m:Nat):Int) <= a.num:=by
  have v3:(-a.num:Rat) <= ((a.den * 2 ^ m:Nat):Rat):=by grind
  have v4:((-a.num:Int):Rat) <= ((a.den * 2 ^ m:Nat):Rat):=by simpa using v3
  have v5:-a.num <= ((a.den * 2 ^ m:Nat):Int):=by exact_mod_cast v4
  omega
 have w3:a.num.natAbs <= a.den * 2 ^ m:=by omega
 have w4:a.den * 2 ^ m < 2 ^ d * 2 ^ m:=Nat.mul_lt_mul_of_pos_right (lt_of_le_of_lt h1 hd) (Nat.pos_of_ne_zero (by simp));rw [Nat.pow_add,Nat.mul_comm (2 ^ m)];omega
end MB
namespace MB
open PySem DL
def pursD (P:List Rat):D:=.lst (P.map frD)
@[simp] theorem aqbc (P:List Rat):lstOf (pursD P)=some (P.map frD):=rfl
@[simp] theorem aqe4 (P:List Rat):imm (pursD P)=false:=by simp [pursD]
def aqcd (t:Nat) (P:List Rat):Prop:=∃ D:Nat,0 < D/\D < 2 ^ (80 * t + 1)/\∀ q∈P,aqic D q/\0 <= q/\q <= ((t * 2 ^ 80:Nat):Rat)
theorem aqcd.bd {t:Nat} {P:List Rat} (h:aqcd t P) (ht:t <= 20) {q:Rat} (hq:q∈P):Bd 1800 1700 q:=by
 obtain ⟨D,h1,h2,h3⟩:=h;obtain ⟨o,q0,q1⟩:=h3 q hq;have hm:((t * 2 ^ 80:Nat):Rat) <= ((2 ^ 85:Nat):Rat):=by
  have:t * 2 ^ 80 <= 2 ^ 85:=le_trans (Nat.mul_le_mul_right _ (le_trans ht (by decide:20 <= 32))) (by decide)
  exact_mod_cast this
 have hz:(0:Rat) <= ((2 ^ 85:Nat):Rat):=by exact_mod_cast zero_le _
 exact (o.bd (m:=85) h1 h2 (by grind) (by grind)).mono (by omega) (by omega)
theorem aqcd.sub {t:Nat} {P Q:List Rat} (h:aqcd t P) (hs:∀ q∈Q,q∈P):aqcd t Q:=by
 obtain ⟨D,h1,h2,h3⟩:=h;exact ⟨D,h1,h2,fun q hq=>h3 q (hs q hq)⟩
def quo (w:List Int) (n:List Nat) (k:Nat):Rat:=mkRat (w.getD k 0) (n.getD k 0 + 1)
def freeL (c:List Int) (n:List Nat):List Nat:=(Ay n.length).filter fun k=>decide ((n.getD k 0:Int) < c.getD k 0)
def offs (w c:List Int) (n:List Nat):List (Nat × Rat):=(freeL c n).map fun k=>(k,quo w n k)
def gst:Option (Nat × Rat)->(Nat × Rat)->Option (Nat × Rat)
 | none,o=>some o
 | some f,o=>if f.2 < o.2 then some o else some f
def gre (l:List (Nat × Rat)):Option (Nat × Rat):=l.foldl gst none
def dlS (w c:List Int) (d:List Nat × Option Rat):List Nat × Option Rat:=match gre (offs w c d.1) with
 | none=>d
 | some o=>(d.1.set o.1 (d.1.getD o.1 0 + 1),some o.2)
def dl (w c:List Int):Nat->List Nat × Option Rat
 | 0=>(Au w.length 0,none)
 | s + 1=>dlS w c (dl w c s)
structure Dealt (w c:List Int) (s:Nat) (n:List Nat) (q:Option Rat):Prop where
 len:n.length=w.length
 cap:∀ k,k < n.length->(n.getD k 0:Int) <= c.getD k 0
 sum:n.sum=s \/ n.sum < s/\∀ k,k < n.length->(n.getD k 0:Int)=c.getD k 0
 non:q=none->∀ k,n.getD k 0=0
 met:∀ r,q=some r->∃ k,k < n.length/\0 < n.getD k 0/\mkRat (w.getD k 0) (n.getD k 0)=r
 low:∀ r,q=some r->∀ k,k < n.length->0 < n.getD k 0->r <= mkRat (w.getD k 0) (n.getD k 0)
 top:∀ r,q=some r->∀ k,k < n.length->(n.getD k 0:Int) < c.getD k 0->mkRat (w.getD k 0) (n.getD k 0 + 1) <= r
def sc (b:Int) (o:Nat × Rat):Nat × Rat:=(o.1,o.2 * (b:Rat))
end MB
namespace L_k67
open PySem DL
noncomputable def aW:Blk :=
 (bSeq (bIf (qV (f2 dLt (aqhy 1) (fBlt dLen (aCons (aqhy 0) aNil)))) (bRet (mE [true,true] (f2 dIx (aqhy 0) (aqhy 1)))) bNil)
  (bSeq (bIf (qV (f2 dEq (aqhy 0) (fL (oLst aNil)))) (bRet (mE [false,true] (f2 dAdd (f2 aqi0 (f2 aqi0 (aqhy 1) (aqhy 1)) (fC (.int 7919))) (f2 aqi0 (fC (.int 13)) (aqhy 1))))) bNil)
  (bRet (mE [true,true] (f2 aqi1 (f2 aqi0 (f2 dAdd (f2 dAdd (f2 dIx (aqhy 0) (f2 aqi1 (aqhy 1) (fBlt dLen (aCons (aqhy 0) aNil)))) (f2 aqi0 (f2 aqi0 (aqhy 1) (aqhy 1)) (fC (.int 7919)))) (fC (.int 1))) (fC (.int 48271))) (fC (.int 2147483647)))))))
noncomputable def aI:List D->Option D:=runD 2 aW
noncomputable def aV:Blk :=
 (bSeq (bIf (qV (f2 dEq (f2 aqi1 (aqhy 0) (fC (.int 3))) (fC (.int 0)))) (bRet (mE [true] (f2 dAdd (fC (.int 1)) (f2 aqi1 (f2 dDiv (aqhy 0) (fC (.int 3))) (f2 dPow (fC (.int 10)) (fC (.int 18))))))) bNil)
  (bSeq (bIf (qV (f2 dEq (f2 aqi1 (aqhy 0) (fC (.int 3))) (fC (.int 1)))) (bRet (mE [true] (f2 dSub (f2 dPow (fC (.int 10)) (fC (.int 18))) (f2 aqi1 (f2 dDiv (aqhy 0) (fC (.int 3))) (fC (.int 3)))))) bNil)
  (bRet (mE [true] (f2 dAdd (fC (.int 1)) (f2 aqi1 (f2 dDiv (aqhy 0) (fC (.int 3))) (fC (.int 7))))))))
noncomputable def aL:List D->Option D:=runD 1 aV
noncomputable def aYm:List D->Option D:=lawD
end L_k67
set_option maxHeartbeats 4000000
namespace L_k67
open PySem DL MB
theorem aVw {l:List Int} {i:Nat} (h:i < l.length):dIx (aqv l) (.int (i:Int))=some (.int l[i]):=by
 have:=dIx_l (ds:=l.map .int) (i:=i) (by simpa using h)
 rw [aqv,this]; simp
def cellOf (ns:List Int) (k:Nat):Int:=if k < ns.length then ns.getD k 0 else if ns=[] then (k:Int) * k * 7919 + 13 * k else ((ns.getD (k % ns.length) 0 + (k:Int) * k * 7919 + 1) * 48271).fmod 2147483647
theorem aXc (ns:List Int) (k:Nat) (hk:k <= 1000):aI [aqv ns,.int (k:Int)]=some (.int (cellOf ns k)):=by
 have kk:aqi0 (.int (k:Int)) (.int (k:Int))=some (.int ((k:Int) * k)):=aqc1 (lt_of_le_of_lt (show _ <= 1000 by omega) (by decide));have k79:aqi0 (.int ((k:Int) * k)) (.int 7919)=some (.int ((k:Int) * k * 7919)):=aqc0 (by decide);have k13:aqi0 (.int 13) (.int (k:Int))=some (.int (13 * (k:Int))):=aqc1 (by decide)
 by_cases h1:k < ns.length
 ·have hx:dIx (aqv ns) (.int (k:Int))=some (.int (ns.getD k 0)):=by rw [aVw h1]; simp [h1]
  have h1':(k:Int) < (ns.length:Int):=by omega
  simp [aI,runD,runO,ini,aW,h1,h1',hx,cellOf]
 ·have h1':¬ (k:Int) < (ns.length:Int):=by omega
  have he:dEq (aqv ns) (.lst [])=some (.bl (decide (ns=[]))):=aZy ns []
  by_cases h2:ns=[]
  ·subst h2
   have h1'':¬ (k:Int) < 0:=by omega
   simp [aI,h1'',runD,runO,ini,aW,he,aqif,kk,k79,k13,cellOf]
  ·have hlen:0 < ns.length:=List.length_pos_iff.mpr h2
   have hm:aqi1 (.int (k:Int)) (.int (ns.length:Int))=some (.int ((k % ns.length:Nat):Int)):=by
    rw [ax4 (by omega),Bb _ (by omega),<- Int.natCast_emod]
   have hlt:k % ns.length < ns.length:=Nat.mod_lt _ hlen;have hx:dIx (aqv ns) (.int ((k % ns.length:Nat):Int))=some (.int (ns.getD (k % ns.length) 0)):=by rw [aVw hlt]; simp [hlt]
   have hm2:aqi0 (.int (ns.getD (k % ns.length) 0 + (k:Int) * k * 7919 + 1)) (.int 48271)=some (.int ((ns.getD (k % ns.length) 0 + (k:Int) * k * 7919 + 1) * 48271)):=aqc0 (by decide);have hm3:aqi1 (.int ((ns.getD (k % ns.length) 0 + (k:Int) * k * 7919 + 1) * 48271)) (.int 2147483647)=some (.int (((ns.getD (k % ns.length) 0 + (k:Int) * k * 7919 + 1) * 48271).fmod 2147483647)):=ax4 (by decide);rw [show cellOf ns k=((ns.getD (k % ns.length) 0 + (k:Int) * k * 7919 + 1) * 48271).fmod 2147483647 by rw [cellOf,if_neg h1,if_neg h2]];generalize ns.getD (k % ns.length) 0=y at *;generalize k % ns.length=q at *;simp [aI,runD,runO,ini,aW,h1',he,h2,aqif,kk,k79,hm,hx,hm2,hm3]
theorem law_true (ns:List Int) (hn:ns.length <= 63):aYm [.lst (ns.map .int)]=some (.bl true):=aZh ns hn
theorem aqbb (c:Int):∃ m:Int,aL [.int c]=some (.int m)/\1 <= m/\m <= 10 ^ 18:=by
 have p18:dPow (.int 10) (.int 18)=some (.int (10 ^ 18)):=rfl;have e3:aqi1 (.int c) (.int 3)=some (.int (c % 3)):=by rw [ax4 (by decide),Bb _ (by decide)]
 have v3:dDiv (.int c) (.int 3)=some (.int (c / 3)):=by rw [aqc3 (by decide) (by decide),G2 _ (by decide)]
 generalize c / 3=q at *;have f1:aqi1 (.int q) (.int 1000000000000000000)=some (.int (q % 10 ^ 18)):=by rw [ax4 (by decide),Bb _ (by decide)]; rfl
 have f2':aqi1 (.int q) (.int 3)=some (.int (q % 3)):=by rw [ax4 (by decide),Bb _ (by decide)]
 have f3:aqi1 (.int q) (.int 7)=some (.int (q % 7)):=by rw [ax4 (by decide),Bb _ (by decide)]
 have b0:=Ca q (b:=10 ^ 18) (by decide);have b1:=Bq q (b:=10 ^ 18) (by decide);have c0:=Ca q (b:=3) (by decide);have c1:=Bq q (b:=3) (by decide);have d0:=Ca q (b:=7) (by decide);have d1:=Bq q (b:=7) (by decide)
 by_cases h0:c % 3=0
 ·refine ⟨1 + q % 10 ^ 18,?_,by omega,by omega⟩
  simp [aL,runD,runO,ini,aV,e3,v3,h0,p18,f1]
 ·by_cases h1:c % 3=1
  ·refine ⟨10 ^ 18 - q % 3,?_,by omega,by omega⟩
   simp [aL,runD,runO,ini,aV,e3,v3,h0,h1,p18,f2']
  ·refine ⟨1 + q % 7,?_,by omega,by omega⟩
   simp [aL,runD,runO,ini,aV,e3,v3,h0,h1,f3]
end L_k67
set_option maxHeartbeats 1000000
namespace L_k67
open PySem PySem.Spec PyProof.Rows L2 DL
def top (i:Nat):Stmt:=PySem.Challenge.pw_pursebench_k67_rows_answered.main.body.getD i (.Pass ⟨0,0,0,0⟩)
abbrev ajd:Stmt:=top 64
abbrev ajc:Stmt:=top 66
abbrev aKw:Stmt:=top 73
structure Txt (mg:Str->Option Value):Prop where
 z_len:mg "len"=none
section
variable {P:Af} {w:World} {K:Frag} {mg:Str->Option Value} {base:Heap}
theorem avn:FnScope ["script","k"] ["script","k"] (ai ajd):=fsc
theorem avz {f:Addr} {fd:Am} (F:Fun K "_law_cell" "_law_cell" ajd f fd) (T:Txt mg) :FnOk P w K mg base CX0 1 f fd ["script","k"] (spD K 2 aI) :=
 FnOk.d (fnO F avn (k:=0) (n:=2) (m:=2) (b:=aW) rfl rfl fun cdv A outer s H E hr =>
  (azl (ds_if (aZv op_lt aqd8 (azr 1 (pv 1)) (aJ5 ax ak3 rfl T.z_len ajb (aV3 (azr 0 (pv 0)) aW9)) (cn _)) (ax2 (awu (DE.m _ (de_ix (azr 0 (pv 0)) (azr 1 (pv 1)) (fun _ _=>rfl))))) akx)
   (azl (ds_if (aZv (awh hr.units) aWc (azr 0 (pv 0)) (DO.de (aqec aW9)) (cn _)) (ax2 (awu (DE.m _ (ajv az2 az1 (ajv axv axu (ajv axv axu (azr 1 (pv 1)) (azr 1 (pv 1))) aS) (ajv axv axu aS (azr 1 (pv 1))))))) akx)
   (ax2 (awu (DE.m _ (ajv axc axb (ajv axv axu (ajv az2 az1 (ajv az2 az1 (de_ix (azr 0 (pv 0)) (ajv axc axb (azr 1 (pv 1)) (aJ5 ax ak3 rfl T.z_len ajb (aV3 (azr 0 (pv 0)) aW9))) (fun _ _=>rfl)) (ajv axv axu (ajv axv axu (azr 1 (pv 1)) (azr 1 (pv 1))) aS)) aS) aS) aS)))))))
theorem avm:FnScope ["cell"] ["cell"] (ai ajc):=fsc
theorem avy {f:Addr} {fd:Am} (F:Fun K "_law_many" "_law_many" ajc f fd) (T:Txt mg) :FnOk P w K mg base CX0 1 f fd ["cell"] (spD K 1 aL) :=
 FnOk.d (fnO F avm (k:=0) (n:=1) (m:=1) (b:=aV) rfl rfl fun cdv A outer s H E hr =>
  (azl (ds_if (aZv (awh hr.units) aWc (ajv axc axb (azr 0 (pv 0)) aS) aS (cn _)) (ax2 (awu (DE.m _ (ajv az2 az1 aS (ajv axc axb (ajv aJb aQ9 (azr 0 (pv 0)) aS) (ajv aWe aVm aS aS)))))) akx)
   (azl (ds_if (aZv (awh hr.units) aWc (ajv axc axb (azr 0 (pv 0)) aS) aS (cn _)) (ax2 (awu (DE.m _ (ajv aWd aqar (ajv aWe aVm aS aS) (ajv axc axb (ajv aJb aQ9 (azr 0 (pv 0)) aS) aS))))) akx)
   (ax2 (awu (DE.m _ (ajv az2 az1 aS (ajv axc axb (ajv aJb aQ9 (azr 0 (pv 0)) aS) aS))))))))
end
abbrev aqz:Stmt:=top 65
def aVc (K:Frag):Sp:=fun vs H Q _=>∃ (F:Hp) (a:Addr) (ns:List Int) (at_ many:Nat),vs=[.ref a,.int (at_:Int),.int (many:Int)]/\aqi7 F H/\SqE K F a (ns.map V.int)/\ns.length <= 63/\at_ + many <= 900/\many <= 12 /\
 ∀ (l:Addr) (H':Hp) (names:List Str),aqi7 H H'->H l=none->H' l=some (.lst (names.map V.str))->names.length=many->names.Nodup->(∀ x∈names,ay x)->Q (.ref l) H'
section
variable {P:Af} {w:World} {K:Frag} {mg:Str->Option Value} {base:Heap}
theorem am:FnScope ["script","at","many","letters","names","k","rest","size","name","j"] ["script","at","many"] (ai aqz):=fsc
theorem az3 {f:Addr} {fd:Am} (F:Fun K "_law_names" "_law_names" aqz f fd) (T:Txt mg) (zr:mg "range"=none) (G:Fn P w K mg base 1 "_law_cell" ["script","k"] (spD K 2 aI)):FnOk P w K mg base CX0 2 f fd ["script","at","many"] (aVc K):=by
 obtain ⟨fc,fdc,okc,mc,kc,bc⟩:=G;refine F.ok am (k:=1) (fun vs H Q E h=>by obtain ⟨_,_,_,_,_,rfl,_⟩:=h; rfl) fun cdv A outer s H vs Q E hr h=>⟨_,ae (gs (i:=3) am.nd rfl (.inl rfl) al) (ae (gs (i:=4) am.nd rfl (.inl rfl) (aY ag)) (ae
  (awg Cv rfl (ajs rfl zr (aa (pv 2) ag)) (ajk (i:=5) am.nd rfl (.inl rfl))
   (ae (gs (i:=6) am.nd rfl (.inl rfl) (av okc (hm hr) rfl mc kc bc .nil aqt (aa (pv 0) (aa (aX aze (pv 1) (pv 5)) ag))))
   (ae (gs (i:=7) am.nd rfl (.inl rfl) (aX aze aj (aX axr (pv 6) aj)))
   (ae (gs (i:=8) am.nd rfl (.inl rfl) al)
   (ae (awg Cv rfl (ajs rfl zr (aa (pv 7) ag)) (ajk (i:=9) am.nd rfl (.inl rfl))
    (ae (gs (i:=6) am.nd rfl (.inl rfl) (aX ajm (pv 6) aj))
    (ah (gs (i:=8) am.nd rfl (.inl rfl) (aX aq7 (pv 8) (aqs aZm (pv 3) (aX axr (pv 6) aj) (fun _ _=>rfl)))))))
   (ae (aK3 Cv (ak (aX9 (aYp hr)) (pv 8) (pv 4) (by rfl))
    (ah (gs (i:=8) am.nd rfl (.inl rfl) (aX aq7 (aqs aZm (pv 3) (aX axr (aX aze (aQ7 A8 PySem.F.slot_str_index PySem.F.type_str_index aWu (pv 3) (aa (aqs aZm (pv 8) aj (fun _ _=>rfl)) ag)) aj) aj) (fun _ _=>rfl)) (aje aqa0 (pv 8) (aj8 aj) ajj)))))
   (ah (aqe (aQ7 Dk Ei Ej ajt (pv 4) (aa (pv 8) ag))))))))))
  (ah (au (pv 4))))),?_⟩
 obtain ⟨F0,a,ns,at_,many,rfl,sm,ha,hn,h9,hm,k⟩:=h;refine ⟨by show 0 <= Ad; decide,fun l hl=>?_⟩;refine ⟨_,rfl,(many:Int),rfl,by omega,by omega,aju (n:=((many:Nat):Int).toNat) (fun i σ' H'=>∃ c5 c6 c7 c8 c9 names,σ'=[some (.ref a),some (.int (at_:Int)),some (.int (many:Int)),some (.str aO),some (.ref l),c5,c6,c7,c8,c9]/\aqi7 H H'/\H' l=some (.lst (names.map V.str))/\names.length=i/\names.Nodup/\∀ x∈names,ay x)
  ⟨none,none,none,none,none,[],rfl,gd hl,cb,rfl,List.nodup_nil,by simp⟩ (fun i σ' H' hi hI=>?_) fun σ' H' hI=>?_⟩
 ·obtain ⟨c5,c6,c7,c8,c9,names,rfl,s1,hl1,hnl,hnd,hok⟩:=hI
  have hi':i < many:=by simpa using hi
  have ce:=aXc ns (at_ + i) (by omega);rw [show (((at_ + i:Nat):Nat):Int)=(at_:Int) + (0 + (i:Int)) by omega] at ce;refine ⟨_,rfl,_,rfl,_,rfl,_,_,rfl,rfl,F0,[MB.aqv ns,.int ((at_:Int) + (0 + (i:Int)))],_,sm.trans s1,.cons (.lst ha (aqn ns)) (.cons (.int _) .nil),rfl,ce,fun v F' H2 e2 r2=>?_⟩;cases r2;generalize cellOf ns (at_ + i)=c;have s2:=s1.trans e2.hh;have hl2:=e2.hh _ _ hl1;clear e2 hl1 s1;refine ⟨_,rfl,_,_,rfl,rfl,(by show (0:Int) < 8; decide),_,_,rfl,rfl,?_⟩;have b0:=Ca c (b:=8) (by decide);have b1:=Bq c (b:=8) (by decide);dsimp only;generalize hsz:1 + c % 8=size;refine ⟨_,rfl,size,rfl,by omega,by omega,aju (n:=size.toNat) (fun j σ3 H3=>∃ (r:Int) (x:Str) (c9:Option V),σ3=[some (.ref a),some (.int (at_:Int)),some (.int (many:Int)),some (.str aO),some (.ref l),some (.int (0 + (i:Int))),some (.int r),some (.int size),some (.str x),c9]/\H3=H2/\x.length=j/\∀ d∈x.cps.toList,97 <= d/\d < 123)
   ⟨c,"",c9,rfl,rfl,rfl,fun d hd=>by rw [show (D8 "").cps.toList=[] by decide +kernel] at hd; cases hd⟩ (fun j σ3 H3 hj hI=>?_) fun σ3 H3 hI=>?_⟩
  ·obtain ⟨r,x,c9,rfl,rfl,hx,hxl⟩:=hI
   have q0:=Ca (r / 8) (b:=26) (by decide);have q1:=Bq (r / 8) (b:=26) (by decide);refine ⟨_,rfl,_,_,rfl,rfl,⟨by decide,by decide⟩,?_⟩;refine ⟨_,rfl,_,rfl,_,rfl,_,_,rfl,rfl,(by show (0:Int) < 26; decide),aO,_,_,rfl,rfl,axx,axk q0 q1,_,_,rfl,rfl,?_,?_⟩
   ·show x.length + 1 <= Ad
    rw [Ah]; omega
   ·refine ⟨_,_,_,rfl,rfl,?_,fun d hd=>?_⟩
    ·rw [aj2,aZ7,length_append,<- aj2,hx]; rfl
    ·rw [aZ7] at hd
     rcases Bm.mp hd with hd | hd
     ·exact hxl d hd
     ·simp at hd; omega
  ·obtain ⟨r,x,c9,rfl,rfl,hx,hxl⟩:=hI
   have hx0:ay x:=⟨by omega,by omega,hxl⟩;clear hxl;obtain ⟨m0,_,hm0⟩:=aYh hx0 names (by omega);refine ⟨fun m σ4 H4=>∃ y,σ4=[some (.ref a),some (.int (at_:Int)),some (.int (many:Int)),some (.str aO),some (.ref l),some (.int (0 + (i:Int))),some (.int r),some (.int size),some (.str y),c9]/\H4=H3/\ay y/\adv m y ∉ names,⟨m0,x,rfl,rfl,hx0,hm0⟩,?_⟩;rintro m σ4 H4 ⟨y,rfl,rfl,hy,hadv⟩;refine ⟨_,rfl,_,rfl,H4,.str y,names.map D.str,false,aqi7.refl _,.str y,.lst (.inl (.inl hl2)) (aK names),aqy hy 20,bD hok 19,_,rfl,?_⟩;simp only [Ao,if_false];rw [aqq]
   by_cases hin:y∈names
   ·rw [decide_eq_true hin,if_pos rfl]
    have hm1:1 <= m:=by
     rcases Nat.eq_zero_or_pos m with e | e
     ·subst e; rw [aYg hy] at hadv; exact absurd hin hadv
     ·exact e
    refine ⟨fun σ5 H5=>∃ z,σ5=[some (.ref a),some (.int (at_:Int)),some (.int (many:Int)),some (.str aO),some (.ref l),some (.int (0 + (i:Int))),some (.int r),some (.int size),some (.str z),c9]/\H5=H4/\ay z/\adv (m - 1) z ∉ names,fun σ5 H5 hz=>⟨m - 1,by omega,hz⟩,?_⟩;obtain ⟨c,t,ec,h1,h2,ey⟩:=aq8 hy;obtain ⟨aqhg,ho⟩:=ajn (c - 97) (by omega);rw [show 97 + (c - 97)=c by omega] at ho;have at0:atI y.cps.toList (0:Int)=some c:=by rw [ec]; exact aq (j:=0) rfl
    have hyl:y.length <= Ad:=by rw [Ah]; have:=hy.2.1; omega
    have q0:=Ca (((c - 97:Nat):Int) + 1) (b:=26) (by decide);have q1:=Bq (((c - 97:Nat):Int) + 1) (b:=26) (by decide);refine ⟨_,rfl,_,rfl,rfl,_,rfl,y,_,c,rfl,rfl,hyl,at0,aO,⟨#[c]⟩,c - 97,aqhg,rfl,rfl,ho,_,_,rfl,rfl,_,_,rfl,rfl,(by show (0:Int) < 26; decide),aO,_,_,rfl,rfl,axx,axk q0 q1,_,rfl,_,rfl,y,rfl,rfl,rfl,hy.1,hyl,_,_,rfl,rfl,?_,?_⟩
    ·show 1 + (y.cps.toList.drop 1).toArray.size <= Ad
     rw [Ah]
     have:=hy.2.1
     rw [aj2] at this;simp at this ⊢;omega
    ·have e5:((⟨#[97 + ((((c - 97:Nat):Int) + 1) % 26).toNat]⟩:Str)++(⟨(y.cps.toList.drop 1).toArray⟩:Str))=adv 1 y:=by
      rw [aqc5,avi ec,ec];congr 3
     refine ⟨_,?_,rfl,aqeu hy 1,?_⟩
     ·rw [e5]; rfl
     ·rw [aqcc hy,show 1 + (m - 1)=m by omega]; exact hadv
   ·rw [decide_eq_false hin,if_neg (by simp)]
    refine ⟨_,rfl,.inl ⟨rfl,_,SqL.of hl2⟩,_,rfl,l,_,_,rfl,rfl,hl2,?_,?_⟩
    ·rw [length_map,Ah]; omega
    ·refine ⟨_,_,_,_,_,names++[y],rfl,fun b u hb=>?_,?_,by simp [hnl],?_,fun z hz=>?_⟩
     ·rw [af (ac hb hl)]; exact s2 _ _ hb
     ·rw [cb,map_append]; rfl
     ·exact Fg.mpr ⟨hnd,by simp,fun p hp q hq=>by simp at hq; subst hq; rintro rfl; exact hin hp⟩
     ·rcases Bm.mp hz with hz | hz
      ·exact hok z hz
      ·simp at hz; subst hz; exact hy
 ·obtain ⟨c5,c6,c7,c8,c9,names,rfl,s1,hl1,hnl,hnd,hok⟩:=hI
  exact ⟨_,rfl,k l H' names s1 hl hl1 (by simpa using hnl) hnd hok⟩
end
abbrev aKt:Stmt:=top 16
abbrev sInit:Stmt:=aU (top 51) 0
abbrev aKx:Stmt:=aU (top 51) 1
abbrev sCast:Stmt:=aU (top 51) 2
abbrev sLift:Stmt:=aU (top 51) 3
abbrev sLay:Stmt:=aU (top 51) 4
abbrev sHeap:Stmt:=aU (top 51) 5
abbrev aKy:Stmt:=aU (top 51) 6
abbrev sNums:Stmt:=aU (top 51) 9
theorem sb:¬ (("standing":Str)="ballots"):=by decide +kernel
def flds (l d:Addr):List (Str × V):=aqhi "ballots" (.ref d) (aqhi "standing" (.ref l) [])
theorem axf (l d:Addr):(flds l d).lookup ("standing":Str)=some (.ref l):=by
 unfold flds;rw [az,if_neg sb,az,if_pos rfl]
theorem ajp (l d:Addr):(flds l d).lookup ("ballots":Str)=some (.ref d):=by
 unfold flds;rw [az,if_pos rfl]
theorem aqi {l d:Addr} {m:Str} (h1:¬ m="ballots":=by decide +kernel) (h2:¬ m="standing":=by decide +kernel):(flds l d).lookup m=none:=by
 unfold flds;rw [az,if_neg h1,az,if_neg h2];rfl
abbrev aqid:=List (List Int × Int)
def kd (kv:aqid):List (List Key × V):=kv.map fun p=>(p.1.map Sum.inl,.int p.2)
def look (kv:aqid) (k:List Int):Option Int:=(kv.find? fun p=>decide (p.1=k)).map (·.2)
def put (kv:aqid) (k:List Int) (v:Int):aqid:=if (look kv k).isSome=true then kv.map fun p=>if p.1=k then (p.1,v) else p else kv++[(k,v)]
def drop (kv:aqid) (k:List Int):aqid:=kv.filter fun p=>decide (p.1 ≠ k)
theorem aqu (kv:aqid) (k:List Int):aqh9 (kd kv) (k.map Sum.inl)=(look kv k).map V.int:=by
 unfold aqh9 kd look;rw [List.find?_map]
 have:((fun x:List Key × V=>decide (x.1=k.map Sum.inl)) ∘ fun p:List Int × Int=>(p.1.map Sum.inl,V.int p.2))=fun p=>decide (p.1=k):=by
  funext p
  simp only [Ek]
  by_cases e:p.1=k
  ·simp [e]
  ·simp [e]; exact fun z=>e (avb z)
 rw [this];cases kv.find? fun p=>decide (p.1=k) <;> rfl
theorem aky (kv:aqid) (k:List Int):aXk (kd kv) (k.map Sum.inl)=kd (drop kv k):=by
 unfold aXk kd drop;rw [filter_map];congr 1;apply List.filter_congr;intro p _;simp only [Ek]
 by_cases e:p.1=k
 ·simp [e]
 ·simp [e]; exact fun z=>e (avb z)
theorem aQu (kv:aqid) (k:List Int) (v:Int):aqhh (kd kv) (k.map Sum.inl) (.int v)=kd (put kv k v):=by
 have any:((kd kv).any fun x=>decide (x.1=k.map Sum.inl))=(look kv k).isSome:=by
  rw [aqd,aqu];cases look kv k <;> rfl
 unfold aqhh put;rw [any]
 by_cases h:(look kv k).isSome=true
 ·rw [if_pos h,if_pos h]
  unfold kd;rw [map_map,map_map];apply map_congr_left;intro p _;simp only [Ek]
  by_cases e:p.1=k
  ·simp [e]
  ·rw [if_neg e,if_neg fun z=>e (avb z)]
 ·rw [if_neg h,if_neg h]
  unfold kd;rw [map_append];rfl
theorem awn (kv:aqid):(kd kv).length=kv.length:=by simp [kd]
theorem av3 (kv:aqid) (k:List Int) (v:Int):drop (put kv k v) k=drop kv k:=by
 unfold put drop;split
 ·rw [filter_map]
  have:((fun p:List Int × Int=>decide (p.1 ≠ k)) ∘ fun p=>if p.1=k then (p.1,v) else p)=fun p=>decide (p.1 ≠ k):=by
   funext p
   simp only [Ek];split <;> rfl
  rw [this];refine (map_congr_left (g:=id) fun p hp=>?_).trans (by simp)
  have:=(Bl.mp hp).2
  simp at this;simp [this]
 ·simp
structure HallAt (C:Addr) (H:Hp) (p l d:Addr) (names:List Str) (kv:aqid):Prop where
 ob:∃ dx,H p=some (.ins C dx (flds l d))
 st:H l=some (.lst (names.map V.str))
 ba:H d=some (.dT (kd kv))
theorem HallAt.keep {C:Addr} {H H':Hp} {p l d:Addr} {names:List Str} {kv:aqid} (h:HallAt C H p l d names kv) (s:aqi7 H H'):HallAt C H' p l d names kv:=by
 obtain ⟨⟨dx,h1⟩,h2,h3⟩:=h;exact ⟨⟨dx,s _ _ h1⟩,s _ _ h2,s _ _ h3⟩
structure Hx (K:Frag) (mg:Str->Option Value) (C Ct Cm Cn Cf:Addr):Prop where
 cl:Cls K C
 nS:azq K C "standing"
 nB:azq K C "ballots"
 mgC:mg "Hall"=some (.ref C)
 m6:∃ t,mg "MOST_STANDING"=some (.int 6 t)
 m12:∃ t,mg "MOST_PILES"=some (.int 12 t)
 m18:∃ t,mg "MOST_BALLOTS"=some (.int 1000000000000000000 t)
 et:ExcC K Ct
 mt:mg "Taken"=some (.ref Ct)
 em:ExcC K Cm
 mm:mg "TooMany"=some (.ref Cm)
 en:ExcC K Cn
 mn:mg "NoName"=some (.ref Cn)
 ef:ExcC K Cf
 mf:mg "TooFew"=some (.ref Cf)
 tT:ExcH K Ct Ct
 mT:ExcS K Cm Ct
 mM:ExcH K Cm Cm
 nT:ExcS K Cn Ct
 nM:ExcS K Cn Cm
 nN:ExcH K Cn Cn
 fT:ExcS K Cf Ct
 fM:ExcS K Cf Cm
 fN:ExcS K Cf Cn
 fF:ExcH K Cf Cf
 zr:mg "range"=none
 zlen:mg "len"=none
 zlist:mg "list"=none
 ztuple:mg "tuple"=none
 zsorted:mg "sorted"=none
 zmax:mg "max"=none
 zall:mg "all"=none
 zenum:mg "enumerate"=none
 zint:mg "int"=none
def spInit (C:Addr):Sp:=fun vs H Q _=>∃ (p dx:Addr),vs=[.ref p]/\H p=some (.ins C dx [])/\∀ (l d:Addr) (H':Hp),H l=none->H d=none->HallAt C H' p l d [] []->(∀ b o,H b=some o->b ≠ p->H' b=some o)->Q .non H'
def aVb (C Ct Cm:Addr):Sp:=fun vs H Q E=>∃ (p l d:Addr) (names:List Str) (kv:aqid) (x:Str),vs=[.ref p,.str x]/\HallAt C H p l d names kv/\names.length <= 6/\ay x/\(∀ y∈names,ay y) /\
 (x∈names->E (.ref Ct) none H)/\(x ∉ names->6 <= names.length->E (.ref Cm) none H)/\(x ∉ names->names.length < 6->Q .non (upd H l (.lst ((names++[x]).map V.str))))
def aQh (C:Addr):Sp:=fun vs H Q _=>∃ (p l d:Addr) (names:List Str) (kv:aqid),vs=[.ref p]/\HallAt C H p l d names kv/\∀ n,H n=none->Q (.ref n) (upd H n (.lst (names.map V.str)))
def spLay (C:Addr):Sp:=fun vs H Q _=>∃ (p l d b:Addr) (names:List Str) (kv:aqid) (k:List Int) (v:Int),vs=[.ref p,.ref b,.int v]/\HallAt C H p l d names kv/\kv.length <= 12/\H b=some (.tup (k.map V.int)) /\
 Q .non (upd H d (.dT (kd (if v=0 then drop kv k else put kv k v))))
section
variable {P:Af} {w:World} {K:Frag} {mg:Str->Option Value} {base:Heap} {C Ct Cm Cn Cf:Addr}
theorem scI:FnScope ["self"] ["self"] (ai sInit):=fsc
theorem aqb0 {f:Addr} {fd:Am} (F:Fun K "__init__" "Hall.__init__" sInit f fd) (T:Hx K mg C Ct Cm Cn Cf):FnOk P w K mg base CX0 1 f fd ["self"] (spInit C):=by
 refine F.ok scI (fun vs H Q E h=>?_) (fun cdv A outer s H vs Q E hr h=>?_)
 ·obtain ⟨p,dx,rfl,_⟩:=h
  rfl
 ·obtain ⟨p,dx,rfl,hp,k⟩:=h
  refine ⟨_,ae (aK5 (pv 0) (aY ag) rfl) (ah (aK5 (pv 0) azc rfl)),?_⟩;refine ⟨by show 0 <= Ad; decide,fun l hl=>?_⟩;have npl:p ≠ l:=ac hp hl;refine ⟨_,rfl,p,C,dx,[],rfl,(by rw [af npl]; exact hp),T.cl,T.nS,(by show 0 < 1000; decide),?_⟩;intro d hd;have npd:p ≠ d:=by rintro rfl; rw [cb] at hd; cases hd
  have nld:l ≠ d:=by rintro rfl; rw [af npl.symm,cb] at hd; cases hd
  rw [af npd.symm,af nld.symm] at hd;refine ⟨_,rfl,p,C,dx,_,rfl,(by rw [af npd,cb]),T.cl,T.nB,(by show 1 < 1000; decide),?_⟩;refine k l d _ hl hd ⟨⟨dx,cb⟩,by rw [af npl.symm,af nld,af npl.symm,cb]; rfl,by rw [af npd.symm,cb]; rfl⟩ fun b o e hb=>?_;rw [af hb,af (ac e hd),af hb,af (ac e hl)];exact e
theorem scS:FnScope ["self","name"] ["self","name"] (ai aKx):=fsc
theorem aWh {f:Addr} {fd:Am} (F:Fun K "stand" "Hall.stand" aKx f fd) (T:Hx K mg C Ct Cm Cn Cf):FnOk P w K mg base (CXm P w) 2 f fd ["self","name"] (aVb C Ct Cm):=by
 obtain ⟨t6,h6⟩:=T.m6;refine fnM F scS (k:=1) (fun vs H Q E h=>?_) (fun cdv A outer s H vs Q E hr h=>?_)
 ·obtain ⟨_,_,_,_,_,_,rfl,_⟩:=h
  rfl
 ·obtain ⟨p,l,d,names,kv,x,rfl,S,h6l,hx,hok,kt,km,k⟩:=h
  obtain ⟨⟨dx,h1⟩,h2,h3⟩:=id S;refine ⟨_,ae (aZ (ak (aX9 (aYp hr)) (pv 1) (aqa (pv 0) rfl) (by rfl)) (ah (aqo T.et T.mt rfl (aa al ag))) ao)
   (ae (aZ (ak op_ge (bp ax rfl T.zlen ajb (aa (aqa (pv 0) rfl) ag)) (ajl (v:=.int 6) rfl h6 ⟨t6,rfl⟩) (cn _)) (ah (aqo T.em T.mm rfl (aa al ag))) ao)
   (ah (aqe (aQ7 Dk Ei Ej ajt (aqa (pv 0) rfl) (aa (pv 1) ag))))),?_⟩
  refine ⟨_,rfl,_,rfl,p,C,dx,_,_,rfl,h1,T.cl,T.nS,axf _ _,H,.str x,names.map D.str,false,aqi7.refl _,.str x,.lst (.inl (.inl h2)) (aK names),aqy hx 20,bD hok 19,_,rfl,?_⟩;simp only [Ao,if_false];rw [aqq]
  by_cases hin:x∈names
  ·rw [decide_eq_true hin]
   refine aqhs ?_;exact ⟨by show 1 <= Ad; decide,kt hin⟩
  ·rw [decide_eq_false hin]
   refine aqht ?_;refine ⟨_,rfl,p,C,dx,_,_,rfl,h1,T.cl,T.nS,axf _ _,l,_,rfl,.inl (SqL.of h2),_,_,rfl,rfl,_,rfl,?_⟩;rw [length_map]
   by_cases h6':6 <= names.length
   ·rw [decide_eq_true (show (6:Int) <= (names.length:Int) by omega)]
    refine aqhs ?_;exact ⟨by show 1 <= Ad; decide,km hin h6'⟩
   ·rw [decide_eq_false (show ¬ (6:Int) <= (names.length:Int) by omega)]
    refine aqht ?_;refine ⟨_,rfl,p,C,dx,_,_,rfl,h1,T.cl,T.nS,axf _ _,.inl ⟨rfl,_,SqL.of h2⟩,_,rfl,l,_,_,rfl,rfl,h2,by rw [length_map,Ah]; omega,?_⟩
    have:=k hin (by omega)
    rw [map_append] at this;exact this
theorem scN:FnScope ["self"] ["self"] (ai aKy):=fsc
theorem aWi {f:Addr} {fd:Am} (F:Fun K "names" "Hall.names" aKy f fd) (T:Hx K mg C Ct Cm Cn Cf):FnOk P w K mg base CX0 1 f fd ["self"] (aQh C):=by
 refine F.ok scN (fun vs H Q E h=>?_) (fun cdv A outer s H vs Q E hr h=>?_)
 ·obtain ⟨_,_,_,_,_,rfl,_⟩:=h
  rfl
 ·obtain ⟨p,l,d,names,kv,rfl,S,k⟩:=h
  obtain ⟨⟨dx,h1⟩,h2,h3⟩:=id S;refine ⟨_,ah (au (jt axj rfl T.zlist aXf (aa (aqa (pv 0) rfl) ag))),?_⟩;exact ⟨_,rfl,p,C,dx,_,_,rfl,h1,T.cl,T.nS,axf _ _,l,_,rfl,.inl (SqL.of h2),fun n hn=>k n hn⟩
theorem scL:FnScope ["self","marks","many"] ["self","marks","many"] (ai sLay):=fsc
theorem aqde {f:Addr} {fd:Am} (F:Fun K "lay" "Hall.lay" sLay f fd) (T:Hx K mg C Ct Cm Cn Cf):FnOk P w K mg base CX0 1 f fd ["self","marks","many"] (spLay C):=by
 refine F.ok scL (fun vs H Q E h=>?_) (fun cdv A outer s H vs Q E hr h=>?_)
 ·obtain ⟨_,_,_,_,_,_,_,_,rfl,_⟩:=h
  rfl
 ·obtain ⟨p,l,d,b,names,kv,k,v,rfl,S,h12,hb,q⟩:=h
  obtain ⟨⟨dx,h1⟩,h2,h3⟩:=id S;have hb':H b=some (.tup ((k.map Sum.inl:List Key).map kV)):=by rw [ajo]; exact hb
  refine ⟨_,ah (aZ (ak aq1 (pv 2) aj (cn _)) (ah (aqe (aX5 (aku hr) (aqa (pv 0) rfl) (pv 1) aQ3 ⟨rfl,rfl,rfl,rfl⟩)))
   (ah (aQx (aku hr) (aqa (pv 0) rfl) (pv 1) (pv 2) rfl))),?_⟩
  refine ⟨_,rfl,rfl,_,rfl,?_⟩
  by_cases hv:v=0
  ·subst hv
   rw [if_pos rfl] at q;refine aqhs ?_;refine ⟨_,rfl,p,C,dx,_,_,rfl,h1,T.cl,T.nB,ajp _ _,d,rfl,.inr ⟨_,.inl h3⟩,_,rfl,kd kv,k.map Sum.inl,b,h3,rfl,hb',fun v hv=>?_,fun hv=>?_⟩
   ·rw [aky]; exact q
   ·rw [aqu] at hv
    have:drop kv k=kv:=by
     unfold drop;rw [Cb];intro p hp
     simp
     rintro rfl
     have:(kv.find? fun x=>decide (x.1=p.1)) ≠ none:=by
      rw [ne_eq,Hh];intro z;exact z p hp (by simp)
     cases e:kv.find? fun x=>decide (x.1=p.1) with
     | none=>exact this e
     | some y=>unfold look at hv; rw [e] at hv; cases hv
    rw [this] at q;have e2:upd H d (.dT (kd kv))=H:=by
     funext c
     by_cases hc:c=d
     ·subst hc; rw [cb,h3]
     ·rw [af hc]
    rw [e2] at q;exact q
  ·rw [if_neg hv] at q
   rw [decide_eq_false (by simp [hv])];refine aqht ?_;refine ⟨_,rfl,_,rfl,p,C,dx,_,_,rfl,h1,T.cl,T.nB,ajp _ _,_,rfl,d,_,rfl,DPut.t (k:=k.map Sum.inl) h3 hb' (by rw [awn,Ah]; omega),?_⟩;rw [aQu];exact q
end
def aqhm (st xs:List Str):List Int:=(st.zipIdx.filter fun p=>decide (p.1∈xs)).map fun p=>(p.2:Int)
theorem aqet (st xs:List Str):((xs.map fun y=>decide (y∈st)).all id)=decide (∀ y∈xs,y∈st):=by
 rw [Ax]
 simp
def aKg (C Cn:Addr):Sp:=fun vs H Q E=>∃ (p l d z:Addr) (names:List Str) (kv:aqid) (xs:List Str),vs=[.ref p,.ref z]/\HallAt C H p l d names kv/\H z=some (.lst (xs.map V.str))/\names.length <= 6/\xs.length <= 9/\(∀ y∈names,ay y)/\(∀ y∈xs,ay y) /\
 ((¬ ∀ y∈xs,y∈names)->∀ H',aqi7 H H'->E (.ref Cn) none H')/\((∀ y∈xs,y∈names)->∀ r H',aqi7 H H'->H r=none->H' r=some (.lst ((aqhm names xs).map V.int))->Q (.ref r) H')
def strV:V->Str
 | .str x=>x
 | _=>""
section
variable {P:Af} {w:World} {K:Frag} {mg:Str->Option Value} {base:Heap} {C Ct Cm Cn Cf:Addr}
theorem scM:FnScope ["self","names"] ["self","names"] (ai sNums):=fsc
theorem aqax {f:Addr} {fd:Am} (F:Fun K "numbers_of" "Hall.numbers_of" sNums f fd) (T:Hx K mg C Ct Cm Cn Cf):FnOk P w K mg base (CXm P w) 2 f fd ["self","names"] (aKg C Cn):=by
 refine fnM F scM (k:=1) (fun vs H Q E h=>?_) (fun cdv A outer s H vs Q E hr h=>?_)
 ·obtain ⟨_,_,_,_,_,_,_,rfl,_⟩:=h
  rfl
 ·obtain ⟨p,l,d,z,names,kv,xs,rfl,S,hz,h6,h9,hok,hxs,ke,kq⟩:=h
  obtain ⟨⟨dx,h1⟩,h2,h3⟩:=id S;refine ⟨_,ae (aZ (aQw (aQv (bp (ajw rfl) rfl T.zall aZ4 (aa (aE (cl:=_) (N':=["name","self"]) (js:=[none,some 0]) (tc:=ajq) (te:=tOp (rInD K false) (aqhb 0) (tFld K (aqhb 1) "standing")) (by o_reads)
    (aqf (pv 1)) (fun _ _ _ _ _=>pgc 0) aqhk
    (fun _ _ _ _ _=>aM (aVn rfl (aYp hr)) (pv 0) (aQ5 rfl (pv 1) rfl) (by rfl))) ag)))) (ah (aqo T.en T.mn rfl (aa al ag))) ao)
   (ah (au (aE (cl:=_) (N':=["number","name","names"]) (js:=[none,none,some 1]) (g:=gTup K 2 (awp (aqw 0) (awp (aqw 1) gNil))) (tc:=tTest (tOp (rInD K false) (aqhb 1) (aqhb 2))) (te:=aqhb 0) (by o_reads)
    (aqaj rfl T.zenum (aqa (pv 0) rfl)) (fun _ _ _ _ _=>aQ1 rfl rfl (aqg (pgc 0) (aqg (pgc 1) akk)))
    (fun _ _ _ _ _=>.inr ⟨_,rfl,ak (aVn rfl (aYp hr)) (pv 1) (pv 2) (by rfl)⟩) (fun _ _ _ _ _=>pv 0)))),?_⟩
  refine ⟨_,rfl,z,rfl,⟨_,SqL.of hz⟩,aqk (SqL.of hz) (by rw [length_map,Ah]; omega) (fun _=>true) (fun v=>.bl (decide (strV v∈names))) (fun σ=>∃ c,σ=[c,some (.ref p)]) ⟨none,rfl⟩ (fun i x σ' H' hx hS sm=>?_) fun r hr'=>?_⟩
  ·obtain ⟨c,rfl⟩:=hS
   obtain ⟨y,hy,rfl⟩:∃ y∈xs,x=V.str y:=by
    rw [getElem?_map] at hx;cases e:xs[i]? with
    | none=>rw [e] at hx; cases hx
    | some q=>rw [e] at hx; exact ⟨q,mem_of_getElem? e,(Option.some.inj hx).symm⟩
   refine ⟨⟨_,rfl⟩,fun R h=>h,fun R _ h=>?_⟩;refine ⟨_,rfl,_,rfl,p,C,dx,_,_,rfl,sm _ _ h1,T.cl,T.nS,axf _ _,H',.str y,names.map D.str,false,aqi7.refl _,.str y,.lst (.inl (.inl (sm _ _ h2))) (aK names),aqy (hxs y hy) 20,bD hok 19,?_⟩;simp only [Ao,if_false];rw [aqq];exact h
  ·rw [Cb.mpr (by simp),map_map]
   have sm1:aqi7 H (upd H r (.lst (xs.map ((fun v=>V.bl (decide (strV v∈names))) ∘ V.str)))):=gd hr';refine ⟨r,xs.map fun y=>decide (y∈names),rfl,?_,?_⟩
   ·rw [map_map]; exact SqL.of cb
   ·rw [aqet]
    refine ⟨_,rfl,?_⟩;generalize upd H r (.lst (xs.map ((fun v=>V.bl (decide (strV v∈names))) ∘ V.str)))=H1 at sm1 ⊢
    by_cases hall:∀ y∈xs,y∈names
    ·rw [decide_eq_true hall]
     refine aqht ?_;refine ⟨_,rfl,p,C,dx,_,_,rfl,sm1 _ _ h1,T.cl,T.nS,axf _ _,l,rfl,⟨_,SqL.of (sm1 _ _ h2)⟩,aJ9 (SqL.of (sm1 _ _ h2)) (by rw [length_map,Ah]; omega) (fun _ v=>decide (strV v∈xs)) (fun i _=>.int (i:Int)) (fun σ=>∃ c c',σ=[c,c',some (.ref z)]) ⟨none,none,rfl⟩ (fun i x σ' H' hx hS sm=>?_) fun r2 H2 hr2 sm2 hl2=>?_⟩
     ·obtain ⟨c,c',rfl⟩:=hS
      obtain ⟨y,hy,rfl⟩:∃ y∈names,x=V.str y:=by
       rw [getElem?_map] at hx;cases e:names[i]? with
       | none=>rw [e] at hx; cases hx
       | some q=>rw [e] at hx; exact ⟨q,mem_of_getElem? e,(Option.some.inj hx).symm⟩
      refine ⟨⟨_,_,rfl⟩,fun R h=>?_,fun R _ h=>⟨_,rfl,h⟩⟩;refine ⟨_,rfl,_,rfl,H',.str y,xs.map D.str,false,aqi7.refl _,.str y,.lst (.inl (.inl (sm _ _ (sm1 _ _ hz)))) (aK xs),aqy (hok y hy) 20,bD hxs 19,_,rfl,?_⟩;simp only [Ao,if_false];rw [aqq];exact h
     ·refine kq hall r2 H2 (sm1.trans sm2) (sm1.free hr2) ?_
      rw [hl2];congr 2;unfold aqhm;rw [List.zipIdx_map,filter_map,map_map,map_map];rfl
    ·rw [decide_eq_false hall]
     refine aqhs ?_;exact ⟨by show 1 <= Ad; decide,ke hall _ sm1⟩
end
def lay (kv:aqid) (k:List Int) (v:Int):aqid:=if v=0 then drop kv k else put kv k v
def wt (kv:aqid) (k:List Int):Int:=(look kv k).getD 0
def spCast (C Cm Cn:Addr):Sp:=fun vs H Q E=>∃ (p l d z:Addr) (names:List Str) (kv:aqid) (xs:List Str) (v:Int),vs=[.ref p,.int v,.ref z]/\HallAt C H p l d names kv/\H z=some (.lst (xs.map V.str))/\names.length <= 6/\xs.length <= 9/\kv.length <= 12/\(∀ y∈names,ay y)/\(∀ y∈xs,ay y) /\
 ((¬ ∀ y∈xs,y∈names)->∀ H',aqi7 H H'->E (.ref Cn) none H') /\
 ((∀ y∈xs,y∈names)->((look kv (aqhm names xs)).isSome=false/\12 <= kv.length) \/ 10 ^ 18 < wt kv (aqhm names xs) + v->∀ H',aqi7 H H'->E (.ref Cm) none H') /\
 ((∀ y∈xs,y∈names)->¬ (((look kv (aqhm names xs)).isSome=false/\12 <= kv.length) \/ 10 ^ 18 < wt kv (aqhm names xs) + v)->∀ H',(∀ b o,H b=some o->b ≠ d->H' b=some o)->H' d=some (.dT (kd (lay kv (aqhm names xs) (wt kv (aqhm names xs) + v))))->Q .non H')
def spLift (C Cf Cn:Addr):Sp:=fun vs H Q E=>∃ (p l d z:Addr) (names:List Str) (kv:aqid) (xs:List Str) (v:Int),vs=[.ref p,.int v,.ref z]/\HallAt C H p l d names kv/\H z=some (.lst (xs.map V.str))/\names.length <= 6/\xs.length <= 9/\kv.length <= 12/\(∀ y∈names,ay y)/\(∀ y∈xs,ay y) /\
 ((¬ ∀ y∈xs,y∈names)->∀ H',aqi7 H H'->E (.ref Cn) none H') /\
 ((∀ y∈xs,y∈names)->wt kv (aqhm names xs) < v->∀ H',aqi7 H H'->E (.ref Cf) none H') /\
 ((∀ y∈xs,y∈names)->¬ wt kv (aqhm names xs) < v->∀ H',(∀ b o,H b=some o->b ≠ d->H' b=some o)->H' d=some (.dT (kd (lay kv (aqhm names xs) (wt kv (aqhm names xs) - v))))->Q .non H')
def swap (kv:aqid):List (Int × List Int):=kv.map fun p=>(p.2,p.1)
def spHeap (K:Frag) (C:Addr):Sp:=fun vs H Q _=>∃ (p l d:Addr) (names:List Str) (kv:aqid),vs=[.ref p]/\HallAt C H p l d names kv/\kv.length < 60/\(∀ q∈kv,q.1.length < 60) /\
 ∀ v F' H' A,Own K F' H' v (.lst ((azs (swap kv)).map aQz)) A->aqi7 F' H'->(∀ b,A b->F' b=none/\H b=none)->aqi7 H H'->Q v H'
section
variable {P:Af} {w:World} {K:Frag} {mg:Str->Option Value} {base:Heap} {C Ct Cm Cn Cf:Addr}
theorem scC:FnScope ["self","many","names","marks","together"] ["self","many","names"] (ai sCast):=fsc
theorem aqb2 {f fn fl:Addr} {fd fdn fdl:Am} (F:Fun K "cast" "Hall.cast" sCast f fd) (T:Hx K mg C Ct Cm Cn Cf) (GN:FnOk P w K mg base (CXm P w) 2 fn fdn ["self","names"] (aKg C Cn)) (bN:L2.Binds K fdn ["self","names"] []) (mN:Meth K C "numbers_of" fn)
  (GL:FnOk P w K mg base CX0 1 fl fdl ["self","marks","many"] (spLay C)) (bL:L2.Binds K fdl ["self","marks","many"] []) (mL:Meth K C "lay" fl):FnOk P w K mg base (CXm P w) 3 f fd ["self","many","names"] (spCast C Cm Cn):=by
 obtain ⟨t12,h12⟩:=T.m12;obtain ⟨t18,h18⟩:=T.m18;refine fnM F scC (k:=2) (fun vs H Q E h=>?_) (fun cdv A outer s H vs Q E hr h=>?_)
 ·obtain ⟨_,_,_,_,_,_,_,_,rfl,_⟩:=h
  rfl
 ·obtain ⟨p,l,d,z,names,kv,xs,v,rfl,S,hz,h6,h9,hkv,hok,hxs,ke,km,kq⟩:=h
  obtain ⟨⟨dx,h1⟩,h2,h3⟩:=id S;have hr1:Room 1 _:=hm hr;refine ⟨_,ae (gs (i:=3) scC.nd rfl (.inl rfl) (jt aR rfl T.ztuple azn (aa (aqr (pv 0) T.cl mN GN hr bN .nil aYk (aa (pv 2) ag)) ag)))
   (ae (aZ (PW.pt (aXz (aqad (akl (aku hr) (pv 3) (aqa (pv 0) rfl))) (aki (ak op_ge (bp ak5 rfl T.zlen ajb (aa (aqa (pv 0) rfl) ag)) (ajl (v:=.int 12) rfl h12 ⟨t12,rfl⟩) (cn _))))) (ah (aqo T.em T.mm rfl (aa al ag))) ao)
   (ae (gs (i:=4) scC.nd rfl (.inl rfl) (aX aze (azd (aku hr) (aqa (pv 0) rfl) (pv 3) aj ⟨rfl,rfl,rfl,rfl⟩) (pv 1)))
   (ae (aZ (ak op_gt (pv 4) (ajl (v:=.int 1000000000000000000) rfl h18 ⟨t18,rfl⟩) (cn _)) (ah (aqo T.em T.mm rfl (aa al ag))) ao)
   (ah (aqe (aqr (pv 0) T.cl mL GL hr1 bL .nil aqt (aa (pv 3) (aa (pv 4) ag)))))))),?_⟩
  refine ⟨_,rfl,p,dx,_,rfl,h1,aqi,_,rfl,p,l,d,z,names,kv,xs,rfl,S,hz,h6,h9,hok,hxs,fun hn H' sm=>⟨Cn,rfl,ke hn H' sm⟩,fun hin r H1 sm1 hr0 hr1'=>?_⟩;generalize hk:aqhm names xs=k at *;refine ⟨r,_,rfl,.inl ⟨SqL.of hr1',fun b hb=>?_⟩⟩;have sm2:aqi7 H (upd H1 b (.tup (k.map V.int))):=sm1.trans (gd hb);have hb2:(upd H1 b (.tup (k.map V.int))) b=some (.tup ((k.map Sum.inl:List Key).map kV)):=by rw [cb,ajo]
  have hb2':(upd H1 b (.tup (k.map V.int))) b=some (.tup (k.map V.int)):=cb;generalize upd H1 b (.tup (k.map V.int))=H2 at sm2 hb2 hb2' ⊢;have S2:=S.keep sm2;have g:aqig H2 d (.ref b) (aqh9 (kd kv) (k.map Sum.inl)):=aqig.t S2.ba hb2;rw [aqu] at g;have fin:wt kv k + v <= 10 ^ 18->¬ ((look kv k).isSome=false/\12 <= kv.length)->∀ H',Q .non H' \/ True:=fun _ _ _=>.inr trivial;have go:(((look kv k).isSome=false/\12 <= kv.length)->∀ H',aqi7 H H'->E (.ref Cm) none H'):=fun h=>km hin (.inl h);refine ⟨_,rfl,_,rfl,p,C,dx,_,_,rfl,sm2 _ _ h1,T.cl,T.nB,ajp _ _,d,_,rfl,g,_,rfl,?_⟩;have tail:¬ ((look kv k).isSome=false/\12 <= kv.length)->(H2 p=some (.ins C dx (flds l d))):=fun _=>sm2 _ _ h1;rw [show ((look kv k).map V.int).isSome=(look kv k).isSome by cases look kv k <;> rfl];have e12:((kd kv).length:Int)=(kv.length:Int):=by rw [awn]
  have big:(((look kv k).map V.int).getD (.int 0))=.int (wt kv k):=by unfold wt; cases look kv k <;> rfl
  by_cases hs:(look kv k).isSome=true
  ·rw [hs]
   refine aqht ?_;refine aqht ?_;refine ⟨_,rfl,p,C,dx,_,_,rfl,sm2 _ _ h1,T.cl,T.nB,ajp _ _,d,rfl,.inr ⟨_,.inl S2.ba⟩,_,rfl,_,g,?_⟩;rw [big];refine ⟨_,rfl,_,_,rfl,rfl,?_⟩;refine ⟨_,rfl,_,_,rfl,rfl,_,rfl,?_⟩
   by_cases hb18:(1000000000000000000:Int) < wt kv k + v
   ·rw [decide_eq_true hb18]
    refine aqhs ?_;exact ⟨by show 1 <= Ad; decide,km hin (.inr hb18) _ sm2⟩
   ·rw [decide_eq_false hb18]
    refine aqht ?_;refine ⟨_,rfl,p,dx,_,rfl,sm2 _ _ h1,aqi,_,rfl,_,rfl,p,l,d,b,names,kv,k,_,rfl,S2,hkv,hb2',?_⟩;exact kq hin (by rw [hs]; rintro (h | h); cases h.1; exact hb18 h) _ (fun c o hc hcd=>by rw [af hcd]; exact sm2 _ _ hc) cb
  ·have hs':(look kv k).isSome=false:=by simpa using hs
   rw [hs'];refine aqhs ?_;refine ⟨_,rfl,p,C,dx,_,_,rfl,sm2 _ _ h1,T.cl,T.nB,ajp _ _,d,_,rfl,S2.ba,_,_,rfl,rfl,_,rfl,?_⟩;rw [e12]
   by_cases hl12:12 <= kv.length
   ·rw [decide_eq_true (show (12:Int) <= (kv.length:Int) by omega)]
    refine aqhs ?_;exact ⟨by show 1 <= Ad; decide,km hin (.inl ⟨hs',hl12⟩) _ sm2⟩
   ·rw [decide_eq_false (show ¬ (12:Int) <= (kv.length:Int) by omega)]
    refine aqht ?_;refine ⟨_,rfl,p,C,dx,_,_,rfl,sm2 _ _ h1,T.cl,T.nB,ajp _ _,d,rfl,.inr ⟨_,.inl S2.ba⟩,_,rfl,_,g,?_⟩;rw [big];refine ⟨_,rfl,_,_,rfl,rfl,?_⟩;refine ⟨_,rfl,_,_,rfl,rfl,_,rfl,?_⟩
    by_cases hb18:(1000000000000000000:Int) < wt kv k + v
    ·rw [decide_eq_true hb18]
     refine aqhs ?_;exact ⟨by show 1 <= Ad; decide,km hin (.inr hb18) _ sm2⟩
    ·rw [decide_eq_false hb18]
     refine aqht ?_;refine ⟨_,rfl,p,dx,_,rfl,sm2 _ _ h1,aqi,_,rfl,_,rfl,p,l,d,b,names,kv,k,_,rfl,S2,hkv,hb2',?_⟩;exact kq hin (by rintro (h | h); exact hl12 h.2; exact hb18 h) _ (fun c o hc hcd=>by rw [af hcd]; exact sm2 _ _ hc) cb
theorem scF:FnScope ["self","many","names","marks","lying"] ["self","many","names"] (ai sLift):=fsc
theorem aqaz {f fn fl:Addr} {fd fdn fdl:Am} (F:Fun K "lift" "Hall.lift" sLift f fd) (T:Hx K mg C Ct Cm Cn Cf) (GN:FnOk P w K mg base (CXm P w) 2 fn fdn ["self","names"] (aKg C Cn)) (bN:L2.Binds K fdn ["self","names"] []) (mN:Meth K C "numbers_of" fn)
  (GL:FnOk P w K mg base CX0 1 fl fdl ["self","marks","many"] (spLay C)) (bL:L2.Binds K fdl ["self","marks","many"] []) (mL:Meth K C "lay" fl):FnOk P w K mg base (CXm P w) 3 f fd ["self","many","names"] (spLift C Cf Cn):=by
 refine fnM F scF (k:=2) (fun vs H Q E h=>?_) (fun cdv A outer s H vs Q E hr h=>?_)
 ·obtain ⟨_,_,_,_,_,_,_,_,rfl,_⟩:=h
  rfl
 ·obtain ⟨p,l,d,z,names,kv,xs,v,rfl,S,hz,h6,h9,hkv,hok,hxs,ke,kf,kq⟩:=h
  obtain ⟨⟨dx,h1⟩,h2,h3⟩:=id S;have hr1:Room 1 _:=hm hr;refine ⟨_,ae (gs (i:=3) scF.nd rfl (.inl rfl) (jt aR rfl T.ztuple azn (aa (aqr (pv 0) T.cl mN GN hr bN .nil aYk (aa (pv 2) ag)) ag)))
   (ae (gs (i:=4) scF.nd rfl (.inl rfl) (azd (aku hr) (aqa (pv 0) rfl) (pv 3) aj ⟨rfl,rfl,rfl,rfl⟩))
   (ae (aZ (ak op_lt (pv 4) (pv 1) (cn _)) (ah (aqo T.ef T.mf rfl (aa al ag))) ao)
   (ah (aqe (aqr (pv 0) T.cl mL GL hr1 bL .nil aqt (aa (pv 3) (aa (aX aWd (pv 4) (pv 1)) ag))))))),?_⟩
  refine ⟨_,rfl,p,dx,_,rfl,h1,aqi,_,rfl,p,l,d,z,names,kv,xs,rfl,S,hz,h6,h9,hok,hxs,fun hn H' sm=>⟨Cn,rfl,ke hn H' sm⟩,fun hin r H1 sm1 hr0 hr1'=>?_⟩;generalize hk:aqhm names xs=k at *;refine ⟨r,_,rfl,.inl ⟨SqL.of hr1',fun b hb=>?_⟩⟩;have sm2:aqi7 H (upd H1 b (.tup (k.map V.int))):=sm1.trans (gd hb);have hb2:(upd H1 b (.tup (k.map V.int))) b=some (.tup ((k.map Sum.inl:List Key).map kV)):=by rw [cb,ajo]
  have hb2':(upd H1 b (.tup (k.map V.int))) b=some (.tup (k.map V.int)):=cb;generalize upd H1 b (.tup (k.map V.int))=H2 at sm2 hb2 hb2' ⊢;have S2:=S.keep sm2;have g:aqig H2 d (.ref b) (aqh9 (kd kv) (k.map Sum.inl)):=aqig.t S2.ba hb2;rw [aqu] at g;have big:(((look kv k).map V.int).getD (.int 0))=.int (wt kv k):=by unfold wt; cases look kv k <;> rfl
  refine ⟨_,rfl,p,C,dx,_,_,rfl,sm2 _ _ h1,T.cl,T.nB,ajp _ _,d,rfl,.inr ⟨_,.inl S2.ba⟩,_,rfl,_,g,?_⟩;rw [big];refine ⟨_,rfl,_,rfl,_,_,rfl,rfl,_,rfl,?_⟩
  by_cases hlt:wt kv k < v
  ·rw [decide_eq_true hlt]
   refine aqhs ?_;exact ⟨by show 1 <= Ad; decide,kf hin hlt _ sm2⟩
  ·rw [decide_eq_false hlt]
   refine aqht ?_;refine ⟨_,rfl,p,dx,_,rfl,sm2 _ _ h1,aqi,_,rfl,_,rfl,_,rfl,_,_,rfl,rfl,p,l,d,b,names,kv,k,_,rfl,S2,hkv,hb2',?_⟩;exact kq hin hlt _ (fun c o hc hcd=>by rw [af hcd]; exact sm2 _ _ hc) cb
end
section
variable {P:Af} {w:World} {K:Frag} {mg:Str->Option Value} {base:Heap} {C Ct Cm Cn Cf:Addr}
theorem azy:FnScope ["heap","weights","weight","marks","key"] ["heap"] (ai aKt):=fsc
theorem aqau {f:Addr} {fd:Am} (F:Fun K "tidy" "tidy" aKt f fd) (T:Hx K mg C Ct Cm Cn Cf):FnOk P w K mg base CX0 2 f fd ["heap"] (spO K 1 aY1) :=
 F.ok azy (k:=1) (fun vs H Q E h=>by obtain ⟨F,ds,d,_,r,hl,_⟩:=h; rw [r.length,hl]; rfl) fun cdv A outer s H vs Q E hr h=>⟨_,ae (gs (i:=1) azy.nd rfl (.inr rfl) azc) (ae
  (awg Cv rfl (aqf (pv 0)) (aqak rfl (aqg (ajk (i:=2) azy.nd rfl (.inl rfl)) (aqg (ajk (i:=3) azy.nd rfl (.inl rfl)) akk)))
   (ae (gs (i:=4) azy.nd rfl (.inl rfl) (jt aR rfl T.ztuple azn (aa (pv 3) ag)))
   (ah (aQx (aku hr) (pv 1) (pv 4) (aX aze (azd (aku hr) (pv 1) (pv 4) aj ⟨rfl,rfl,rfl,rfl⟩) (pv 2)) rfl))))
  (ah (au (aE (cl:=_) (N':=["key","weights"]) (js:=[none,some 1]) (tc:=ajq) (te:=tTup (axq (tDGet (aqhb 1) (aqhb 0)) (axq (tCB (rLOf K) (axq (aqhb 0) aqhc)) aqhc))) (by o_reads)
   (aqf (bp (axi hr.units rfl) rfl T.zsorted azo (aa (pv 1) ag)))
   (fun _ _ _ _ _=>pgc 0)
   aqhk
   (fun _ _ _ _ _=>axa (aa (aQ6 (aku hr) (pv 1) (pv 0) (fun _ _=>rfl)) (aa (jt (aXe rfl) rfl T.zlist aXf (aa (pv 0) ag)) ag))))))),by
  obtain ⟨F0,ds,o,sm,r,hl,hg,k⟩:=h;exact aw9 sm r hl hg k⟩
theorem scH:FnScope ["self"] ["self"] (ai sHeap):=fsc
theorem awo (kv:aqid):aYo (.lst (kv.map DL.aqhj))=some (swap kv):=by
 have one:∀ p:List Int × Int,aqbl (DL.aqhj p)=some (p.2,p.1):=by
  intro p
  have:∀ l:List Int,(l.map D.int).mapM kInt=some l:=by
   intro l
   induction l with
   | nil=>rfl
   | cons a l ih=>rw [map_cons,mapM_cons,ih]; rfl
  simp [aqbl,DL.aqhj,aqbm,this]
 unfold aYo swap
 induction kv with
 | nil=>rfl
 | cons p kv ih =>
  simp only [map_cons,mapM_cons,one] at ih ⊢;rw [ih]; rfl
theorem aQa {kv:aqid} (h:kv.length < 60) (hm:∀ q∈kv,q.1.length < 60):aY1 [.lst (kv.map DL.aqhj)]=some (.lst ((azs (swap kv)).map aQz)):=by
 unfold aY1;dsimp only;rw [awo];simp only [Option.bind_some];rw [if_pos];refine ⟨by simpa [swap] using h,?_⟩;rw [all_eq_true];intro p hp;obtain ⟨q,hq,rfl⟩:=An.mp hp;exact decide_eq_true (hm q hq)
theorem aqb1 {f:Addr} {fd:Am} (F:Fun K "heap" "Hall.heap" sHeap f fd) (T:Hx K mg C Ct Cm Cn Cf) (G:Fn P w K mg base 2 "tidy" ["heap"] (spO K 1 aY1)):FnOk P w K mg base CX0 3 f fd ["self"] (spHeap K C):=by
 obtain ⟨ft,fdt,okt,mt,kt,bt⟩:=G;refine F.ok scH (k:=2) (fun vs H Q E h=>?_) (fun cdv A outer s H vs Q E hr h=>?_)
 ·obtain ⟨_,_,_,_,_,rfl,_⟩:=h
  rfl
 ·obtain ⟨p,l,d,names,kv,rfl,S,h60,hm60,k⟩:=h
  obtain ⟨⟨dx,h1⟩,h2,h3⟩:=id S;refine ⟨_,ah (au (av okt hr rfl mt kt bt .nil aqt (aa (aqal (aE (cl:=_) (N':=["marks","many"]) (js:=[none,none]) (g:=gTup K 2 (awp (aqw 0) (awp (aqw 1) gNil))) (tc:=ajq) (te:=tTup (axq (aqhb 1) (axq (tCB (rLOf K) (axq (aqhb 0) aqhc)) aqhc))) (by o_reads)
   (aX2 (aqa (pv 0) rfl)) (fun _ _ _ _ _=>aQ1 rfl rfl (aqg (pgc 0) (aqg (pgc 1) akk)))
   aqhk (fun _ _ _ _ _=>axa (aa (pv 1) (aa (jt (aXe rfl) rfl T.zlist aXf (aa (pv 0) ag)) ag))))) ag))),?_⟩
  refine ⟨_,rfl,p,C,dx,_,_,rfl,h1,T.cl,T.nB,ajp _ _,d,kd kv,rfl,h3,fun o=>?_⟩;have sd:∀ b u,H b=some u->b ≠ d->(upd H d (.frz o (.dT (kd kv)))) b=some u:=fun b u hb hbd=>by rw [af hbd]; exact hb
  have fd:(upd H d (.frz o (.dT (kd kv)))) d=some (.frz o (.dT (kd kv))):=cb;generalize hH1:upd H d (.frz o (.dT (kd kv)))=H1 at sd fd;refine awy (kv:=kv) fd (by rw [Ah]; omega) ⟨none,none,rfl⟩ fun n H2 F2 hn sm2 hd2 sF2 Fd Fl hts=>?_;obtain ⟨ts,hts1,hts2⟩:=hts;refine ⟨d,o,.dT (kd kv),hd2,fun o' u' z=>?_,?_⟩
  ·have z':H d=some (.frz o' u'):=z
   rw [h3] at z'; cases z'
  ·have ndn:n ≠ d:=by rintro rfl; rw [fd] at hn; cases hn
   have sF3:aqi7 F2 (upd H2 d (.dT (kd kv))):=fun b u hb=>by rw [af (ac hb Fd)]; exact sF2 _ _ hb
   have smH:aqi7 H (upd H2 d (.dT (kd kv))):=fun b u hb=>by
    by_cases hbd:b=d
    ·subst hbd; rw [cb,<- h3,hb]
    ·rw [af hbd]; exact sm2 _ _ (sd _ _ hb hbd)
   refine ⟨_,[.lst (kv.map DL.aqhj)],_,aqi7.refl _,.cons (.lst (.inl (.inl (by rw [af ndn]; exact hts1))) ((aj6 sF3).2 hts2)) .nil,rfl,aQa h60 hm60,fun v F' H3 A e ow hA=>?_⟩;exact k v F' H3 A ow e.fh (fun b hb=>⟨(hA b hb).1,smH.free (hA b hb).2⟩) (smH.trans e.hh)
end
abbrev s_due:Stmt:=top 68
theorem aJa {X:Cx} {K:Frag} (h:X.K=K) (hu:X.A.units + 64 + 1 < cLine):OpR X (Bi .NotIn) (rInD K true):=by subst h; exact aX8 hu
def step (w:Str) (v:Int) (xs st:List Str) (kv:aqid):D × List Str × aqid :=
 if w="stand" then (if xs.headD ""∈st then (.tup [.str "Taken"],st,kv) else if 6 <= st.length then (.tup [.str "TooMany"],st,kv) else (.non,st++[xs.headD ""],kv))
 else if ∀ y∈xs,y∈st then
  (if w="lift"/\wt kv (aqhm st xs) < v then (.tup [.str "TooFew"],st,kv)
   else if w="cast"/\(10 ^ 18 < wt kv (aqhm st xs) + v \/ ((look kv (aqhm st xs)).isSome=false/\12 <= kv.length)) then (.tup [.str "TooMany"],st,kv)
   else (.non,st,lay kv (aqhm st xs) (if w="lift" then wt kv (aqhm st xs) - v else wt kv (aqhm st xs) + v)))
 else (.tup [.str "NoName"],st,kv)
theorem aKe (w:Str) (v:Int) (xs st:List Str) (kv:aqid):shp 20 (step w v xs st kv).1=true:=by
 have s1:shp 20 (.tup [.str "Taken"])=true:=by decide +kernel
 have s2:shp 20 (.tup [.str "TooMany"])=true:=by decide +kernel
 have s3:shp 20 (.tup [.str "TooFew"])=true:=by decide +kernel
 have s4:shp 20 (.tup [.str "NoName"])=true:=by decide +kernel
 unfold step;split
 ·split
  ·exact s1
  ·split
   ·exact s2
   ·rfl
 ·split
  ·split
   ·exact s3
   ·split
    ·exact s2
    ·rfl
  ·exact s4
def spDue (K:Frag):Sp:=fun vs H Q _=>∃ (sA lA z:Addr) (w:Str) (v:Int) (st xs:List Str) (kv:aqid),vs=[.ref sA,.ref lA,.str w,.int v,.ref z]/\(w="stand" \/ w="cast" \/ w="lift")/\(w="stand"->xs ≠ [])/\H sA=some (.lst (st.map V.str))/\H lA=some (.dT (kd kv))/\H z=some (.lst (xs.map V.str)) /\
 st.length <= 6/\xs.length <= 9/\kv.length <= 12/\(∀ y∈st,ay y)/\(∀ y∈xs,ay y)/\st.Nodup/\xs.Nodup/\(1 <= v/\v <= 10 ^ 18) /\
 ∀ r H',Rep K H' r (step w v xs st kv).1->(∀ b o,H b=some o->b ≠ sA->b ≠ lA->H' b=some o)->H' sA=some (.lst ((step w v xs st kv).2.1.map V.str))->H' lA=some (.dT (kd (step w v xs st kv).2.2))->Q r H'
theorem aq0 {K:Frag} {H:Hp} {t:Addr} {y:Str} (h:H t=some (.tup [.str y])):Rep K H (.ref t) (.tup [.str y]):=.tup (.inl (.inl h)) (.cons (.str y) .nil)
theorem iteNe {d e:D} {A B:Prop} (h:eqD d e=true) (hB:B):if (if true=true then !eqD d e else eqD d e)=true then A else B:=by
 rw [h]; exact hB
theorem iteNeT {d e:D} {A B:Prop} (h:eqD d e=false) (hA:A):if (if true=true then !eqD d e else eqD d e)=true then A else B:=by
 rw [h]; exact hA
theorem av0 (kv:aqid) (k:List Int) (v:Int):look (put kv k v) k=some v:=by
 have:=aw3 (kd kv) (k.map Sum.inl) (k.map Sum.inl) (.int v)
 rw [if_pos rfl,aQu,aqu] at this;cases e:look (put kv k v) k with
 | none=>rw [e] at this; cases this
 | some y=>rw [e] at this; cases this; rfl
theorem awr (xs st:List Str):((xs.map V.str).filter fun v=>!decide (strV v∈st)).map (fun v=>v)=(xs.filter fun y=>!decide (y∈st)).map V.str:=by
 rw [List.map_id',filter_map]; rfl
theorem aVq (st xs:List Str):(aqhm st xs).Pairwise (· < ·):=by
 unfold aqhm;rw [pairwise_map];have h:st.zipIdx.Pairwise fun a b=>a.2 < b.2:=by
  have:(st.zipIdx.map Prod.snd).Pairwise (· < ·):=by
   rw [List.zipIdx_map_snd];exact List.pairwise_lt_range'
  exact Hy.mp this
 exact (h.sublist Gp).imp fun {a b} h=>by omega
theorem akt {st:List Str} {y:Str} (h:y∈st):∃ hi:aqhx st y < st.length,st[aqhx st y]=y:=by
 have hi:aqhx st y < st.length:=Ff ⟨y,h,by simp⟩;refine ⟨hi,?_⟩
 have:=Ko (p:=fun x=>decide (x=y)) (xs:=st) (w:=hi)
 exact of_decide_eq_true this
theorem aqe5 {st:List Str} (hn:st.Nodup) {i:Nat} (hi:i < st.length):aqhx st st[i]=i:=by
 obtain ⟨h1,h2⟩:=akt (st:=st) (y:=st[i]) (getElem_mem hi);apply A5;intro ne;rcases Nat.lt_or_gt_of_ne ne with lt | lt
 ·exact (Be.mp hn _ _ h1 hi lt) h2
 ·exact (Be.mp hn _ _ hi h1 lt) h2.symm
theorem aJh {st xs:List Str} {a:Int}:a∈aqhm st xs ↔ ∃ (i:Nat) (hi:i < st.length),st[i]∈xs/\a=(i:Int):=by
 unfold aqhm;rw [An];constructor
 ·rintro ⟨⟨y,i⟩,hp,rfl⟩
  obtain ⟨h1,h2⟩:=Bl.mp hp
  have:=Gi.mp h1
  simp at this;obtain ⟨hi,rfl⟩:=Aj.mp this;exact ⟨i,hi,by simpa using h2,rfl⟩
 ·rintro ⟨i,hi,hx,rfl⟩
  refine ⟨(st[i],i),Bl.mpr ⟨Gi.mpr (by simp [hi]),by simpa using hx⟩,rfl⟩
theorem aXq {st xs:List Str} (h1:st.Nodup) (h2:xs.Nodup) (h:∀ y∈xs,y∈st):aKh (xs.map fun y=>(aqhx st y:Int))=aqhm st xs:=by
 refine (aJ2 ?_ ((aVq st xs).imp fun h=>Int.le_of_lt h)).symm;refine (Hd ((aVq st xs).imp fun h=>Int.ne_of_lt h) ?_).mpr fun a=>?_
 ·rw [List.Nodup,pairwise_map]
  refine Ii (fun {a b} ha hb hab e=>hab ?_) h2;obtain ⟨i1,e1⟩:=akt (h a ha);obtain ⟨i2,e2⟩:=akt (h b hb);have e':aqhx st a=aqhx st b:=by omega
  rw [<- e1,<- e2];simp only [e']
 ·rw [aJh,An]
  constructor
  ·rintro ⟨i,hi,hx,rfl⟩
   exact ⟨st[i],hx,by rw [aqe5 h1 hi]⟩
  ·rintro ⟨y,hy,rfl⟩
   obtain ⟨hi,e⟩:=akt (h y hy);exact ⟨_,hi,by rw [e]; exact hy,rfl⟩
section
variable {P:Af} {w:World} {K:Frag} {mg:Str->Option Value} {base:Heap} {C Ct Cm Cn Cf:Addr}
theorem aqan {X:Cx} {K:Frag} {T id:String} {name:Str} {r:V->List V->Hp->VK->Prop} {o e:Expr} {es:List Expr} {to:TE} {t:TA} {apos cpos:Pos} (h:X.K=K) (pa:PlainAttrs T) (slot:Slot T name id) (hty:Mg (.builtin id)=pure (.type "method_descriptor")) (hm:MtR X id r) (ho:PE X o to) (ha:PA X (e :: es) t)
  (hbase:C6 o name X.env (eval o X.env)=eval o X.env:=by rfl)
  (hfew:((Dl cpos (Ap (e :: es) X.env)).all (fun x=>!x.1) && (Ka cpos (F5 [] X.env)).all (fun x=>x.1.isSome)
   && decide ((e :: es).length + ([]:List Ht).length + (if ([]:List Ht).isEmpty then 0 else 1) < 30))=true:=by rfl)
  (hline:(apos.endLine == cpos.line)=true:=by rfl) (hs:Ap (e :: es) X.env=(false,eval e X.env) :: Ap es X.env:=by rfl) (hplain:(Dl cpos (Ap es X.env)).any (·.1)=false:=by rfl) :
  PE X (.Call (.Attribute o name apos) (e :: es) [] cpos) (tBM K T r to t):=by subst h; exact aQ7 pa slot hty hm ho ha hbase hfew hline hs hplain
theorem aKp:FnScope ["stood","lots","word","many","some","marks","weight"] ["stood","lots","word","many","some"] (ai s_due):=fsc
theorem aqdg {f:Addr} {fd:Am} (F:Fun K "_law_due" "_law_due" s_due f fd) (T:Hx K mg C Ct Cm Cn Cf):FnOk P w K mg base CX0 1 f fd ["stood","lots","word","many","some"] (spDue K):=by
 refine F.ok aKp (k:=0) (fun vs H Q E h=>?_) (fun cdv A outer s H vs Q E hr h=>?_)
 ·obtain ⟨_,_,_,_,_,_,_,_,rfl,_⟩:=h
  rfl
 ·obtain ⟨sA,lA,z,wd,v,st,xs,kv,rfl,hw,hne,hs,hl,hz,h6,h9,h12,hok,hxs,nst,nxs,hv,k⟩:=h
  refine ⟨_,ae (aZ (ak aq1 (pv 2) al (cn _))
   (ae (aZ (ak (aX9 (aYp hr)) (aqs ar (pv 4) aj (fun _ _=>rfl)) (pv 0) (by rfl)) (ah (au (axa (aa al ag)))) ao)
   (ae (aZ (ak op_ge (bp ax rfl T.zlen ajb (aa (pv 0) ag)) aj (cn _)) (ah (au (axa (aa al ag)))) ao)
   (ae (aqe (aQ7 Dk Ei Ej ajt (pv 0) (aa (aqs ar (pv 4) aj (fun _ _=>rfl)) ag)))
   (ah (au aQ3))))) ao)
   (ae (aZ (ak (aqas hr.units) (aE (cl:=_) (N':=["name","stood"]) (js:=[none,some 0]) (tc:=tTest (tOp (rInD K true) (aqhb 0) (aqhb 1))) (te:=aqhb 0) (by o_reads)
     (aqf (pv 4)) (fun _ _ _ _ _=>pgc 0) (fun _ _ _ _ _=>.inr ⟨_,rfl,ak (aJa rfl (aYp hr)) (pv 0) (pv 1) (by rfl)⟩) (fun _ _ _ _ _=>pv 0)) (aY ag) (cn _)) (ah (au (axa (aa al ag)))) ao)
   (ae (gs (i:=5) aKp.nd rfl (.inl rfl) (jt aR rfl T.ztuple azn (aa (bp av6 rfl T.zsorted azo (aa (aE (cl:=_) (N':=["name","stood"]) (js:=[none,some 0]) (tc:=ajq) (te:=tBM K "list" (aVk K) (aqhb 1) (axq (aqhb 0) aqhc)) (by o_reads)
     (aqf (pv 4)) (fun _ _ _ _ _=>pgc 0) aqhk (fun _ _ _ _ _=>aqan rfl Dk Ja PySem.F.type_list_index (aZe rfl) (pv 1) (aa (pv 0) ag))) ag)) ag)))
   (ae (gs (i:=6) aKp.nd rfl (.inl rfl) (azd (aku hr) (pv 1) (pv 5) aj ⟨rfl,rfl,rfl,rfl⟩))
   (ae (aZ (PW.pt (aXz (ak aq1 (pv 2) al (cn _)) (aki (ak op_lt (pv 6) (pv 3) (cn _))))) (ah (au (axa (aa al ag)))) ao)
   (ae (aZ (PW.pt (aXz (ak aq1 (pv 2) al (cn _)) (aki (PW.pt (aqac (ak op_gt (aX aze (pv 6) (pv 3)) (aX aWe aj aj) (cn _)) (aXy (PW.pt (aXz (aqad (akl (aku hr) (pv 5) (pv 1))) (aki (ak op_ge (bp ak5 rfl T.zlen ajb (aa (pv 1) ag)) aj (cn _))))))))))) (ah (au (axa (aa al ag)))) ao)
   (ae (aQx (aku hr) (pv 1) (pv 5) (aX aze (pv 6) (aX aWf (pv 3) (aX aWd aj (aX aWf aj (jt aZ1 rfl T.zint aZ3 (aa (aM aq1 (pv 2) al (cn _)) ag)))))) rfl)
   (ae (aZ (ak aq1 (aQ6 (aku hr) (pv 1) (pv 5) (fun _ _=>rfl)) aj (cn _)) (ah (aqe (aX6 (aku hr) (pv 1) (pv 5) ⟨rfl,rfl,rfl,rfl⟩))) ao)
   (ah (au aQ3))))))))),?_⟩
  have nsl:sA ≠ lA:=aqb hs hl nofun
  by_cases hst:wd="stand"
  ·subst hst
   obtain ⟨x,aqhg,rfl⟩:∃ x aqhg,xs=x :: aqhg:=by
    cases xs with
    | nil=>exact absurd rfl (hne rfl)
    | cons a l=>exact ⟨a,l,rfl⟩
   have hx:=hxs x (by simp);have e0:step "stand" v (x :: aqhg) st kv=(if x∈st then (.tup [.str "Taken"],st,kv) else if 6 <= st.length then (.tup [.str "TooMany"],st,kv) else (.non,st++[x],kv)):=by unfold step; rw [if_pos rfl]; rfl
   rw [e0] at k;refine ⟨_,rfl,rfl,_,rfl,?_⟩;refine aqhs ?_;refine ⟨_,rfl,z,_,_,_,rfl,rfl,SqL.of hz,aq (j:=0) rfl,_,rfl,H,.str x,st.map D.str,false,aqi7.refl _,.str x,.lst (.inl (.inl hs)) (aK st),aqy hx 20,bD hok 19,_,rfl,?_⟩;simp only [Ao,if_false];rw [aqq]
   by_cases hin:x∈st
   ·rw [if_pos hin] at k
    rw [decide_eq_true hin];refine aqhs ?_;exact ⟨by show 1 <= Ad; decide,fun t ht=>k _ _ (aq0 cb) (fun c o hc _ _=>gd ht _ _ hc) (gd ht _ _ hs) (gd ht _ _ hl)⟩
   ·rw [if_neg hin] at k
    rw [decide_eq_false hin];refine aqht ?_;refine ⟨_,rfl,sA,_,rfl,.inl (SqL.of hs),_,_,rfl,rfl,_,rfl,?_⟩;rw [length_map]
    by_cases h6':6 <= st.length
    ·rw [if_pos h6'] at k
     rw [decide_eq_true (show (6:Int) <= (st.length:Int) by omega)];refine aqhs ?_;exact ⟨by show 1 <= Ad; decide,fun t ht=>k _ _ (aq0 cb) (fun c o hc _ _=>gd ht _ _ hc) (gd ht _ _ hs) (gd ht _ _ hl)⟩
    ·rw [if_neg h6'] at k
     rw [decide_eq_false (show ¬ (6:Int) <= (st.length:Int) by omega)];refine aqht ?_;refine ⟨_,rfl,.inl ⟨rfl,_,SqL.of hs⟩,_,rfl,z,_,_,_,rfl,rfl,SqL.of hz,aq (j:=0) rfl,sA,_,_,rfl,rfl,hs,by rw [length_map,Ah]; omega,?_⟩;exact k .non _ .non (fun c o hc hcs _=>by rw [af hcs]; exact hc) (by rw [cb,map_append]; rfl) (by rw [af nsl.symm]; exact hl)
  ·refine ⟨_,rfl,rfl,_,rfl,?_⟩
   rw [decide_eq_false (show ¬ V.str wd=V.str "stand" from fun z=>hst (V.str.inj z))];refine aqht ?_;refine ⟨_,rfl,z,rfl,⟨_,SqL.of hz⟩,aqk (SqL.of hz) (by rw [length_map,Ah]; omega) (fun v=>!decide (strV v∈st)) (fun v=>v) (fun σ=>∃ c,σ=[c,some (.ref sA)]) ⟨none,rfl⟩ (fun i x σ' H' hx hS sm=>?_) fun r hr'=>?_⟩
   ·obtain ⟨c,rfl⟩:=hS
    obtain ⟨y,hy,rfl⟩:∃ y∈xs,x=V.str y:=by
     rw [getElem?_map] at hx;cases e:xs[i]? with
     | none=>rw [e] at hx; cases hx
     | some q=>rw [e] at hx; exact ⟨q,mem_of_getElem? e,(Option.some.inj hx).symm⟩
    refine ⟨⟨_,rfl⟩,fun R h=>?_,fun R _ h=>⟨_,rfl,h⟩⟩;refine ⟨_,rfl,_,rfl,H',.str y,st.map D.str,false,aqi7.refl _,.str y,.lst (.inl (.inl (sm _ _ hs))) (aK st),aqy (hxs y hy) 20,bD hok 19,_,rfl,?_⟩;simp only [if_true];rw [aqq];exact h
   ·rw [awr]
    have sm1:aqi7 H (upd H r (.lst ((xs.filter fun y=>!decide (y∈st)).map V.str))):=gd hr';refine ⟨by show 0 <= Ad; decide,fun e he=>?_⟩;have sm2:aqi7 (upd H r (.lst ((xs.filter fun y=>!decide (y∈st)).map V.str))) (upd (upd H r (.lst ((xs.filter fun y=>!decide (y∈st)).map V.str))) e (.lst [])):=gd he;have r2:=sm2 _ _ (cb (H:=H) (a:=r) (o:=.lst ((xs.filter fun y=>!decide (y∈st)).map V.str)));have e2:(upd (upd H r (.lst ((xs.filter fun y=>!decide (y∈st)).map V.str))) e (.lst [])) e=some (.lst []):=cb;have sm3:=sm1.trans sm2;generalize upd (upd H r (.lst ((xs.filter fun y=>!decide (y∈st)).map V.str))) e (.lst [])=H2 at r2 e2 sm3 ⊢;refine ⟨H2,.lst ((xs.filter fun y=>!decide (y∈st)).map D.str),.lst [],aqi7.refl _,.lst (.inl (.inl r2)) (aK _),.lst (.inl (.inl e2)) .nil,bD (fun y hy=>hxs y (Bl.mp hy).1) 19,rfl,_,rfl,?_⟩
    by_cases hall:∀ y∈xs,y∈st
    ·have fe:(xs.filter fun y=>!decide (y∈st))=[]:=E9.mpr fun y hy=>by simp [hall y hy]
     rw [fe];refine iteNe rfl ?_;refine ⟨_,rfl,z,rfl,⟨_,SqL.of (sm3 _ _ hz)⟩,aqk (SqL.of (sm3 _ _ hz)) (by rw [length_map,Ah]; omega) (fun _=>true) (fun v=>.int (aqhx st (strV v):Nat)) (fun σ=>∃ c,σ=[c,some (.ref sA)]) ⟨none,rfl⟩ (fun i x σ' H' hx hS sm=>?_) fun r3 hr3=>?_⟩
     ·obtain ⟨c,rfl⟩:=hS
      obtain ⟨y,hy,rfl⟩:∃ y∈xs,x=V.str y:=by
       rw [getElem?_map] at hx;cases e:xs[i]? with
       | none=>rw [e] at hx; cases hx
       | some q=>rw [e] at hx; exact ⟨q,mem_of_getElem? e,(Option.some.inj hx).symm⟩
      refine ⟨⟨_,rfl⟩,fun R h=>h,fun R _ h=>?_⟩;exact ⟨_,rfl,.inl ⟨rfl,_,SqL.of (sm _ _ (sm3 _ _ hs))⟩,_,rfl,sA,st,y,rfl,rfl,SqL.of (sm _ _ (sm3 _ _ hs)),hall y hy,by omega,h⟩
     ·rw [Cb.mpr (by simp),map_map]
      have e3:((fun v=>V.int (aqhx st (strV v):Nat)) ∘ V.str)=V.int ∘ fun y=>(aqhx st y:Int):=rfl;rw [e3,<- map_map];have sm4:aqi7 H2 (upd H2 r3 (.lst ((xs.map fun y=>(aqhx st y:Int)).map V.int))):=gd hr3;refine ⟨r3,xs.map fun y=>(aqhx st y:Int),rfl,SqL.of cb,by rw [length_map]; omega,fun r4 hr4=>?_⟩;rw [aXq nst nxs hall];generalize hk0:aqhm st xs=k0 at k ⊢;have sm5':aqi7 (upd H2 r3 (.lst ((xs.map fun y=>(aqhx st y:Int)).map V.int))) (upd (upd H2 r3 (.lst ((xs.map fun y=>(aqhx st y:Int)).map V.int))) r4 (.lst (k0.map V.int))):=gd hr4;refine ⟨r4,_,rfl,.inl ⟨SqL.of cb,fun b hb=>?_⟩⟩;have sm5:=((sm3.trans sm4).trans sm5').trans (gd (o:=.tup (k0.map V.int)) hb);have hb5:(upd (upd (upd H2 r3 (.lst ((xs.map fun y=>(aqhx st y:Int)).map V.int))) r4 (.lst (k0.map V.int))) b (.tup (k0.map V.int))) b=some (.tup (k0.map V.int)):=cb;generalize upd (upd (upd H2 r3 (.lst ((xs.map fun y=>(aqhx st y:Int)).map V.int))) r4 (.lst (k0.map V.int))) b (.tup (k0.map V.int))=H5 at sm5 hb5 ⊢;clear sm5' sm4 hr4 hr3 hb r2 e2 sm3 sm2 sm1 he hr';have hb5':H5 b=some (.tup ((k0.map Sum.inl:List Key).map kV)):=by rw [ajo]; exact hb5
      have hl5:=sm5 _ _ hl;have g:aqig H5 lA (.ref b) (aqh9 (kd kv) (k0.map Sum.inl)):=aqig.t hl5 hb5';have g':=g;rw [aqu] at g';have big:(((look kv k0).map V.int).getD (.int 0))=.int (wt kv k0):=by unfold wt; cases look kv k0 <;> rfl
      refine ⟨_,rfl,lA,rfl,.inr ⟨_,.inl hl5⟩,_,rfl,_,g',?_⟩;rw [big];rcases hw with hw | hw | hw
      ·exact absurd hw hst
      ·subst hw
       have e1:step "cast" v xs st kv=(if 10 ^ 18 < wt kv k0 + v \/ ((look kv k0).isSome=false/\12 <= kv.length) then (.tup [.str "TooMany"],st,kv) else (.non,st,lay kv k0 (wt kv k0 + v))):=by
        unfold step;rw [if_neg (by decide +kernel),if_pos hall,hk0,if_neg (fun z=>absurd z.1 (by decide +kernel)),if_neg (show ¬ ("cast":Str)="lift" by decide +kernel)]
        by_cases hc:10 ^ 18 < wt kv k0 + v \/ ((look kv k0).isSome=false/\12 <= kv.length)
        ·rw [if_pos ⟨rfl,hc⟩,if_pos hc]
        ·rw [if_neg fun z=>hc z.2,if_neg hc]
       rw [e1] at k;refine ⟨_,rfl,rfl,_,rfl,?_⟩;rw [decide_eq_false (show ¬ V.str "cast"=V.str "lift" by decide +kernel)];refine aqht ?_;refine aqht ?_;refine ⟨_,rfl,rfl,_,rfl,?_⟩;refine aqhs ?_;refine ⟨_,rfl,_,rfl,_,_,rfl,rfl,_,_,rfl,rfl,⟨by decide,by decide,by decide⟩,_,_,rfl,rfl,_,rfl,?_⟩
       by_cases h18:(10:Int) ^ 18 < wt kv k0 + v
       ·rw [if_pos (.inl h18)] at k
        rw [decide_eq_true (show (10:Int) ^ ((18:Int).toNat) < wt kv k0 + v from h18)];refine aqhs ?_;refine aqhs ?_;exact ⟨by show 1 <= Ad; decide,fun t ht=>k _ _ (aq0 cb) (fun c o hc _ _=>gd ht _ _ (sm5 _ _ hc)) (gd ht _ _ (sm5 _ _ hs)) (gd ht _ _ (sm5 _ _ hl))⟩
       ·rw [decide_eq_false (show ¬ (10:Int) ^ ((18:Int).toNat) < wt kv k0 + v from h18)]
        refine aqht ?_;refine ⟨_,rfl,_,rfl,lA,_,rfl,g',_,rfl,?_⟩;rw [show ((look kv k0).map V.int).isSome=(look kv k0).isSome by cases look kv k0 <;> rfl]
        by_cases hsm:(look kv k0).isSome=true
        ·rw [if_neg (by rintro (z | z); exact h18 z; rw [hsm] at z; cases z.1)] at k
         rw [hsm];refine aqht ?_;refine aqht ?_;refine ⟨_,rfl,_,rfl,_,rfl,rfl,.inr ⟨_,rfl,_,_,rfl,rfl,.inl ⟨by decide,by decide⟩,_,_,rfl,rfl,_,_,rfl,rfl,.inr ⟨by decide +kernel,by decide +kernel⟩,_,_,rfl,rfl,?_⟩⟩;dsimp only;rw [show wt kv k0 + v * (1 - 2 * (if decide (V.str "cast"=V.str "lift")=true then 1 else 0))=wt kv k0 + v by rw [if_neg (by decide +kernel)]; omega];have val:aqig H5 lA (.ref b) (aqh9 (kd kv) (k0.map Sum.inl)):=g;refine ⟨_,rfl,_,rfl,lA,_,rfl,DPut.t (k:=k0.map Sum.inl) hl5 hb5' (by rw [awn,Ah]; omega),?_⟩;rw [aQu];generalize wt kv k0 + v=W' at k ⊢;have nbl:b ≠ lA:=aqb hb5 hl5 nofun;have s6:∀ c o,H c=some o->c ≠ lA->(upd H5 lA (.dT (kd (put kv k0 W')))) c=some o:=fun c o hc hcl=>by rw [af hcl]; exact sm5 _ _ hc
         have hl6:(upd H5 lA (.dT (kd (put kv k0 W')))) lA=some (.dT (kd (put kv k0 W'))):=cb;have hb6:(upd H5 lA (.dT (kd (put kv k0 W')))) b=some (.tup ((k0.map Sum.inl:List Key).map kV)):=by rw [af nbl]; exact hb5'
         generalize upd H5 lA (.dT (kd (put kv k0 W')))=H6 at s6 hl6 hb6 ⊢;have lp:aqh9 (kd (put kv k0 W')) (k0.map Sum.inl)=some (.int W'):=by rw [aqu,av0]; rfl
         have g6:aqig H6 lA (.ref b) (some (.int W')):=by rw [<- lp]; exact aqig.t hl6 hb6
         refine ⟨_,rfl,_,rfl,lA,_,rfl,g6,rfl,_,rfl,?_⟩
         by_cases h0:W'=0
         ·rw [decide_eq_true (by rw [h0])]
          refine aqhs ?_;refine ⟨_,rfl,lA,rfl,.inr ⟨_,.inl hl6⟩,_,rfl,_,k0.map Sum.inl,_,b,hl6,rfl,hb6,lp,?_⟩;rw [aky,av3];refine k .non _ (by exact .non) (fun c o hc _ hcl=>by rw [af hcl]; exact s6 _ _ hc hcl) (by rw [af nsl]; exact s6 _ _ hs nsl) (by rw [cb]; simp only [lay,h0,if_true])
         ·rw [decide_eq_false (by simp [h0])]
          refine aqht ?_;refine k .non _ (by exact .non) (fun c o hc _ hcl=>s6 _ _ hc hcl) (s6 _ _ hs nsl) (by rw [hl6]; simp only [lay,h0,if_false])
        ·have hsm':(look kv k0).isSome=false:=by simpa using hsm
         rw [hsm'];refine aqhs ?_;refine ⟨_,rfl,lA,_,rfl,hl5,_,_,rfl,rfl,_,rfl,?_⟩;rw [show ((kd kv).length:Int)=(kv.length:Int) by rw [awn]]
         by_cases hl12:12 <= kv.length
         ·rw [if_pos (.inr ⟨hsm',hl12⟩)] at k
          rw [decide_eq_true (show (12:Int) <= (kv.length:Int) by omega)];refine aqhs ?_;exact ⟨by show 1 <= Ad; decide,fun t ht=>k _ _ (aq0 cb) (fun c o hc _ _=>gd ht _ _ (sm5 _ _ hc)) (gd ht _ _ (sm5 _ _ hs)) (gd ht _ _ (sm5 _ _ hl))⟩
         ·rw [if_neg (by rintro (z | z); exact h18 z; exact hl12 z.2)] at k
          rw [decide_eq_false (show ¬ (12:Int) <= (kv.length:Int) by omega)];refine aqht ?_;refine ⟨_,rfl,_,rfl,_,rfl,rfl,.inr ⟨_,rfl,_,_,rfl,rfl,.inl ⟨by decide,by decide⟩,_,_,rfl,rfl,_,_,rfl,rfl,.inr ⟨by decide +kernel,by decide +kernel⟩,_,_,rfl,rfl,?_⟩⟩;dsimp only;rw [show wt kv k0 + v * (1 - 2 * (if decide (V.str "cast"=V.str "lift")=true then 1 else 0))=wt kv k0 + v by rw [if_neg (by decide +kernel)]; omega];have val:aqig H5 lA (.ref b) (aqh9 (kd kv) (k0.map Sum.inl)):=g;refine ⟨_,rfl,_,rfl,lA,_,rfl,DPut.t (k:=k0.map Sum.inl) hl5 hb5' (by rw [awn,Ah]; omega),?_⟩;rw [aQu];generalize wt kv k0 + v=W' at k ⊢;have nbl:b ≠ lA:=aqb hb5 hl5 nofun;have s6:∀ c o,H c=some o->c ≠ lA->(upd H5 lA (.dT (kd (put kv k0 W')))) c=some o:=fun c o hc hcl=>by rw [af hcl]; exact sm5 _ _ hc
          have hl6:(upd H5 lA (.dT (kd (put kv k0 W')))) lA=some (.dT (kd (put kv k0 W'))):=cb;have hb6:(upd H5 lA (.dT (kd (put kv k0 W')))) b=some (.tup ((k0.map Sum.inl:List Key).map kV)):=by rw [af nbl]; exact hb5'
          generalize upd H5 lA (.dT (kd (put kv k0 W')))=H6 at s6 hl6 hb6 ⊢;have lp:aqh9 (kd (put kv k0 W')) (k0.map Sum.inl)=some (.int W'):=by rw [aqu,av0]; rfl
          have g6:aqig H6 lA (.ref b) (some (.int W')):=by rw [<- lp]; exact aqig.t hl6 hb6
          refine ⟨_,rfl,_,rfl,lA,_,rfl,g6,rfl,_,rfl,?_⟩
          by_cases h0:W'=0
          ·rw [decide_eq_true (by rw [h0])]
           refine aqhs ?_;refine ⟨_,rfl,lA,rfl,.inr ⟨_,.inl hl6⟩,_,rfl,_,k0.map Sum.inl,_,b,hl6,rfl,hb6,lp,?_⟩;rw [aky,av3];refine k .non _ (by exact .non) (fun c o hc _ hcl=>by rw [af hcl]; exact s6 _ _ hc hcl) (by rw [af nsl]; exact s6 _ _ hs nsl) (by rw [cb]; simp only [lay,h0,if_true])
          ·rw [decide_eq_false (by simp [h0])]
           refine aqht ?_;refine k .non _ (by exact .non) (fun c o hc _ hcl=>s6 _ _ hc hcl) (s6 _ _ hs nsl) (by rw [hl6]; simp only [lay,h0,if_false])
      ·subst hw
       have e1:step "lift" v xs st kv=(if wt kv k0 < v then (.tup [.str "TooFew"],st,kv) else (.non,st,lay kv k0 (wt kv k0 - v))):=by
        unfold step;rw [if_neg (by decide +kernel),if_pos hall,hk0,if_pos (show ("lift":Str)="lift" from rfl)]
        by_cases hc:wt kv k0 < v
        ·rw [if_pos ⟨rfl,hc⟩,if_pos hc]
        ·rw [if_neg fun z=>hc z.2,if_neg hc,if_neg fun z=>absurd z.1 (by decide +kernel)]
       rw [e1] at k;refine ⟨_,rfl,rfl,_,rfl,?_⟩;refine aqhs ?_;refine ⟨_,rfl,_,rfl,_,_,rfl,rfl,_,rfl,?_⟩
       by_cases hlt:wt kv k0 < v
       ·rw [if_pos hlt] at k
        rw [decide_eq_true hlt];refine aqhs ?_;exact ⟨by show 1 <= Ad; decide,fun t ht=>k _ _ (aq0 cb) (fun c o hc _ _=>gd ht _ _ (sm5 _ _ hc)) (gd ht _ _ (sm5 _ _ hs)) (gd ht _ _ (sm5 _ _ hl))⟩
       ·rw [if_neg hlt] at k
        rw [decide_eq_false hlt];refine aqht ?_;refine ⟨_,rfl,rfl,_,rfl,?_⟩;rw [decide_eq_false (show ¬ V.str "lift"=V.str "cast" by decide +kernel)];refine aqht ?_;refine aqht ?_;refine ⟨_,rfl,_,rfl,_,rfl,rfl,.inr ⟨_,rfl,_,_,rfl,rfl,.inl ⟨by decide,by decide⟩,_,_,rfl,rfl,_,_,rfl,rfl,.inr ⟨by decide +kernel,by decide +kernel⟩,_,_,rfl,rfl,?_⟩⟩;dsimp only;rw [show wt kv k0 + v * (1 - 2 * (if decide (V.str "lift"=V.str "lift")=true then 1 else 0))=wt kv k0 - v by rw [if_pos (by decide +kernel)]; omega];have val:aqig H5 lA (.ref b) (aqh9 (kd kv) (k0.map Sum.inl)):=g;refine ⟨_,rfl,_,rfl,lA,_,rfl,DPut.t (k:=k0.map Sum.inl) hl5 hb5' (by rw [awn,Ah]; omega),?_⟩;rw [aQu];generalize wt kv k0 - v=W' at k ⊢;have nbl:b ≠ lA:=aqb hb5 hl5 nofun;have s6:∀ c o,H c=some o->c ≠ lA->(upd H5 lA (.dT (kd (put kv k0 W')))) c=some o:=fun c o hc hcl=>by rw [af hcl]; exact sm5 _ _ hc
        have hl6:(upd H5 lA (.dT (kd (put kv k0 W')))) lA=some (.dT (kd (put kv k0 W'))):=cb;have hb6:(upd H5 lA (.dT (kd (put kv k0 W')))) b=some (.tup ((k0.map Sum.inl:List Key).map kV)):=by rw [af nbl]; exact hb5'
        generalize upd H5 lA (.dT (kd (put kv k0 W')))=H6 at s6 hl6 hb6 ⊢;have lp:aqh9 (kd (put kv k0 W')) (k0.map Sum.inl)=some (.int W'):=by rw [aqu,av0]; rfl
        have g6:aqig H6 lA (.ref b) (some (.int W')):=by rw [<- lp]; exact aqig.t hl6 hb6
        refine ⟨_,rfl,_,rfl,lA,_,rfl,g6,rfl,_,rfl,?_⟩
        by_cases h0:W'=0
        ·rw [decide_eq_true (by rw [h0])]
         refine aqhs ?_;refine ⟨_,rfl,lA,rfl,.inr ⟨_,.inl hl6⟩,_,rfl,_,k0.map Sum.inl,_,b,hl6,rfl,hb6,lp,?_⟩;rw [aky,av3];refine k .non _ (by exact .non) (fun c o hc _ hcl=>by rw [af hcl]; exact s6 _ _ hc hcl) (by rw [af nsl]; exact s6 _ _ hs nsl) (by rw [cb]; simp only [lay,h0,if_true])
        ·rw [decide_eq_false (by simp [h0])]
         refine aqht ?_;refine k .non _ (by exact .non) (fun c o hc _ hcl=>s6 _ _ hc hcl) (s6 _ _ hs nsl) (by rw [hl6]; simp only [lay,h0,if_false])
    ·have fe:∃ a l,(xs.filter fun y=>!decide (y∈st))=a :: l:=by
      cases q:xs.filter fun y=>!decide (y∈st) with
      | cons a l=>exact ⟨a,l,rfl⟩
      | nil =>
       refine absurd (fun y hy=>?_) hall
       have:=E9.mp q y hy
       simpa using this
     obtain ⟨a,l,fe⟩:=fe;rw [fe];refine iteNeT rfl ?_;have e1:step wd v xs st kv=(.tup [.str "NoName"],st,kv):=by unfold step; rw [if_neg hst,if_neg hall]
     rw [e1] at k;exact ⟨by show 1 <= Ad; decide,fun t ht=>k _ _ (aq0 cb) (fun c o hc _ _=>gd ht _ _ (sm3 _ _ hc)) (gd ht _ _ (sm3 _ _ hs)) (gd ht _ _ (sm3 _ _ hl))⟩
end
abbrev aKu:Stmt:=top 67
theorem ix_lK {X:Cx} {K:Frag} (h:X.K=K):IxR X (rIxL K):=by subst h; exact ar
def pows:List Int:=[1,2,4,8,16,32,64,128,256]
def spSome (K:Frag):Sp:=fun vs H Q _=>∃ (n:Addr) (c:Int) (names:List Str),vs=[.ref n,.int c]/\H n=some (.lst (names.map V.str))/\names.length <= 9/\names.Nodup /\
 ∀ r H' ys,aqi7 H H'->H r=none->H' r=some (.lst ((ys:List Str).map V.str))->(∀ y∈ys,y∈names)->ys.Nodup->ys.length <= 9->Q (.ref r) H'
section
variable {P:Af} {w:World} {K:Frag} {mg:Str->Option Value} {base:Heap} {C Ct Cm Cn Cf:Addr}
theorem aK6 {X:Cx} {elt target iter:Expr} {ifs:List Expr} {scope:Scope} {pos:Pos} {cl:List (Str × Addr)} {N':List Str} {js:List (Option Nat)} {wi:TI} {g:TG} {tc:TT} {te:TE} {i:Nat} {y:Str} {py spos:Pos} (hN:X.N.Nodup) (hi':X.N[i]?=some y) (hy:X.env.scope.names.lookup y=some .local)
  (hsw:Il (.ListComp elt [⟨target,iter,ifs,0⟩] scope pos) (some (.Name y py)) spos.line X.env=pure true) (k:CompOk X scope cl N' js) (hi:PI X target iter wi)
  (hg:∀ C s₀ H₀ ex pn,PG (aw X N' scope cl C s₀ H₀ ex pn) target g) (ht:∀ C s₀ H₀ ex pn,PIfs (aw X N' scope cl C s₀ H₀ ex pn) ifs tc) (he:∀ C s₀ H₀ ex pn,PE (aw X N' scope cl C s₀ H₀ ex pn) elt te) (hs:∀ x,Du iter X.env x=pure x:=by intro _; rfl) :
  PS X (.Assign [.Name y py] (.ListComp elt [⟨target,iter,ifs,0⟩] scope pos) spos) (tAsg (aKd wi g tc te js) (aqw i)) :=
 aqae hN hi' hy hsw k.calm hi (ax5 k.clo) k.free k.hcl k.hhas k.cell k.kind k.names hg ht he hs
theorem aqag:∀ i:Nat,i < 9->atI (pows.map V.int) (i:Int)=some (.int (2 ^ i)):=by decide +kernel
theorem aqaf:∀ i:Nat,i < 9->(0:Int) < 2 ^ i/\(2:Int) ^ i < 1073741824:=by decide +kernel
theorem aQl:FnScope ["names","cell","some"] ["names","cell"] (ai aKu):=fsc
theorem aqav {f:Addr} {fd:Am} (F:Fun K "_law_some" "_law_some" aKu f fd) (T:Hx K mg C Ct Cm Cn Cf):FnOk P w K mg base CX0 1 f fd ["names","cell"] (spSome K):=by
 refine F.ok aQl (k:=0) (fun vs H Q E h=>?_) (fun cdv A outer s H vs Q E hr h=>?_)
 ·obtain ⟨_,_,_,rfl,_⟩:=h
  rfl
 ·obtain ⟨n,c,names,rfl,hn,h9,nd,k⟩:=h
  refine ⟨_,ae (aK6 (i:=2) aQl.nd rfl rfl rfl (cl:=_) (N':=["k","names","cell"]) (js:=[none,some 0,some 1]) (by o_reads)
    (ajs rfl T.zr (aa (bp ax rfl T.zlen ajb (aa (pv 0) ag)) ag))
    (fun _ _ _ _ _=>pgc 0)
    (fun _ _ _ _ _=>.inr ⟨_,rfl,ak aq1 (aX axr (aX ajm (pv 2) (aqs (ix_lK (K:=K) rfl) (aY (aa aj (aa aj (aa aj (aa aj (aa aj (aa aj (aa aj (aa aj (aa aj ag)))))))))) (pv 0) (fun _ _=>rfl))) aj) aj (cn _)⟩)
    (fun _ _ _ _ _=>aqs (ix_lK (K:=K) rfl) (pv 1) (pv 0) (fun _ _=>rfl)))
   (ae (aZ (ak aq1 (aX axr (aX ajm (pv 1) aj) aj) aj (cn _)) (ah (gs (i:=2) aQl.nd rfl (.inl rfl) (aX4 (pv 2) ajj ajj (aj8 (pe_un aqd1 aj))))) ao)
   (ah (au (pv 2)))),?_⟩
  refine ⟨_,rfl,n,_,rfl,.inl (SqL.of hn),_,rfl,by rw [length_map]; omega,by rw [length_map]; omega,fun r hr'=>?_⟩;refine ⟨fun i m σ' H'=>m=names.length - i/\i <= names.length/\(∃ c0,σ'=[c0,some (.ref n),some (.int c)])/\aqi7 H H'/\∃ ys,H' r=some (.lst ((ys:List Str).map V.str))/\ys.Sublist (names.take i),⟨_,rfl,zero_le _,⟨none,rfl⟩,gd hr',[],cb,.slnil⟩,?_⟩;rintro i m σ' H' ⟨rfl,hi,⟨c0,rfl⟩,sm,ys,hy,hsub⟩;have hyl:ys.length <= 9:=by have:=hsub.length_le; rw [length_take] at this; omega
  by_cases hlt:i < names.length
  ·refine .inr ⟨by show i < ((names.map V.str).length:Int).toNat; rw [length_map]; omega,fun x H2 yl=>?_⟩
   obtain ⟨e1,rfl⟩:=yl;rw [e1];have e0:(0:Int) + (i:Int)=(i:Int):=by omega
   rw [e0];refine ⟨_,rfl,by show 9 <= Ad; decide,fun q hq=>⟨_,rfl,q,_,_,_,rfl,rfl,SqL.of cb,aqag i (by omega),_,_,rfl,rfl,aqaf i (by omega),_,_,rfl,rfl,(by show (0:Int) < 2; decide),rfl,_,rfl,?_⟩⟩;have sq:aqi7 H' (upd H' q (.lst (pows.map V.int))):=gd hq;have sm2:=sm.trans sq;have hy2:=sq _ _ hy;have tk:names.take (i + 1)=names.take i++[names[i]]:=take_succ_eq_append_getElem hlt;refine ite2 (fun _=>?_) fun _=>?_
   ·refine ⟨_,rfl,_,rfl,n,_,_,_,rfl,rfl,SqL.of (sm2 _ _ hn),aq (v:=.str names[i]) (by simp [hlt]),_,hy2,by rw [length_map,Ah]; omega,_,(by omega:names.length - (i + 1) < names.length - i),rfl,hlt,⟨_,rfl⟩,fun b o hb=>?_,ys++[names[i]],by rw [cb,map_append]; rfl,?_⟩
    ·rw [af (ac hb hr')]; exact sm2 _ _ hb
    ·rw [tk]; exact hsub.append (List.Sublist.refl _)
   ·refine ⟨_,(by omega:names.length - (i + 1) < names.length - i),rfl,hlt,⟨_,rfl⟩,sm2,ys,hy2,?_⟩
    rw [tk]; exact hsub.trans (List.sublist_append_left _ _)
  ·refine .inl ⟨by show ((names.map V.str).length:Int).toNat <= i; rw [length_map]; omega,?_⟩
   have hs2:ys.Sublist names:=hsub.trans (take_sublist _ _);have hm:∀ y∈ys,y∈names:=fun y h=>hs2.subset h;have hnd:ys.Nodup:=hs2.nodup nd;refine ⟨_,rfl,_,_,rfl,rfl,⟨by decide,by decide⟩,_,_,rfl,rfl,(by show (0:Int) < 2; decide),rfl,_,rfl,?_⟩;refine ite2 (fun _=>?_) fun _=>?_
   ·refine ⟨_,rfl,_,rfl,_,rfl,r,_,rfl,SqL.of hy,by decide,by rw [MB.aQ0,K1,length_map,Ah]; omega,fun p hp=>⟨_,rfl,?_⟩⟩
    rw [MB.aQ0,<- List.map_reverse];exact k p _ ys.reverse (sm.trans (gd hp)) (sm.free hp) cb (fun y h=>hm y (List.mem_reverse.mp h)) (by rw [List.Nodup,List.pairwise_reverse]; exact hnd.imp fun h=>h.symm) (by rw [K1]; exact hyl)
   ·exact ⟨_,rfl,k r _ ys sm hr' hy hm hnd hyl⟩
end
abbrev avp:Stmt:=top 61
theorem ak0 {x:Str} {ys:List V} {j:Nat} {te:TE} {js:List (Option Nat)} {σ:L2.St} {H:Hp} {Q:Addr->Hp->Prop} (hy:ys.length=x.cps.size) (hlen:x.cps.size < Ad) (S:L2.St->Prop) (hS:S (mkS js σ))
  (step:∀ (i c:Nat) (y:V) (σ':L2.St) (H':Hp),x.cps[i]?=some c->ys[i]?=some y->S σ'->aqi7 H H'->S (σ'.set j (some (.str ⟨#[c]⟩)))/\(∀ R:VK,R y H'->te (σ'.set j (some (.str ⟨#[c]⟩))) H' R))
  (k:∀ l,H l=none->Q l (upd H l (.lst ys))) :
  ∀ l,H l=none->∃ W:Nat->Nat->L2.St->Hp->Prop,(∃ m,W 0 m (mkS js σ) (upd H l (.lst [])))/\∀ i m σ H,W i m σ H ->
   ((Its x).stop i H/\Q l H) \/ ((Its x).go i H/\∀ v H',(Its x).yld i H v H'->aqw j v σ H' fun σ2 H2=>ajq σ2 H2 fun b H3 =>
     if b=true then te σ2 H3 fun y H4=>∃ acc,H4 l=some (.lst acc)/\acc.length < Ad/\∃ m',m' < m/\W (i + 1) m' σ2 (upd H4 l (.lst (acc++[y]))) else ∃ m',m' < m/\W (i + 1) m' σ2 H3):=by
 intro l hl;refine ⟨fun i m σ' H'=>m=x.cps.size - i/\i <= x.cps.size/\S σ'/\H'=upd H l (.lst (ys.take i)),⟨_,rfl,zero_le _,hS,by simp⟩,?_⟩;rintro i m σ' H' ⟨rfl,hi,hs,rfl⟩;have sm:aqi7 H (upd H l (.lst (ys.take i))):=gd hl
 by_cases hlt:i < x.cps.size
 ·have hlt':i < ys.length:=by omega
  refine .inr ⟨hlt,fun v H2 y=>?_⟩;obtain ⟨rfl,c,hc,rfl⟩:=y;obtain ⟨s1,s3⟩:=step i c ys[i] σ' _ hc (getElem?_eq_getElem hlt') hs sm;dsimp only [ajq,aqw];rw [if_pos rfl];refine s3 _ ⟨_,cb,by rw [length_take]; omega,_,(by omega:x.cps.size - (i + 1) < x.cps.size - i),rfl,hlt,s1,?_⟩;rw [take_succ_eq_append_getElem hlt']
  funext b
  by_cases hb:b=l
  ·subst hb; rw [cb,cb]
  ·rw [af hb,af hb,af hb]
 ·have e1:i=x.cps.size:=by omega
  subst e1;refine .inl ⟨le_refl _,?_⟩;rw [<- hy,take_length];exact k l hl
theorem aJf {x:Str} (h:ay x):x.cps.all (· < 128)=true:=by
 rw [Array.all_eq_true];intro i hi
 have:=h.2.2 x.cps[i] (by simp)
 simp
 omega
structure Dz (mg:Str->Option Value):Prop where
 m8:∃ t,mg "LONGEST_NAME"=some (.int 8 t)
 mL:∃ t,mg "LETTERS"=some (.str aO t)
def avk:Sp:=fun vs H Q _=>∃ x:Str,vs=[.str x]/\ay x/\∀ H',aqi7 H H'->Q (.bl true) H'
section
variable {P:Af} {w:World} {K:Frag} {mg:Str->Option Value} {base:Heap} {C Ct Cm Cn Cf:Addr}
theorem aXt:FnScope ["word"] ["word"] (ai avp):=fsc
theorem aZb {f:Addr} {fd:Am} (F:Fun K "is_name" "is_name" avp f fd) (T:Hx K mg C Ct Cm Cn Cf) (D:Dz mg):FnOk P w K mg base CX0 1 f fd ["word"] avk:=by
 obtain ⟨t8,h8⟩:=D.m8;obtain ⟨tL,hL⟩:=D.mL;refine F.ok aXt (k:=0) (fun vs H Q E h=>?_) (fun cdv A outer s H vs Q E hr h=>?_)
 ·obtain ⟨_,rfl,_⟩:=h
  rfl
 ·obtain ⟨x,rfl,hx,k⟩:=h
  refine ⟨_,ah (au (avx (aM op_ne (pv 0) al (cn _)) (avx (aM op_le (bp aq4 rfl T.zlen ajb (aa (pv 0) ag)) (ajl (v:=.int 8) rfl h8 ⟨t8,rfl⟩) (cn _))
   (aQ2 (bp (ajw rfl) rfl T.zall aZ4 (aa (aE (cl:=_) (N':=["letter"]) (js:=[none]) (tc:=ajq) (by o_reads)
    (aqai (pv 0)) (fun _ _ _ _ _=>pgc 0) aqhk
    (fun _ _ _ _ _=>aM akn (pv 0) (ajl (v:=.str aO) rfl hL ⟨tL,rfl⟩) (by rfl))) ag)))))),?_⟩
  have hsz:x.cps.size=x.length:=rfl;have h8':=hx.2.1;have hne:¬ V.str x=V.str "":=fun e=>by
   have e':x=("":Str):=V.str.inj e
   have:=hx.1
   rw [e'] at this;exact absurd this (by decide +kernel)
  refine ⟨_,rfl,rfl,?_⟩;rw [decide_eq_false hne];refine ⟨_,rfl,aqhs ?_⟩;refine ⟨_,rfl,x,rfl,by rw [Ah]; omega,_,_,rfl,rfl,?_⟩;refine ⟨_,rfl,?_⟩;dsimp only;rw [decide_eq_true (show (x.length:Int) <= 8 by omega)];refine aqhs ?_;refine ⟨_,rfl,x,rfl,aJf hx,ak0 (ys:=Au x.cps.size (V.bl true)) (by simp) (by rw [Ah]; omega) (fun σ=>∃ c,σ=[c]) ⟨none,rfl⟩ (fun i c y σ' H' hc hy hS sm=>?_) fun r hr'=>?_⟩
  ·obtain ⟨c0,rfl⟩:=hS
   have hyt:y=V.bl true:=(Lp.mp (mem_of_getElem? hy)).2;subst hyt;have hcm:=hx.2.2 c (by obtain ⟨hi,e⟩:=Hi.mp hc; rw [<- e]; simp);obtain ⟨aqhg,ho⟩:=ajn (c - 97) (by omega);rw [show 97 + (c - 97)=c by omega] at ho;refine ⟨⟨_,rfl⟩,fun R h=>⟨_,rfl,⟨#[c]⟩,aO,rfl,rfl,?_⟩⟩;rw [ho];exact h
  ·refine ⟨r,Au x.cps.size true,rfl,?_,?_⟩
   ·rw [Hj]; exact SqL.of cb
   ·rw [show (Au x.cps.size true).all id=true by simp]
    exact k _ (gd hr')
end
abbrev aj4:Stmt:=top 60
def azu:Sp:=fun vs H Q _=>∃ (z:Addr) (xs:List Str),vs=[.ref z]/\H z=some (.lst (xs.map V.str))/\(∀ y∈xs,ay y)/\xs.Nodup/\xs.length <= 9/\∀ H',aqi7 H H'->Q (.bl true) H'
theorem aJ7 {K:Frag} {z:Addr} {xs:List V} {j:Nat} {te:TE} {js:List (Option Nat)} {σ:L2.St} {H:Hp} {Q:Addr->Hp->Prop} (hz:SqL K H z xs) (hlen:xs.length < Ad) (S:L2.St->Prop) (hS:S (mkS js σ))
  (step:∀ (x:V) (σ':L2.St) (H':Hp),x∈xs->S σ'->aqi7 H H'->S (σ'.set j (some x))/\(∀ R:VK,(∀ H2,aqi7 H' H2->R (.bl true) H2)->te (σ'.set j (some x)) H' R))
  (k:∀ l H',H l=none->aqi7 H H'->H' l=some (.lst (Au xs.length (.bl true)))->Q l H') :
  ∀ l,H l=none->∃ W:Nat->Nat->L2.St->Hp->Prop,(∃ m,W 0 m (mkS js σ) (upd H l (.lst [])))/\∀ i m σ H,W i m σ H ->
   ((Itl K z).stop i H/\Q l H) \/ ((Itl K z).go i H/\∀ x H',(Itl K z).yld i H x H'->aqw j x σ H' fun σ2 H2=>ajq σ2 H2 fun b H3 =>
     if b=true then te σ2 H3 fun y H4=>∃ acc,H4 l=some (.lst acc)/\acc.length < Ad/\∃ m',m' < m/\W (i + 1) m' σ2 (upd H4 l (.lst (acc++[y]))) else ∃ m',m' < m/\W (i + 1) m' σ2 H3):=by
 intro l hl;refine ⟨fun i m σ' H'=>m=xs.length - i/\i <= xs.length/\S σ'/\aqi7 H H'/\H' l=some (.lst (Au i (.bl true))),⟨_,rfl,zero_le _,hS,gd hl,cb⟩,?_⟩;rintro i m σ' H' ⟨rfl,hi,hs,sm,hl'⟩
 by_cases hlt:i < xs.length
 ·refine .inr ⟨⟨xs,xs[i],sm.seq hz,by simp [hlt]⟩,fun x H2 y=>?_⟩
  obtain ⟨rfl,y⟩:=y;obtain ⟨s1,s3⟩:=step x σ' _ (mem_of_getElem? (y xs (sm.seq hz))) hs sm;dsimp only [ajq,aqw];rw [if_pos rfl];refine s3 _ fun H3 s3'=>⟨_,s3' _ _ hl',by rw [Jy]; omega,_,(by omega:xs.length - (i + 1) < xs.length - i),rfl,hlt,s1,fun b o hb=>?_,?_⟩
  ·rw [af (ac hb hl)]; exact s3' _ _ (sm _ _ hb)
  ·rw [cb,<- List.replicate_succ']
 ·have e1:i=xs.length:=by omega
  subst e1;exact .inl ⟨⟨xs,sm.seq hz,le_refl _⟩,k l H' hl sm hl'⟩
section
variable {P:Af} {w:World} {K:Frag} {mg:Str->Option Value} {base:Heap} {C Ct Cm Cn Cf:Addr}
theorem awe:FnScope ["words"] ["words"] (ai aj4):=fsc
theorem awi {f:Addr} {fd:Am} (F:Fun K "are_names" "are_names" aj4 f fd) (T:Hx K mg C Ct Cm Cn Cf) (zset:mg "set"=none) (G:Fn P w K mg base 1 "is_name" ["word"] avk):FnOk P w K mg base CX0 2 f fd ["words"] azu:=by
 obtain ⟨fi,fdi,oki,mi,ki,bi⟩:=G;refine F.ok awe (k:=1) (fun vs H Q E h=>?_) (fun cdv A outer s H vs Q E hr h=>?_)
 ·obtain ⟨_,_,rfl,_⟩:=h
  rfl
 ·obtain ⟨z,xs,rfl,hz,hok,hnd,h9,k⟩:=h
  refine ⟨_,ah (au (avx (bp (ajw rfl) rfl T.zall aZ4 (aa (aE (cl:=_) (N':=["word"]) (js:=[none]) (tc:=ajq) (by o_reads)
    (aqf (pv 0)) (fun _ _ _ _ _=>pgc 0) aqhk
    (fun _ _ _ _ _=>av oki hr rfl mi ki bi .nil aqt (aa (pv 0) ag))) ag))
   (aQ2 (aM aq1 (aQ4 rfl rfl rfl T.zlen zset (pv 0)) (bp ax rfl T.zlen ajb (aa (pv 0) ag)) (cn _))))),?_⟩
  refine ⟨_,rfl,z,rfl,⟨_,SqL.of hz⟩,aJ7 (SqL.of hz) (by rw [length_map,Ah]; omega) (fun σ=>∃ c,σ=[c]) ⟨none,rfl⟩ (fun x σ' H' hx hS sm=>?_) fun r H1 hr' sm1 hr1=>?_⟩
  ·obtain ⟨c,rfl⟩:=hS
   obtain ⟨y,hy,rfl⟩:=An.mp hx;exact ⟨⟨_,rfl⟩,fun R h=>⟨_,rfl,y,rfl,hok y hy,h⟩⟩
  ·refine ⟨r,Au xs.length true,rfl,?_,?_⟩
   ·rw [Hj]; rw [length_map] at hr1; exact SqL.of hr1
   ·rw [show (Au xs.length true).all id=true by simp]
    refine ⟨_,rfl,aqhs ?_⟩;refine ⟨_,rfl,z,xs,rfl,SqL.of (sm1 _ _ hz),by omega,_,rfl,z,_,rfl,.inl (SqL.of (sm1 _ _ hz)),rfl,?_⟩;rw [aqea hnd,length_map];simp only [decide_true];exact k _ sm1
end
abbrev aQo:Stmt:=top 62
def figs:Str:="0123456789"
theorem aJ0:∀ i,i < 10->∃ aqhg,B5 figs ⟨#[48 + i]⟩ 0 figs.length 1=i :: aqhg:=by
 intro i hi;refine ⟨[],?_⟩
 revert i
 decide +kernel
theorem len18:(D8 (toString (1000000000000000000:Int))).length=19:=by decide +kernel
structure Dy (mg:Str->Option Value):Prop where
 mF:∃ t,mg "FIGURES"=some (.str figs t)
 zs:mg "str"=none
 zi:mg "int"=none
def aVe:Sp:=fun vs H Q _=>∃ n:Int,vs=[.str (aqhn n)]/\1 <= n/\n <= 1000000000000000000/\∀ H',aqi7 H H'->Q (.bl true) H'
section
variable {P:Af} {w:World} {K:Frag} {mg:Str->Option Value} {base:Heap} {C Ct Cm Cn Cf:Addr}
theorem aKn:FnScope ["word"] ["word"] (ai aQo):=fsc
theorem aWk {f:Addr} {fd:Am} (F:Fun K "is_ballots" "is_ballots" aQo f fd) (T:Hx K mg C Ct Cm Cn Cf) (D:Dy mg):FnOk P w K mg base CX0 1 f fd ["word"] aVe:=by
 obtain ⟨t18,h18⟩:=T.m18;obtain ⟨tF,hF⟩:=D.mF;refine F.ok aKn (k:=0) (fun vs H Q E h=>?_) (fun cdv A outer s H vs Q E hr h=>?_)
 ·obtain ⟨_,rfl,_⟩:=h
  rfl
 ·obtain ⟨n,rfl,h1,h2,k⟩:=h
  obtain ⟨l1,l19,dg,⟨c0,t0,hd,hc0⟩,rd⟩:=az4 h1 h2;generalize aqhn n=x at l1 l19 dg hd rd ⊢;refine ⟨_,ae (aZ (PW.pt (aqac (ak aq1 (pv 0) al (cn _)) (aqac (ak op_gt (bp aq4 rfl T.zlen ajb (aa (pv 0) ag)) (bp aq4 rfl T.zlen ajb (aa (jt av5 rfl D.zs aZ2 (aa (ajl (v:=.int 1000000000000000000) rfl h18 ⟨t18,rfl⟩) ag)) ag)) (cn _)) (aXy (ak aq1 (aqs aZm (pv 0) aj (fun _ _=>rfl)) al (cn _)))))) aji ao)
   (ah (au (avx (bp (ajw rfl) rfl T.zall aZ4 (aa (aE (cl:=_) (N':=["figure"]) (js:=[none]) (tc:=ajq) (by o_reads)
    (aqai (pv 0)) (fun _ _ _ _ _=>pgc 0) aqhk
    (fun _ _ _ _ _=>aM akn (pv 0) (ajl (v:=.str figs) rfl hF ⟨tF,rfl⟩) (by rfl))) ag))
    (aQ2 (aM op_le (jt azm rfl D.zi aZ3 (aa (pv 0) ag)) (ajl (v:=.int 1000000000000000000) rfl h18 ⟨t18,rfl⟩) (cn _)))))),?_⟩
  have hne:¬ V.str x=V.str "":=fun e=>by
   have e':x=("":Str):=V.str.inj e;rw [e'] at l1;exact absurd l1 (by decide +kernel)
  have hasc:x.cps.all (· < 128)=true:=by
   rw [Array.all_eq_true];intro i hi
   have:=dg x.cps[i] (by simp)
   simp
   omega
  have hsz:x.cps.size=x.length:=rfl;have at0:atI x.cps.toList (0:Int)=some c0:=by rw [hd]; exact aq (j:=0) rfl
  have h48:¬ V.str ⟨#[c0]⟩=V.str "0":=fun e=>by
   have e':(⟨#[c0]⟩:Str)=("0":Str):=V.str.inj e;have e2:(⟨#[c0]⟩:Str).cps.toList=[48]:=by rw [e']; decide +kernel
   exact hc0 (by simpa using e2)
  refine ⟨_,rfl,rfl,_,rfl,?_⟩;rw [decide_eq_false hne];refine aqht ?_;refine ⟨_,rfl,x,rfl,by rw [Ah]; omega,1000000000000000000,rfl,by decide +kernel,_,rfl,by rw [len18]; decide,_,_,rfl,rfl,_,rfl,?_⟩;rw [len18,decide_eq_false (show ¬ ((19:Nat):Int) < (x.length:Int) by omega)];refine aqht ?_;refine ⟨_,rfl,x,_,c0,rfl,rfl,by rw [Ah]; omega,at0,rfl,_,rfl,?_⟩;rw [decide_eq_false h48];refine aqht ?_;refine ⟨_,rfl,x,rfl,hasc,ak0 (ys:=Au x.cps.size (V.bl true)) (by simp) (by rw [Ah]; omega) (fun σ=>∃ c,σ=[c]) ⟨none,rfl⟩ (fun i c y σ' H' hc hy hS sm=>?_) fun r hr'=>?_⟩
  ·obtain ⟨c1,rfl⟩:=hS
   have hyt:y=V.bl true:=(Lp.mp (mem_of_getElem? hy)).2;subst hyt;have hcm:=dg c (by obtain ⟨hi,e⟩:=Hi.mp hc; rw [<- e]; simp);obtain ⟨aqhg,ho⟩:=aJ0 (c - 48) (by omega);rw [show 48 + (c - 48)=c by omega] at ho;refine ⟨⟨_,rfl⟩,fun R h=>⟨_,rfl,⟨#[c]⟩,figs,rfl,rfl,?_⟩⟩;rw [ho];exact h
  ·refine ⟨r,Au x.cps.size true,rfl,?_,?_⟩
   ·rw [Hj]; exact SqL.of cb
   ·rw [show (Au x.cps.size true).all id=true by simp]
    refine ⟨_,rfl,aqhs ?_⟩;refine ⟨_,rfl,x,n,rfl,rd,by omega,_,_,rfl,rfl,?_⟩;dsimp only;rw [decide_eq_true h2];exact k _ (gd hr')
end
abbrev aQn:Stmt:=top 59
inductive RowOk:Str->List Str->Prop
 | names:RowOk "names" []
 | heap:RowOk "heap" []
 | stand {x:Str} (h:ay x):RowOk "stand" [x]
 | cast {n:Int} {xs:List Str} (h1:1 <= n) (h2:n <= 1000000000000000000) (h3:∀ y∈xs,ay y) (h4:xs.Nodup) (h5:xs.length <= 9):RowOk "cast" (aqhn n :: xs)
 | lift {n:Int} {xs:List Str} (h1:1 <= n) (h2:n <= 1000000000000000000) (h3:∀ y∈xs,ay y) (h4:xs.Nodup) (h5:xs.length <= 9):RowOk "lift" (aqhn n :: xs)
theorem aVi {n:Int} (h:NumOk n) (m:Nat):shp m (.str (aqhn n))=true:=by
 have:(aqhn n).cps.all (fun c=>decide (c < 0x110000))=true:=by
  rw [<- Array.all_toList,all_eq_true];intro c hc
  have:=h.dg c hc
  simp; omega
 simpa [shp] using this
def aVd:Sp:=fun vs H Q _=>∃ (h:Str) (z:Addr) (aqhg:List Str),vs=[.str h,.ref z]/\H z=some (.lst (aqhg.map V.str))/\RowOk h aqhg/\∀ H',aqi7 H H'->Q (.bl true) H'
section
variable {P:Af} {w:World} {K:Frag} {mg:Str->Option Value} {base:Heap} {C Ct Cm Cn Cf:Addr}
theorem aKm:FnScope ["head","rest"] ["head","rest"] (ai aQn):=fsc
theorem aWj {f:Addr} {fd:Am} (F:Fun K "is_row" "is_row" aQn f fd) (T:Hx K mg C Ct Cm Cn Cf) (Gn:Fn P w K mg base 1 "is_name" ["word"] avk) (Ga:Fn P w K mg base 2 "are_names" ["words"] azu) (Gb:Fn P w K mg base 1 "is_ballots" ["word"] aVe):FnOk P w K mg base CX0 3 f fd ["head","rest"] aVd:=by
 obtain ⟨fn,fdn,okn,mn_,kn,bn⟩:=Gn;obtain ⟨fa,fda,oka,ma,ka,ba⟩:=Ga;obtain ⟨fb,fdb,okb,mb,kb,bb⟩:=Gb;refine F.ok aKm (k:=2) (fun vs H Q E h=>?_) (fun cdv A outer s H vs Q E hr h=>?_)
 ·obtain ⟨_,_,_,rfl,_⟩:=h
  rfl
 ·obtain ⟨h,z,aqhg,rfl,hz,ok,k⟩:=h
  have hr1:Room 1 _:=hm hr;refine ⟨_,ae (aZ (PW.pt (aqac (ak aq1 (pv 0) al (cn _)) (aXy (ak aq1 (pv 0) al (cn _))))) (ah (au (aM (awh hr.units) (pv 1) (aY ag) (cn _)))) ao)
   (ae (aZ (ak aq1 (pv 0) al (cn _)) (ah (au (avx (aM aq1 (bp ax rfl T.zlen ajb (aa (pv 1) ag)) aj (cn _)) (aQ2 (av okn hr1 rfl mn_ kn bn .nil aqt (aa (aqs ar (pv 1) aj (fun _ _=>rfl)) ag)))))) ao)
   (ae (aZ (ak aq1 (pv 0) al (cn _)) aji ao)
   (ae (aZ (ak aq1 (pv 0) al (cn _)) aji ao)
   (ae (aZ (PW.pt (aqac (ak aq1 (pv 0) al (cn _)) (aXy (ak aq1 (pv 0) al (cn _))))) (ah (au (avx (aM (aqas hr.units) (pv 1) (aY ag) (cn _)) (avx (av okb hr1 rfl mb kb bb .nil aqt (aa (aqs ar (pv 1) aj (fun _ _=>rfl)) ag)) (aQ2 (av oka hr rfl ma ka ba .nil aqt (aa (aje azw (pv 1) (aj8 aj) ajj) ag))))))) ao)
   aji)))),?_⟩
  cases ok with
  | names =>
   refine ⟨_,rfl,rfl,_,rfl,?_⟩;rw [decide_eq_true rfl];refine aqhs ?_;refine aqhs ?_;refine ⟨_,rfl,by show 0 <= Ad; decide,fun e he=>⟨_,.lst [],.lst [],aqi7.refl _,.lst (.inl (.inl ((gd he) _ _ hz))) .nil,.lst (.inl (.inl cb)) .nil,rfl,rfl,?_⟩⟩;simp only [Ao,if_false];rw [axh (show shp 20 (.lst [])=true from rfl)];exact k _ (gd he)
  | heap =>
   refine ⟨_,rfl,rfl,_,rfl,?_⟩;rw [decide_eq_false (show ¬ V.str "heap"=V.str "names" by decide +kernel)];refine aqht ?_;refine ⟨_,rfl,rfl,_,rfl,?_⟩;rw [decide_eq_true rfl];refine aqhs ?_;refine ⟨_,rfl,by show 0 <= Ad; decide,fun e he=>⟨_,.lst [],.lst [],aqi7.refl _,.lst (.inl (.inl ((gd he) _ _ hz))) .nil,.lst (.inl (.inl cb)) .nil,rfl,rfl,?_⟩⟩;simp only [Ao,if_false];rw [axh (show shp 20 (.lst [])=true from rfl)];exact k _ (gd he)
  | @stand x hx =>
   refine ⟨_,rfl,rfl,_,rfl,?_⟩;rw [decide_eq_false (show ¬ V.str "stand"=V.str "names" by decide +kernel)];refine aqht ?_;refine ⟨_,rfl,rfl,_,rfl,?_⟩;rw [decide_eq_false (show ¬ V.str "stand"=V.str "heap" by decide +kernel)];refine aqht ?_;refine ⟨_,rfl,rfl,_,rfl,?_⟩;rw [decide_eq_true rfl];refine aqhs ?_;refine ⟨_,rfl,z,_,rfl,.inl (SqL.of hz),rfl,?_⟩;rw [show decide (V.int (([x].map V.str).length:Int)=V.int 1)=true from rfl];refine ⟨_,rfl,aqhs ?_⟩;exact ⟨_,rfl,z,_,_,_,rfl,rfl,SqL.of hz,rfl,x,rfl,hx,k⟩
  | @cast n xs h1 h2 h3 h4 h5 =>
   refine ⟨_,rfl,rfl,_,rfl,?_⟩;rw [decide_eq_false (show ¬ V.str "cast"=V.str "names" by decide +kernel)];refine aqht ?_;refine ⟨_,rfl,rfl,_,rfl,?_⟩;rw [decide_eq_false (show ¬ V.str "cast"=V.str "heap" by decide +kernel)];refine aqht ?_;refine ⟨_,rfl,rfl,_,rfl,?_⟩;rw [decide_eq_false (show ¬ V.str "cast"=V.str "stand" by decide +kernel)];refine aqht ?_;refine ⟨_,rfl,rfl,_,rfl,?_⟩;rw [decide_eq_false (show ¬ V.str "cast"=V.str "bench" by decide +kernel)];refine aqht ?_;refine ⟨_,rfl,rfl,_,rfl,?_⟩;rw [decide_eq_false (show ¬ V.str "cast"=V.str "judge" by decide +kernel)];refine aqht ?_;refine ⟨_,rfl,rfl,_,rfl,?_⟩;rw [decide_eq_true rfl];refine aqhs ?_;refine aqhs ?_;have nk:=az4 h1 h2;have sh:shp 20 (.lst ((aqhn n :: xs).map D.str))=true:=by
    show (shp 19 (.str (aqhn n)) && aqhd 19 (xs.map D.str))=true;rw [bD h3 19,aVi nk 19]; rfl
   refine ⟨_,rfl,by show 0 <= Ad; decide,fun e he=>⟨_,.lst ((aqhn n :: xs).map D.str),.lst [],aqi7.refl _,.lst (.inl (.inl ((gd he) _ _ hz))) (aK _),.lst (.inl (.inl cb)) .nil,sh,rfl,?_⟩⟩;have sm1:aqi7 H (upd H e (.lst [])):=gd he;generalize upd H e (.lst [])=H1 at sm1 ⊢;rw [show (if true=true then !eqD (.lst ((aqhn n :: xs).map D.str)) (.lst []) else eqD (.lst ((aqhn n :: xs).map D.str)) (.lst []))=true from rfl];refine ⟨_,rfl,aqhs ?_⟩;refine ⟨_,rfl,z,_,_,_,rfl,rfl,SqL.of (sm1 _ _ hz),aq (j:=0) rfl,n,rfl,h1,h2,fun H2 sm2=>⟨_,rfl,aqhs ?_⟩⟩;refine ⟨_,rfl,1,rfl,z,_,rfl,SqL.of ((sm1.trans sm2) _ _ hz),fun p hp=>?_⟩;have ec:aqi3 ((aqhn n :: xs).map V.str) (some 1) none=xs.map V.str:=by
    rw [map_cons];simp [aqi3,HT.sIx];exact take_of_length_le (by simp)
   rw [ec];exact ⟨p,xs,rfl,cb,h3,h4,h5,fun H4 sm4=>k _ ((sm1.trans sm2).trans ((gd hp).trans sm4))⟩
  | @lift n xs h1 h2 h3 h4 h5 =>
   refine ⟨_,rfl,rfl,_,rfl,?_⟩;rw [decide_eq_false (show ¬ V.str "lift"=V.str "names" by decide +kernel)];refine aqht ?_;refine ⟨_,rfl,rfl,_,rfl,?_⟩;rw [decide_eq_false (show ¬ V.str "lift"=V.str "heap" by decide +kernel)];refine aqht ?_;refine ⟨_,rfl,rfl,_,rfl,?_⟩;rw [decide_eq_false (show ¬ V.str "lift"=V.str "stand" by decide +kernel)];refine aqht ?_;refine ⟨_,rfl,rfl,_,rfl,?_⟩;rw [decide_eq_false (show ¬ V.str "lift"=V.str "bench" by decide +kernel)];refine aqht ?_;refine ⟨_,rfl,rfl,_,rfl,?_⟩;rw [decide_eq_false (show ¬ V.str "lift"=V.str "judge" by decide +kernel)];refine aqht ?_;refine ⟨_,rfl,rfl,_,rfl,?_⟩;rw [decide_eq_false (show ¬ V.str "lift"=V.str "cast" by decide +kernel)];refine aqht ?_;refine ⟨_,rfl,rfl,_,rfl,?_⟩;rw [decide_eq_true rfl];refine aqhs ?_;have nk:=az4 h1 h2;have sh:shp 20 (.lst ((aqhn n :: xs).map D.str))=true:=by
    show (shp 19 (.str (aqhn n)) && aqhd 19 (xs.map D.str))=true;rw [bD h3 19,aVi nk 19]; rfl
   refine ⟨_,rfl,by show 0 <= Ad; decide,fun e he=>⟨_,.lst ((aqhn n :: xs).map D.str),.lst [],aqi7.refl _,.lst (.inl (.inl ((gd he) _ _ hz))) (aK _),.lst (.inl (.inl cb)) .nil,sh,rfl,?_⟩⟩;have sm1:aqi7 H (upd H e (.lst [])):=gd he;generalize upd H e (.lst [])=H1 at sm1 ⊢;rw [show (if true=true then !eqD (.lst ((aqhn n :: xs).map D.str)) (.lst []) else eqD (.lst ((aqhn n :: xs).map D.str)) (.lst []))=true from rfl];refine ⟨_,rfl,aqhs ?_⟩;refine ⟨_,rfl,z,_,_,_,rfl,rfl,SqL.of (sm1 _ _ hz),aq (j:=0) rfl,n,rfl,h1,h2,fun H2 sm2=>⟨_,rfl,aqhs ?_⟩⟩;refine ⟨_,rfl,1,rfl,z,_,rfl,SqL.of ((sm1.trans sm2) _ _ hz),fun p hp=>?_⟩;have ec:aqi3 ((aqhn n :: xs).map V.str) (some 1) none=xs.map V.str:=by
    rw [map_cons];simp [aqi3,HT.sIx];exact take_of_length_le (by simp)
   rw [ec];exact ⟨p,xs,rfl,cb,h3,h4,h5,fun H4 sm4=>k _ ((sm1.trans sm2).trans ((gd hp).trans sm4))⟩
end
abbrev aQm:Stmt:=top 58
def aqhf (ws:List Str):Str:=Fh ⟨#[32]⟩ ws
theorem aK1 {h:Str} {aqhg:List Str} (ok:RowOk h aqhg):∀ p∈h :: aqhg,32 ∉ p.cps.toList:=by
 have nm:∀ {x:Str},ay x->32 ∉ x.cps.toList:=fun hx hm=>by have:=hx.2.2 32 hm; omega
 have nu:∀ {n:Int},1 <= n->n <= 1000000000000000000->32 ∉ (aqhn n).cps.toList:=fun h1 h2 hm=>by have:=(az4 h1 h2).dg 32 hm; omega
 intro p hp;cases ok with
 | names=>rw [Bp.mp hp]; decide +kernel
 | heap=>rw [Bp.mp hp]; decide +kernel
 | stand hx =>
  rcases Ai.mp hp with rfl | hp
  ·decide +kernel
  ·rw [Bp.mp hp]; exact nm hx
 | cast h1 h2 h3 h4 h5 =>
  rcases Ai.mp hp with rfl | hp
  ·decide +kernel
  ·rcases Ai.mp hp with rfl | hp
   ·exact nu h1 h2
   ·exact nm (h3 p hp)
 | lift h1 h2 h3 h4 h5 =>
  rcases Ai.mp hp with rfl | hp
  ·decide +kernel
  ·rcases Ai.mp hp with rfl | hp
   ·exact nu h1 h2
   ·exact nm (h3 p hp)
def aVa:Sp:=fun vs H Q _=>∃ (h:Str) (aqhg:List Str),vs=[.str (aqhf (h :: aqhg))]/\RowOk h aqhg/\(aqhf (h :: aqhg)).length <= 1000/\∀ r H',aqi7 H H'->H r=none->H' r=some (.lst ((h :: aqhg).map V.str))->Q (.ref r) H'
section
variable {P:Af} {w:World} {K:Frag} {mg:Str->Option Value} {base:Heap} {C Ct Cm Cn Cf:Addr}
theorem aQj:FnScope ["row","words"] ["row"] (ai aQm):=fsc
theorem aWg {f:Addr} {fd:Am} (F:Fun K "words_of" "words_of" aQm f fd) (zi:mg "isinstance"=none) (zs:mg "str"=none) (G:Fn P w K mg base 3 "is_row" ["head","rest"] aVd):FnOk P w K mg base CX0 4 f fd ["row"] aVa:=by
 obtain ⟨fr,fdr,okr,mr,kr,br⟩:=G;refine F.ok aQj (k:=3) (fun vs H Q E h=>?_) (fun cdv A outer s H vs Q E hr h=>?_)
 ·obtain ⟨_,_,rfl,_⟩:=h
  rfl
 ·obtain ⟨h,aqhg,rfl,ok,hl,k⟩:=h
  have sj:Txt.split (aqhf (h :: aqhg)) (" ":Str)=h :: aqhg:=by
   rw [show (" ":Str)=⟨#[32]⟩ by decide +kernel];exact aQg (by simp) (aK1 ok)
  generalize aqhf (h :: aqhg)=row at hl sj ⊢;refine ⟨_,ae (aZ (aQw (aQv (bp (aYc aqbj) rfl zi avg (aa (pv 0) (aa (aqao (v:=.ty "str") rfl zs aZ2 rfl) ag))))) aji ao)
   (ae (gs (i:=1) aQj.nd rfl (.inl rfl) (aQ7 A8 PySem.F.slot_str_split PySem.F.type_str_split aWt (pv 0) (aa al ag)))
   (ae (aZ (aQw (aQv (av okr hr rfl mr kr br .nil aqt (aa (aqs ar (pv 1) aj (fun _ _=>rfl)) (aa (aje azw (pv 1) (aj8 aj) ajj) ag))))) aji ao)
   (ah (au (pv 1))))),?_⟩
  refine ⟨_,rfl,.str row,.str row,H,rfl,aqi7.refl _,.str row,_,rfl,aqht ?_⟩;refine ⟨_,rfl,rfl,row," ",rfl,rfl,by decide +kernel,by rw [Ah]; omega,fun r hr0=>?_⟩;rw [sj];have sm1:aqi7 H (upd H r (.lst ((h :: aqhg).map V.str))):=gd hr0;have hr1:(upd H r (.lst ((h :: aqhg).map V.str))) r=some (.lst ((h :: aqhg).map V.str)):=cb;generalize upd H r (.lst ((h :: aqhg).map V.str))=H1 at sm1 hr1 ⊢;refine ⟨_,rfl,r,_,_,_,rfl,rfl,SqL.of hr1,aq (j:=0) rfl,_,rfl,1,rfl,r,_,rfl,SqL.of hr1,fun p hp=>?_⟩;have ec:aqi3 ((h :: aqhg).map V.str) (some 1) none=aqhg.map V.str:=by
   rw [map_cons];simp [aqi3,HT.sIx];exact take_of_length_le (by simp)
  rw [ec];refine ⟨h,p,aqhg,rfl,cb,ok,fun H3 sm3=>⟨_,rfl,aqht ?_⟩⟩;have s3:aqi7 H1 H3:=(gd hp).trans sm3;exact ⟨_,rfl,k r _ (sm1.trans s3) hr0 (s3 _ _ hr1)⟩
end
abbrev avo:Stmt:=top 70
def txt:V->Str
 | .str x=>x
 | .int i=>aqhn i
 | _=>""
def TxtOk (v:V):Prop:=(∃ x,v=.str x) \/ ∃ i:Int,v=.int i/\i.natAbs.log2 < 1920
def avj (K:Frag):Sp:=fun vs H Q _=>∃ (z:Addr) (ts:List V),vs=[.ref z]/\SqL K H z ts/\(∀ v∈ts,TxtOk v)/\ts.length <= 100/\(((ts.map txt).map (·.length)).sum + ts.length * 1 <= 16777216)/\∀ H',aqi7 H H'->Q (.str (Eh ⟨#[32]⟩ (ts.map txt))) H'
section
variable {P:Af} {w:World} {K:Frag} {mg:Str->Option Value} {base:Heap} {C Ct Cm Cn Cf:Addr}
theorem aXs:FnScope ["things"] ["things"] (ai avo):=fsc
theorem aZa {f:Addr} {fd:Am} (F:Fun K "_law_spaced" "_law_spaced" avo f fd) (zs:mg "str"=none):FnOk P w K mg base CX0 1 f fd ["things"] (avj K):=by
 refine F.ok aXs (k:=0) (fun vs H Q E h=>?_) (fun cdv A outer s H vs Q E hr h=>?_)
 ·obtain ⟨_,_,rfl,_⟩:=h
  rfl
 ·obtain ⟨z,ts,rfl,hz,hok,h100,hsz,k⟩:=h
  refine ⟨_,ah (au (aQ7 A8 By Bz (axw rfl) al (aa (aE (cl:=_) (N':=["thing"]) (js:=[none]) (tc:=ajq) (by o_reads)
    (aqf (pv 0)) (fun _ _ _ _ _=>pgc 0) aqhk
    (fun _ _ _ _ _=>jt ak4 rfl zs aZ2 (aa (pv 0) ag))) ag))),?_⟩
  refine ⟨rfl,_,rfl,z,rfl,⟨_,hz⟩,aqk hz (by rw [Ah]; omega) (fun _=>true) (fun v=>.str (txt v)) (fun σ=>∃ c,σ=[c]) ⟨none,rfl⟩ (fun i x σ' H' hx hS sm=>?_) fun r hr'=>?_⟩
  ·obtain ⟨c,rfl⟩:=hS
   refine ⟨⟨_,rfl⟩,fun R h=>h,fun R _ h=>?_⟩;rcases hok x (mem_of_getElem? hx) with ⟨y,rfl⟩ | ⟨i,rfl,hi⟩
   ·exact ⟨_,rfl,.inr ⟨y,rfl,h⟩⟩
   ·exact ⟨_,rfl,.inl ⟨i,rfl,hi,h⟩⟩
  ·rw [Cb.mpr (by simp)]
   have e:ts.map (fun v=>V.str (txt v))=(ts.map txt).map V.str:=by rw [map_map]; rfl
   rw [e];refine ⟨" ",r,ts.map txt,rfl,rfl,SqL.of cb,?_,?_⟩
   ·rw [length_map]; exact hsz
   ·rw [show (" ":Str)=⟨#[32]⟩ by decide +kernel]
    exact k _ (gd hr')
end
abbrev aKk:Stmt:=aU (top 57) 0
abbrev sdSay:Stmt:=aU (top 57) 1
abbrev aKj:Stmt:=aU (top 57) 2
abbrev aKl:Stmt:=aU (top 57) 3
def fldD (p:Addr):List (Str × V):=aqhi "hall" (.ref p) []
theorem awq (p:Addr):(fldD p).lookup ("hall":Str)=some (.ref p):=by
 unfold fldD;rw [az,if_pos rfl]
theorem avd (p:Addr) {m:Str} (h:¬ m="hall"):(fldD p).lookup m=none:=by
 unfold fldD;rw [az,if_neg h];rfl
structure DeskAt (C D:Addr) (H:Hp) (q p l d:Addr) (names:List Str) (kv:aqid):Prop where
 ob:∃ dx,H q=some (.ins D dx (fldD p))
 hall:HallAt C H p l d names kv
structure HxD (K:Frag) (mg:Str->Option Value) (D:Addr):Prop where
 cl:Cls K D
 nH:azq K D "hall"
 mgD:mg "Desk"=some (.ref D)
def aVf (C D:Addr):Sp:=fun vs H Q _=>∃ (q dx:Addr),vs=[.ref q]/\H q=some (.ins D dx [])/\∀ (p l d:Addr) (H':Hp),H p=none->H l=none->H d=none->DeskAt C D H' q p l d [] []->(∀ b o,H b=some o->b ≠ q->H' b=some o)->Q .non H'
section
variable {P:Af} {w:World} {K:Frag} {mg:Str->Option Value} {base:Heap} {C D Ct Cm Cn Cf:Addr}
theorem aKq:FnScope ["self"] ["self"] (ai aKk):=fsc
theorem aWm {f fI:Addr} {fd fdI:Am} (F:Fun K "__init__" "Desk.__init__" aKk f fd) (T:Hx K mg C Ct Cm Cn Cf) (U:HxD K mg D) (M:Mk K C fI) (GI:FnOk P w K mg base CX0 1 fI fdI ["self"] (spInit C)) (bI:L2.Binds K fdI ["self"] []):FnOk P w K mg base CX0 3 f fd ["self"] (aVf C D):=by
 refine F.ok aKq (k:=2) (fun vs H Q E h=>?_) (fun cdv A outer s H vs Q E hr h=>?_)
 ·obtain ⟨_,_,rfl,_⟩:=h
  rfl
 ·obtain ⟨q,dx,rfl,hq,k⟩:=h
  refine ⟨_,ah (aK5 (pv 0) (avw M GI hr rfl T.mgC bI .nil aqt) rfl),?_⟩;intro p dy np ndy nep;refine ⟨p,dy,rfl,cb,fun l d H3 hl hd S3 kp3=>⟨rfl,?_⟩⟩;have sx:aqi7 H (upd (upd H dy (.own p)) p (.ins C dy [])):=fun b o e=>by
   rw [af (ac e np),af (ac e ndy)];exact e
  have s3:aqi7 H H3:=fun b o e=>kp3 b o (sx _ _ e) (ac e np);obtain ⟨⟨dz,h1⟩,h2,h3⟩:=id S3;have hq3:=s3 _ _ hq;have nqp:q ≠ p:=ac hq np;have nql:q ≠ l:=ac hq (sx.free hl);have nqd:q ≠ d:=ac hq (sx.free hd);refine ⟨_,rfl,q,D,dx,[],rfl,hq3,U.cl,U.nH,(by show 0 < 1000; decide),?_⟩;exact k p l d _ np (sx.free hl) (sx.free hd) ⟨⟨dx,cb⟩,⟨dz,by rw [af nqp.symm]; exact h1⟩,by rw [af nql.symm]; exact h2,by rw [af nqd.symm]; exact h3⟩ fun b o e hb=>by rw [af hb]; exact s3 _ _ e
end
abbrev avq:Stmt:=aU (top 51) 10
def aqho (names:List Str) (k:Int):Str:=names.getD k.toNat ⟨#[]⟩
def aV8 (n:Nat) (s:List Int):Prop:=∀ k∈s,0 <= k/\k < (n:Int)
def akf (K:Frag) (C:Addr):Sp:=fun vs H Q _=>∃ (p l d z:Addr) (names:List Str) (kv:aqid) (s:List Int),vs=[.ref p,.ref z]/\HallAt C H p l d names kv/\SqL K H z (s.map V.int)/\aV8 names.length s/\s.length <= 100 /\
 ∀ r,H r=none->Q (.ref r) (upd H r (.lst ((s.map fun k=>aqho names k).map V.str)))
def intV:V->Int
 | .int i=>i
 | _=>0
theorem nm_at {names:List Str} {k:Int} (h0:0 <= k) (h1:k < (names.length:Int)):atI (names.map V.str) k=some (.str (aqho names k)):=by
 obtain ⟨i,rfl⟩:=Df h0;have hi:i < names.length:=by omega
 refine aq ?_;unfold aqho;simp [hi]
section
variable {P:Af} {w:World} {K:Frag} {mg:Str->Option Value} {base:Heap} {C Ct Cm Cn Cf:Addr}
theorem scO:FnScope ["self","numbers"] ["self","numbers"] (ai avq):=fsc
theorem aJc {f:Addr} {fd:Am} (F:Fun K "names_of" "Hall.names_of" avq f fd) (T:Hx K mg C Ct Cm Cn Cf):FnOk P w K mg base CX0 1 f fd ["self","numbers"] (akf K C):=by
 refine F.ok scO (k:=0) (fun vs H Q E h=>?_) (fun cdv A outer s H vs Q E hr h=>?_)
 ·obtain ⟨_,_,_,_,_,_,_,rfl,_⟩:=h
  rfl
 ·obtain ⟨p,l,d,z,names,kv,s,rfl,S,hz,hb,h100,k⟩:=h
  obtain ⟨⟨dx,h1⟩,h2,h3⟩:=id S;refine ⟨_,ah (au (aE (cl:=_) (N':=["number","self"]) (js:=[none,some 0]) (tc:=ajq) (te:=tOp (rIxL K) (tFld K (aqhb 1) "standing") (aqhb 0)) (by o_reads)
    (aqf (pv 1)) (fun _ _ _ _ _=>pgc 0) aqhk
    (fun _ _ _ _ _=>aqs (ix_lK rfl) (aQ5 rfl (pv 1) rfl) (pv 0) (fun _ _=>rfl)))),?_⟩
  refine ⟨_,rfl,z,rfl,⟨_,hz⟩,aqk hz (by rw [length_map,Ah]; omega) (fun _=>true) (fun v=>.str (aqho names (intV v))) (fun σ=>∃ c,σ=[c,some (.ref p)]) ⟨none,rfl⟩ (fun i x σ' H' hx hS sm=>?_) fun r hr'=>?_⟩
  ·obtain ⟨c,rfl⟩:=hS
   obtain ⟨y,hy,rfl⟩:∃ y∈s,x=V.int y:=by
    rw [getElem?_map] at hx;cases e:s[i]? with
    | none=>rw [e] at hx; cases hx
    | some q=>rw [e] at hx; exact ⟨q,mem_of_getElem? e,(Option.some.inj hx).symm⟩
   exact ⟨⟨_,rfl⟩,fun R h=>h,fun R _ h=>⟨_,rfl,p,C,dx,_,_,rfl,sm _ _ h1,T.cl,T.nS,axf _ _,_,rfl,l,_,y,_,rfl,rfl,SqL.of (sm _ _ h2),nm_at (hb y hy).1 (hb y hy).2,h⟩⟩
  ·rw [Cb.mpr (by simp),map_map]
   have:=k r hr'
   rw [map_map] at this;exact this
end
def azi (kv:aqid):D:=.lst ((aJ (kv.map (·.1))).map fun k=>DL.aqhj (k,wt kv k))
theorem ajf {kv:aqid} {k:List Int} (h:k∈kv.map (·.1)):look kv k=some (wt kv k):=by
 unfold wt;cases e:look kv k with
 | some y=>rfl
 | none =>
  exfalso;unfold look at e;cases e2:kv.find? fun p=>decide (p.1=k) with
  | some y=>rw [e2] at e; cases e
  | none =>
   obtain ⟨p,hp,rfl⟩:=An.mp h
   have:=Hh.mp e2 p hp
   simp at this
theorem aYu:∀ {kv:aqid},(kv.map (·.1)).Nodup->∀ m,wtK (swap kv) m=wt kv m
 | [],_,m=>rfl
 | p :: kv,hn,m=>by
  rw [map_cons,nodup_cons] at hn;have ih:=aYu hn.2 m
  by_cases e:p.1=m
  ·have z:wt kv m=0:=by
    unfold wt look
    have:(kv.find? fun p=>decide (p.1=m))=none:=by
     rw [Hh];intro q hq
     simp
     intro e2;exact hn.1 (by rw [e,<- e2]; exact An.mpr ⟨q,hq,rfl⟩)
    rw [this]; rfl
   have h1:wt (p :: kv) m=p.2:=by unfold wt look; rw [List.find?_cons_of_pos (by simpa using e)]; rfl
   rw [h1];unfold wtK swap at ih ⊢;rw [map_cons,Dj (by simpa using e),map_cons,List.sum_cons,ih,z];omega
  ·have h1:wt (p :: kv) m=wt kv m:=by unfold wt look; rw [List.find?_cons_of_neg (by simpa using e)]
   rw [h1,<- ih];unfold wtK swap;rw [map_cons,Di (by simpa using e)]
theorem aQb {kv:aqid} (hn:(kv.map (·.1)).Nodup):oD (.lst ((azs (swap kv)).map aQz))=some (azi kv):=by
 have e:(swap kv).map (fun p=>p.2)=kv.map (·.1):=by unfold swap; rw [map_map]; rfl
 have e2:azs (swap kv)=(aJ (kv.map (·.1))).map fun k=>(wt kv k,k):=by
  unfold azs;rw [e];apply map_congr_left;intro m _;rw [aYu hn]
 rw [e2,map_map];have ow:∀ l:List Int,oDs (l.map (O.sh ∘ D.int))=some (l.map D.int):=by
  intro l
  induction l with
  | nil=>rfl
  | cons a l ih=>simp [oDs,oD,ih]
 have one:∀ l:List (List Int),oDs (l.map (aQz ∘ fun k=>(wt kv k,k)))=some (l.map fun k=>DL.aqhj (k,wt kv k)):=by
  intro l
  induction l with
  | nil=>rfl
  | cons a l ih =>
   have h1:oD (aQz (wt kv a,a))=some (DL.aqhj (a,wt kv a)):=by
    simp [aQz,DL.aqhj,oD,oDs,DL.ow,ow]
   simp only [map_cons,Ek,oDs];rw [h1];refine Eq.trans (congrArg (fun z=>(some (DL.aqhj (a,wt kv a))).bind fun d=>z.map (d :: ·)) ih) ?_;rfl
 unfold azi;simp only [oD];rw [one];rfl
theorem aJ8 {K:Frag} {z:Addr} {xs ys:List V} {g:TG} {te:TE} {js:List (Option Nat)} {σ:L2.St} {H:Hp} {Q:Addr->Hp->Prop} (hz:SqL K H z xs) (hy:ys.length=xs.length) (hlen:xs.length < Ad) (S:L2.St->Prop) (hS:S (mkS js σ))
  (step:∀ (i:Nat) (x y:V) (σ':L2.St) (H':Hp),xs[i]?=some x->ys[i]?=some y->S σ'->aqi7 H H'->∀ R:L2.St->VK,(∀ σ2 H2,S σ2->aqi7 H' H2->R σ2 y H2)->g x σ' H' fun σ2 H2=>te σ2 H2 (R σ2))
  (k:∀ l H',H l=none->aqi7 H H'->H' l=some (.lst ys)->Q l H') :
  ∀ l,H l=none->∃ W:Nat->Nat->L2.St->Hp->Prop,(∃ m,W 0 m (mkS js σ) (upd H l (.lst [])))/\∀ i m σ H,W i m σ H ->
   ((Itl K z).stop i H/\Q l H) \/ ((Itl K z).go i H/\∀ x H',(Itl K z).yld i H x H'->g x σ H' fun σ2 H2=>ajq σ2 H2 fun b H3 =>
     if b=true then te σ2 H3 fun y H4=>∃ acc,H4 l=some (.lst acc)/\acc.length < Ad/\∃ m',m' < m/\W (i + 1) m' σ2 (upd H4 l (.lst (acc++[y]))) else ∃ m',m' < m/\W (i + 1) m' σ2 H3):=by
 intro l hl;refine ⟨fun i m σ' H'=>m=xs.length - i/\i <= xs.length/\S σ'/\aqi7 H H'/\H' l=some (.lst (ys.take i)),⟨_,rfl,zero_le _,hS,gd hl,by rw [cb]; simp⟩,?_⟩;rintro i m σ' H' ⟨rfl,hi,hs,sm,hl'⟩
 by_cases hlt:i < xs.length
 ·have hlt':i < ys.length:=by omega
  refine .inr ⟨⟨xs,xs[i],sm.seq hz,by simp [hlt]⟩,fun x H2 y=>?_⟩;obtain ⟨rfl,y⟩:=y;refine step i x ys[i] σ' _ (y xs (sm.seq hz)) (getElem?_eq_getElem hlt') hs sm (fun σ2 y H4=>∃ acc,H4 l=some (.lst acc)/\acc.length < Ad/\∃ m',m' < xs.length - i/\m'=xs.length - (i + 1)/\i + 1 <= xs.length/\S σ2/\aqi7 H (upd H4 l (.lst (acc++[y])))/\(upd H4 l (.lst (acc++[y]))) l=some (.lst (ys.take (i + 1)))) fun σ2 H3 hs2 s3=>⟨_,s3 _ _ hl',by rw [length_take]; omega,_,(by omega:xs.length - (i + 1) < xs.length - i),rfl,hlt,hs2,fun b o hb=>?_,?_⟩
  ·rw [af (ac hb hl)]; exact s3 _ _ (sm _ _ hb)
  ·rw [cb,take_succ_eq_append_getElem hlt']
 ·have e1:i=xs.length:=by omega
  subst e1;rw [<- hy,take_length] at hl';exact .inl ⟨⟨xs,sm.seq hz,by omega⟩,k l H' hl sm hl'⟩
def aK7 (names:List Str) (kv:aqid) (k:List Int):Str:=Eh ⟨#[32]⟩ (aqhn (wt kv k) :: k.map fun j=>aqho names j)
def heapT (names:List Str) (kv:aqid):Str:=Eh ⟨#[59,32]⟩ ((aJ (kv.map (·.1))).map fun k=>aK7 names kv k)
theorem aVo {X:Cx} {K:Frag} (h:X.K=K):OpR X (Cy .Add) (rCatE K):=by subst h; exact aVp
theorem aQy {K:Frag} {F:Hp} {kv:aqid}:∀ {ks:List (List Int)} {vs:List V},Reps K F vs (ks.map fun k=>DL.aqhj (k,wt kv k))->∀ {i:Nat} {x:V},vs[i]?=some x->∃ t q k,x=.ref t/\ks[i]?=some k/\SqT K F t [.int (wt kv k),.ref q]/\SqE K F q (k.map V.int)
 | [],_,h,i,x,e=>by cases h; cases e
 | k :: ks,_,h,i,x,e=>by
  cases h with
  | cons h1 h2 =>
   cases i with
   | succ i=>exact aQy h2 (by simpa using e)
   | zero =>
    cases e;cases h1 with
    | tup hT r =>
     cases r with
     | cons a r =>
      cases a;cases r with
      | cons b r =>
       cases r;cases b with
       | lst hq rr =>
        have ei:∀ {ns:List Int} {vs:List V},Reps K F vs (ns.map D.int)->vs=ns.map V.int:=by
         intro ns
         induction ns with
         | nil=>intro vs h; cases h; rfl
         | cons n ns ih=>intro vs h; cases h with | cons h t=>cases h; rw [ih t]; rfl
        rw [ei rr] at hq;exact ⟨_,_,k,rfl,rfl,hT,hq⟩
theorem azf {n:Int} (h1:1 <= n) (h2:n <= 1000000000000000000):n.natAbs.log2 < 1920:=by
 have h:n.natAbs < 2 ^ 64:=by omega
 have:=(Nat.log2_lt (show n.natAbs ≠ 0 by omega)).mpr h
 omega
theorem azt {B:Nat} {l:List Str} (h:∀ y∈l,y.length <= B):(l.map (·.length)).sum <= l.length * B:=by
 induction l with
 | nil=>simp
 | cons a l ih =>
  have h1:=h a (by simp);have h2:=ih fun y hy=>h y (mem_cons_of_mem _ hy);rw [map_cons,List.sum_cons,length_cons,Nat.succ_mul];omega
theorem aVv {B:Nat} {sep:Str} {l:List Str} (h:∀ y∈l,y.length <= B):(Eh sep l).length <= l.length * B + l.length * sep.length:=by
 have e:Eh sep l=Fh sep l:=Fo sep l;rw [e];exact le_trans (StrLaws.join_length_le sep l) (Nat.add_le_add_right (azt h) _)
theorem aq2 {kv:aqid} (hn:(kv.map (·.1)).Nodup) {q:List Int × Int} (h:q∈kv):wt kv q.1=q.2:=by
 have e:=ajf (kv:=kv) (k:=q.1) (An.mpr ⟨q,h,rfl⟩);unfold look at e;cases f:kv.find? fun p=>decide (p.1=q.1) with
 | none=>rw [f] at e; cases e
 | some r =>
  rw [f] at e;have hr:=Ho f;have h1:r.1=q.1:=by have:=List.find?_some f; simpa using this
  have:r=q:=by
   have hp:=Hy.mp hn;apply A5;intro ne;obtain ⟨i,hi,ei⟩:=getElem_of_mem hr;obtain ⟨j,hj,ej⟩:=getElem_of_mem h;rcases Nat.lt_trichotomy i j with c | c | c
   ·exact (Be.mp hp i j hi hj c) (by rw [ei,ej]; exact h1)
   ·subst c; exact ne (ei.symm.trans ej)
   ·exact (Be.mp hp j i hj hi c) (by rw [ei,ej]; exact h1.symm)
  rw [this] at e;exact (Option.some.inj e).symm
structure GoodT (names:List Str) (kv:aqid):Prop where
 l12:kv.length <= 12
 kn:(kv.map (·.1)).Nodup
 kl:∀ q∈kv,q.1.length <= 6
 bl:∀ q∈kv,aV8 names.length q.1
 wl:∀ q∈kv,1 <= q.2/\q.2 <= 1000000000000000000
 nl:∀ y∈names,y.length <= 8
theorem GoodT.words {names:List Str} {kv:aqid} (g:GoodT names kv) {kk:List Int} (hkm:kk∈kv.map (·.1)):∀ y∈aqhn (wt kv kk) :: kk.map (fun j=>aqho names j),y.length <= 19:=by
 obtain ⟨pq,hpq,ek⟩:=An.mp hkm;have ew:wt kv kk=pq.2:=by rw [<- ek]; exact aq2 g.kn hpq
 have hwl:=g.wl pq hpq;have hbl:aV8 names.length kk:=by rw [<- ek]; exact g.bl pq hpq
 intro y hy;rcases Ai.mp hy with rfl | hy
 ·rw [ew]; exact (az4 hwl.1 hwl.2).l19
 ·obtain ⟨j,hj,rfl⟩:=An.mp hy
  obtain ⟨j0,j1⟩:=hbl j hj;obtain ⟨i',rfl⟩:=Df j0;have hi':i' < names.length:=by omega
  have:aqho names (i':Int)=names[i']:=by unfold aqho; simp [hi']
  rw [this]
  have:=g.nl names[i'] (getElem_mem hi')
  omega
theorem GoodT.pile {names:List Str} {kv:aqid} (g:GoodT names kv):∀ y∈(aJ (kv.map (·.1))).map (fun k=>aK7 names kv k),y.length <= 200:=by
 intro y hy;obtain ⟨kk,hk,rfl⟩:=An.mp hy;have hkm:=MT.mem_keys.mp hk;obtain ⟨pq,hpq,ek⟩:=An.mp hkm;have hkl:kk.length <= 6:=by rw [<- ek]; exact g.kl pq hpq
 have:=aVv (sep:=⟨#[32]⟩) (g.words hkm)
 have e1:(⟨#[32]⟩:Str).length=1:=rfl;rw [e1] at this;unfold aK7;simp only [length_cons,length_map] at this;omega
def aVg (C D:Addr):Sp:=fun vs H Q _=>∃ (q p l d:Addr) (names:List Str) (kv:aqid),vs=[.ref q]/\DeskAt C D H q p l d names kv/\GoodT names kv/\∀ H',aqi7 H H'->Q (.str (heapT names kv)) H'
section
variable {P:Af} {w:World} {K:Frag} {mg:Str->Option Value} {base:Heap} {C D Ct Cm Cn Cf:Addr}
theorem aKr:FnScope ["self"] ["self"] (ai aKl):=fsc
theorem aWn {f fH fO:Addr} {fd fdH fdO:Am} (F:Fun K "heap_told" "Desk.heap_told" aKl f fd) (T:Hx K mg C Ct Cm Cn Cf) (U:HxD K mg D) (zs:mg "str"=none) (GH:FnOk P w K mg base CX0 3 fH fdH ["self"] (spHeap K C)) (bH:L2.Binds K fdH ["self"] []) (mH:Meth K C "heap" fH) (GO:FnOk P w K mg base CX0 1 fO fdO ["self","numbers"] (akf K C)) (bO:L2.Binds K fdO ["self","numbers"] []) (mO:Meth K C "names_of" fO):FnOk P w K mg base CX0 4 f fd ["self"] (aVg C D):=by
 refine F.ok aKr (k:=3) (fun vs H Q E h=>?_) (fun cdv A outer s H vs Q E hr h=>?_)
 ·obtain ⟨_,_,_,_,_,_,rfl,_⟩:=h
  rfl
 ·obtain ⟨q,p,l,d,names,kv,rfl,S,g,k⟩:=h
  have hr1:Room 1 _:=hm hr;obtain ⟨dq,hq⟩:=S.ob;obtain ⟨⟨dx,h1⟩,h2,h3⟩:=id S.hall;refine ⟨_,ah (au (aQ7 A8 By Bz (axw rfl) al (aa (aE (cl:=_) (N':=["weight","marks","self"]) (js:=[none,none,some 0]) (g:=gTup K 2 (awp (aqw 0) (awp (aqw 1) gNil))) (tc:=ajq) (by o_reads)
    (aqf (avv (aqa (pv 0) rfl) T.cl mH GH hr bH .nil aqt)) (fun _ _ _ _ _=>aQ1 rfl rfl (aqg (pgc 0) (aqg (pgc 1) akk))) aqhk
    (fun _ _ _ _ _=>aqan (K:=K) rfl A8 By Bz (axw (K:=K) rfl) al (aa (aX (aVo (K:=K) rfl) (aY (aa (jt ak4 rfl zs aZ2 (aa (pv 0) ag)) ag)) (aqr (aQ5 (K:=K) rfl (pv 2) rfl) T.cl mO GO hr1 bO .nil aqt (aa (pv 1) ag))) ag))) ag))),?_⟩
  refine ⟨rfl,_,rfl,q,D,dq,_,_,rfl,hq,U.cl,U.nH,awq _,p,dx,_,rfl,h1,aqi,p,l,d,names,kv,rfl,S.hall,by have:=g.l12; omega,fun q' hq'=>by have:=g.kl q' hq'; omega,fun v2 F2 H2 A2 ow2 sF2 hA2 sm2=>?_⟩;have rf:=ow2.rep sF2 (aQb g.kn) (fun _ _=>rfl);clear ow2 sF2 hA2;unfold azi at rf;cases rf with
  | @lst zh vs _ hqh rrh =>
  have ln:=rrh.length;have kl12:(aJ (kv.map (·.1))).length <= 12:=by have:=MT.keys_len (kv.map (·.1)); rw [length_map] at this; have:=g.l12; omega
  rw [length_map] at ln;refine ⟨zh,rfl,⟨_,hqh.l⟩,aJ8 (ys:=((aJ (kv.map (·.1))).map fun k=>aK7 names kv k).map V.str) hqh.l (by rw [length_map,length_map]; exact ln.symm) (by rw [ln,Ah]; omega) (fun σ=>∃ c c',σ=[c,c',some (.ref q)]) ⟨none,none,rfl⟩ (fun i x y σ' H' hx hy hS sm R hR=>?_) fun r H3 hr0 sm3 hr3=>?_⟩
  ·obtain ⟨c,c',rfl⟩:=hS
   obtain ⟨t,qq,kk,rfl,hk,hT,hE⟩:=aQy rrh hx;rw [getElem?_map,getElem?_map,hk] at hy;cases hy;have hkm:kk∈kv.map (·.1):=MT.mem_keys.mp (mem_of_getElem? hk);obtain ⟨pq,hpq,ek⟩:=An.mp hkm;have sm':=sm2.trans sm;have hkl:kk.length <= 6:=by rw [<- ek]; exact g.kl pq hpq
   have hbl:aV8 names.length kk:=by rw [<- ek]; exact g.bl pq hpq
   have ew:wt kv kk=pq.2:=by rw [<- ek]; exact aq2 g.kn hpq
   have hwl:=g.wl pq hpq;have hw:(wt kv kk).natAbs.log2 < 1920:=by rw [ew]; exact azf hwl.1 hwl.2
   have h19:=g.words hkm;refine ⟨t,_,rfl,seqT sm hT,rfl,_,_,rfl,_,_,rfl,rfl,?_⟩;refine ⟨rfl,_,rfl,.inl ⟨_,rfl,hw,by show 1 <= Ad; decide,fun e he=>?_⟩⟩;have s1:aqi7 H' (upd H' e (.lst [.str (aqhn (wt kv kk))])):=gd he;have he1:(upd H' e (.lst [.str (aqhn (wt kv kk))])) e=some (.lst ([aqhn (wt kv kk)].map V.str)):=cb;refine ⟨_,rfl,q,D,dq,_,_,rfl,s1 _ _ (sm' _ _ hq),U.cl,U.nH,awq _,p,dx,_,rfl,s1 _ _ (sm' _ _ h1),aqi,_,rfl,p,l,d,qq,names,kv,kk,rfl,S.hall.keep (sm'.trans s1),(seqE (sm.trans s1) hE).l,hbl,by omega,fun r hr0=>?_⟩;have s2:aqi7 (upd H' e (.lst [.str (aqhn (wt kv kk))])) (upd (upd H' e (.lst [.str (aqhn (wt kv kk))])) r (.lst ((kk.map fun j=>aqho names j).map V.str))):=gd hr0;refine ⟨e,r,[.str (aqhn (wt kv kk))],(kk.map fun j=>aqho names j).map V.str,rfl,rfl,.inl (.inl (s2 _ _ cb)),.inl (.inl cb),by rw [length_map,length_map,Ah]; simp; omega,fun cc hcc=>?_⟩;refine ⟨" ",cc,aqhn (wt kv kk) :: kk.map (fun j=>aqho names j),rfl,rfl,SqL.of cb,?_,?_⟩
   ·have:=azt h19
    have e1:(" ":Str).length=1:=by decide +kernel
    rw [e1];simp only [length_cons,length_map] at this ⊢;omega
   ·have e32:(" ":Str)=⟨#[32]⟩:=by decide +kernel
    rw [e32];exact hR _ _ ⟨_,_,rfl⟩ (s1.trans (s2.trans (gd hcc)))
  ·refine ⟨"; ",r,(aJ (kv.map (·.1))).map fun k=>aK7 names kv k,rfl,rfl,SqL.of hr3,?_,?_⟩
   ·have:=azt g.pile
    have e2:("; ":Str).length=2:=by decide +kernel
    rw [e2];simp only [length_map] at this ⊢;omega
   ·rw [show ("; ":Str)=⟨#[59,32]⟩ by decide +kernel]
    exact k _ (sm2.trans sm3)
end
def rowW (w:Str) (v:Int) (xs:List Str):List Str:=if w="stand" then "stand" :: xs else w :: aqhn v :: xs
structure DeedOk (w:Str) (v:Int) (xs st:List Str) (kv:aqid):Prop where
 hw:w="stand" \/ w="cast" \/ w="lift"
 hs:w="stand"->∃ x,xs=[x]
 h6:st.length <= 6
 h9:xs.length <= 9
 h12:kv.length <= 12
 hok:∀ y∈st,ay y
 hxs:∀ y∈xs,ay y
 nd:xs.Nodup
 v1:1 <= v
 v2:v <= 1000000000000000000
def exOf (Ct Cm Cn Cf:Addr) (r:D) (c:Addr):Prop:=(r=.tup [.str "Taken"]/\c=Ct) \/ (r=.tup [.str "TooMany"]/\c=Cm) \/ (r=.tup [.str "NoName"]/\c=Cn) \/ (r=.tup [.str "TooFew"]/\c=Cf)
def spObey (C D Ct Cm Cn Cf:Addr):Sp:=fun vs H Q E=>∃ (q p l d z:Addr) (w:Str) (v:Int) (xs st:List Str) (kv:aqid),vs=[.ref q,.ref z]/\DeskAt C D H q p l d st kv/\H z=some (.lst ((rowW w v xs).map V.str))/\DeedOk w v xs st kv /\
 (∀ c,exOf Ct Cm Cn Cf (step w v xs st kv).1 c->∀ H',aqi7 H H'->E (.ref c) none H') /\
 ((step w v xs st kv).1=.non->∀ H',(∀ b o,H b=some o->b ≠ l->b ≠ d->H' b=some o)->H' l=some (.lst ((step w v xs st kv).2.1.map V.str))->H' d=some (.dT (kd (step w v xs st kv).2.2))->Q .non H')
theorem aQe (v:Int) (x:Str) (st:List Str) (kv:aqid):step "stand" v [x] st kv=(if x∈st then (.tup [.str "Taken"],st,kv) else if 6 <= st.length then (.tup [.str "TooMany"],st,kv) else (.non,st++[x],kv)):=by unfold step; rw [if_pos rfl]; rfl
theorem aZ9 {w:Str} {v:Int} {xs st:List Str} {kv:aqid} (h:¬ w="stand") (hn:¬ ∀ y∈xs,y∈st):step w v xs st kv=(.tup [.str "NoName"],st,kv):=by unfold step; rw [if_neg h,if_neg hn]
theorem ake {v:Int} {xs st:List Str} {kv:aqid} (hall:∀ y∈xs,y∈st):step "cast" v xs st kv=(if 10 ^ 18 < wt kv (aqhm st xs) + v \/ ((look kv (aqhm st xs)).isSome=false/\12 <= kv.length) then (.tup [.str "TooMany"],st,kv) else (.non,st,lay kv (aqhm st xs) (wt kv (aqhm st xs) + v))):=by
 unfold step;rw [if_neg (by decide +kernel),if_pos hall,if_neg (fun z=>absurd z.1 (by decide +kernel)),if_neg (show ¬ ("cast":Str)="lift" by decide +kernel)]
 by_cases hc:10 ^ 18 < wt kv (aqhm st xs) + v \/ ((look kv (aqhm st xs)).isSome=false/\12 <= kv.length)
 ·rw [if_pos ⟨rfl,hc⟩,if_pos hc]
 ·rw [if_neg fun z=>hc z.2,if_neg hc]
theorem akd {v:Int} {xs st:List Str} {kv:aqid} (hall:∀ y∈xs,y∈st):step "lift" v xs st kv=(if wt kv (aqhm st xs) < v then (.tup [.str "TooFew"],st,kv) else (.non,st,lay kv (aqhm st xs) (wt kv (aqhm st xs) - v))):=by
 unfold step;rw [if_neg (by decide +kernel),if_pos hall,if_pos (show ("lift":Str)="lift" from rfl)]
 by_cases hc:wt kv (aqhm st xs) < v
 ·rw [if_pos ⟨rfl,hc⟩,if_pos hc]
 ·rw [if_neg fun z=>hc z.2,if_neg hc,if_neg fun z=>absurd z.1 (by decide +kernel)]
theorem cut2 (a b:Str) (xs:List Str):aqi3 ((a :: b :: xs).map V.str) (some 2) none=xs.map V.str:=by
 rw [map_cons,map_cons];simp [aqi3,HT.sIx];exact take_of_length_le (by simp)
section
variable {P:Af} {w:World} {K:Frag} {mg:Str->Option Value} {base:Heap} {C D Ct Cm Cn Cf:Addr}
theorem aqa4:FnScope ["self","words"] ["self","words"] (ai aKj):=fsc
theorem aqaw {f fS fC fL:Addr} {fd fdS fdC fdL:Am} (F:Fun K "obey" "Desk.obey" aKj f fd) (T:Hx K mg C Ct Cm Cn Cf) (U:HxD K mg D) (GS:FnOk P w K mg base (CXm P w) 2 fS fdS ["self","name"] (aVb C Ct Cm)) (bS:L2.Binds K fdS ["self","name"] []) (mS:Meth K C "stand" fS)
  (GC:FnOk P w K mg base (CXm P w) 3 fC fdC ["self","many","names"] (spCast C Cm Cn)) (bC:L2.Binds K fdC ["self","many","names"] []) (mC:Meth K C "cast" fC) (GL:FnOk P w K mg base (CXm P w) 3 fL fdL ["self","many","names"] (spLift C Cf Cn)) (bL:L2.Binds K fdL ["self","many","names"] []) (mL:Meth K C "lift" fL) :
  FnOk P w K mg base (CXm P w) 4 f fd ["self","words"] (spObey C D Ct Cm Cn Cf):=by
 refine fnM F aqa4 (k:=3) (fun vs H Q E h=>?_) (fun cdv A outer s H vs Q E hr h=>?_)
 ·obtain ⟨_,_,_,_,_,_,_,_,_,_,rfl,_⟩:=h
  rfl
 ·obtain ⟨q,p,l,d,z,wd,v,xs,st,kv,rfl,S,hz,ok,ke,kq⟩:=h
  have hr2:Room 2 _:=hm hr;obtain ⟨dq,hq⟩:=S.ob;obtain ⟨⟨dx,h1⟩,h2,h3⟩:=id S.hall;refine ⟨_,ah (aZ (ak aq1 (aqs ar (pv 1) aj (fun _ _=>rfl)) al (cn _)) (ah (aqe (aqr (aqa (pv 0) rfl) T.cl mS GS hr2 bS .nil aYk (aa (aqs ar (pv 1) aj (fun _ _=>rfl)) ag))))
   (ah (aZ (ak aq1 (aqs ar (pv 1) aj (fun _ _=>rfl)) al (cn _)) (ah (aqe (aqr (aqa (pv 0) rfl) T.cl mC GC hr bC .nil aYk (aa (jt azm rfl T.zint aZ3 (aa (aqs ar (pv 1) aj (fun _ _=>rfl)) ag)) (aa (aje azw (pv 1) (aj8 aj) ajj) ag)))))
    (ah (aqe (aqr (aqa (pv 0) rfl) T.cl mL GL hr bL .nil aYk (aa (jt azm rfl T.zint aZ3 (aa (aqs ar (pv 1) aj (fun _ _=>rfl)) ag)) (aa (aje azw (pv 1) (aj8 aj) ajj) ag)))))))),?_⟩
  have ldn:l ≠ d:=aqb h2 h3 nofun;obtain ⟨hw,hs,h6,h9,h12,hok,hxs,nd,v1,v2⟩:=ok
  by_cases hst:wd="stand"
  ·subst hst
   obtain ⟨x,rfl⟩:=hs rfl;rw [aQe] at ke kq;have hz':H z=some (.lst [.str "stand",.str x]):=hz;refine ⟨_,rfl,z,_,_,_,rfl,rfl,SqL.of hz',aq (j:=0) rfl,rfl,_,rfl,?_⟩;refine aqhs ?_;refine ⟨_,rfl,q,D,dq,_,_,rfl,hq,U.cl,U.nH,awq _,p,dx,_,rfl,h1,aqi,_,rfl,z,_,_,_,rfl,rfl,SqL.of hz',aq (j:=1) rfl,p,l,d,st,kv,x,rfl,S.hall,h6,hxs x (by simp),hok,fun hin=>?_,fun hin h6'=>?_,fun hin h6'=>?_⟩
   ·rw [if_pos hin] at ke
    exact ⟨Ct,rfl,ke Ct (.inl ⟨rfl,rfl⟩) _ (aqi7.refl _)⟩
   ·rw [if_neg hin,if_pos h6'] at ke
    exact ⟨Cm,rfl,ke Cm (.inr (.inl ⟨rfl,rfl⟩)) _ (aqi7.refl _)⟩
   ·rw [if_neg hin,if_neg (by omega)] at kq
    exact kq rfl _ (fun c o hc hcl _=>by rw [af hcl]; exact hc) cb (by rw [af ldn.symm]; exact h3)
  ·have hz':H z=some (.lst ((wd :: aqhn v :: xs).map V.str)):=by unfold rowW at hz; rw [if_neg hst] at hz; exact hz
   have nk:=az4 v1 v2;refine ⟨_,rfl,z,_,_,_,rfl,rfl,SqL.of hz',aq (j:=0) rfl,rfl,_,rfl,?_⟩;rw [decide_eq_false (show ¬ V.str wd=V.str "stand" from fun z=>hst (V.str.inj z))];refine aqht ?_;rcases hw with hw | hw | hw
   ·exact absurd hw hst
   ·subst hw
    refine ⟨_,rfl,z,_,_,_,rfl,rfl,SqL.of hz',aq (j:=0) rfl,rfl,_,rfl,?_⟩;refine aqhs ?_;refine ⟨_,rfl,q,D,dq,_,_,rfl,hq,U.cl,U.nH,awq _,p,dx,_,rfl,h1,aqi,_,rfl,z,_,_,_,rfl,rfl,SqL.of hz',aq (j:=1) rfl,_,v,rfl,nk.rd,by have:=nk.l19; omega,_,rfl,2,rfl,z,_,rfl,SqL.of hz',fun r hr0=>?_⟩;rw [cut2];have sm:aqi7 H (upd H r (.lst (xs.map V.str))):=gd hr0;refine ⟨p,l,d,r,st,kv,xs,v,rfl,S.hall.keep sm,cb,h6,h9,h12,hok,hxs,fun hn H1 sm1=>?_,fun hall hc H1 sm1=>?_,fun hall hc H1 keep hd1=>?_⟩
    ·rw [aZ9 hst hn] at ke
     exact ⟨Cn,rfl,ke Cn (.inr (.inr (.inl ⟨rfl,rfl⟩))) _ (sm.trans sm1)⟩
    ·rw [ake hall,if_pos (hc.elim .inr .inl)] at ke
     exact ⟨Cm,rfl,ke Cm (.inr (.inl ⟨rfl,rfl⟩)) _ (sm.trans sm1)⟩
    ·rw [ake hall,if_neg (fun z=>hc (z.elim .inr .inl))] at kq
     exact kq rfl _ (fun c o hc _ hcd=>keep _ _ (sm _ _ hc) hcd) (keep _ _ (sm _ _ h2) ldn) hd1
   ·subst hw
    refine ⟨_,rfl,z,_,_,_,rfl,rfl,SqL.of hz',aq (j:=0) rfl,rfl,_,rfl,?_⟩;rw [decide_eq_false (show ¬ V.str "lift"=V.str "cast" by decide +kernel)];refine aqht ?_;refine ⟨_,rfl,q,D,dq,_,_,rfl,hq,U.cl,U.nH,awq _,p,dx,_,rfl,h1,aqi,_,rfl,z,_,_,_,rfl,rfl,SqL.of hz',aq (j:=1) rfl,_,v,rfl,nk.rd,by have:=nk.l19; omega,_,rfl,2,rfl,z,_,rfl,SqL.of hz',fun r hr0=>?_⟩;rw [cut2];have sm:aqi7 H (upd H r (.lst (xs.map V.str))):=gd hr0;refine ⟨p,l,d,r,st,kv,xs,v,rfl,S.hall.keep sm,cb,h6,h9,h12,hok,hxs,fun hn H1 sm1=>?_,fun hall hc H1 sm1=>?_,fun hall hc H1 keep hd1=>?_⟩
    ·rw [aZ9 hst hn] at ke
     exact ⟨Cn,rfl,ke Cn (.inr (.inr (.inl ⟨rfl,rfl⟩))) _ (sm.trans sm1)⟩
    ·rw [akd hall,if_pos hc] at ke
     exact ⟨Cf,rfl,ke Cf (.inr (.inr (.inr ⟨rfl,rfl⟩))) _ (sm.trans sm1)⟩
    ·rw [akd hall,if_neg hc] at kq
     exact kq rfl _ (fun c o hc _ hcd=>keep _ _ (sm _ _ hc) hcd) (keep _ _ (sm _ _ h2) ldn) hd1
end
def spSay (C D Ct Cm Cn Cf:Addr):Sp:=fun vs H Q E=>∃ (q p l d:Addr) (st:List Str) (kv:aqid),DeskAt C D H q p l d st kv/\GoodT st kv/\st.length <= 6 /\
 ((vs=[.ref q,.str "names"]/\∀ H',aqi7 H H'->Q (.str (Eh ⟨#[32]⟩ st)) H') \/ (vs=[.ref q,.str "heap"]/\∀ H',aqi7 H H'->Q (.str (heapT st kv)) H') \/
  ∃ (w:Str) (v:Int) (xs:List Str),vs=[.ref q,.str (aqhf (rowW w v xs))]/\DeedOk w v xs st kv /\
   (∀ c,exOf Ct Cm Cn Cf (step w v xs st kv).1 c->∀ H',aqi7 H H'->E (.ref c) none H') /\
   ((step w v xs st kv).1=.non->∀ H',(∀ b o,H b=some o->b ≠ l->b ≠ d->H' b=some o)->H' l=some (.lst ((step w v xs st kv).2.1.map V.str))->H' d=some (.dT (kd (step w v xs st kv).2.2))->Q (.str "ok") H'))
theorem aQq {w:Str} {v:Int} {xs st:List Str} {kv:aqid} (h:DeedOk w v xs st kv):∃ aqhg,rowW w v xs=w :: aqhg/\RowOk w aqhg/\(aqhf (w :: aqhg)).length <= 1000:=by
 have len:∀ ws:List Str,(∀ y∈ws,y.length <= 19)->ws.length <= 11->(aqhf ws).length <= 1000:=fun ws h1 h2=>by
  have:=aVv (sep:=⟨#[32]⟩) h1
  rw [show Eh ⟨#[32]⟩ ws=aqhf ws from Fo _ _] at this;have e1:(⟨#[32]⟩:Str).length=1:=rfl;rw [e1] at this;omega
 have nm:∀ y∈xs,y.length <= 19:=fun y hy=>by have:=(h.hxs y hy).2.1; omega
 have nk:=az4 h.v1 h.v2;have h9:=h.h9;rcases h.hw with e | e | e
 ·obtain ⟨x,rfl⟩:=h.hs e
  subst e;exact ⟨[x],rfl,.stand (h.hxs x (by simp)),len _ (fun y hy=>by rcases Ai.mp hy with rfl | hy; decide +kernel; exact nm y hy) (by simp)⟩
 ·subst e
  refine ⟨aqhn v :: xs,rfl,.cast h.v1 h.v2 h.hxs h.nd h.h9,len _ (fun y hy=>?_) (by simp; omega)⟩;rcases Ai.mp hy with rfl | hy
  ·decide +kernel
  ·rcases Ai.mp hy with rfl | hy
   ·exact nk.l19
   ·exact nm y hy
 ·subst e
  refine ⟨aqhn v :: xs,rfl,.lift h.v1 h.v2 h.hxs h.nd h.h9,len _ (fun y hy=>?_) (by simp; omega)⟩;rcases Ai.mp hy with rfl | hy
  ·decide +kernel
  ·rcases Ai.mp hy with rfl | hy
   ·exact nk.l19
   ·exact nm y hy
section
variable {P:Af} {w:World} {K:Frag} {mg:Str->Option Value} {base:Heap} {C D Ct Cm Cn Cf:Addr}
theorem aqa3:FnScope ["self","row","words"] ["self","row"] (ai sdSay):=fsc
theorem aqdd {f fN fT fO:Addr} {fd fdN fdT fdO:Am} (F:Fun K "say" "Desk.say" sdSay f fd) (T:Hx K mg C Ct Cm Cn Cf) (U:HxD K mg D) (Gw:Fn P w K mg base 4 "words_of" ["row"] aVa)
  (GN:FnOk P w K mg base CX0 1 fN fdN ["self"] (aQh C)) (bN:L2.Binds K fdN ["self"] []) (mN:Meth K C "names" fN) (GT:FnOk P w K mg base CX0 4 fT fdT ["self"] (aVg C D)) (bT:L2.Binds K fdT ["self"] []) (mT:Meth K D "heap_told" fT)
  (GO:FnOk P w K mg base (CXm P w) 4 fO fdO ["self","words"] (spObey C D Ct Cm Cn Cf)) (bO:L2.Binds K fdO ["self","words"] []) (mO:Meth K D "obey" fO):FnOk P w K mg base (CXm P w) 5 f fd ["self","row"] (spSay C D Ct Cm Cn Cf):=by
 obtain ⟨fw,fdw,okw,mw,kw,bw⟩:=Gw;refine fnM F aqa3 (k:=4) (fun vs H Q E h=>?_) (fun cdv A outer s H vs Q E hr h=>?_)
 ·obtain ⟨_,_,_,_,_,_,_,_,_,h⟩:=h
  rcases h with ⟨rfl,_⟩ | ⟨rfl,_⟩ | ⟨_,_,_,rfl,_⟩ <;> rfl
 ·obtain ⟨q,p,l,d,st,kv,S,g,h6,h⟩:=h
  have hr1:Room 1 _:=hm hr;obtain ⟨dq,hq⟩:=S.ob;obtain ⟨⟨dx,h1⟩,h2,h3⟩:=id S.hall;refine ⟨_,ae (gs (i:=2) aqa3.nd rfl (.inl rfl) (av okw hr rfl mw kw bw .nil aqt (aa (pv 1) ag)))
   (ae (aZ (ak aq1 (aqs ar (pv 2) aj (fun _ _=>rfl)) al (cn _)) (ah (au (aQ7 A8 By Bz (axw rfl) al (aa (avv (aqa (pv 0) rfl) T.cl mN GN hr1 bN .nil aqt) ag)))) ao)
   (ae (aZ (ak aq1 (aqs ar (pv 2) aj (fun _ _=>rfl)) al (cn _)) (ah (au (avv (pv 0) U.cl mT GT hr bT .nil aqt))) ao)
   (ae (aZ (ak aq1 (aqs ar (pv 2) aj (fun _ _=>rfl)) al (cn _)) aji ao)
   (ae (aZ (ak aq1 (aqs ar (pv 2) aj (fun _ _=>rfl)) al (cn _)) aji ao)
   (ae (aqe (aqr (pv 0) U.cl mO GO hr bO .nil aYk (aa (pv 2) ag)))
   (ah (au al))))))),?_⟩
  rcases h with ⟨rfl,k⟩ | ⟨rfl,k⟩ | ⟨wd,v,xs,rfl,ok,ke,kq⟩
  ·refine ⟨_,rfl,"names",[],rfl,.names,by decide +kernel,fun r H1 sm1 hr0 hr1'=>?_⟩
   refine ⟨_,rfl,r,_,_,_,rfl,rfl,SqL.of hr1',aq (j:=0) rfl,rfl,_,rfl,?_⟩;refine aqhs ?_;refine ⟨rfl,_,rfl,q,D,dq,_,_,rfl,sm1 _ _ hq,U.cl,U.nH,awq _,p,dx,_,rfl,sm1 _ _ h1,aqi,p,l,d,st,kv,rfl,S.hall.keep sm1,fun n hn=>?_⟩;refine ⟨" ",n,st,rfl,rfl,SqL.of cb,?_,?_⟩
   ·have:=azt (B:=8) g.nl
    have e1:(" ":Str).length=1:=by decide +kernel
    rw [e1];omega
   ·rw [show (" ":Str)=⟨#[32]⟩ by decide +kernel]
    exact k _ (sm1.trans (gd hn))
  ·refine ⟨_,rfl,"heap",[],rfl,.heap,by decide +kernel,fun r H1 sm1 hr0 hr1'=>?_⟩
   refine ⟨_,rfl,r,_,_,_,rfl,rfl,SqL.of hr1',aq (j:=0) rfl,rfl,_,rfl,?_⟩;rw [decide_eq_false (show ¬ V.str "heap"=V.str "names" by decide +kernel)];refine aqht ?_;refine ⟨_,rfl,r,_,_,_,rfl,rfl,SqL.of hr1',aq (j:=0) rfl,rfl,_,rfl,?_⟩;refine aqhs ?_;exact ⟨_,rfl,q,dq,_,rfl,sm1 _ _ hq,avd _ (by decide +kernel),q,p,l,d,st,kv,rfl,⟨⟨dq,sm1 _ _ hq⟩,S.hall.keep sm1⟩,g,fun H2 sm2=>k _ (sm1.trans sm2)⟩
  ·obtain ⟨aqhg,er,rok,rl⟩:=aQq ok
   rw [er];have n1:¬ V.str wd=V.str "names"/\¬ V.str wd=V.str "heap"/\¬ V.str wd=V.str "bench"/\¬ V.str wd=V.str "judge":=by
    rcases ok.hw with e | e | e <;> subst e <;> decide +kernel
   refine ⟨_,rfl,wd,aqhg,rfl,rok,rl,fun r H1 sm1 hr0 hr1'=>?_⟩;refine ⟨_,rfl,r,_,_,_,rfl,rfl,SqL.of hr1',aq (j:=0) rfl,rfl,_,rfl,?_⟩;rw [decide_eq_false n1.1];refine aqht ?_;refine ⟨_,rfl,r,_,_,_,rfl,rfl,SqL.of hr1',aq (j:=0) rfl,rfl,_,rfl,?_⟩;rw [decide_eq_false n1.2.1];refine aqht ?_;refine ⟨_,rfl,r,_,_,_,rfl,rfl,SqL.of hr1',aq (j:=0) rfl,rfl,_,rfl,?_⟩;rw [decide_eq_false n1.2.2.1];refine aqht ?_;refine ⟨_,rfl,r,_,_,_,rfl,rfl,SqL.of hr1',aq (j:=0) rfl,rfl,_,rfl,?_⟩;rw [decide_eq_false n1.2.2.2];refine aqht ?_;rw [<- er] at hr1';exact ⟨_,rfl,q,dq,_,rfl,sm1 _ _ hq,avd _ (by decide +kernel),_,rfl,q,p,l,d,r,wd,v,xs,st,kv,rfl,⟨⟨dq,sm1 _ _ hq⟩,S.hall.keep sm1⟩,hr1',ok,fun c hc H2 sm2=>⟨c,rfl,ke c hc _ (sm1.trans sm2)⟩,fun hn H2 keep e1 e2=>kq hn _ (fun b o hb h1 h2=>keep b o (sm1 _ _ hb) h1 h2) e1 e2⟩
end
abbrev aKv:Stmt:=top 69
def ansD:D->D
 | .non=>.str "ok"
 | d=>d
def spLSay (K:Frag) (C D:Addr):Sp:=fun vs H Q _=>∃ (q p l d:Addr) (st:List Str) (kv:aqid),DeskAt C D H q p l d st kv/\GoodT st kv/\st.length <= 6 /\
 ((vs=[.ref q,.str "names"]/\∀ H',aqi7 H H'->Q (.str (Eh ⟨#[32]⟩ st)) H') \/ (vs=[.ref q,.str "heap"]/\∀ H',aqi7 H H'->Q (.str (heapT st kv)) H') \/
  ∃ (w:Str) (v:Int) (xs:List Str),vs=[.ref q,.str (aqhf (rowW w v xs))]/\DeedOk w v xs st kv /\
   ∀ r H',Rep K H' r (ansD (step w v xs st kv).1)->(∀ b o,H b=some o->b ≠ l->b ≠ d->H' b=some o)->H' l=some (.lst ((step w v xs st kv).2.1.map V.str))->H' d=some (.dT (kd (step w v xs st kv).2.2))->Q r H')
theorem aQf {w:Str} {v:Int} {xs st:List Str} {kv:aqid} {x:Str} (h:(step w v xs st kv).1=.tup [.str x]):(step w v xs st kv).2.1=st/\(step w v xs st kv).2.2=kv:=by
 unfold step at h ⊢;split at h
 ·rename_i c1
  rw [if_pos c1];split at h
  ·rename_i c2; rw [if_pos c2]; exact ⟨rfl,rfl⟩
  ·rename_i c2
   rw [if_neg c2];split at h
   ·rename_i c3; rw [if_pos c3]; exact ⟨rfl,rfl⟩
   ·cases h
 ·rename_i c1
  rw [if_neg c1];split at h
  ·rename_i c2
   rw [if_pos c2];split at h
   ·rename_i c3; rw [if_pos c3]; exact ⟨rfl,rfl⟩
   ·rename_i c3
    rw [if_neg c3];split at h
    ·rename_i c4; rw [if_pos c4]; exact ⟨rfl,rfl⟩
    ·cases h
  ·rename_i c2; rw [if_neg c2]; exact ⟨rfl,rfl⟩
section
variable {P:Af} {w:World} {K:Frag} {mg:Str->Option Value} {base:Heap} {C D Ct Cm Cn Cf:Addr}
theorem aj3:FnScope ["desk","row","told"] ["desk","row"] (ai aKv):=fsc
theorem aW4 {σ:L2.St} {v:V} (h:σ.length=3):(σ.set 2 (some v))[2]?=some (some v):=by
 rw [Ew (by omega)]
theorem aws {a b c:Addr} (h1:ExcH K a c) (h2:ExcS K b c):a ≠ b:=by
 rintro rfl
 have:=h1.su
 rw [h2.su] at this;cases this
def aYi (x:Str):TS:=tAsg (tTup (axq (tC (.str x)) aqhc)) (aqw 2)
theorem aqay {f fY:Addr} {fd fdY:Am} (F:Fun K "_law_say" "_law_say" aKv f fd) (T:Hx K mg C Ct Cm Cn Cf) (U:HxD K mg D) (GY:FnOk P w K mg base (CXm P w) 5 fY fdY ["self","row"] (spSay C D Ct Cm Cn Cf)) (bY:L2.Binds K fdY ["self","row"] []) (mY:Meth K D "say" fY) :
  FnOk P w K mg base CX0 6 f fd ["desk","row"] (spLSay K C D):=by
 refine F.ok aj3 (k:=5) (fun vs H Q E h=>?_) (fun cdv A outer s H vs Q E hr h=>?_)
 ·obtain ⟨_,_,_,_,_,_,_,_,_,h⟩:=h
  rcases h with ⟨rfl,_⟩ | ⟨rfl,_⟩ | ⟨_,_,_,rfl,_⟩ <;> rfl
 ·obtain ⟨q,p,l,d,st,kv,S,g,h6,h⟩:=h
  obtain ⟨dq,hq⟩:=S.ob;obtain ⟨⟨dx,h1⟩,h2,h3⟩:=id S.hall;refine ⟨_,ae (gs (i:=2) aj3.nd rfl (.inl rfl) aQ3)
   (ae (aK4 (OK:=fun c=>c=Ct \/ c=Cm \/ c=Cn \/ c=Cf) (th:=fun c D σ H=>(c=Ct->aYi "Taken" D σ H)/\(c=Cm->aYi "TooMany" D σ H)/\(c=Cn->aYi "NoName" D σ H)/\(c=Cf->aYi "TooFew" D σ H)) ⟨rfl,rfl⟩
    (fun pins R ok=>ah (gs (i:=2) aj3.nd rfl (.inl rfl) (aqr (pv 0) U.cl mY GY hr bY .nil (aX7 ok) (aa (pv 1) ag))))
    (fun c hc=>?_)) (ah (au (pv 2)))),?_⟩
  ·rcases hc with rfl | rfl | rfl | rfl
   ·exact aX3 (akj T.tT rfl T.mt fun a oe=>ah (gs (i:=2) aj3.nd rfl (.inl rfl) (axa (aa al ag)))) fun _ _ _ h=>h.1 rfl
   ·exact aX3 (axt T.mT rfl T.mt (akj T.mM rfl T.mm fun a oe=>ah (gs (i:=2) aj3.nd rfl (.inl rfl) (axa (aa al ag))))) fun _ _ _ h=>h.2.1 rfl
   ·exact aX3 (axt T.nT rfl T.mt (axt T.nM rfl T.mm (akj T.nN rfl T.mn fun a oe=>ah (gs (i:=2) aj3.nd rfl (.inl rfl) (axa (aa al ag)))))) fun _ _ _ h=>h.2.2.1 rfl
   ·exact aX3 (axt T.fT rfl T.mt (axt T.fM rfl T.mm (axt T.fN rfl T.mn (akj T.fF rfl T.mf fun a oe=>ah (gs (i:=2) aj3.nd rfl (.inl rfl) (axa (aa al ag))))))) fun _ _ _ h=>h.2.2.2 rfl
  ·have ntm:Ct ≠ Cm:=aws T.tT T.mT
   have ntn:Ct ≠ Cn:=aws T.tT T.nT;have ntf:Ct ≠ Cf:=aws T.tT T.fT;have nmn:Cm ≠ Cn:=aws T.mM T.nM;have nmf:Cm ≠ Cf:=aws T.mM T.fM;have nnf:Cn ≠ Cf:=aws T.nN T.fN;have told:∀ (x:Str) (D:Ends) (σ':L2.St) (H1:Hp),σ'.length=3->(∀ t H',aqi7 H1 H'->H' t=some (.tup [.str x])->D.nx (σ'.set 2 (some (.ref t))) H')->aYi x D σ' H1:=by
    intro x D σ' H1 hl hk;exact ⟨by show 1 <= Ad; decide,fun t ht=>hk t _ (gd ht) cb⟩
   rcases h with ⟨rfl,k⟩ | ⟨rfl,k⟩ | ⟨wd,v,xs,rfl,ok,k⟩
   ·exact ⟨_,rfl,q,dq,_,rfl,hq,avd _ (by decide +kernel),_,rfl,q,p,l,d,st,kv,S,g,h6,.inl ⟨rfl,fun H1 sm=>⟨_,rfl,k _ sm⟩⟩⟩
   ·exact ⟨_,rfl,q,dq,_,rfl,hq,avd _ (by decide +kernel),_,rfl,q,p,l,d,st,kv,S,g,h6,.inr (.inl ⟨rfl,fun H1 sm=>⟨_,rfl,k _ sm⟩⟩)⟩
   ·refine ⟨_,rfl,q,dq,_,rfl,hq,avd _ (by decide +kernel),_,rfl,q,p,l,d,st,kv,S,g,h6,.inr (.inr ⟨wd,v,xs,rfl,ok,fun c hc H1 sm1=>?_,fun hn H1 keep e1 e2=>⟨_,rfl,k _ _ (by rw [hn]; exact .str _) keep e1 e2⟩⟩)⟩
    have fin:∀ (x:Str) (σ':L2.St),(step wd v xs st kv).1=.tup [.str x]->σ'.length=3->aYi x { nx:=fun σ H=>∃ v,σ[2]?=some (some v)/\Q v H,rt:=Q } σ' H1:=fun x σ' hx hσ=>told _ _ _ _ hσ fun t H' sm ht=>by
     obtain ⟨e1,e2⟩:=aQf hx;exact ⟨_,aW4 hσ,k _ _ (by rw [hx]; exact aq0 ht) (fun c o hc _ _=>sm _ _ (sm1 _ _ hc)) (by rw [e1]; exact sm _ _ (sm1 _ _ h2)) (by rw [e2]; exact sm _ _ (sm1 _ _ h3))⟩
    rcases hc with ⟨hx,rfl⟩ | ⟨hx,rfl⟩ | ⟨hx,rfl⟩ | ⟨hx,rfl⟩
    ·exact ⟨_,rfl,.inl rfl,fun σ' hσ=>⟨fun _=>fin _ σ' hx hσ,fun e=>absurd e ntm,fun e=>absurd e ntn,fun e=>absurd e ntf⟩⟩
    ·exact ⟨_,rfl,.inr (.inl rfl),fun σ' hσ=>⟨fun e=>absurd e.symm ntm,fun _=>fin _ σ' hx hσ,fun e=>absurd e nmn,fun e=>absurd e nmf⟩⟩
    ·exact ⟨_,rfl,.inr (.inr (.inl rfl)),fun σ' hσ=>⟨fun e=>absurd e.symm ntn,fun e=>absurd e.symm nmn,fun _=>fin _ σ' hx hσ,fun e=>absurd e nnf⟩⟩
    ·exact ⟨_,rfl,.inr (.inr (.inr rfl)),fun σ' hσ=>⟨fun e=>absurd e.symm ntf,fun e=>absurd e.symm nmf,fun e=>absurd e.symm nnf,fun _=>fin _ σ' hx hσ⟩⟩
end
abbrev aQp:Stmt:=top 71
theorem aZz {K:Frag} {z:Addr} {xs:List V} {j:Nat} {te:TE} {js:List (Option Nat)} {σ:L2.St} {H:Hp} {Q:Addr->Hp->Prop} (hz:SqT K H z xs) (hlen:xs.length < Ad) (e:V->V) (S:L2.St->Prop) (hS:S (mkS js σ))
  (step:∀ (x:V) (σ':L2.St) (H':Hp),x∈xs->S σ'->aqi7 H H'->S (σ'.set j (some x))/\(∀ R:VK,R (e x) H'->te (σ'.set j (some x)) H' R))
  (k:∀ l,H l=none->Q l (upd H l (.lst (xs.map e)))) :
  ∀ l,H l=none->∃ W:Nat->Nat->L2.St->Hp->Prop,(∃ m,W 0 m (mkS js σ) (upd H l (.lst [])))/\∀ i m σ H,W i m σ H ->
   ((Itt K z).stop i H/\Q l H) \/ ((Itt K z).go i H/\∀ x H',(Itt K z).yld i H x H'->aqw j x σ H' fun σ2 H2=>ajq σ2 H2 fun b H3 =>
     if b=true then te σ2 H3 fun y H4=>∃ acc,H4 l=some (.lst acc)/\acc.length < Ad/\∃ m',m' < m/\W (i + 1) m' σ2 (upd H4 l (.lst (acc++[y]))) else ∃ m',m' < m/\W (i + 1) m' σ2 H3):=by
 intro l hl;refine ⟨fun i m σ' H'=>m=xs.length - i/\i <= xs.length/\S σ'/\H'=upd H l (.lst ((xs.take i).map e)),⟨_,rfl,zero_le _,hS,by simp⟩,?_⟩;rintro i m σ' H' ⟨rfl,hi,hs,rfl⟩;have sm:aqi7 H (upd H l (.lst ((xs.take i).map e))):=gd hl
 by_cases hlt:i < xs.length
 ·refine .inr ⟨⟨xs,xs[i],seqT sm hz,by simp [hlt]⟩,fun x H2 y=>?_⟩
  obtain ⟨rfl,y⟩:=y;have hx:=y xs (seqT sm hz);rw [getElem?_eq_getElem hlt] at hx;obtain rfl:=(Option.some.inj hx).symm;obtain ⟨s1,s3⟩:=step xs[i] σ' _ (getElem_mem hlt) hs sm;dsimp only [ajq,aqw];rw [if_pos rfl];refine s3 _ ⟨_,cb,by rw [length_map,length_take]; omega,_,(by omega:xs.length - (i + 1) < xs.length - i),rfl,hlt,s1,?_⟩;rw [take_succ_eq_append_getElem hlt,map_append]
  funext b
  by_cases hb:b=l
  ·subst hb; rw [cb,cb]; rfl
  ·rw [af hb,af hb,af hb]
 ·have e1:i=xs.length:=by omega
  subst e1;refine .inl ⟨⟨xs,seqT sm hz,le_refl _⟩,?_⟩;rw [take_length];exact k l hl
theorem aqah {X:Cx} {K:Frag} {tg l:Expr} {tl:TE} (h:X.K=K) (hl:PE X l tl):PI X tg l (iTup K tl):=by subst h; exact aqd6 hl
theorem aqdv (kv:aqid):kd kv=dkv (kv.map fun p=>(p.1,V.int p.2)):=by unfold kd dkv; rw [map_map]; rfl
def aVh:Sp:=fun vs H Q _=>∃ (lA n:Addr) (st:List Str) (kv:aqid),vs=[.ref lA,.ref n]/\H lA=some (.dT (kd kv))/\H n=some (.lst (st.map V.str))/\GoodT st kv/\∀ H',aqi7 H H'->Q (.str (heapT st kv)) H'
section
variable {P:Af} {w:World} {K:Frag} {mg:Str->Option Value} {base:Heap} {C D Ct Cm Cn Cf:Addr}
theorem aKo:FnScope ["lots","names"] ["lots","names"] (ai aQp):=fsc
theorem aWl {f:Addr} {fd:Am} (F:Fun K "_law_heap_text" "_law_heap_text" aQp f fd) (T:Hx K mg C Ct Cm Cn Cf) (G:Fn P w K mg base 1 "_law_spaced" ["things"] (avj K)):FnOk P w K mg base CX0 2 f fd ["lots","names"] aVh:=by
 obtain ⟨fs,fds,oks,ms,ks,bs_⟩:=G;refine F.ok aKo (k:=1) (fun vs H Q E h=>?_) (fun cdv A outer s H vs Q E hr h=>?_)
 ·obtain ⟨_,_,_,_,rfl,_⟩:=h
  rfl
 ·obtain ⟨lA,n,st,kv,rfl,hl,hn,g,k⟩:=h
  refine ⟨_,ah (au (aQ7 A8 By Bz (axw rfl) al (aa (aE (cl:=_) (N':=["marks","lots","names"]) (js:=[none,some 0,some 1]) (tc:=ajq) (by o_reads)
   (aqf (bp (axi hr.units rfl) rfl T.zsorted azo (aa (pv 0) ag)))
   (fun _ _ _ _ _=>pgc 0)
   aqhk
   (fun _ _ _ _ _=>av oks hr rfl ms ks bs_ .nil aqt (aa (aX (aVo (K:=K) rfl) (aY (aa (aQ6 (aku hr) (pv 1) (pv 0) (fun _ _=>rfl)) ag))
    (aE (cl:=_) (N':=["k","names"]) (js:=[none,some 2]) (g:=aqw 0) (tc:=ajq) (te:=tOp (rIxL K) (aqhb 1) (aqhb 0)) (by o_reads)
     (aqah (K:=K) rfl (pv 0)) (fun _ _ _ _ _=>pgc 0) aqhk
     (fun _ _ _ _ _=>aqs (ix_lK (K:=K) rfl) (pv 1) (pv 0) (fun _ _=>rfl)))) ag))) ag))),?_⟩
  have hl':H lA=some (.dT (dkv (kv.map fun p=>(p.1,V.int p.2)))):=by rw [<- aqdv]; exact hl
  have ek:(kv.map fun p=>(p.1,V.int p.2)).map (·.1)=kv.map (·.1):=by rw [map_map]; rfl
  have h12:=g.l12;refine ⟨rfl,_,rfl,lA,_,rfl,hl',by rw [length_map]; omega,fun z bs hz hlen hbs=>?_⟩;rw [ek] at hlen hbs;have sm1:aqi7 H (upd H z (.lst (bs.map V.ref))):=gd hz;have hz1:(upd H z (.lst (bs.map V.ref))) z=some (.lst (bs.map V.ref)):=cb;generalize upd H z (.lst (bs.map V.ref))=H1 at sm1 hz1 hbs ⊢;have kl12:(aJ (kv.map (·.1))).length <= 12:=by have:=MT.keys_len (kv.map (·.1)); rw [length_map] at this; omega
  refine ⟨z,rfl,⟨_,SqL.of hz1⟩,aJ8 (ys:=((aJ (kv.map (·.1))).map fun k=>aK7 st kv k).map V.str) (SqL.of hz1) (by rw [length_map,length_map,length_map]; exact hlen.symm) (by rw [length_map,hlen,Ah]; omega) (fun σ=>∃ c,σ=[c,some (.ref lA),some (.ref n)]) ⟨none,rfl⟩ (fun i x y σ' H' hx hy hS sm R hR=>?_) fun r H3 hr0 sm3 hr3=>?_⟩
  ·obtain ⟨c,rfl⟩:=hS
   have hib:i < bs.length:=by
    apply A5;intro hn;rw [getElem?_map,List.getElem?_eq_none (by omega)] at hx;cases hx
   have hik:i < (aJ (kv.map (·.1))).length:=by omega
   rw [getElem?_map,getElem?_eq_getElem hib] at hx;obtain rfl:=(Option.some.inj hx).symm;rw [getElem?_map,getElem?_map,getElem?_eq_getElem hik] at hy;have hbi:=hbs i hib;have hki:(aJ (kv.map (·.1))).getD i []=(aJ (kv.map (·.1)))[i]:=by simp [getD_eq_getElem?_getD,hik]
   rw [hki] at hbi;have hkm:(aJ (kv.map (·.1)))[i]∈kv.map (·.1):=MT.mem_keys.mp (getElem_mem hik);generalize (aJ (kv.map (·.1)))[i]=kk at hy hbi hkm;cases hy;have hb':=sm _ _ (sm1 _ _ hbi);have sm':=sm1.trans sm;have hb2:H' bs[i]=some (.tup ((kk.map Sum.inl:List Key).map kV)):=by rw [ajo]; exact hb'
   have gg:aqig H' lA (.ref bs[i]) (aqh9 (kd kv) (kk.map Sum.inl)):=aqig.t (sm' _ _ hl) hb2;rw [aqu,ajf hkm] at gg;obtain ⟨pq,hpq,ek⟩:=An.mp hkm;have hkl:kk.length <= 6:=by rw [<- ek]; exact g.kl pq hpq
   have hbl:aV8 st.length kk:=by rw [<- ek]; exact g.bl pq hpq
   have ew:wt kv kk=pq.2:=by rw [<- ek]; exact aq2 g.kn hpq
   have hwl:=g.wl pq hpq;have hw:(wt kv kk).natAbs.log2 < 1920:=by rw [ew]; exact azf hwl.1 hwl.2
   have h19:=g.words hkm;refine ⟨_,rfl,_,rfl,lA,_,rfl,gg,by show 1 <= Ad; decide,fun e he=>?_⟩;have s1:aqi7 H' (upd H' e (.lst [.int (wt kv kk)])):=gd he;have he1:(upd H' e (.lst [.int (wt kv kk)])) e=some (.lst [.int (wt kv kk)]):=cb;generalize upd H' e (.lst [.int (wt kv kk)])=H2 at s1 he1 ⊢;refine ⟨_,rfl,bs[i],rfl,⟨_,.inl (.inl (s1 _ _ hb'))⟩,aZz (xs:=kk.map V.int) (.inl (.inl (s1 _ _ hb'))) (by rw [length_map,Ah]; omega) (fun v=>.str (aqho st (intV v))) (fun σ=>∃ c,σ=[c,some (.ref n)]) ⟨none,rfl⟩ (fun x σ' H3 hx hS sm3=>?_) fun r hr0=>?_⟩
   ·obtain ⟨c,rfl⟩:=hS
    obtain ⟨y,hy,rfl⟩:=An.mp hx;exact ⟨⟨_,rfl⟩,fun R h=>⟨_,rfl,_,rfl,n,_,y,_,rfl,rfl,SqL.of (sm3 _ _ (s1 _ _ (sm' _ _ hn))),nm_at (hbl y hy).1 (hbl y hy).2,h⟩⟩
   ·have s2:=gd (o:=.lst ((kk.map V.int).map fun v=>.str (aqho st (intV v)))) hr0
    refine ⟨e,r,[.int (wt kv kk)],_,rfl,rfl,.inl (.inl (s2 _ _ he1)),.inl (.inl cb),by rw [length_map,length_map,Ah]; simp; omega,fun cc hcc=>?_⟩;have et:((V.int (wt kv kk) :: (kk.map V.int).map fun v=>V.str (aqho st (intV v))).map txt)=aqhn (wt kv kk) :: kk.map (fun j=>aqho st j):=by
     rw [map_cons,map_map,map_map]; rfl
    refine ⟨cc,_,rfl,SqL.of cb,fun v hv=>?_,by simp; omega,?_,fun H4 sm4=>?_⟩
    ·rcases Ai.mp hv with rfl | hv
     ·exact .inr ⟨_,rfl,hw⟩
     ·obtain ⟨_,_,rfl⟩:=An.mp hv
      exact .inl ⟨_,rfl⟩
    ·rw [show ([V.int (wt kv kk)]++(kk.map V.int).map fun v=>V.str (aqho st (intV v)))=V.int (wt kv kk) :: (kk.map V.int).map fun v=>V.str (aqho st (intV v)) from rfl,et]
     have:=azt h19
     simp only [length_cons,length_map] at this ⊢;omega
    ·rw [show ([V.int (wt kv kk)]++(kk.map V.int).map fun v=>V.str (aqho st (intV v)))=V.int (wt kv kk) :: (kk.map V.int).map fun v=>V.str (aqho st (intV v)) from rfl,et]
     exact hR _ _ ⟨_,rfl⟩ (s1.trans (s2.trans ((gd hcc).trans sm4)))
  ·refine ⟨"; ",r,(aJ (kv.map (·.1))).map fun k=>aK7 st kv k,rfl,rfl,SqL.of hr3,?_,?_⟩
   ·have:=azt g.pile
    have e2:("; ":Str).length=2:=by decide +kernel
    rw [e2];simp only [length_map] at this ⊢;omega
   ·rw [show ("; ":Str)=⟨#[59,32]⟩ by decide +kernel]
    exact k _ (sm1.trans sm3)
end
abbrev aKs:Stmt:=top 72
theorem ax9 (w:Str) (v:Int) (xs st:List Str) (kv:aqid):(step w v xs st kv).1=.non \/ ∃ x,(step w v xs st kv).1=.tup [.str x]:=by
 unfold step;split
 ·split
  ·exact .inr ⟨_,rfl⟩
  ·split
   ·exact .inr ⟨_,rfl⟩
   ·exact .inl rfl
 ·split
  ·split
   ·exact .inr ⟨_,rfl⟩
   ·split
    ·exact .inr ⟨_,rfl⟩
    ·exact .inl rfl
  ·exact .inr ⟨_,rfl⟩
theorem aQs {K:Frag} {H H':Hp} {v:V} {x:Str} (h:Rep K H v (.tup [.str x])) (k:∀ t xs,H t=some (.tup xs)->H' t=some (.tup xs)) (k2:∀ t o xs,H t=some (.frz o (.tup xs))->H' t=some (.frz o (.tup xs))):∃ t,v=.ref t/\Rep K H' v (.tup [.str x]):=by
 cases h with
 | @tup a vs _ hq r =>
  cases r with
  | cons r1 r2 =>
   cases r1;cases r2;refine ⟨a,rfl,.tup ?_ (.cons (.str x) .nil)⟩;rcases hq with (hq | ⟨o,hq⟩) | hq
   ·exact .inl (.inl (k _ _ hq))
   ·exact .inl (.inr ⟨o,k2 _ _ _ hq⟩)
   ·exact .inr hq
theorem aVj {K:Frag} {H H':Hp} {v:V} {w:Str} {n:Int} {xs st:List Str} {kv:aqid} {l d:Addr} {ys:List V} {kvs:List (List Key × V)} (h:Rep K H v (ansD (step w n xs st kv).1)) (hl:H l=some (.lst ys)) (hd:H d=some (.dT kvs)) (k:∀ b o,H b=some o->b ≠ l->b ≠ d->H' b=some o):Rep K H' v (ansD (step w n xs st kv).1):=by
 rcases ax9 w n xs st kv with e | ⟨x,e⟩
 ·rw [e] at h ⊢
  cases h;exact .str _
 ·rw [e] at h ⊢
  obtain ⟨_,_,r⟩:=aQs h (H':=H') (fun t xs ht=>k _ _ ht (aqb ht hl nofun) (aqb ht hd nofun)) (fun t o xs ht=>k _ _ ht (aqb ht hl nofun) (aqb ht hd nofun));exact r
theorem ax6 (w:Str) (v:Int) (xs st:List Str) (kv:aqid):shp 20 (ansD (step w v xs st kv).1)=true:=by
 have h:=aKe w v xs st kv;rcases ax9 w v xs st kv with e | ⟨x,e⟩
 ·rw [e]; decide +kernel
 ·rw [e] at h ⊢; exact h
structure Side (C D:Addr) (H:Hp) (q p l d s lo:Addr) (st:List Str) (kv:aqid):Prop where
 desk:DeskAt C D H q p l d st kv
 hs:H s=some (.lst (st.map V.str))
 hlo:H lo=some (.dT (kd kv))
theorem Side.keep {C D:Addr} {H H':Hp} {q p l d s lo:Addr} {st:List Str} {kv:aqid} (S:Side C D H q p l d s lo st kv) (k:∀ b o,H b=some o->b=q \/ b=p \/ b=l \/ b=d \/ b=s \/ b=lo->H' b=some o):Side C D H' q p l d s lo st kv:=by
 obtain ⟨⟨⟨dx,h1⟩,⟨⟨dy,h2⟩,h3,h4⟩⟩,h5,h6⟩:=S;exact ⟨⟨⟨dx,k _ _ h1 (by simp)⟩,⟨dy,k _ _ h2 (by simp)⟩,k _ _ h3 (by simp),k _ _ h4 (by simp)⟩,k _ _ h5 (by simp),k _ _ h6 (by simp)⟩
def spTold (C D:Addr):Sp:=fun vs H Q _=>∃ (q p l d s lo z:Addr) (w:Str) (v:Int) (xs st:List Str) (kv:aqid),vs=[.ref q,.ref s,.ref lo,.str w,.int v,.ref z]/\Side C D H q p l d s lo st kv/\GoodT st kv/\st.length <= 6 /\
 (((w="names" \/ w="heap")/\∀ H',aqi7 H H'->Q (.bl true) H') \/ (H z=some (.lst (xs.map V.str))/\DeedOk w v xs st kv/\st.Nodup/\z ≠ s/\l ≠ s/\d ≠ lo/\∀ H',(∀ b o,H b=some o->b ≠ l->b ≠ d->b ≠ s->b ≠ lo->H' b=some o)->Side C D H' q p l d s lo (step w v xs st kv).2.1 (step w v xs st kv).2.2->Q (.bl true) H'))
def Tt (K:Frag) (C D q p l d s lo z:Addr) (w:Str) (v:Int) (xs st:List Str) (kv:aqid):TS:=fun E σ H=>∃ r,σ=[some (.ref q),some (.ref s),some (.ref lo),some (.str w),some (.int v),some (.ref z),some r]/\Rep K H r (ansD (step w v xs st kv).1)/\DeskAt C D H q p l d st kv/\GoodT st kv/\H z=some (.lst (xs.map V.str))/\DeedOk w v xs st kv /\
 ∀ H',(∀ b o,H b=some o->b ≠ l->b ≠ d->H' b=some o)->H' l=some (.lst ((step w v xs st kv).2.1.map V.str))->H' d=some (.dT (kd (step w v xs st kv).2.2))->E.rt (.bl true) H'
theorem aXu (v:Int) (x:Str):("stand ":Str)++x=aqhf (rowW "stand" v [x]):=by
 show _=Fh ⟨#[32]⟩ ["stand",x];refine aQc ?_;rw [aja,Str.cps_append,K0,show ("stand ":Str).cps.toList=("stand":Str).cps.toList++[32] by decide +kernel,List.append_assoc];rfl
theorem aqa5 {w:Str} (v:Int) (xs:List Str) (h:¬ w="stand"):Eh ⟨#[32]⟩ (([V.str w,V.int v]++xs.map V.str).map txt)=aqhf (rowW w v xs):=by
 unfold rowW aqhf;rw [if_neg h,show Eh ⟨#[32]⟩ (([V.str w,V.int v]++xs.map V.str).map txt)=Fh ⟨#[32]⟩ (([V.str w,V.int v]++xs.map V.str).map txt) from Fo _ _];congr 1;show w :: aqhn v :: (xs.map V.str).map txt=_;rw [map_map,show (txt ∘ V.str)=id from rfl,List.map_id]
section
variable {P:Af} {w:World} {K:Frag} {mg:Str->Option Value} {base:Heap} {C D Ct Cm Cn Cf:Addr}
theorem aQk:FnScope ["desk","stood","lots","word","many","some","due"] ["desk","stood","lots","word","many","some"] (ai aKs):=fsc
theorem aqat {f:Addr} {fd:Am} (F:Fun K "_law_told" "_law_told" aKs f fd) (T:Hx K mg C Ct Cm Cn Cf) (Gy:Fn P w K mg base 6 "_law_say" ["desk","row"] (spLSay K C D)) (Gs:Fn P w K mg base 1 "_law_spaced" ["things"] (avj K)) (Gh:Fn P w K mg base 2 "_law_heap_text" ["lots","names"] aVh)
  (Gu:Fn P w K mg base 1 "_law_due" ["stood","lots","word","many","some"] (spDue K)):FnOk P w K mg base CX0 7 f fd ["desk","stood","lots","word","many","some"] (spTold C D):=by
 obtain ⟨fy,fdy,oky,my,ky,by_⟩:=Gy;obtain ⟨fs,fds,oks,ms,ks,bs⟩:=Gs;obtain ⟨fh,fdh,okh,mh,kh,bh⟩:=Gh;obtain ⟨fu,fdu,oku,mu,ku,bu⟩:=Gu;refine F.ok aQk (k:=6) (fun vs H Q E h=>?_) (fun cdv A outer s H vs Q E hr h=>?_)
 ·obtain ⟨_,_,_,_,_,_,_,_,_,_,_,_,rfl,_⟩:=h
  rfl
 ·obtain ⟨q,p,l,d,s,lo,z,wd,v,xs,st,kv,rfl,S,g,h6,h⟩:=h
  have hr1:Room 1 _:=hm hr;have hr2:Room 2 _:=hm hr;refine ⟨_,ae (aZ (ak aq1 (pv 3) al (cn _)) (ah (au (aM aq1 (av oky hr rfl my ky by_ .nil aqt (aa (pv 0) (aa al ag))) (aQ7 A8 By Bz (axw rfl) al (aa (pv 1) ag)) (cn _)))) ao)
   (ae (aZ (ak aq1 (pv 3) al (cn _)) (ah (au (aM aq1 (av oky hr rfl my ky by_ .nil aqt (aa (pv 0) (aa al ag))) (av okh hr2 rfl mh kh bh .nil aqt (aa (pv 2) (aa (pv 1) ag))) (cn _)))) ao)
   (ae (gs (i:=6) aQk.nd rfl (.inl rfl) (av oku hr1 rfl mu ku bu .nil aqt (aa (pv 1) (aa (pv 2) (aa (pv 3) (aa (pv 4) (aa (pv 5) ag)))))))
   (ae (aZ (ak aqdc (pv 6) aQ3 (cn _)) (ah (gs (i:=6) aQk.nd rfl (.inl rfl) al)) ao)
   (PSs.imp (t':=Tt K C D q p l d s lo z wd v xs st kv) (ae (aZ (ak aq1 (pv 3) al (cn _)) (ah (au (aM (awh hr.units) (av oky hr rfl my ky by_ .nil aqt (aa (pv 0) (aa (aX aq7 al (aqs ar (pv 5) aj (fun _ _=>rfl))) ag))) (pv 6) (cn _)))) ao)
    (ah (au (aM (awh hr.units) (av oky hr rfl my ky by_ .nil aqt (aa (pv 0) (aa (av oks hr1 rfl ms ks bs .nil aqt (aa (aX aVp (aY (aa (pv 3) (aa (pv 4) ag))) (pv 5)) ag)) ag))) (pv 6) (cn _))))) fun E σ H1 ht=>?_)))),?_⟩
  ·obtain ⟨r,rfl,rep,S1,g1,hz,ok,k⟩:=ht
   by_cases hst:wd="stand"
   ·subst hst
    obtain ⟨x,rfl⟩:=ok.hs rfl;refine ⟨_,rfl,rfl,_,rfl,?_⟩;refine aqhs ?_;refine ⟨_,rfl,_,rfl,z,_,_,_,rfl,rfl,SqL.of hz,aq (j:=0) rfl,_,_,rfl,rfl,?_,?_⟩
    ·have:=(ok.hxs x (by simp)).2.1
     rw [show ("stand ":Str).length=6 by decide +kernel,Ah];omega
    ·rw [aXu v x]
     refine ⟨q,p,l,d,st,kv,S1,g1,ok.h6,.inr (.inr ⟨_,v,[x],rfl,ok,fun r7 H7 rep7 keep7 hl7 hd7=>?_⟩)⟩;refine ⟨_,rfl,H7,_,_,aqi7.refl _,rep7,aVj rep S1.hall.st S1.hall.ba keep7,ax6 _ _ _ _ _,ax6 _ _ _ _ _,?_⟩;simp only [Ao,if_false];rw [axh (ax6 _ _ _ _ _)];exact k _ keep7 hl7 hd7
   ·refine ⟨_,rfl,rfl,_,rfl,?_⟩
    rw [decide_eq_false (show ¬ V.str wd=V.str "stand" from fun z=>hst (V.str.inj z))];refine aqht ?_;refine ⟨_,rfl,_,rfl,_,rfl,by show 2 <= Ad; decide,fun e he=>?_⟩;have s1:aqi7 H1 (upd H1 e (.lst [.str wd,.int v])):=gd he;have he1:(upd H1 e (.lst [.str wd,.int v])) e=some (.lst [.str wd,.int v]):=cb;generalize upd H1 e (.lst [.str wd,.int v])=H2 at s1 he1 ⊢;have h9:=ok.h9;refine ⟨_,rfl,e,z,[.str wd,.int v],xs.map V.str,rfl,rfl,.inl (.inl he1),.inl (.inl (s1 _ _ hz)),by rw [length_map,Ah]; simp; omega,fun cc hcc=>?_⟩;have s2:=gd (o:=.lst ([.str wd,.int v]++xs.map V.str)) hcc;have hv:v.natAbs.log2 < 1920:=azf ok.v1 ok.v2;obtain ⟨aqhg,er,rok,rl⟩:=aQq ok;refine ⟨cc,_,rfl,SqL.of cb,fun u hu=>?_,by simp; omega,?_,fun H3 s3=>?_⟩
    ·rcases Bm.mp hu with hu | hu
     ·rcases Ai.mp hu with rfl | hu
      ·exact .inl ⟨_,rfl⟩
      ·rw [Bp.mp hu]; exact .inr ⟨_,rfl,hv⟩
     ·obtain ⟨y,_,rfl⟩:=An.mp hu
      exact .inl ⟨_,rfl⟩
    ·have:∀ y∈([V.str wd,V.int v]++xs.map V.str).map txt,y.length <= 19:=fun y hy=>by
      obtain ⟨u,hu,rfl⟩:=An.mp hy;rcases Bm.mp hu with hu | hu
      ·rcases Ai.mp hu with rfl | hu
       ·rcases ok.hw with e | e | e <;> subst e <;> decide +kernel
       ·rw [Bp.mp hu]; exact (az4 ok.v1 ok.v2).l19
      ·obtain ⟨y',hy',rfl⟩:=An.mp hu
       have:=(ok.hxs y' hy').2.1
       show y'.length <= 19;omega
     have:=azt this
     simp only [length_append,length_map,length_cons,Ju] at this ⊢;omega
    ·rw [aqa5 v xs hst]
     have s13:=s1.trans (s2.trans s3);have S3:DeskAt C D H3 q p l d st kv:=⟨by obtain ⟨dq,hq⟩:=S1.ob; exact ⟨dq,s13 _ _ hq⟩,S1.hall.keep s13⟩;refine ⟨q,p,l,d,st,kv,S3,g1,ok.h6,.inr (.inr ⟨_,v,xs,rfl,ok,fun r7 H7 rep7 keep7 hl7 hd7=>?_⟩)⟩;refine ⟨_,rfl,H7,_,_,aqi7.refl _,rep7,aVj ((aj6 s13).1 rep) S3.hall.st S3.hall.ba keep7,ax6 _ _ _ _ _,ax6 _ _ _ _ _,?_⟩;simp only [Ao,if_false];rw [axh (ax6 _ _ _ _ _)];exact k _ (fun b o hb h1 h2=>keep7 _ _ (s13 _ _ hb) h1 h2) hl7 hd7
  ·rcases h with ⟨hw,k⟩ | ⟨hz,ok,nd,nzs,ls,dl,k⟩
   ·by_cases hn:wd="names"
    ·subst hn
     refine ⟨_,rfl,rfl,_,rfl,?_⟩;refine aqhs ?_;refine ⟨_,rfl,q,p,l,d,st,kv,S.desk,g,h6,.inl ⟨rfl,fun H1 sm1=>?_⟩⟩;refine ⟨rfl,_,rfl," ",s,st,rfl,rfl,SqL.of (sm1 _ _ S.hs),?_,rfl,?_⟩
     ·have:=azt (B:=8) g.nl
      have e1:(" ":Str).length=1:=by decide +kernel
      rw [e1];omega
     ·rw [show (" ":Str)=⟨#[32]⟩ by decide +kernel,decide_eq_true rfl]
      exact k _ sm1
    ·have hh:wd="heap":=hw.resolve_left hn
     subst hh;refine ⟨_,rfl,rfl,_,rfl,?_⟩;rw [decide_eq_false (show ¬ V.str "heap"=V.str "names" by decide +kernel)];refine aqht ?_;refine ⟨_,rfl,rfl,_,rfl,?_⟩;refine aqhs ?_;refine ⟨_,rfl,q,p,l,d,st,kv,S.desk,g,h6,.inr (.inl ⟨rfl,fun H1 sm1=>?_⟩)⟩;refine ⟨_,rfl,_,rfl,lo,s,st,kv,rfl,sm1 _ _ S.hlo,sm1 _ _ S.hs,g,fun H2 sm2=>⟨rfl,?_⟩⟩;rw [decide_eq_true rfl];exact k _ (sm1.trans sm2)
   ·have n1:¬ V.str wd=V.str "names"/\¬ V.str wd=V.str "heap":=by
     rcases ok.hw with e | e | e <;> subst e <;> decide +kernel
    refine ⟨_,rfl,rfl,_,rfl,?_⟩;rw [decide_eq_false n1.1];refine aqht ?_;refine ⟨_,rfl,rfl,_,rfl,?_⟩;rw [decide_eq_false n1.2];refine aqht ?_;refine ⟨_,rfl,_,rfl,_,rfl,_,rfl,_,rfl,s,lo,z,wd,v,st,xs,kv,rfl,ok.hw,fun e=>?_,S.hs,S.hlo,hz,h6,ok.h9,g.l12,ok.hok,ok.hxs,nd,ok.nd,⟨ok.v1,ok.v2⟩,fun r1 H1 rep1 keep1 hs1 hlo1=>?_⟩
    ·obtain ⟨x,rfl⟩:=ok.hs e
     simp
    ·obtain ⟨⟨dq,hq⟩,⟨⟨dx,h1⟩,h2,h3⟩⟩:=id S.desk
     have S1:DeskAt C D H1 q p l d st kv:=⟨⟨dq,keep1 _ _ hq (aqb hq S.hs nofun) (aqb hq S.hlo nofun)⟩,⟨dx,keep1 _ _ h1 (aqb h1 S.hs nofun) (aqb h1 S.hlo nofun)⟩,keep1 _ _ h2 ls (aqb h2 S.hlo nofun),keep1 _ _ h3 (aqb h3 S.hs nofun) dl⟩;have hz1:=keep1 _ _ hz nzs (aqb hz S.hlo nofun);have fin:∀ H',(∀ b o,H1 b=some o->b ≠ l->b ≠ d->H' b=some o)->H' l=some (.lst ((step wd v xs st kv).2.1.map V.str))->H' d=some (.dT (kd (step wd v xs st kv).2.2))->Q (.bl true) H':=fun H' kp e1 e2=>by
      have hq':=S1.ob;obtain ⟨dq1,hq1⟩:=S1.ob;obtain ⟨dx1,hp1⟩:=S1.hall.ob;have T2:=S1.hall.st;have T3:=S1.hall.ba;refine k _ (fun b o hb b1 b2 b3 b4=>kp _ _ (keep1 _ _ hb b3 b4) b1 b2) ⟨⟨⟨dq1,kp _ _ hq1 (aqb hq1 T2 nofun) (aqb hq1 T3 nofun)⟩,⟨dx1,kp _ _ hp1 (aqb hp1 T2 nofun) (aqb hp1 T3 nofun)⟩,e1,e2⟩,kp _ _ hs1 ls.symm (aqb hs1 T3 nofun),kp _ _ hlo1 (aqb hlo1 T2 nofun) dl.symm⟩
     rcases ax9 wd v xs st kv with e | ⟨x,e⟩
     ·have rep1':=rep1
      rw [e] at rep1';cases rep1';refine ⟨_,rfl,rfl,_,rfl,?_⟩;refine aqhs ?_;exact ⟨_,rfl,by rw [e]; exact .str _,S1,g,hz1,ok,fin⟩
     ·have rep1':=rep1
      rw [e] at rep1';obtain ⟨t,rfl,r⟩:=aQs rep1' (H':=H1) (fun _ _ h=>h) (fun _ _ _ h=>h);refine ⟨_,rfl,rfl,_,rfl,?_⟩;refine aqht ?_;exact ⟨_,rfl,by rw [e]; exact r,S1,g,hz1,ok,fin⟩
end
structure Good (menu st:List Str) (kv:aqid):Prop where
 len:st.length <= 6
 ok:∀ y∈st,y∈menu
 nd:st.Nodup
 l12:kv.length <= 12
 kn:(kv.map (·.1)).Nodup
 kl:∀ q∈kv,q.1.length <= 6
 bl:∀ q∈kv,aV8 st.length q.1
 wl:∀ q∈kv,1 <= q.2/\q.2 <= 1000000000000000000
theorem Good.t {menu st:List Str} {kv:aqid} (g:Good menu st kv) (h:∀ x∈menu,ay x):GoodT st kv:=⟨g.l12,g.kn,g.kl,g.bl,g.wl,fun y hy=>(h y (g.ok y hy)).2.1⟩
theorem aWo (st xs:List Str):(aqhm st xs).length <= st.length:=by
 unfold aqhm;rw [length_map];exact le_trans (length_filter_le _ _) (by simp)
theorem aJl (kv:aqid) (k:List Int) (v:Int):(put kv k v).map (·.1)=if (look kv k).isSome=true then kv.map (·.1) else kv.map (·.1)++[k]:=by
 unfold put;split
 ·rw [map_map]
  apply map_congr_left;intro p _;simp only [Ek];split <;> rfl
 ·rw [map_append]; rfl
theorem aqb6 {kv:aqid} {k:List Int} (h:¬ (look kv k).isSome=true):k ∉ kv.map (·.1):=fun z=>h (by rw [ajf z]; rfl)
theorem aJg {kv:aqid} {k:List Int} {v:Int} {q:List Int × Int} (h:q∈put kv k v):q∈kv \/ q=(k,v):=by
 unfold put at h;split at h
 ·obtain ⟨p,hp,rfl⟩:=An.mp h
  split
  ·rename_i e; exact .inr (by rw [e])
  ·exact .inl hp
 ·rcases Bm.mp h with h | h
  ·exact .inl h
  ·exact .inr (Bp.mp h)
theorem aJv {menu st:List Str} {kv:aqid} (g:Good menu st kv) {k:List Int} (hk:k.length <= 6) (hb:aV8 st.length k) {v:Int} (hv:0 <= v/\v <= 1000000000000000000) (h:(look kv k).isSome=true \/ kv.length < 12):Good menu st (lay kv k v):=by
 unfold lay;split
 ·exact ⟨g.len,g.ok,g.nd,le_trans (length_filter_le _ _) g.l12,(List.Sublist.map _ Gp).nodup g.kn,fun q hq=>g.kl q (Bl.mp hq).1,fun q hq=>g.bl q (Bl.mp hq).1,fun q hq=>g.wl q (Bl.mp hq).1⟩
 ·rename_i hv0
  refine ⟨g.len,g.ok,g.nd,?_,?_,fun q hq=>?_,fun q hq=>?_,fun q hq=>?_⟩
  ·have:=congrArg List.length (aJl kv k v)
   rw [length_map] at this;rw [this];split
   ·rw [length_map]; exact g.l12
   ·rename_i hs
    rcases h with h | h
    ·exact absurd h hs
    ·rw [length_append,length_map]; simp; omega
  ·rw [aJl]
   split
   ·exact g.kn
   ·rename_i hs
    exact Fg.mpr ⟨g.kn,by simp,fun a ha b hb=>by simp at hb; subst hb; rintro rfl; exact aqb6 hs ha⟩
  ·rcases aJg hq with z | rfl
   ·exact g.kl q z
   ·exact hk
  ·rcases aJg hq with z | rfl
   ·exact g.bl q z
   ·exact hb
  ·rcases aJg hq with z | rfl
   ·exact g.wl q z
   ·exact ⟨by show 1 <= v; omega,hv.2⟩
theorem aYt {kv:aqid} {k:List Int} (h:wt kv k ≠ 0):(look kv k).isSome=true:=by
 unfold wt at h;cases e:look kv k with
 | none=>rw [e] at h; exact absurd rfl h
 | some y=>rfl
theorem wt_in {menu st:List Str} {kv:aqid} (g:Good menu st kv) (k:List Int):0 <= wt kv k/\wt kv k <= 1000000000000000000:=by
 unfold wt look;cases e:kv.find? fun p=>decide (p.1=k) with
 | none=>decide
 | some y =>
  have:=g.wl y (Ho e)
  show 0 <= y.2/\y.2 <= _;omega
theorem aZs {menu st:List Str} {kv:aqid} (g:Good menu st kv) {w:Str} {v:Int} {xs:List Str} (hx:∀ y∈xs,y∈menu) (hw:w="stand" \/ w="cast" \/ w="lift") (hne:w="stand"->xs ≠ []) (hv:1 <= v):Good menu (step w v xs st kv).2.1 (step w v xs st kv).2.2:=by
 have hk:(aqhm st xs).length <= 6:=by have:=aWo st xs; have:=g.len; omega
 have hb:aV8 st.length (aqhm st xs):=fun a ha=>by
  obtain ⟨i,hi,_,rfl⟩:=aJh.mp ha;omega
 have hwt:=wt_in g (aqhm st xs);unfold step;split
 ·rename_i hst
  split
  ·exact g
  ·rename_i hin
   split
   ·exact g
   ·rename_i h6
    obtain ⟨x,aqhg,rfl⟩:∃ x aqhg,xs=x :: aqhg:=by
     cases xs with
     | nil=>exact absurd rfl (hne hst)
     | cons a l=>exact ⟨a,l,rfl⟩
    refine ⟨by simp; omega,fun y hy=>?_,?_,g.l12,g.kn,g.kl,fun q hq a ha=>?_,g.wl⟩
    ·rcases Bm.mp hy with hy | hy
     ·exact g.ok y hy
     ·simp at hy; rw [hy]; exact hx x (by simp)
    ·exact Fg.mpr ⟨g.nd,by simp,fun a ha b hb=>by simp at hb; subst hb; rintro rfl; exact hin ha⟩
    ·have:=g.bl q hq a ha
     rw [length_append];omega
 ·rename_i hst
  split
  ·split
   ·exact g
   ·rename_i h1
    split
    ·exact g
    ·rename_i h2
     rcases hw with hw | hw | hw
     ·exact absurd hw hst
     ·have h18:¬ (10:Int) ^ 18 < wt kv (aqhm st xs) + v:=fun z=>h2 ⟨hw,.inl z⟩
      refine aJv g hk hb ?_ ?_
      ·rw [if_neg (by rw [hw]; decide +kernel)]
       have:(10:Int) ^ 18=1000000000000000000:=by decide
       omega
      ·apply A5
       intro hc;refine h2 ⟨hw,.inr ⟨?_,?_⟩⟩
       ·cases e:(look kv (aqhm st xs)).isSome with
        | false=>rfl
        | true=>exact absurd (.inl e) hc
       ·apply A5
        intro z;exact hc (.inr (by omega))
     ·have h3:¬ wt kv (aqhm st xs) < v:=fun z=>h1 ⟨hw,z⟩
      refine aJv g hk hb ?_ (.inl (aYt (by omega)));rw [if_pos hw];omega
  ·exact g
structure Two (C D:Addr) (H0:Hp) (menu:List Str) (m A B G:Addr) (q p l d s lo:Bool->Addr) (H:Hp) (st:Bool->List Str) (kv:Bool->aqid):Prop where
 sm:aqi7 H0 H
 hm:H m=some (.lst (menu.map V.str))
 hA:H A=some (.lst [.ref (q false),.ref (q true)])
 hB:H B=some (.lst [.ref (s false),.ref (s true)])
 hG:H G=some (.lst [.ref (lo false),.ref (lo true)])
 side:∀ b,Side C D H (q b) (p b) (l b) (d b) (s b) (lo b) (st b) (kv b)
 good:∀ b,Good menu (st b) (kv b)
structure Apart (H0:Hp) (m A B G:Addr) (l d s lo:Bool->Addr):Prop where
 f0:∀ b,H0 (l b)=none/\H0 (d b)=none/\H0 (s b)=none/\H0 (lo b)=none
 ls:∀ b,l b ≠ s b
 dl:∀ b,d b ≠ lo b
 ll:∀ b,l b ≠ l (!b)
 lx:∀ b,l b ≠ s (!b)
 ss:∀ b,s b ≠ s (!b)
 dd:∀ b,d b ≠ d (!b)
 dx:∀ b,d b ≠ lo (!b)
 oo:∀ b,lo b ≠ lo (!b)
 m:∀ b,m ≠ l b/\m ≠ s b
 A:∀ b,A ≠ l b/\A ≠ s b
 B:∀ b,B ≠ l b/\B ≠ s b
 G:∀ b,G ≠ l b/\G ≠ s b
theorem Two.same {C D:Addr} {H0:Hp} {menu:List Str} {m A B G:Addr} {q p l d s lo:Bool->Addr} {H H':Hp} {st:Bool->List Str} {kv:Bool->aqid} (M:Two C D H0 menu m A B G q p l d s lo H st kv) (e:aqi7 H H'):Two C D H0 menu m A B G q p l d s lo H' st kv :=
 ⟨M.sm.trans e,e _ _ M.hm,e _ _ M.hA,e _ _ M.hB,e _ _ M.hG,fun b=>(M.side b).keep fun c o h _=>e _ _ h,M.good⟩
theorem Two.step {C D:Addr} {H0:Hp} {menu:List Str} {m A B G:Addr} {q p l d s lo:Bool->Addr} {H H':Hp} {st:Bool->List Str} {kv:Bool->aqid} (M:Two C D H0 menu m A B G q p l d s lo H st kv) (ap:Apart H0 m A B G l d s lo) (b:Bool) {st':List Str} {kv':aqid}
  (k:∀ c o,H c=some o->c ≠ l b->c ≠ d b->c ≠ s b->c ≠ lo b->H' c=some o) (S:Side C D H' (q b) (p b) (l b) (d b) (s b) (lo b) st' kv') (g:Good menu st' kv'):∃ st2 kv2,Two C D H0 menu m A B G q p l d s lo H' st2 kv2:=by
 have Sb:=M.side b;have hl:=Sb.desk.hall.st;have hd:=Sb.desk.hall.ba;have lst:∀ {c:Addr} {xs:List V},H c=some (.lst xs)->c ≠ l b->c ≠ s b->H' c=some (.lst xs):=fun h h1 h2=>k _ _ h h1 (aqb h hd nofun) h2 (aqb h Sb.hlo nofun);have ins:∀ {c a x:Addr} {ys:List (Str × V)},H c=some (.ins a x ys)->H' c=some (.ins a x ys):=fun h=>k _ _ h (aqb h hl nofun) (aqb h hd nofun) (aqb h Sb.hs nofun) (aqb h Sb.hlo nofun);have dct:∀ {c:Addr} {xs:List (List Key × V)},H c=some (.dT xs)->c ≠ d b->c ≠ lo b->H' c=some (.dT xs):=fun h h1 h2=>k _ _ h (aqb h hl nofun) h1 (aqb h Sb.hs nofun) h2;obtain ⟨⟨⟨dq,o1⟩,⟨⟨dx,o2⟩,o3,o4⟩⟩,o5,o6⟩:=M.side (!b);have nb:=Bool.not_not b;have ot:Side C D H' (q (!b)) (p (!b)) (l (!b)) (d (!b)) (s (!b)) (lo (!b)) (st (!b)) (kv (!b)) :=
  ⟨⟨⟨dq,ins o1⟩,⟨dx,ins o2⟩,lst o3 (ap.ll b).symm (by have:=ap.lx (!b); rw [nb] at this; exact this),dct o4 (ap.dd b).symm (by have:=ap.dx (!b); rw [nb] at this; exact this)⟩,lst o5 (ap.lx b).symm (ap.ss b).symm,dct o6 (ap.dx b).symm (ap.oo b).symm⟩
 refine ⟨fun c=>if c=b then st' else st c,fun c=>if c=b then kv' else kv c,fun c o hc=>k _ _ (M.sm _ _ hc) (ac hc (ap.f0 b).1) (ac hc (ap.f0 b).2.1) (ac hc (ap.f0 b).2.2.1) (ac hc (ap.f0 b).2.2.2),lst M.hm (ap.m b).1 (ap.m b).2,lst M.hA (ap.A b).1 (ap.A b).2,lst M.hB (ap.B b).1 (ap.B b).2,lst M.hG (ap.G b).1 (ap.G b).2,fun c=>?_,fun c=>?_⟩
 ·by_cases e:c=b
  ·subst e; simp only [if_true]; exact S
  ·have e':c=!b:=by cases c <;> cases b <;> simp_all
   subst e';simp only [e,if_false]; exact ot
 ·by_cases e:c=b
  ·subst e; simp only [if_true]; exact g
  ·simp only [e,if_false]; exact M.good c
theorem aYy (c:Int):∃ b:Bool,∀ f:Bool->Addr,atI [V.ref (f false),V.ref (f true)] (c % 2)=some (V.ref (f b)):=by
 rcases Int.emod_two_eq c with e | e
 ·exact ⟨false,fun f=>by rw [e]; exact aq (j:=0) rfl⟩
 ·exact ⟨true,fun f=>by rw [e]; exact aq (j:=1) rfl⟩
def words:List Str:=["cast","stand","lift","names","heap","cast","stand","cast","lift"]
theorem aV9 {i:Int} (h0:0 <= i) (h1:i < 9):∃ w:Str,atI (words.map V.str) i=some (.str w)/\((w="names" \/ w="heap") \/ w="stand" \/ w="cast" \/ w="lift"):=by
 obtain ⟨j,rfl⟩:∃ j:Nat,i=(j:Int):=⟨i.toNat,by omega⟩;have h:∀ j:Nat,j < 9->atI (words.map V.str) (j:Int)=some (.str (words.getD j ""))/\((words.getD j ""="names" \/ words.getD j ""="heap") \/ words.getD j ""="stand" \/ words.getD j ""="cast" \/ words.getD j ""="lift"):=by decide +kernel
 obtain ⟨h1,h2⟩:=h j (by omega);exact ⟨_,h1,h2⟩
theorem aqdq {K:Frag} {F0:Hp} {vs:List V} {ds:List D} {dd:D} (r:Reps K F0 vs ds) (hl:ds.length=1) (hg:lawD ds=some dd):∃ (a:Addr) (ns:List Int),vs=[.ref a]/\SqE K F0 a (ns.map V.int)/\ns.length <= 63/\dd=.bl true:=by
 cases r with
 | nil=>cases hl
 | cons r1 r=>cases r with
  | cons _ _=>cases hl
  | nil =>
   obtain ⟨ns,hn,hg⟩:=bind_some hg;split at hg
   ·rename_i h63
    cases hg;have e:=az8 hn;subst e;cases r1 with
    | lst hq rr =>
     refine ⟨_,ns,rfl,?_,h63,rfl⟩
     have:∀ {vs:List V} {ns:List Int},Reps K F0 vs (ns.map D.int)->vs=ns.map V.int:=by
      intro vs ns
      induction ns generalizing vs with
      | nil=>intro h; cases h; rfl
      | cons n ns ih =>
       intro h;cases h with
       | cons h t=>cases h; rw [ih t]; rfl
     rw [<- this rr];exact hq
   ·cases hg
theorem akq {H H3:Hp} {D q dx:Addr} (nq:H q=none) (nd:H dx=none) (k:∀ b o,(upd (upd H dx (.own q)) q (.ins D dx [])) b=some o->b ≠ q->H3 b=some o):aqi7 H H3/\∀ b,(upd (upd H dx (.own q)) q (.ins D dx [])) b=none->H b=none:=by
 have sx:aqi7 H (upd (upd H dx (.own q)) q (.ins D dx [])):=fun b o e=>by
  rw [af (ac e nq),af (ac e nd)];exact e
 exact ⟨fun b o e=>k b o (sx _ _ e) (ac e nq),fun b h=>sx.free h⟩
section
variable {P:Af} {w:World} {K:Frag} {mg:Str->Option Value} {base:Heap} {C D Ct Cm Cn Cf:Addr}
theorem aq6:FnScope ["script","menu","desks","stood","lots","k","cell","which","word","some","many"] ["script"] (ai aKw):=fsc
set_option maxHeartbeats 8000000 in
theorem aqdf {f fI:Addr} {fd fdI:Am} (F:Fun K "law" "law" aKw f fd) (T:Hx K mg C Ct Cm Cn Cf) (U:HxD K mg D) (Gn:Fn P w K mg base 2 "_law_names" ["script","at","many"] (aVc K)) (Gc:Fn P w K mg base 1 "_law_cell" ["script","k"] (spD K 2 aI))
  (Gs:Fn P w K mg base 1 "_law_some" ["names","cell"] (spSome K)) (Gm:Fn P w K mg base 1 "_law_many" ["cell"] (spD K 1 aL)) (Gt:Fn P w K mg base 7 "_law_told" ["desk","stood","lots","word","many","some"] (spTold C D))
  (M:Mk K D fI) (GI:FnOk P w K mg base CX0 3 fI fdI ["self"] (aVf C D)) (bI:L2.Binds K fdI ["self"] []):FnOk P w K mg base CX0 9 f fd ["script"] (spD K 1 aYm):=by
 obtain ⟨fn,fdn,okn,mn_,kn,bn⟩:=Gn;obtain ⟨fc,fdc,okc,mc,kc,bc⟩:=Gc;obtain ⟨fs,fds,oks,ms,ks,bs⟩:=Gs;obtain ⟨fm,fdm,okm,mm_,km,bm⟩:=Gm;obtain ⟨ft,fdt,okt,mt_,kt,bt⟩:=Gt;refine F.ok aq6 (k:=8) (fun vs H Q E h=>by obtain ⟨F,ds,d,_,r,hl,_⟩:=h; rw [r.length,hl]; rfl) fun cdv A0 outer s0 H vs Q E hr h=>?_;have hr1:Room 1 _:=hm hr;have hr2:Room 2 _:=hm hr;have hr4:Room 4 _:=hm hr;have hr7:Room 7 _:=hm hr;obtain ⟨F0,ds,dd,sm0,r,hl,hg,k⟩:=h;obtain ⟨a,ns,rfl,ha,h63,rfl⟩:=aqdq r hl hg;clear r hl hg;refine ⟨_,ae (gs (i:=1) aq6.nd rfl (.inl rfl) (av okn hr2 rfl mn_ kn bn .nil aqt (aa (pv 0) (aa aj (aa aj ag)))))
  (ae (gs (i:=2) aq6.nd rfl (.inl rfl) (aY (aa (avw M GI hr4 rfl U.mgD bI .nil aqt) (aa (avw M GI hr4 rfl U.mgD bI .nil aqt) ag))))
  (ae (gs (i:=3) aq6.nd rfl (.inl rfl) (aY (aa (aY ag) (aa (aY ag) ag))))
  (ae (gs (i:=4) aq6.nd rfl (.inl rfl) (aY (aa azc (aa azc ag))))
  (ae (awg Cv rfl (aX1 rfl T.zr (aa aj (aa (bp (aZ0 rfl) rfl T.zmax aqel (aa aj (aa (bp ax rfl T.zlen ajb (aa (pv 0) ag)) ag))) ag))) (ajk (i:=5) aq6.nd rfl (.inl rfl))
   (ae (gs (i:=6) aq6.nd rfl (.inl rfl) (aX axr (aX aWf (av okc hr1 rfl mc kc bc .nil aqt (aa (pv 0) (aa (pv 5) ag))) aj) aj))
   (ae (gs (i:=7) aq6.nd rfl (.inl rfl) (aX axr (pv 6) aj))
   (ae (gs (i:=8) aq6.nd rfl (.inl rfl) (aqs ar (aY (aa al (aa al (aa al (aa al (aa al (aa al (aa al (aa al (aa al ag)))))))))) (aX axr (aX ajm (pv 6) aj) aj) (fun _ _=>rfl)))
   (ae (gs (i:=9) aq6.nd rfl (.inl rfl) (av oks hr1 rfl ms ks bs .nil aqt (aa (aje azw (pv 1) ajj (aj8 (aX aze aj (aX axr (aX ajm (pv 6) aj) aj)))) (aa (aX ajm (pv 6) aj) ag))))
   (ae (aZ (ak aq1 (pv 8) al (cn _)) (ah (gs (i:=9) aq6.nd rfl (.inl rfl) (aY (aa (aqs ar (pv 1) (aX axr (aX ajm (pv 6) aj) aj) (fun _ _=>rfl)) ag)))) ao)
   (PSs.imp (t':=fun E σ H2=>∃ (menu:List Str) (m A B G:Addr) (q p l d s lo:Bool->Addr) (st:Bool->List Str) (kv:Bool->aqid) (i:Nat) (c:Int) (wd:Str) (z:Addr) (ys:List Str) (c10:Option V),σ=[some (.ref a),some (.ref m),some (.ref A),some (.ref B),some (.ref G),some (.int (8 + (i:Int))),some (.int c),some (.int (c % 2)),some (.str wd),some (.ref z),c10]/\i < 60/\(∀ x∈menu,ay x)/\Two C D H menu m A B G q p l d s lo H2 st kv/\Apart H m A B G l d s lo /\
     H2 z=some (.lst (ys.map V.str))/\(∀ b,z ≠ s b)/\((wd="names" \/ wd="heap") \/ wd="stand" \/ wd="cast" \/ wd="lift")/\(wd="stand"->∃ x,ys=[x])/\(∀ y∈ys,y∈menu)/\ys.Nodup/\ys.length <= 9 /\
     ∀ σ' H',(∃ c5 c6 c7 c8 c9 c10 st' kv',σ'=[some (.ref a),some (.ref m),some (.ref A),some (.ref B),some (.ref G),c5,c6,c7,c8,c9,c10]/\Two C D H menu m A B G q p l d s lo H' st' kv')->E.nx σ' H')
    (ae (gs (i:=10) aq6.nd rfl (.inl rfl) (av okm hr1 rfl mm_ km bm .nil aqt (aa (aX ajm (av okc hr1 rfl mc kc bc .nil aqt (aa (pv 0) (aa (pv 5) ag))) aj) ag)))
    (ah (aZ (aQw (aQv (av okt hr7 rfl mt_ kt bt .nil aqt (aa (aqs ar (pv 2) (pv 7) (fun _ _=>rfl)) (aa (aqs ar (pv 3) (pv 7) (fun _ _=>rfl)) (aa (aqs ar (pv 4) (pv 7) (fun _ _=>rfl)) (aa (pv 8) (aa (pv 10) (aa (pv 9) ag))))))))) (ah (au pe_bl)) ao))) fun E σ H2 ht=>?_)))))))
  (ae (awg Cv rfl (ajs rfl T.zr (aa aj ag)) (ajk (i:=7) aq6.nd rfl (.inl rfl))
   (ah (awg Cv rfl (aqf (aY (aa al (aa al ag)))) (ajk (i:=8) aq6.nd rfl (.inl rfl))
    (ah (aZ (aQw (aQv (av okt hr7 rfl mt_ kt bt .nil aqt (aa (aqs ar (pv 2) (pv 7) (fun _ _=>rfl)) (aa (aqs ar (pv 3) (pv 7) (fun _ _=>rfl)) (aa (aqs ar (pv 4) (pv 7) (fun _ _=>rfl)) (aa (pv 8) (aa aj (aa (aY ag) ag))))))))) (ah (au pe_bl)) ao)))))
  (ah (au pe_bl))))))),?_⟩
 ·obtain ⟨menu,m,A,B,G,q,p,l,d,s,lo,st,kv,i,c,wd,z,ys,c10,rfl,hi,hmok,M1,ap,hz,nzs,hw,hs1,hys,ynd,y9,kx⟩:=ht
  have ce:=aXc ns (8 + i) (by omega);rw [show (((8 + i:Nat):Nat):Int)=8 + (i:Int) by omega] at ce;refine ⟨_,rfl,_,rfl,F0,[MB.aqv ns,.int (8 + (i:Int))],_,sm0.trans M1.sm,.cons (.lst ha (aqn ns)) (.cons (.int _) .nil),rfl,ce,fun v3 F3 H3 e3 r3=>?_⟩;cases r3;generalize cellOf ns (8 + i)=c3;obtain ⟨mv,hmany,mv1,mv18⟩:=aqbb (c3 / 5);refine ⟨_,_,rfl,rfl,⟨by decide,by decide⟩,H3,[.int (c3 / 5)],_,aqi7.refl _,.cons (.int _) .nil,rfl,hmany,fun v4 F4 H4 e4 r4=>?_⟩;cases r4;have s4:=e3.hh.trans e4.hh;have M4:=M1.same s4;have z4:=s4 _ _ hz;obtain ⟨b,hb⟩:=aYy c;have g:=M4.good b;refine ⟨_,rfl,_,rfl,A,_,_,_,rfl,rfl,SqL.of M4.hA,hb q,_,rfl,_,rfl,B,_,_,_,rfl,rfl,SqL.of M4.hB,hb s,_,rfl,_,rfl,G,_,_,_,rfl,rfl,SqL.of M4.hG,hb lo,_,rfl,_,rfl,_,rfl,q b,p b,l b,d b,s b,lo b,z,wd,mv,ys,st b,kv b,rfl,M4.side b,g.t hmok,g.len,?_⟩;rcases hw with hw | hw
  ·refine .inl ⟨hw,fun H5 s5=>⟨_,rfl,aqht ?_⟩⟩
   exact kx _ _ ⟨_,_,_,_,_,_,st,kv,rfl,M4.same s5⟩
  ·have mv2 : mv <= 1000000000000000000 := by have : (10 : Int) ^ 18 = 1000000000000000000 := by decide
                                              omega
   refine .inr ⟨z4,⟨hw,hs1,g.len,y9,g.l12,fun y hy=>hmok y (g.ok y hy),fun y hy=>hmok y (hys y hy),ynd,mv1,mv2⟩,g.nd,nzs b,ap.ls b,ap.dl b,fun H5 k5 S5=>⟨_,rfl,aqht ?_⟩⟩;obtain ⟨st2,kv2,M5⟩:=M4.step ap b k5 S5 (aZs g hys hw (fun e=>by obtain ⟨x,rfl⟩:=hs1 e; simp) mv1);exact kx _ _ ⟨_,_,_,_,_,_,st2,kv2,rfl,M5⟩
 refine ⟨_,rfl,F0,a,ns,0,7,rfl,sm0,ha,h63,by omega,by omega,fun m H1 menu s1 hm0 hm1 hmn hnd hmok=>?_⟩;intro q0 dq0 nq0 ndq0 neq0;refine ⟨q0,dq0,rfl,cb,fun p0 l0 d0 H3 hp0 hl0 hd0 S0 kp0=>⟨rfl,?_⟩⟩;obtain ⟨s3,fr0⟩:=akq nq0 ndq0 kp0;have fl0:=fr0 _ hl0;have fd0:=fr0 _ hd0;clear kp0 hp0 hl0 hd0 fr0 nq0 ndq0 neq0;intro q1 dq1 nq1 ndq1 neq1;refine ⟨q1,dq1,rfl,cb,fun p1 l1 d1 H5 hp1 hl1 hd1 S1 kp1=>⟨rfl,?_⟩⟩;obtain ⟨s5,fr1⟩:=akq nq1 ndq1 kp1;have fl1:=fr1 _ hl1;have fd1:=fr1 _ hd1;clear kp1 hp1 hl1 hd1 fr1 nq1 ndq1 neq1;refine ⟨by show 2 <= Ad; decide,fun A hA=>?_⟩;have s6:aqi7 H5 (upd H5 A (.lst [.ref q0,.ref q1])):=gd hA;have A6:(upd H5 A (.lst [.ref q0,.ref q1])) A=some (.lst [.ref q0,.ref q1]):=cb;generalize upd H5 A (.lst [.ref q0,.ref q1])=H6 at s6 A6 ⊢;refine ⟨by show 0 <= Ad; decide,fun t0 ht0=>?_⟩;have s7:aqi7 H6 (upd H6 t0 (.lst [])):=gd ht0;have T0:(upd H6 t0 (.lst [])) t0=some (.lst []):=cb;generalize upd H6 t0 (.lst [])=H7 at s7 T0 ⊢;refine ⟨by show 0 <= Ad; decide,fun t1 ht1=>?_⟩;have s8:aqi7 H7 (upd H7 t1 (.lst [])):=gd ht1;have T1:(upd H7 t1 (.lst [])) t1=some (.lst []):=cb;generalize upd H7 t1 (.lst [])=H8 at s8 T1 ⊢;refine ⟨by show 2 <= Ad; decide,fun B hB=>?_⟩;have s9:aqi7 H8 (upd H8 B (.lst [.ref t0,.ref t1])):=gd hB;have B9:(upd H8 B (.lst [.ref t0,.ref t1])) B=some (.lst [.ref t0,.ref t1]):=cb;generalize upd H8 B (.lst [.ref t0,.ref t1])=H9 at s9 B9 ⊢;intro o0 ho0;have s10:aqi7 H9 (upd H9 o0 (.dT [])):=gd ho0;have O0:(upd H9 o0 (.dT [])) o0=some (.dT []):=cb;generalize upd H9 o0 (.dT [])=H10 at s10 O0 ⊢;intro o1 ho1;have s11:aqi7 H10 (upd H10 o1 (.dT [])):=gd ho1;have O1:(upd H10 o1 (.dT [])) o1=some (.dT []):=cb;generalize upd H10 o1 (.dT [])=H11 at s11 O1 ⊢;refine ⟨by show 2 <= Ad; decide,fun G hG=>?_⟩;have s12:aqi7 H11 (upd H11 G (.lst [.ref o0,.ref o1])):=gd hG;have G12:(upd H11 G (.lst [.ref o0,.ref o1])) G=some (.lst [.ref o0,.ref o1]):=cb;generalize upd H11 G (.lst [.ref o0,.ref o1])=H12 at s12 G12 ⊢;have u11:=s11.trans s12;have u10:=s10.trans u11;have u9:=s9.trans u10;have u8:=s8.trans u9;have u7:=s7.trans u8;have u6:=s6.trans u7;have u5:=s5.trans u6;have u3:=s3.trans u5;have v5:=s1.trans (s3.trans s5);have v6:=v5.trans s6;have v7:=v6.trans s7;have v8:=v7.trans s8;have v9:=v8.trans s9;have v10:=v9.trans s10;have L0:=S0.hall.st;have D0:=S0.hall.ba;have L1:=S1.hall.st;have D1:=S1.hall.ba;have w8:=s6.trans (s7.trans (s8.trans s9));have ap:Apart H m A B G (fun b=>bif b then l1 else l0) (fun b=>bif b then d1 else d0) (fun b=>bif b then t1 else t0) (fun b=>bif b then o1 else o0):=by
  have nll:l0 ≠ l1:=ac L0 fl1;have ndd:d0 ≠ d1:=ac D0 fd1;have a1:l0 ≠ t0:=ac ((s5.trans s6) _ _ L0) ht0;have a2:l0 ≠ t1:=ac ((s5.trans (s6.trans s7)) _ _ L0) ht1;have a3:l1 ≠ t0:=ac (s6 _ _ L1) ht0;have a4:l1 ≠ t1:=ac ((s6.trans s7) _ _ L1) ht1;have a5:t0 ≠ t1:=ac T0 ht1;have b1:d0 ≠ o0:=ac ((s5.trans w8) _ _ D0) ho0;have b2:d0 ≠ o1:=ac ((s5.trans (w8.trans s10)) _ _ D0) ho1;have b3:d1 ≠ o0:=ac (w8 _ _ D1) ho0;have b4:d1 ≠ o1:=ac ((w8.trans s10) _ _ D1) ho1;have b5:o0 ≠ o1:=ac O0 ho1;have c1:m ≠ l0:=ac hm1 fl0;have c2:m ≠ l1:=ac (s3 _ _ hm1) fl1;have c3:m ≠ t0:=ac ((s3.trans (s5.trans s6)) _ _ hm1) ht0;have c4:m ≠ t1:=ac ((s3.trans (s5.trans (s6.trans s7))) _ _ hm1) ht1;have e1:A ≠ l0:=(ac (s5 _ _ L0) hA).symm;have e2:A ≠ l1:=(ac L1 hA).symm;have e3:A ≠ t0:=ac A6 ht0;have e4:A ≠ t1:=ac (s7 _ _ A6) ht1;have g1:B ≠ l0:=(ac ((s5.trans (s6.trans (s7.trans s8))) _ _ L0) hB).symm;have g2:B ≠ l1:=(ac ((s6.trans (s7.trans s8)) _ _ L1) hB).symm;have g3:B ≠ t0:=(ac (s8 _ _ T0) hB).symm;have g4:B ≠ t1:=(ac T1 hB).symm;have w11:=w8.trans (s10.trans s11);have i1:G ≠ l0:=(ac ((s5.trans w11) _ _ L0) hG).symm;have i2:G ≠ l1:=(ac (w11 _ _ L1) hG).symm;have i3:G ≠ t0:=(ac ((s8.trans (s9.trans (s10.trans s11))) _ _ T0) hG).symm;have i4:G ≠ t1:=(ac ((s9.trans (s10.trans s11)) _ _ T1) hG).symm;refine ⟨fun b=>?_,fun b=>?_,fun b=>?_,fun b=>?_,fun b=>?_,fun b=>?_,fun b=>?_,fun b=>?_,fun b=>?_,fun b=>?_,fun b=>?_,fun b=>?_,fun b=>?_⟩
  ·cases b
   ·exact ⟨s1.free fl0,s1.free fd0,v6.free ht0,v9.free ho0⟩
   ·exact ⟨(s1.trans s3).free fl1,(s1.trans s3).free fd1,v7.free ht1,v10.free ho1⟩
  ·cases b <;> assumption
  ·cases b <;> assumption
  ·cases b; exact nll; exact nll.symm
  ·cases b <;> assumption
  ·cases b; exact a5; exact a5.symm
  ·cases b; exact ndd; exact ndd.symm
  ·cases b <;> assumption
  ·cases b; exact b5; exact b5.symm
  ·cases b; exact ⟨c1,c3⟩; exact ⟨c2,c4⟩
  ·cases b; exact ⟨e1,e3⟩; exact ⟨e2,e4⟩
  ·cases b; exact ⟨g1,g3⟩; exact ⟨g2,g4⟩
  ·cases b; exact ⟨i1,i3⟩; exact ⟨i2,i4⟩
 have G0:Good menu [] []:=⟨by simp,by simp,by simp,by simp,by simp,by simp,by simp,by simp⟩;have M0:Two C D H menu m A B G (fun b=>bif b then q1 else q0) (fun b=>bif b then p1 else p0) (fun b=>bif b then l1 else l0) (fun b=>bif b then d1 else d0) (fun b=>bif b then t1 else t0) (fun b=>bif b then o1 else o0) H12 (fun _=>[]) (fun _=>[]):=by
  refine ⟨s1.trans u3,u3 _ _ hm1,u7 _ _ A6,u10 _ _ B9,G12,fun b=>?_,fun _=>G0⟩;cases b
  ·exact ⟨⟨by obtain ⟨dx,hx⟩:=S0.ob; exact ⟨dx,u5 _ _ hx⟩,S0.hall.keep u5⟩,u8 _ _ T0,u11 _ _ O0⟩
  ·exact ⟨⟨by obtain ⟨dx,hx⟩:=S1.ob; exact ⟨dx,u6 _ _ hx⟩,S1.hall.keep u6⟩,u9 _ _ T1,s12 _ _ O1⟩
 have hz12:SqE K H12 a (ns.map V.int):=seqE (sm0.trans M0.sm) ha;clear u3 u5 u6 u7 u8 u9 u10 u11 v5 v6 v7 v8 v9 v10 w8 L0 L1 D0 D1 T0 T1 O0 O1 G12 B9 A6 S0 S1 fl0 fl1 fd0 fd1 hA hB hG ht0 ht1 ho0 ho1 s1 s3 s5 s6 s7 s8 s9 s10 s11 s12 hm0 hm1 G0;generalize (fun b=>bif b then q1 else q0)=q at M0;generalize (fun b=>bif b then p1 else p0)=p at M0;generalize (fun b=>bif b then l1 else l0)=l at M0 ap;generalize (fun b=>bif b then d1 else d0)=d at M0 ap;generalize (fun b=>bif b then t1 else t0)=s at M0 ap;generalize (fun b=>bif b then o1 else o0)=lo at M0 ap;have hj:∀ j:Int,j=(if ((ns.map V.int).length:Int) > 32 then ((ns.map V.int).length:Int) else 32)->32 <= j/\j <= 63:=by
  intro j e;rw [length_map] at e;split at e <;> omega
 refine ⟨_,rfl,a,_,rfl,.inl hz12.l,_,_,rfl,_,_,rfl,⟨by decide,by decide,by have:=hj _ rfl; omega,by have:=hj _ rfl; omega⟩,
  aju (fun i σ' H'=>∃ c5 c6 c7 c8 c9 c10 st kv,σ'=[some (.ref a),some (.ref m),some (.ref A),some (.ref B),some (.ref G),c5,c6,c7,c8,c9,c10]/\Two C D H menu m A B G q p l d s lo H' st kv)
   ⟨none,none,none,none,none,none,_,_,rfl,M0⟩ (fun i σ' H' hi hI=>?_) fun σ' H' hI=>?_⟩
 ·obtain ⟨c5,c6,c7,c8,c9,c10,st,kv,rfl,M1⟩:=hI
  have hi63:i < 60:=by have:=hj _ rfl; omega
  clear hi hj M0 hz12;have ce:=aXc ns (8 + i) (by omega);rw [show (((8 + i:Nat):Nat):Int)=8 + (i:Int) by omega] at ce;refine ⟨_,rfl,_,rfl,F0,[MB.aqv ns,.int (8 + (i:Int))],_,sm0.trans M1.sm,.cons (.lst ha (aqn ns)) (.cons (.int _) .nil),rfl,ce,fun v F' H2 e2 r2=>?_⟩;cases r2;refine ⟨_,_,rfl,rfl,.inr ⟨by decide,by decide⟩,_,_,rfl,rfl,(by show (0:Int) < 2147483647; decide),?_⟩;dsimp only;generalize cellOf ns (8 + i) * 48271 % 2147483647=c;refine ⟨_,rfl,_,_,rfl,rfl,(by show (0:Int) < 2; decide),?_⟩;obtain ⟨wd,hwa,hw⟩:=aV9 (i:=c / 2 % 9) (Ca _ (by decide)) (Bq _ (by decide));refine ⟨by show 9 <= Ad; decide,fun x hx=>⟨_,rfl,_,_,rfl,rfl,⟨by decide,by decide⟩,_,_,rfl,rfl,(by show (0:Int) < 9; decide),x,_,_,_,rfl,rfl,SqL.of cb,hwa,?_⟩⟩;have M3:=M1.same (e2.hh.trans (gd (o:=.lst [V.str "cast",V.str "stand",V.str "lift",V.str "names",V.str "heap",V.str "cast",V.str "stand",V.str "cast",V.str "lift"]) hx));generalize upd H2 x (.lst [V.str "cast",V.str "stand",V.str "lift",V.str "names",V.str "heap",V.str "cast",V.str "stand",V.str "cast",V.str "lift"])=H3 at M3 ⊢;refine ⟨_,rfl,_,rfl,_,_,rfl,rfl,⟨by decide,by decide⟩,_,_,rfl,rfl,(by show (0:Int) < 6; decide),_,_,rfl,rfl,_,rfl,m,_,rfl,SqL.of M3.hm,fun y hy=>?_⟩;have M4:=M3.same (gd (o:=.lst (aqi3 (menu.map V.str) none (some (2 + c / 18 % 6)))) hy);obtain ⟨t,ht⟩:∃ t,aqi3 (menu.map V.str) none (some (2 + c / 18 % 6))=(menu.take t).map V.str :=
   ⟨HT.sIx (menu.map V.str).length (menu.map V.str).length (some (2 + c / 18 % 6)),by unfold aqi3; rw [HT.sIx_none,List.drop_zero,Nat.sub_zero,<- List.map_take]⟩
  refine ⟨_,rfl,_,_,rfl,rfl,⟨by decide,by decide⟩,y,_,menu.take t,rfl,by rw [<- ht]; exact cb,by rw [length_take]; omega,(take_sublist _ _).nodup hnd,fun z H5 ys sm5 hz0 hz hys ynd y9=>?_⟩;have M5:=M4.same sm5;have nz:∀ b,z ≠ s b:=fun b=>(ac (M4.side b).hs hz0).symm;refine ⟨_,rfl,rfl,_,rfl,?_⟩
  by_cases hst:wd="stand"
  ·rw [decide_eq_true (by rw [hst])]
   refine aqhs ?_;obtain ⟨x,hxm,hxa⟩:∃ x∈menu,atI (menu.map V.str) (c / 18 % 7)=some (.str x):=by
    have b0:=Ca (c / 18) (b:=7) (by decide);have b1:=Bq (c / 18) (b:=7) (by decide);obtain ⟨j,hj⟩:∃ j:Nat,c / 18 % 7=(j:Int):=⟨(c / 18 % 7).toNat,by omega⟩;have hjl:j < menu.length:=by omega
    refine ⟨menu[j],getElem_mem hjl,?_⟩;rw [hj];exact aq (by simp [hjl])
   refine ⟨_,rfl,_,rfl,_,_,rfl,rfl,⟨by decide,by decide⟩,_,_,rfl,rfl,(by show (0:Int) < 7; decide),m,_,_,_,rfl,rfl,SqL.of M5.hm,hxa,by show 1 <= Ad; decide,fun z2 hz2=>?_⟩;exact ⟨menu,m,A,B,G,q,p,l,d,s,lo,st,kv,i,c,wd,z2,[x],_,rfl,hi63,hmok,M5.same (gd hz2),ap,cb,fun b=>(ac (M5.side b).hs hz2).symm,hw,fun _=>⟨x,rfl⟩,fun y hy=>by rw [Bp.mp hy]; exact hxm,by simp,by simp,fun σ' H' h=>h⟩
  ·rw [decide_eq_false (fun z=>hst (V.str.inj z))]
   refine aqht ?_;exact ⟨menu,m,A,B,G,q,p,l,d,s,lo,st,kv,i,c,wd,z,ys,_,rfl,hi63,hmok,M5,ap,hz,nz,hw,fun e=>absurd e hst,fun y hy=>List.mem_of_mem_take (hys y hy),ynd,y9,fun σ' H' h=>h⟩
 ·obtain ⟨c5,c6,c7,c8,c9,c10,st,kv,rfl,M1⟩:=hI
  clear M0 hz12 hj;refine ⟨2,rfl,by decide,by decide,aju (n:=2) (fun i σ' H'=>∃ c5 c6 c7 c8 c9 c10,σ'=[some (.ref a),some (.ref m),some (.ref A),some (.ref B),some (.ref G),c5,c6,c7,c8,c9,c10]/\Two C D H menu m A B G q p l d s lo H' st kv)
   ⟨_,_,_,_,_,_,rfl,M1⟩ (fun i σ' H' hi hI=>?_) fun σ' H' hI=>?_⟩
  ·obtain ⟨c5,c6,c7,c8,c9,c10,rfl,M2⟩:=hI
   refine ⟨by show 2 <= Ad; decide,fun x hx=>?_⟩;have M3:=M2.same (gd (o:=.lst [.str "heap",.str "names"]) hx);have hx3:(upd H' x (.lst [.str "heap",.str "names"])) x=some (.lst [.str "heap",.str "names"]):=cb;generalize upd H' x (.lst [.str "heap",.str "names"])=H3 at M3 hx3 ⊢;obtain ⟨b,hb⟩:∃ b:Bool,∀ f:Bool->Addr,atI [V.ref (f false),V.ref (f true)] (0 + (i:Int))=some (V.ref (f b)):=by
    obtain ⟨b,h⟩:=aYy (0 + (i:Int));rw [show (0 + (i:Int)) % 2=0 + (i:Int) by omega] at h;exact ⟨b,h⟩
   refine ⟨x,rfl,⟨_,SqL.of hx3⟩,aJy (K:=K) (a:=x) (xs:=[.str "heap",.str "names"]) (fun j σ2 H2=>(∃ c8,σ2=[some (.ref a),some (.ref m),some (.ref A),some (.ref B),some (.ref G),c5,c6,some (.int (0 + (i:Int))),c8,c9,c10])/\aqi7 H3 H2) ⟨⟨_,rfl⟩,aqi7.refl _⟩ (fun j σ2 H2 _ hI=>SqL.of (hI.2 _ _ hx3)) (fun j y σ2 H2 hy hI=>?_) fun σ2 H2 hI=>?_⟩
   ·obtain ⟨⟨c8',rfl⟩,s3⟩:=hI
    have M4:=M3.same s3;have g:=M4.good b;obtain ⟨wd,rfl,hw⟩:∃ wd:Str,y=.str wd/\(wd="names" \/ wd="heap"):=by
     match j,hy with
     | 0,hy=>exact ⟨_,(Option.some.inj hy).symm,.inr rfl⟩
     | 1,hy=>exact ⟨_,(Option.some.inj hy).symm,.inl rfl⟩
    refine ⟨_,rfl,_,rfl,A,_,_,_,rfl,rfl,SqL.of M4.hA,hb q,_,rfl,_,rfl,B,_,_,_,rfl,rfl,SqL.of M4.hB,hb s,_,rfl,_,rfl,G,_,_,_,rfl,rfl,SqL.of M4.hG,hb lo,_,rfl,by show 0 <= Ad; decide,fun z hz=>?_⟩;have M5:=M4.same (gd (o:=.lst []) hz);exact ⟨q b,p b,l b,d b,s b,lo b,z,wd,1,[],st b,kv b,rfl,M5.side b,g.t hmok,g.len,.inl ⟨hw,fun H5 s5=>⟨_,rfl,aqht ⟨⟨_,rfl⟩,s3.trans ((gd hz).trans s5)⟩⟩⟩⟩
   ·obtain ⟨⟨c8',rfl⟩,s3⟩:=hI
    exact ⟨_,_,_,_,_,_,rfl,M3.same s3⟩
  ·obtain ⟨c5,c6,c7,c8,c9,c10,rfl,M2⟩:=hI
   exact k (.bl true) F0 _ ⟨aqi7.refl _,sm0.trans M2.sm,M2.sm,fun _ _ h=>.inl h⟩ (.bl true)
end
def Dn (K:Frag) (x:Str) (st:Stmt):Prop:=∃ (f:Addr) (od an:Option Addr) (sl:Array (Option Value)) (oc kV dc pm cd ct:Value),nsIn K Ak x=some (some (.ref f))/\K.lookup f=some ⟨oc,od,.func (fnOf x x (aqj st) (aQ st) (ai st) .none kV dc pm an cd ct),sl⟩/\L8 K cd x=true/\G4 K (.ref f)=true
theorem dm {K:Frag} {x:Str} {st:Stmt} {f:Addr} {od an:Option Addr} {sl:Array (Option Value)} {oc kV dc pm cd ct:Value} (a:nsIn K Ak x=some (some (.ref f))) (l:K.lookup f=some ⟨oc,od,.func (fnOf x x (aqj st) (aQ st) (ai st) .none kV dc pm an cd ct),sl⟩) (c:L8 K cd x=true) (k:G4 K (.ref f)=true):Dn K x st:=⟨f,od,an,sl,oc,kV,dc,pm,cd,ct,a,l,c,k⟩
theorem dn {P:Af} {w:World} {K:Frag} {mg:Str->Option Value} {base h:Heap} (X:K.In h) (G:h.Ns Ak mg) {x:Str} {st:Stmt} {k:Nat} {ps:List Str} {sp:Sp} (d:Dn K x st) (ok:∀ {f:Addr} {fd:Am},Fun K x x st f fd->FnOk P w K mg base CX0 k f fd ps sp) (b:∀ (kV doc pm:Value) (an:Option Addr) (cdv ct:Value) (us:List Value),us.length=ps.length->Mf (fnOf x x (aqj st) (aQ st) (ai st) .none kV doc pm an cdv ct) ⟨us,[]⟩=pure (ps.zip us)):Fn P w K mg base k x ps sp:=by
 obtain ⟨f,od,an,sl,oc,kV,dc,pm,cd,ct,a,l,c,kk⟩:=d;have F:=aW6 (st:=st) l c kk;exact ⟨_,_,ok F,mg_of X G a,kk,F.binds (ps:=ps) b⟩
def Dx (K:Frag) (C:Addr) (x y:Str) (st:Stmt):Prop:=∃ (f:Addr) (od an:Option Addr) (sl:Array (Option Value)) (oc kV dc pm cd ct:Value),Ar K (.ref C) x=some (some (.ref f))/\Gr K (.ref f)=true/\K.lookup f=some ⟨oc,od,.func (fnOf x y (aqj st) (aQ st) (ai st) .none kV dc pm an cd ct),sl⟩/\L8 K cd y=true/\G4 K (.ref f)=true
theorem dx {K:Frag} {C:Addr} {x y:Str} {st:Stmt} {f:Addr} {od an:Option Addr} {sl:Array (Option Value)} {oc kV dc pm cd ct:Value} (a:Ar K (.ref C) x=some (some (.ref f))) (i:Gr K (.ref f)=true) (l:K.lookup f=some ⟨oc,od,.func (fnOf x y (aqj st) (aQ st) (ai st) .none kV dc pm an cd ct),sl⟩) (c:L8 K cd y=true) (k:G4 K (.ref f)=true):Dx K C x y st:=⟨f,od,an,sl,oc,kV,dc,pm,cd,ct,a,i,l,c,k⟩
theorem mx {P:Af} {w:World} {K:Frag} {mg:Str->Option Value} {base:Heap} {C:Addr} {x y:Str} {st:Stmt} {k:Nat} {ps:List Str} {sp:Sp} {CX:CXT} (d:Dx K C x y st) (ok:∀ {f:Addr} {fd:Am},Fun K x y st f fd->FnOk P w K mg base CX k f fd ps sp) (b:∀ (kV doc pm:Value) (an:Option Addr) (cdv ct:Value) (us:List Value),us.length=ps.length->Mf (fnOf x y (aqj st) (aQ st) (ai st) .none kV doc pm an cdv ct) ⟨us,[]⟩=pure (ps.zip us)):∃ f fd,FnOk P w K mg base CX k f fd ps sp/\L2.Binds K fd ps []/\Meth K C x f:=by
 obtain ⟨f,od,an,sl,oc,kV,dc,pm,cd,ct,a,i,l,c,kk⟩:=d;have F:=aW6 (st:=st) l c kk;exact ⟨_,_,ok F,F.binds (ps:=ps) b,a,i,kk⟩
theorem aqhr {p0:Str} {Q:List Value->Prop} (h:∀ a0,Q [a0]) (us:List Value) (hl:us.length=[p0].length):Q us:=by
 obtain ⟨a0,rfl⟩:=Jn.mp hl;exact h a0
theorem aqhq {p0 p1:Str} {Q:List Value->Prop} (h:∀ a0 a1,Q [a0,a1]) (us:List Value) (hl:us.length=[p0,p1].length):Q us:=by
 cases us with
 | nil=>cases hl
 | cons a0 us=>exact aqhr (p0:=p1) (Q:=fun us=>Q (a0 :: us)) (h a0) us (Nat.succ.inj hl)
theorem len3 {p0 p1 p2:Str} {Q:List Value->Prop} (h:∀ a0 a1 a2,Q [a0,a1,a2]) (us:List Value) (hl:us.length=[p0,p1,p2].length):Q us:=by
 cases us with
 | nil=>cases hl
 | cons a0 us=>exact aqhq (p0:=p1) (p1:=p2) (Q:=fun us=>Q (a0 :: us)) (h a0) us (Nat.succ.inj hl)
theorem len4 {p0 p1 p2 p3:Str} {Q:List Value->Prop} (h:∀ a0 a1 a2 a3,Q [a0,a1,a2,a3]) (us:List Value) (hl:us.length=[p0,p1,p2,p3].length):Q us:=by
 cases us with
 | nil=>cases hl
 | cons a0 us=>exact len3 (p0:=p1) (p1:=p2) (p2:=p3) (Q:=fun us=>Q (a0 :: us)) (h a0) us (Nat.succ.inj hl)
theorem len5 {p0 p1 p2 p3 p4:Str} {Q:List Value->Prop} (h:∀ a0 a1 a2 a3 a4,Q [a0,a1,a2,a3,a4]) (us:List Value) (hl:us.length=[p0,p1,p2,p3,p4].length):Q us:=by
 cases us with
 | nil=>cases hl
 | cons a0 us=>exact len4 (p0:=p1) (p1:=p2) (p2:=p3) (p3:=p4) (Q:=fun us=>Q (a0 :: us)) (h a0) us (Nat.succ.inj hl)
theorem len6 {p0 p1 p2 p3 p4 p5:Str} {Q:List Value->Prop} (h:∀ a0 a1 a2 a3 a4 a5,Q [a0,a1,a2,a3,a4,a5]) (us:List Value) (hl:us.length=[p0,p1,p2,p3,p4,p5].length):Q us:=by
 cases us with
 | nil=>cases hl
 | cons a0 us=>exact len5 (p0:=p1) (p1:=p2) (p2:=p3) (p3:=p4) (p4:=p5) (Q:=fun us=>Q (a0 :: us)) (h a0) us (Nat.succ.inj hl)
theorem all_mk {l:Ge} {w:World} {K:Frag} {h:Heap} {mg:Str->Option Value} {fa C D Ct Cm Cn Cf:Addr} {tk0 tk1 tk2 tk3 tk4 tk5:Tok} (X:K.In h) (G:h.Ns Ak mg) (hfa:mg "law"=some (.ref fa))
  (aC:nsIn K Ak "Hall"=some (some (.ref C)))
  (aD:nsIn K Ak "Desk"=some (some (.ref D)))
  (d0:Dn K "tidy" aKt)
  (d1:Dn K "words_of" aQm)
  (d2:Dn K "is_row" aQn)
  (d3:Dn K "are_names" aj4)
  (d4:Dn K "is_name" avp)
  (d5:Dn K "is_ballots" aQo)
  (d6:Dn K "_law_cell" ajd)
  (d7:Dn K "_law_names" aqz)
  (d8:Dn K "_law_many" ajc)
  (d9:Dn K "_law_some" aKu)
  (d10:Dn K "_law_due" s_due)
  (d11:Dn K "_law_say" aKv)
  (d12:Dn K "_law_spaced" avo)
  (d13:Dn K "_law_heap_text" aQp)
  (d14:Dn K "_law_told" aKs)
  (d15:Dn K "law" aKw)
  (e0:Dx K C "__init__" "Hall.__init__" sInit)
  (e1:Dx K C "stand" "Hall.stand" aKx)
  (e2:Dx K C "heap" "Hall.heap" sHeap)
  (e3:Dx K C "cast" "Hall.cast" sCast)
  (e4:Dx K C "lift" "Hall.lift" sLift)
  (e5:Dx K C "lay" "Hall.lay" sLay)
  (e6:Dx K C "numbers_of" "Hall.numbers_of" sNums)
  (e7:Dx K C "names_of" "Hall.names_of" avq)
  (e8:Dx K C "names" "Hall.names" aKy)
  (e9:Dx K D "__init__" "Desk.__init__" aKk)
  (e10:Dx K D "say" "Desk.say" sdSay)
  (e11:Dx K D "obey" "Desk.obey" aKj)
  (e12:Dx K D "heap_told" "Desk.heap_told" aKl)
  (pgC:Dd K C Str.empty=true)
  (hdC:Dv K C=true)
  (poC:Ez K C=true)
  (saC:Ar K (.ref C) "__setattr__"=some (some (.builtin "object.__setattr__")))
  (mkC:F9 K C=true)
  (kcC:G4 K (.ref C)=true)
  (pgD:Dd K D Str.empty=true)
  (hdD:Dv K D=true)
  (poD:Ez K D=true)
  (saD:Ar K (.ref D) "__setattr__"=some (some (.builtin "object.__setattr__")))
  (mkD:F9 K D=true)
  (kcD:G4 K (.ref D)=true)
  (nS:Ar K (.ref C) "standing"=some none)
  (nB:Ar K (.ref C) "ballots"=some none)
  (nH:Ar K (.ref D) "hall"=some none)
  (y0:nsIn K Ak "MOST_STANDING"=some (some (.int 6 tk0)))
  (y1:nsIn K Ak "MOST_PILES"=some (some (.int 12 tk1)))
  (y2:nsIn K Ak "MOST_BALLOTS"=some (some (.int 1000000000000000000 tk2)))
  (y3:nsIn K Ak "LONGEST_NAME"=some (some (.int 8 tk3)))
  (y4:nsIn K Ak "LETTERS"=some (some (.str "abcdefghijklmnopqrstuvwxyz" tk4)))
  (y5:nsIn K Ak "FIGURES"=some (some (.str "0123456789" tk5)))
  (xaCt:nsIn K Ak "Taken"=some (some (.ref Ct)))
  (xeCt:Ec K Ct [.type "ValueError",.type "Exception",.type "BaseException",.type "object"] "ValueError.__new__"=true)
  (xtCt:De K (.ref Ct)=some (.type "type"))
  (xbCt:As K Ct (.type "BaseException")=some true)
  (xsCt:As K Ct (.ref Ct)=some true)
  (xaCm:nsIn K Ak "TooMany"=some (some (.ref Cm)))
  (xeCm:Ec K Cm [.type "ValueError",.type "Exception",.type "BaseException",.type "object"] "ValueError.__new__"=true)
  (xtCm:De K (.ref Cm)=some (.type "type"))
  (xbCm:As K Cm (.type "BaseException")=some true)
  (xsCm:As K Cm (.ref Cm)=some true)
  (xaCn:nsIn K Ak "NoName"=some (some (.ref Cn)))
  (xeCn:Ec K Cn [.type "ValueError",.type "Exception",.type "BaseException",.type "object"] "ValueError.__new__"=true)
  (xtCn:De K (.ref Cn)=some (.type "type"))
  (xbCn:As K Cn (.type "BaseException")=some true)
  (xsCn:As K Cn (.ref Cn)=some true)
  (xaCf:nsIn K Ak "TooFew"=some (some (.ref Cf)))
  (xeCf:Ec K Cf [.type "ValueError",.type "Exception",.type "BaseException",.type "object"] "ValueError.__new__"=true)
  (xtCf:De K (.ref Cf)=some (.type "type"))
  (xbCf:As K Cf (.type "BaseException")=some true)
  (xsCf:As K Cf (.ref Cf)=some true)
  (xnCmCt:As K Cm (.ref Ct)=some false)
  (xnCnCt:As K Cn (.ref Ct)=some false)
  (xnCnCm:As K Cn (.ref Cm)=some false)
  (xnCfCt:As K Cf (.ref Ct)=some false)
  (xnCfCm:As K Cf (.ref Cm)=some false)
  (xnCfCn:As K Cf (.ref Cn)=some false)
  (z0:nsIn K Ak "range"=some none)
  (z1:nsIn K Ak "len"=some none)
  (z2:nsIn K Ak "list"=some none)
  (z3:nsIn K Ak "tuple"=some none)
  (z4:nsIn K Ak "sorted"=some none)
  (z5:nsIn K Ak "max"=some none)
  (z6:nsIn K Ak "all"=some none)
  (z7:nsIn K Ak "enumerate"=some none)
  (z8:nsIn K Ak "int"=some none)
  (z9:nsIn K Ak "set"=some none)
  (z10:nsIn K Ak "str"=some none)
  (z11:nsIn K Ak "isinstance"=some none) :
  ∃ fd:Am,(∀ (s:Shared) (v:Value),Hs s fd ⟨[v],[]⟩ [("script",v)])/\∀ base:Heap,K.In base->base.Ns Ak mg->FnOk l.prog w K mg base CX0 9 fa fd ["script"] (spD K 1 aYm):=by
 obtain ⟨f,od,an,sl,oc,kV,dc,pm,cd,ct,a,l1,c,kk⟩:=d15;have e:=hfa.symm.trans (mg_of X G a);cases e;have T:Hx K mg C Ct Cm Cn Cf:=⟨⟨pgC,hdC,poC,saC⟩,nS,nB,mg_of X G aC,⟨_,mg_of X G y0⟩,⟨_,mg_of X G y1⟩,⟨_,mg_of X G y2⟩,(aP xeCt).1,mg_of X G xaCt,(aP xeCm).1,mg_of X G xaCm,(aP xeCn).1,mg_of X G xaCn,(aP xeCf).1,mg_of X G xaCf,⟨xtCt,(aP xeCt).2,xbCt,xsCt⟩,⟨xtCt,(aP xeCt).2,xbCt,xnCmCt⟩,⟨xtCm,(aP xeCm).2,xbCm,xsCm⟩,⟨xtCt,(aP xeCt).2,xbCt,xnCnCt⟩,⟨xtCm,(aP xeCm).2,xbCm,xnCnCm⟩,⟨xtCn,(aP xeCn).2,xbCn,xsCn⟩,⟨xtCt,(aP xeCt).2,xbCt,xnCfCt⟩,⟨xtCm,(aP xeCm).2,xbCm,xnCfCm⟩,⟨xtCn,(aP xeCn).2,xbCn,xnCfCn⟩,⟨xtCf,(aP xeCf).2,xbCf,xsCf⟩,Bf X G z0,Bf X G z1,Bf X G z2,Bf X G z3,Bf X G z4,Bf X G z5,Bf X G z6,Bf X G z7,Bf X G z8⟩;have U:HxD K mg D:=⟨⟨pgD,hdD,poD,saD⟩,nH,mg_of X G aD⟩;have Z:Dz mg:=⟨⟨_,mg_of X G y3⟩,⟨_,mg_of X G y4⟩⟩;have Y:Dy mg:=⟨⟨_,mg_of X G y5⟩,Bf X G z10,Bf X G z8⟩;have T1:Txt mg:=⟨Bf X G z1⟩;have F:=aW6 (st:=aKw) l1 c kk;refine ⟨fnOf "law" "law" (aqj aKw) (aQ aKw) (ai aKw) .none kV dc pm an cd ct,fun s v=>.of_eq rfl,fun base _ _=>?_⟩;have N:=@dn l.prog w K mg base h X G;obtain ⟨_,_,oI,bI,mI⟩:=mx (P:=l.prog) (w:=w) (mg:=mg) (base:=base) e0 (fun F=>aqb0 F T) (fun _ _ _ _ _ _=>aqhr fun _=>rfl);obtain ⟨_,_,oS,bS,mS⟩:=mx (P:=l.prog) (w:=w) (mg:=mg) (base:=base) e1 (fun F=>aWh F T) (fun _ _ _ _ _ _=>aqhq fun _ _=>rfl);obtain ⟨_,_,oL,bL,mL⟩:=mx (P:=l.prog) (w:=w) (mg:=mg) (base:=base) e5 (fun F=>aqde F T) (fun _ _ _ _ _ _=>len3 fun _ _ _=>rfl);obtain ⟨_,_,oM,bM,mM⟩:=mx (P:=l.prog) (w:=w) (mg:=mg) (base:=base) e6 (fun F=>aqax F T) (fun _ _ _ _ _ _=>aqhq fun _ _=>rfl);obtain ⟨_,_,oO,bO,mO⟩:=mx (P:=l.prog) (w:=w) (mg:=mg) (base:=base) e7 (fun F=>aJc F T) (fun _ _ _ _ _ _=>aqhq fun _ _=>rfl);obtain ⟨_,_,oN,bN,mN⟩:=mx (P:=l.prog) (w:=w) (mg:=mg) (base:=base) e8 (fun F=>aWi F T) (fun _ _ _ _ _ _=>aqhr fun _=>rfl);obtain ⟨_,_,oC,bC,mC⟩:=mx (P:=l.prog) (w:=w) (mg:=mg) (base:=base) e3 (fun F=>aqb2 F T oM bM mM oL bL mL) (fun _ _ _ _ _ _=>len3 fun _ _ _=>rfl);obtain ⟨_,_,oF,bF,mF⟩:=mx (P:=l.prog) (w:=w) (mg:=mg) (base:=base) e4 (fun F=>aqaz F T oM bM mM oL bL mL) (fun _ _ _ _ _ _=>len3 fun _ _ _=>rfl);have Gt:=N d0 (fun F=>aqau F T) (fun _ _ _ _ _ _=>aqhr fun _=>rfl);obtain ⟨_,_,oH,bH,mH⟩:=mx (P:=l.prog) (w:=w) (mg:=mg) (base:=base) e2 (fun F=>aqb1 F T Gt) (fun _ _ _ _ _ _=>aqhr fun _=>rfl);have Gin:=N d4 (fun F=>aZb F T Z) (fun _ _ _ _ _ _=>aqhr fun _=>rfl);have Gan:=N d3 (fun F=>awi F T (Bf X G z9) Gin) (fun _ _ _ _ _ _=>aqhr fun _=>rfl);have Gib:=N d5 (fun F=>aWk F T Y) (fun _ _ _ _ _ _=>aqhr fun _=>rfl);have Gir:=N d2 (fun F=>aWj F T Gin Gan Gib) (fun _ _ _ _ _ _=>aqhq fun _ _=>rfl);have Gw:=N d1 (fun F=>aWg F (Bf X G z11) (Bf X G z10) Gir) (fun _ _ _ _ _ _=>aqhr fun _=>rfl);obtain ⟨_,_,oJ,bJ,mJ⟩:=mx (P:=l.prog) (w:=w) (mg:=mg) (base:=base) e9 (fun F=>aWm F T U ⟨mkC,mI.at_,mI.fn,kcC⟩ oI bI) (fun _ _ _ _ _ _=>aqhr fun _=>rfl);obtain ⟨_,_,oT,bT,mT⟩:=mx (P:=l.prog) (w:=w) (mg:=mg) (base:=base) e12 (fun F=>aWn F T U (Bf X G z10) oH bH mH oO bO mO) (fun _ _ _ _ _ _=>aqhr fun _=>rfl);obtain ⟨_,_,oB,bB,mB⟩:=mx (P:=l.prog) (w:=w) (mg:=mg) (base:=base) e11 (fun F=>aqaw F T U oS bS mS oC bC mC oF bF mF) (fun _ _ _ _ _ _=>aqhq fun _ _=>rfl);obtain ⟨_,_,oY,bY,mY⟩:=mx (P:=l.prog) (w:=w) (mg:=mg) (base:=base) e10 (fun F=>aqdd F T U Gw oN bN mN oT bT mT oB bB mB) (fun _ _ _ _ _ _=>aqhq fun _ _=>rfl);have Gc:=N d6 (fun F=>avz F T1) (fun _ _ _ _ _ _=>aqhq fun _ _=>rfl);have Gn:=N d7 (fun F=>az3 F T1 T.zr Gc) (fun _ _ _ _ _ _=>len3 fun _ _ _=>rfl);have Gm:=N d8 (fun F=>avy F T1) (fun _ _ _ _ _ _=>aqhr fun _=>rfl);have Gso:=N d9 (fun F=>aqav F T) (fun _ _ _ _ _ _=>aqhq fun _ _=>rfl);have Gu:=N d10 (fun F=>aqdg F T) (fun _ _ _ _ _ _=>len5 fun _ _ _ _ _=>rfl);have Gy:=N d11 (fun F=>aqay F T U oY bY mY) (fun _ _ _ _ _ _=>aqhq fun _ _=>rfl);have Gsp:=N d12 (fun F=>aZa F (Bf X G z10)) (fun _ _ _ _ _ _=>aqhr fun _=>rfl);have Gh:=N d13 (fun F=>aWl F T Gsp) (fun _ _ _ _ _ _=>aqhq fun _ _=>rfl);have Gto:=N d14 (fun F=>aqat F T Gy Gsp Gh Gu) (fun _ _ _ _ _ _=>len6 fun _ _ _ _ _ _=>rfl);exact aqdf F T U Gn Gc Gso Gm Gto ⟨mkD,mJ.at_,mJ.fn,kcD⟩ oJ bJ
theorem walk {l:Ge} {qq:Af} {loose:List Str} {XP:(Str->Option Value)->Heap->Prop} {YP:World->Heap->Prop} {d:DefRec} {K:Params->Frag} (hlaw:∀ ns:List Int,ns.length <= 63->aYm [.lst (ns.map .int)]=some (.bl true)) (hn:l.most=some 63) (hdf:d.params.defaults=[])
  (hY:∀ (w:World) (h:Heap),YP w h->(K w.params).In h)
  (F:∀ (w:World) (mg:Str->Option Value) (fa:Addr) (h:Heap),(K w.params).In h->h.Ns Ak mg->mg d.name=some (.ref fa) ->
   ∃ fd:Am,(∀ (s:Shared) (u:Value),Hs s fd ⟨[u],[]⟩ [("script",u)])/\∀ base:Heap,(K w.params).In base->base.Ns Ak mg->FnOk l.prog w (K w.params) mg base CX0 9 fa fd ["script"] (spD (K w.params) 1 aYm)) :
  K2 qq loose XP YP l.row.toRowW d [] (fun f vs=>PySem.call f vs) :=
 DL.aZ5 (n:=63) (k:=9) (x:="script") (CX:=fun _=>CX0) (sp:=fun w=>spD (K w.params) 1 aYm) hn (by decide) hdf ⟨rfl,by decide,by decide⟩ hY F (fun _ _ a ns hl hS=>aqdp (hlaw ns hl) hS) fun _ _ _ _ _ z=>z
end L_k67
namespace PySem.W.Fast
theorem tw159196209031751386:True:=⟨⟩
theorem tw9149702389524025047:True:=⟨⟩
theorem tw7392931949447278049:True:=⟨⟩
theorem tw13704475203678743321:True:=⟨⟩
theorem tw17521147351208627794:True:=⟨⟩
theorem tw5007694000324733470:True:=⟨⟩
theorem tw4616368359063679737:True:=⟨⟩
theorem tw16118187429350628944:True:=⟨⟩
theorem tw12727765787559330201:True:=⟨⟩
theorem tw8479583973431407668:True:=⟨⟩
theorem tw17025919196263082755:True:=⟨⟩
theorem tw13156308915175234220:True:=⟨⟩
theorem tw2669348554196915493:True:=⟨⟩
theorem tw10173261565208094652:True:=⟨⟩
theorem tw13048087377201181870:True:=⟨⟩
theorem tw3374881221162650596:True:=⟨⟩
theorem tw13001663134092247077:True:=⟨⟩
theorem tw2621732918730956649:True:=⟨⟩
theorem tw12293087910664780867:True:=⟨⟩
theorem tw7335835678504053751:True:=⟨⟩
theorem tw1551408845780915854:True:=⟨⟩
theorem tw6444460401068464073:True:=⟨⟩
theorem tw8099886442296985394:True:=⟨⟩
theorem tw1882835483590329539:True:=⟨⟩
theorem tw14483937733284399491:True:=⟨⟩
theorem tw8935034660041321949:True:=⟨⟩
theorem tw9064373879960227921:True:=⟨⟩
theorem tw14829449830139863311:True:=⟨⟩
theorem tw2595778757440429088:True:=⟨⟩
theorem tw15827189410724049642:True:=⟨⟩
theorem tw5928775857043080841:True:=⟨⟩
theorem tw9931792988892042940:True:=⟨⟩
theorem tw13989119545546394387:True:=⟨⟩
theorem tw13872248205382871011:True:=⟨⟩
theorem tw6624961738155366427:True:=⟨⟩
theorem tw16633289612283913046:True:=⟨⟩
theorem tw14953695250414755981:True:=⟨⟩
theorem tw2726311273394889823:True:=⟨⟩
theorem tw8233288150584389977:True:=⟨⟩
theorem tw16810308910581460325:True:=⟨⟩
theorem tw15011205480077944353:True:=⟨⟩
theorem tw1888208473411119531:True:=⟨⟩
theorem tw6850753076605328998:True:=⟨⟩
theorem tw17122561199952517215:True:=⟨⟩
theorem tw15057506981537382641:True:=⟨⟩
theorem tw12183709252887652223:True:=⟨⟩
theorem tw5467618323382235676:True:=⟨⟩
theorem tw9768294383127183774:True:=⟨⟩
theorem tw7366983424286145867:True:=⟨⟩
theorem tw5885486956416696000:True:=⟨⟩
theorem tw5812952237588191319:True:=⟨⟩
theorem tw14156595445258097472:True:=⟨⟩
theorem tw13341786554578380276:True:=⟨⟩
theorem tw18088630862537747777:True:=⟨⟩
theorem tw13087310423991065930:True:=⟨⟩
theorem tw7361668299649422018:True:=⟨⟩
theorem tw4124935253413028261:True:=⟨⟩
theorem tw10642934121192328702:True:=⟨⟩
theorem tw6366869188937780202:True:=⟨⟩
theorem tw15001584195054697980:True:=⟨⟩
theorem tw5161163294337995503:True:=⟨⟩
theorem tw6524123583985853250:True:=⟨⟩
theorem tw9974165586882828098:True:=⟨⟩
theorem tw5799976531911408386:True:=⟨⟩
theorem tw2446561607882682599:True:=⟨⟩
theorem tw16597644235270858141:True:=⟨⟩
theorem tw5546276951774492952:True:=⟨⟩
theorem tw16007910166377521789:True:=⟨⟩
theorem tw7763460460861568730:True:=⟨⟩
theorem tw17212558466972782268:True:=⟨⟩
theorem tw9792375406227132879:True:=⟨⟩
theorem tw12012829735591755669:True:=⟨⟩
theorem tw476171572607324764:True:=⟨⟩
theorem tw3313432189761686676:True:=⟨⟩
theorem tw638584987923179940:True:=⟨⟩
theorem tw4977511573994329056:True:=⟨⟩
theorem tw17996858589422021458:True:=⟨⟩
theorem tw1149180234233831103:True:=⟨⟩
theorem tw14868133158904609841:True:=⟨⟩
theorem tw4024384740702536982:True:=⟨⟩
theorem tw17986198030232755106:True:=⟨⟩
theorem tw16978136183354497375:True:=⟨⟩
theorem tw10814807478954480627:True:=⟨⟩
theorem tw5557437745141920719:True:=⟨⟩
theorem tw4973846078411419315:True:=⟨⟩
theorem tw16136107376843058443:True:=⟨⟩
theorem tw13007205135019738093:True:=⟨⟩
theorem tw6953806153766332561:True:=⟨⟩
theorem tw7474823038825832681:True:=⟨⟩
theorem tw17042116044433829348:True:=⟨⟩
theorem tw7067172967882107751:True:=⟨⟩
theorem tw11555107125920713285:True:=⟨⟩
theorem tw695601857352390464:True:=⟨⟩
theorem tw18261983509236663360:True:=⟨⟩
theorem tw13617848815126106065:True:=⟨⟩
theorem tw7071243124171754954:True:=⟨⟩
theorem tw16007430166584650826:True:=⟨⟩
theorem tw1666103809076151390:True:=⟨⟩
theorem tw3615994248465117731:True:=⟨⟩
theorem tw5839558802623386796:True:=⟨⟩
theorem tw10163749976403691249:True:=⟨⟩
theorem tw17141311001256653766:True:=⟨⟩
theorem tw12913881376610518535:True:=⟨⟩
theorem tw6071250781852033312:True:=⟨⟩
theorem tw1023994860007884564:True:=⟨⟩
theorem tw9020871566002289388:True:=⟨⟩
theorem tw841169472256619222:True:=⟨⟩
theorem tw13329160134314681079:True:=⟨⟩
theorem tw9749909839474203094:True:=⟨⟩
theorem tw16885323073928824192:True:=⟨⟩
theorem tw1113133561009321242:True:=⟨⟩
theorem tw7434900337261876111:True:=⟨⟩
theorem tw17761929164160434128:True:=⟨⟩
theorem tw769321406899220894:True:=⟨⟩
theorem tw11450489645271433820:True:=⟨⟩
theorem tw1784405852430005067:True:=⟨⟩
theorem tw5813655944009382547:True:=⟨⟩
theorem tw406609613672760890:True:=⟨⟩
theorem tw9839577733884372249:True:=⟨⟩
theorem tw8476517495951426524:True:=⟨⟩
end PySem.W.Fast
open PySem PySem.W PyProof.Rows
set_option maxRecDepth 100000 in
set_option maxHeartbeats 0 in
theorem PySem.Challenge.cw_pursebench_k67_rows_answered_holds : PySem.Challenge.rw_pursebench_k67_rows_answered.Holds := by
 w_on; o_law; k_head; (case hw=>w_witness2)
 k_fill
 refine L_k67.walk (l:=PySem.Challenge.rw_pursebench_k67_rows_answered) L_k67.law_true rfl rfl (fun w h Y=>PySem.W.kIn_of Y) ?F
 case F =>
  intro w mg fa h KX G hmg
  refine' L_k67.all_mk KX G hmg ?_ ?_ ?_ ?_ ?_ ?_ ?_ ?_ ?_ ?_ ?_ ?_ ?_ ?_ ?_ ?_ ?_ ?_ ?_ ?_ ?_ ?_ ?_ ?_ ?_ ?_ ?_ ?_ ?_ ?_ ?_ ?_ ?_ ?_ ?_ ?_ ?_ ?_ ?_ ?_ ?_ ?_ ?_ ?_ ?_ ?_ ?_ ?_ ?_ ?_ ?_ ?_ ?_ ?_ ?_ ?_ ?_ ?_ ?_ ?_ ?_ ?_ ?_ ?_ ?_ ?_ ?_ ?_ ?_ ?_ ?_ ?_ ?_ ?_ ?_ ?_ ?_ ?_ ?_ ?_ ?_ ?_ ?_ ?_ ?_ ?_ ?_ ?_ ?_ ?_
  all_goals first | (refine' L_k67.dm ?a ?l ?c ?k; (case a=>k_is); (case l=>k_is); (case c=>k_is); (case k=>k_is)) | (refine' L_k67.dx ?a ?i ?l ?c ?k; (case a=>k_is); (case i=>k_is); (case l=>k_is); (case c=>k_is); (case k=>k_is)) | k_is | k_exc | kit_is | skip
