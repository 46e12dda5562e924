import PyProof.Rows.All
import Wide.All
import OpenK.AllK
import Wide.FinOn
import PyProof.EqAt
import PyProof.EqKinds
import PyProof.TupleCall
import KE.KDictSum
import KE.KRevIter
import KE.KEqDict
import PySem.Challenge.RW_pursebench_k62_benches_by_names
set_option Elab.async false
set_option linter.all false
local macro_rules | `(tactic| o_shape)=>`(tactic| first | exact Or.inl rfl | exact Or.inr rfl)
local macro_rules | `(tactic| o_reads)=>`(tactic| exact ⟨rfl,rfl,by repeat' (first | exact True.intro | rfl | o_shape | refine ⟨?_,?_⟩),by decide,rfl,by decide⟩)
set_option bootstrap.genMatcherCode false
set_option genSizeOf false
set_option genSizeOfSpec false
open PySem renaming wpAny_bind→Ac, wpAny_pure→Ad, sizeLine→Aj, Program→Ak, FuncData→Am, sizeLine_eq→Ao, starEach→Ap, mainGlobals→Aq, wpAny_ite_split→As, wpAny_call_entry→Ax, bootBuiltins→A6, wpAny_newObj_type→A8, wpAny_holding→Ba, wpAny_dictEntries→Bh, sysModules→Bi, wpAny_mono→Bj, wpAny_callSpecial?_slot→Bl, compareOp→Bm, codeAny_builtin→Bn, wpAny_setState_of→Bx, assignEach→B6, rawInt→B7, wpAny_Call_Name_kw→B9, foldedSetIterable→Cd, wpAny_setField→Ce, wpAny_askSetting→Ch, tupleKind_room_in1→Cj, wpAny_typeNameOfWhole_itemiter→Ck, intKind→Cm, codeAny_mono→Cn, wpAny_typeNameOfWhole_keyiter→Cp, relabel→Cq, behindInMarks→Cy, plainId_quiet→Cz, backTo→C1, wpAny_fieldsOf→C3, wpAny_passesOwn→De, wpAny_dictEpoch→Df, binaryOp→Dg, wpAny_field→Dk, wpAny_rule→Dm, codeAny→Dp, mem_of_lookup→Dq, wpAny_setEntries_of→Dr, pyNext→Dt, wpAny_isInstance→Dv, IsItemIter→Eb, wpAny_setField_rec→Ec, attributeBase→Ee, wpAny_attempt→Eg, builtinLookup_eq_fast→Ej, wpAny_notOrdered_dict→Ek, wpAny_truthy_bool→El, wpAny_pyIter_slot→En, firstArgMember→Ew, wpAny_eqBool_int→Ez, scanBound→E2, tupleKind→Fc, wpAny_newTuple→Fm, wpAny_Call_method→Fp, wpAny_isOneOf_itemiter→Fr, wpAny_load→Fy, IsPair→Ga, wpAny_newList→Gi, wpAny_execs_nil→Gp, letOwnedTupleGo→Gq, typeLookup_type→Gw, wpAny_specialOf→Gx, wpAny_updateSeq→Gy, callerA→G7, wpAny_richCompare_same_room→G9, swapsWith→Hc, bindArgs→Hg, wpAny_runValue→Hj, isSubtype_type→Hl, wpAny_missedRemoval_other→Ht, wpAny_pyIter_list→Hw, BindsTo→Ia, keywordEach→Ib, unsupported→Ig, assign→Il, wpAny_comprehension_free→Io, holding→I0, setsByText→Jd, wpAny_nextOf_list_item→Jg, wpAny_isTrue_Compare1→Jv, wpAny_isOneOf_keyiter→Jy, pyIter→J2, subscripted→J4, ZipApart→J5, relayAll→J7, wpAny_of_eq→J8, entryFor_alias→J9, wpAny_letGo→Kg, Keyword→Kl, valueAt→Ko, wpAny_standAt→Ku, wpAny_handled→Kz, IsItemIterOut→K3, builtinsNs→K5, typeLookup→K7, typeIs_str→K8, closureFor→K9, backToKw→Ln, getItem→Lo, seqIndex_neg→Lp, wpAny_typeOf→Ls, collect→Lt, getMethod→L1, Result→L3, cellsFrom→L4, updateSeq→L6, Fin→Ma, seqIndex_of→Mb, wpAny_throw→Mc, loadIfAlive→Me, standAt→Mg, newList→Mh, ElemsOf→Mi, GenState→Ml, isTrue→Mm, ReadsAll→Mn, compEnvC→Mo, entryFor→Mp, newExc→Mq, raiseNew→Mr, setField→Mt
open PySem.Heap renaming get?_push_of_some→Ae, lt_size→Af, get?_push_size→Ag, get?_update_other→Au, get?_update_self→Bf, size_push→By, size_update→Ci, get?_push_ne→Ep
open List renaming mem_map→Ah, getElem?_eq_some_iff→Ai, mem_cons→Al, range→Ar, filter_eq_self→Av, mem_filter→Ay, mem_range→A0, pairwise_iff_getElem→Bu, length_eq_zero_iff→Ca, length_eq_one_iff→Cf, replicate→C2, getElem?_append_left→C9, drop_eq_getElem_cons→Dc, mem_append→Dd, lookup→Dh, mem_filterMap→D0, take_of_length_le→D6, mem_singleton→D9, mem_append_left→Es, pairwise_cons→Fb, eraseIdx_cons_succ→Ff, pairwise_lt_range→Fk, all_eq_true→F9, nodup_cons→Gs, mem_zipIdx_iff_getElem?→G0, replicate_succ→G2, length_pos_iff→G4, idxOf_lt_length_of_mem→G8, getElem?_append_right→Hh, length_eraseIdx_of_lt→Hk, zip_cons_cons→Hn, filter_filter→Ho, find?_eq_none→Hq, getElem?_eq_none_iff→Hr, ext_getElem?→Ic, append_assoc→If, nodup_append→Ih, filter_congr→Ik, nodup_range→Iu, nil_append→Ju, getElem?_eq_none→Jx, singleton_append→J1, getElem?_of_mem→J6, perm_cons_erase→Ka, mem_erase_of_ne→Kb, getElem?_take→Lb, getElem_idxOf→Lf, range_sublist→Lk
open Bool renaming false_ne_true→An, false_eq_true→Aw, eq_iff_iff→A5, and_eq_true→C0, or_eq_true→Jp, or_false→Kw
open False renaming elim→Az
open PySem.W renaming findIn→A7, mg_none_of→Bo, emptyDict→Bw, instObj→Cr, kas_asc→Dj, kia_one→Ed, mroIn→Ef, plainGet→E1, kas_place→Fg, hasDictIn→Fh, kas_desc→Gm, keepIn→Gr, OpenLaw→Gv, plainGet_of→G1, isFn→G6, lookIn→Hf, kas_sort→Hm, methodObj→Hv, plainOver→Hy, specialIn→Hz, cellsFrom_some→Jb, takerIn→Jl, makesIn→Jm, methodCall_KW→Jw, typeIn→J3, kas_bin→Km, callWith_K0→Kp, WalkO→Kx, clsIn→K1, callWith_K→K6, kas_descPart→Lx, codeIn→L5, kas_tail3→L8, kas_count→L9, kas_rev→Mj
open Int renaming toNat_natCast→A9, natAbs_natCast→Bb, emod_lt_of_pos→Bk, emod_nonneg→Bt, gcd→Ds, eq_ofNat_of_zero_le→Dy, fmod_eq_emod_of_nonneg→Et, le_trans→Fi, natAbs_mul→Fo, mul_nonneg→Fs, mul_le_mul_of_nonneg_right→Gd, mul_pos→Go, fdiv_eq_ediv_of_nonneg→He, fdiv_eq_ediv_of_dvd→Iz, le_refl→Kk, ediv_mul_cancel→Ks, lt_of_le_of_lt→Li
open PySem.Around renaming under_plainId→Bc, under→Ll
open PySem.PassesOwn renaming never→Be
open PySem.Obj renaming mapSeq→Bg, mapFields→Co, data_mapFields→Ea, isFreed_of_fields→Fv, data_mapDictKeys→Ki
open PyProof.Rows renaming callWith_type1→Bp, seqObj→Bq, firstMet→C7, listUpdate_at→Gj, entry_proto_collect'→Gk, lt_int→G3, AllBare→G5, room_in_shaped→Hi, entry_list_iadd'→Is, envOfC→Ja, subscriptTail_builtinR→Jc, size_push'→Je, sortedHeap→Jf, entry_list_sort→Jq, get?_update_seq→Jr, slot_list_sort→Kc, args_list_sort→Kd, sortedHeap_old→Ke, seqEpoch_at→Kf, subscriptTail→Kv, firstMet_succ→Ky, sortedHeap_at→K0, plain_sorted→Lu, entry_sorted→Lv, args_sorted1→Lw, listItems_at→Ly, general'→Lz, kind_sorted→Md, SortKind→Ms
open PySem.F renaming plainAttrs_list→Br, plain_extend_loop→Bv, slot_dict_itemiterator_next→Bz, slot_list_append→B0, type_list_append→B3, plain_list_iadd→Cb, slot_dict_keyiterator_next→C5, plainAttrs_dict→Dw, called_set→D8, plain_proto_collect→Eo, slot_dict_itemiterator_iter→E9, slot_dict_get→Fw, slot_dict_pop→Fx, slot_dict_items_iter→Gz, args_dict_get_3→Iw, slot_dict_items→Iy, entry_dict_get→Jh, slot_dict_iter→Ji, slot_tuple_lt→Js, type_dict_pop→Jz, slot_dict_len→J0, slot_dict_ne→Kj, entry_extend_loop→Kr
open Ne renaming symm→B4
open PySem.Builtin.Dict_items renaming ownsTuple→B5, pairFromOwner→Dl, ownedTupleIsFree→E8, ownedTupleFields→Fa
open PySem.Calls renaming spliced_cons→B8, callWith_builtin→Ct, call_function_entry→Db, spliced_nil→Di, evalArgs_plain→Eu, Name_function_global→Hd
open PySem.Builtin.List renaming listExtendWith→Cc, listLengthHint→Cv, listSameRef→Do, listTooLong→E6
open PySem.Heap.SameBut renaming update→Cg
open Rat renaming mul_le_mul_of_nonneg_right→Cl, normalize_eq_mkRat→Cw, div_mul_cancel→C6, mul_le_mul_of_nonneg_left→Dz, mul_assoc→Eh, le_of_mul_le_mul_right→Ey, le_of_lt→Fu, le_trans→Hb, mul_comm→Jk, mul_div_cancel→Lj, le_refl→Mf
open PySem.Str renaming ofString→Cu
open Array renaming perm_iff_toList_perm→C4, getElem?_eq_getElem→Da, getD_eq_getD_getElem?→Em, map→Kn, append_assoc→K4, forIn_toList→Le
open PySem.Builtin.Dict renaming showsAll→C8, dictSlotArgs→Hu, samePairs→Jj, takeOut→Kh
open PySem.SetTable renaming grown→Du
open PySem.SeqAt renaming canLay_of_shaped→D5
open Option renaming map_eq_some_iff→D7, isSome_iff_exists→Im, isNone_some→Lg, isNone_none→Lh
open Function renaming comp→Ei, comp_def→Ii
open Nat renaming mul_lt_mul_of_pos_right→Er, mul_le_mul_right→Ex, gcd→Ij, le_max_right→Iq, le_mul_of_pos_right→Iv, le_max_left→Jn, div_le_self→Jt, mul_le_mul_left→Kt, le_of_dvd→K2, not_lt→La, pos_of_ne_zero→Lc, mul_comm→L0
open PySem.PyData renaming canLay0→Ev, eqv→Fz, eqvAll→Ge, canLayAll0→Ie, depthAll→Jo
open List.Sublist renaming map→E3
open PySem.Builtin.SmallTypes renaming nextOf→E4, ownedTupleIsFree→E7
open Classical renaming byContradiction→E5
open PyProof.Rows.F renaming plain_set_update_loop→Fe, entry_set_update_loop→Ir
open PySem.SetTable.below renaming go→Fj
open PySem.Shared renaming TypeIs→Gg
open PySem.Builtin.Str renaming strSliceIndices→Ha, occurrences→Ix
open PySem.SetTable.Slot renaming noConfusion→Hs
open List.Perm renaming eq_of_pairwise→Ip
open PySem.Builtin.Int renaming intBits→Kq
open PySem.W.KasT renaming kasWp→Ld, bind→L7
open PySem.Code renaming isFrame→Lm
open Iff renaming rfl→Lq
open PySem.pickOrder renaming go→Lr
open List (any_cons any_eq_true append_nil drop_of_length_le ext_getElem filterMap_cons filter_cons filter_cons_of_neg filter_cons_of_pos filter_map filter_sublist find?_cons forIn_cons getD_eq_getElem?_getD getElem?_eq_getElem getElem?_map getElem?_set_ne getElem?_set_self getElem_inj getElem_map getElem_mem getElem_of_mem length_append length_cons length_filter_le length_map length_take mapM_cons map_append map_congr_left map_cons map_map map_nil mem_append_right mem_cons mem_cons_of_mem mem_cons_self mem_of_getElem? nodup_cons nodup_nil not_mem_nil of_mem_zip pairwise_cons pairwise_map size_toArray sum_cons take_length take_succ_eq_append_getElem)
open Option (isSome_map)
open Nat (le_of_lt le_refl le_succ le_trans lt_irrefl lt_of_le_of_lt lt_of_lt_of_le lt_succ_of_lt lt_succ_self lt_trans mod_lt mul_ne_zero mul_pos ne_of_gt ne_of_lt pow_add pow_le_pow_right zero_le)
open Array (getElem?_eq_none getElem?_toList length_toList)
open PySem.W (Frag codeIn fnOf keepIn mg_none_of mg_of nsIn)
set_option maxRecDepth 100000
namespace L2
open PySem PySem.Spec PyProof.Rows
abbrev Key:=Sum Int Str
def aqjz:Key->Value->Bool
 | .inl k,v=>Value.isInt k v
 | .inr x,v=>Value.isStrOf x v
def keyH (w:World):Key->Int
 | .inl k=>hashInt k
 | .inr x=>hashStr w x
theorem aU:∀ {k:Key} {v:Value},aqjz k v=true->(∃ i t,k=Sum.inl i/\v=Value.int i t) \/ (∃ x t,k=Sum.inr x/\v=Value.str x t)
 | .inl i,v,h=>by
  obtain ⟨t,e⟩:=Value.isInt_shape (k:=i) (v:=v) h;exact .inl ⟨i,t,rfl,e⟩
 | .inr x,v,h=>by
  obtain ⟨t,e⟩:=Value.isStrOf_shape (x:=x) (v:=v) h;exact .inr ⟨x,t,rfl,e⟩
theorem aqe7 (i:Int) (t:Tok):aqjz (.inl i) (.int i t)=true:=by simp [aqjz,Value.isInt]
theorem aqe6 (x:Str) (t:Tok):aqjz (.inr x) (.str x t)=true:=by simp [aqjz,Value.isStrOf]
theorem aqpa (a b:Int):decide ((Sum.inl a:Key)=Sum.inl b)=(a == b):=by
 by_cases e:a=b
 ·subst e; simp
 ·have h:¬ (Sum.inl a:Key)=Sum.inl b:=fun q=>e (Sum.inl.inj q)
  rw [decide_eq_false h];exact (beq_eq_false_iff_ne.mpr e).symm
theorem aqp7 (a b:Str):decide ((Sum.inr a:Key)=Sum.inr b)=decide (a=b):=by
 by_cases e:a=b
 ·subst e; simp
 ·have h:¬ (Sum.inr a:Key)=Sum.inr b:=fun q=>e (Sum.inr.inj q)
  rw [decide_eq_false h,decide_eq_false e]
theorem aqp9 (a:Int) (b:Str):decide ((Sum.inl a:Key)=Sum.inr b)=false:=decide_eq_false (fun q=>nomatch q)
theorem aqp8 (a:Str) (b:Int):decide ((Sum.inr a:Key)=Sum.inl b)=false:=decide_eq_false (fun q=>nomatch q)
def aqj (prog:Ak) (w:World):PySem.KeyKind prog w Key where
 is:=aqjz
 hash:=keyH w
 inj:=fun v a b ha hb=>by
  rcases aU ha with ⟨i,t,rfl,rfl⟩ | ⟨x,t,rfl,rfl⟩
  ·rcases aU hb with ⟨j,u,rfl,e⟩ | ⟨y,u,rfl,e⟩
   ·injection e with e1 _; rw [e1]
   ·exact nomatch e
  ·rcases aU hb with ⟨j,u,rfl,e⟩ | ⟨y,u,rfl,e⟩
   ·exact nomatch e
   ·injection e with e1 _; rw [e1]
 byValue:=fun k v h=>by
  rcases aU h with ⟨i,t,rfl,rfl⟩ | ⟨x,t,rfl,rfl⟩ <;> rfl
 pyHash:=fun hv h=>by
  rcases aU hv with ⟨i,t,rfl,rfl⟩ | ⟨x,t,rfl,rfl⟩
  ·exact wpAny_pyHash_int h
  ·exact wpAny_pyHash_str h
 eqBool:=fun hu hv h=>by
  rcases aU hu with ⟨i,t,rfl,rfl⟩ | ⟨x,t,rfl,rfl⟩
  ·rcases aU hv with ⟨j,u,rfl,rfl⟩ | ⟨y,u,rfl,rfl⟩
   ·rw [aqpa] at h; exact Ez h
   ·rw [aqp9] at h; exact SeqAt.EqAt.int_str i t y u _ _ _ _ h
  ·rcases aU hv with ⟨j,u,rfl,rfl⟩ | ⟨y,u,rfl,rfl⟩
   ·rw [aqp8] at h; exact SeqAt.EqAt.str_int x t j u _ _ _ _ h
   ·rw [aqp7] at h; exact wpAny_eqBool_str h
 «strs»:=fun k x t v h=>by
  rcases aU h with ⟨i,u,rfl,e⟩ | ⟨y,u,rfl,e⟩
  ·exact nomatch e
  ·injection e with e1 _
   subst e1;cases v <;> rfl
theorem aWk (prog:Ak) (w:World) (i:Int) (t:Tok):(aqj prog w).is (.inl i) (.int i t)=true:=aqe7 i t
theorem aWj (prog:Ak) (w:World) (x:Str) (t:Tok):(aqj prog w).is (.inr x) (.str x t)=true:=aqe6 x t
inductive V where
 | non | bl (b:Bool) | int (i:Int) | str (x:Str) | byt (b:Array UInt8) | flt (b:UInt64) | ref (a:Addr) | ty (n:String)
 deriving DecidableEq
def RelV:V->Value->Prop
 | .non,u=>u=Value.none
 | .bl b,u=>u=Value.bool b
 | .int i,u=>∃ t,u=Value.int i t
 | .str x,u=>∃ t,u=Value.str x t
 | .byt b,u=>∃ t,u=Value.bytes b t
 | .flt b,u=>∃ t,u=Value.float b t
 | .ref a,u=>u=Value.ref a
 | .ty n,u=>u=Value.type n
abbrev aqu8:List V->List Value->Prop:=Paired RelV
theorem aqu8.length {xs:List V} {us:List Value} (r:aqu8 xs us):xs.length=us.length:=Paired.length r
theorem aqu8.get:∀ {xs:List V} {us:List Value} {i:Nat} {x:V},aqu8 xs us->xs[i]?=some x->∃ u,us[i]?=some u/\RelV x u
 | _,_,_,_,.nil,e=>by simp at e
 | _,_,0,_,.cons r _,e=>by simp at e; subst e; exact ⟨_,rfl,r⟩
 | _,_,i + 1,x,.cons _ t,e=>by
  obtain ⟨u,h1,h2⟩:=aqu8.get (i:=i) (x:=x) t (by simpa using e);exact ⟨u,by simpa using h1,h2⟩
theorem aqu8.set {x:V} {u:Value} (r:RelV x u):∀ {xs:List V} {us:List Value} (i:Nat),aqu8 xs us->aqu8 (xs.set i x) (us.set i u)
 | _,_,_,.nil=>.nil
 | _,_,0,.cons _ t=>.cons r t
 | _,_,i + 1,.cons q t=>.cons q (aqu8.set r i t)
theorem aqu8.append:∀ {xs ys:List V} {us ws:List Value},aqu8 xs us->aqu8 ys ws->aqu8 (xs++ys) (us++ws)
 | _,_,_,_,.nil,s=>s
 | _,_,_,_,.cons r t,s=>.cons r (aqu8.append t s)
theorem aqu8.take:∀ {xs:List V} {us:List Value} (n:Nat),aqu8 xs us->aqu8 (xs.take n) (us.take n)
 | _,_,0,_=>.nil
 | _,_,_ + 1,.nil=>.nil
 | _,_,n + 1,.cons r t=>.cons r (aqu8.take n t)
theorem aqu8.drop:∀ {xs:List V} {us:List Value} (n:Nat),aqu8 xs us->aqu8 (xs.drop n) (us.drop n)
 | _,_,0,r=>r
 | _,_,_ + 1,.nil=>.nil
 | _,_,n + 1,.cons _ t=>aqu8.drop n t
theorem aqu8.none_of:∀ {xs:List V} {us:List Value} {i:Nat},aqu8 xs us->xs[i]?=none->us[i]?=none:=fun {xs us i} r e=>by
 have h1:=r.length;have h2:xs.length <= i:=Hr.mp e;exact Hr.mpr (by omega)
def aqub:Option V->Option Value->Prop
 | some v,some u=>RelV v u
 | none,none=>True
 | _,_=>False
def KV {κ:Type}:List (κ × V)->List (κ × Value)->Prop:=Paired fun (p:κ × V) (q:κ × Value)=>p.1=q.1/\RelV p.2 q.2
def kV:Key->V
 | .inl i=>.int i
 | .inr x=>.str x
inductive HO where
 | lst (xs:List V)
 | tup (xs:List V)
 | dK (kvs:List (Key × V)) | dT (kvs:List (List Key × V))
 | set (S:Int->Bool) (n:Nat)
 | ins (C dx:Addr) (fs:List (Str × V))
 | own (x:Addr)
 | xd (fs:List (Str × V))
 | met (f x:Addr)
 | rng (lo hi:Int)
 | frz (o:Obj) (u:HO)
 | tbl (ps:Array Value)
 | ext (φ:Heap->Prop)
abbrev Hp:=Addr->Option HO
def upd (H:Hp) (a:Addr) (o:HO):Hp:=fun b=>if b=a then some o else H b
theorem aa {H:Hp} {a:Addr} {o:HO}:upd H a o a=some o:=by unfold upd; rw [if_pos rfl]
theorem ae {H:Hp} {a b:Addr} {o:HO} (h:b ≠ a):upd H a o b=H b:=by unfold upd; rw [if_neg h]
theorem aW7 {H:Hp} {a:Addr} {o u:HO}:upd (upd H a o) a u=upd H a u:=by
 funext b; unfold upd; split <;> rfl
theorem azh {H:Hp} {a b:Addr} {o u:HO} (h:H a=some o) (h':H b=some u) (d:o ≠ u):a ≠ b:=by
 intro e; subst e; rw [h] at h'; exact d (Option.some.inj h')
theorem ac {H:Hp} {a b:Addr} {o:HO} (h:H a=some o) (h':H b=none):a ≠ b:=by
 intro e; subst e; rw [h] at h'; cases h'
section
variable (P:Ak) (w:World)
def azn (H:Hp) (h:Heap) (a:Addr):HO->Prop
 | .lst xs=>xs.length <= Aj/\∃ (its:List Value) (n:Nat),aqu8 xs its/\h.get? a=some { cls:=.type "list",data:=.seq its.toArray n }
 | .tup xs=>xs.length <= Aj/\∃ its:List Value,aqu8 xs its/\IsTup h a its.toArray
 | .dK kvs=>kvs.length <= Aj/\(a == Bi)=false/\∃ vs,KV kvs vs/\h.DictOf (aqj P w) a vs
 | .dT kvs=>kvs.length <= Aj/\(a == Bi)=false/\∃ xs:List (List Key × Addr × Value),
   Paired (fun (p:List Key × V) (q:List Key × Addr × Value)=>p.1=q.1/\H q.2.1=some (.tup (p.1.map kV))/\RelV p.2 q.2.2) kvs xs /\
   ∃ o es ep,h.get? a=some o/\o.ExactDict/\o.data=.dict es ep/\es.toList=xs.map (entryOfKey (Fc (aqj P w)))/\(xs.map (·.1)).Nodup
 | .set S n=>h.SetOf (Cm P w) a S n
 | .ins C dx fs=>H dx=some (.own a)/\fs.length <= 1000/\dx ≠ a/\h.get? a=some (Cr C dx) /\
   ∃ mA,h.Ns1 dx mA/\(∀ f,aqub (fs.lookup f) (mA f))/\PySem.Within mA (fs.map (·.1))
 | .own _=>∃ o,h.get? a=some o
 | .xd fs=>∃ mA,h.Ns1 a mA/\∀ f,aqub (fs.lookup f) (mA f)
 | .rng lo hi=>∃ t u v,h.get? a=some { cls:=.type "range",data:=.fields #[.int lo t,.int hi u,.int 1 v] }
 | .frz o u=>h.get? a=some o/\azn H h a u
 | .tbl ps=>h.get? a=some { cls:=.none,data:=.fields ps }
 | .met f x=>h.get? a=some (Hv (.ref f) (.ref x))
 | .ext φ=>φ h/\(∃ o,h.get? a=some o)/\∀ h1 h2:Heap,φ h1->(∀ o,h1.get? a=some o->h2.get? a=some o)->φ h2
def HOk (H:Hp) (h:Heap):Prop:=∀ a o,H a=some o->azn P w H h a o
end
section
variable {P:Ak} {w:World} {H H':Hp} {h h':Heap} {a:Addr} {o:HO}
theorem azn.lt (x:azn P w H h a o):a < h.objs.size:=by
 cases o with
 | lst xs=>obtain ⟨_,_,_,_,e⟩:=x; exact Af e
 | tup xs=>obtain ⟨_,_,_,p⟩:=x; exact p.lt
 | dK kvs=>obtain ⟨_,_,_,_,o,_,_,e,_⟩:=x; exact Af e
 | dT kvs=>obtain ⟨_,_,_,_,o,_,_,e,_⟩:=x; exact Af e
 | set S n=>obtain ⟨o,_,_,_,e,_⟩:=x; exact Af e
 | ins C dx fs=>obtain ⟨_,_,_,e,_⟩:=x; exact Af e
 | own y=>obtain ⟨_,e⟩:=x; exact Af e
 | xd fs=>obtain ⟨_,⟨_,_,_,e,_⟩,_⟩:=x; exact Af e
 | rng lo hi=>obtain ⟨_,_,_,e⟩:=x; exact Af e
 | frz ob u=>obtain ⟨e,_⟩:=x; exact Af e
 | tbl ps=>exact Af (show h.get? a=some _ from x)
 | met f y=>exact Af (show h.get? a=some _ from x)
 | ext φ=>obtain ⟨_,⟨_,e⟩,_⟩:=x; exact Af e
theorem Paired.mapP {α β:Type} {F G:α->β->Prop}:∀ {l₁:List α} {l₂:List β},Paired F l₁ l₂->(∀ a b,F a b->G a b)->Paired G l₁ l₂
 | _,_,.nil,_=>.nil
 | _,_,.cons r t,f=>.cons (f _ _ r) (Paired.mapP t f)
theorem azn.stay (x:azn P w H h a o) (k:∀ b u,(b=a \/ H b=some (.own a))->h.get? b=some u->h'.get? b=some u)
  (ho:∀ b,H b=some (.own a)->H' b=some (.own a)) (ht:∀ b xs,H b=some (.tup xs)->H' b=some (.tup xs)):azn P w H' h' a o:=by
 induction o with
 | lst xs=>obtain ⟨z,its,n,r,e⟩:=x; exact ⟨z,its,n,r,k _ _ (.inl rfl) e⟩
 | tup xs=>obtain ⟨z,its,r,ob,e,c⟩:=x; exact ⟨z,its,r,ob,k _ _ (.inl rfl) e,c⟩
 | dK kvs=>obtain ⟨z,y,vs,r,ob,es,ep,e,c⟩:=x; exact ⟨z,y,vs,r,ob,es,ep,k _ _ (.inl rfl) e,c⟩
 | dT kvs =>
  obtain ⟨z,y,xs,r,ob,es,ep,e,c⟩:=x;exact ⟨z,y,xs,Paired.mapP r fun p q z=>⟨z.1,ht _ _ z.2.1,z.2.2⟩,ob,es,ep,k _ _ (.inl rfl) e,c⟩
 | set S n=>obtain ⟨ob,es,ep,t,e,c⟩:=x; exact ⟨ob,es,ep,t,k _ _ (.inl rfl) e,c⟩
 | ins C dx fs =>
  obtain ⟨d,z,ne,e,mA,⟨od,es,ep,e2,c⟩,r⟩:=x;exact ⟨ho _ d,z,ne,k _ _ (.inl rfl) e,mA,⟨od,es,ep,k _ _ (.inr d) e2,c⟩,r⟩
 | own y=>obtain ⟨ob,e⟩:=x; exact ⟨ob,k _ _ (.inl rfl) e⟩
 | xd fs=>obtain ⟨mA,⟨od,es,ep,e,c⟩,r⟩:=x; exact ⟨mA,⟨od,es,ep,k _ _ (.inl rfl) e,c⟩,r⟩
 | rng lo hi=>obtain ⟨t,u,v,e⟩:=x; exact ⟨t,u,v,k _ _ (.inl rfl) e⟩
 | frz ob u ih=>obtain ⟨e,q⟩:=x; exact ⟨k _ _ (.inl rfl) e,ih q⟩
 | tbl ps =>
  have e:h.get? a=some { cls:=.none,data:=.fields ps }:=x;show h'.get? a=some { cls:=.none,data:=.fields ps };exact k a _ (.inl rfl) e
 | met f y =>
  have e:h.get? a=some (Hv (.ref f) (.ref y)):=x;show h'.get? a=some (Hv (.ref f) (.ref y));exact k a _ (.inl rfl) e
 | ext φ=>obtain ⟨p,⟨o,e⟩,st⟩:=x; exact ⟨st _ _ p fun o q=>k _ _ (.inl rfl) q,⟨o,k _ _ (.inl rfl) e⟩,st⟩
theorem HOk.lt (x:HOk P w H h) (e:H a=some o):a < h.objs.size:=(x a o e).lt
theorem HOk.fresh (x:HOk P w H h) (e:h.objs.size <= a):H a=none:=by
 cases q:H a with
 | none=>rfl
 | some u=>exact absurd (lt_of_lt_of_le (x.lt q) e) (lt_irrefl _)
theorem HOk.kept (x:HOk P w H h) (k:∀ b u,h.get? b=some u->h'.get? b=some u):HOk P w H h':=fun a o e =>
 (x a o e).stay (fun b u _ q=>k b u q) (fun _ q=>q) fun _ _ q=>q
theorem HOk.laid (x:HOk P w H h) (k:∀ b u,h.get? b=some u->h'.get? b=some u) (hp:h.objs.size <= a) (new:azn P w (upd H a o) h' a o):HOk P w (upd H a o) h':=fun b u e=>by
 have hn:=x.fresh hp
 by_cases hb:b=a
 ·subst hb; rw [aa] at e; cases e; exact new
 ·rw [ae hb] at e
  exact (x b u e).stay (fun c v _ q=>k c v q) (fun c q=>by rw [ae (ac q hn)]; exact q) fun c xs q=>by rw [ae (ac q hn)]; exact q
end
def Rd (H:Hp) (a:Addr) (u:HO):Prop:=H a=some u \/ ∃ o,H a=some (.frz o u)
theorem Rd.of {H:Hp} {a:Addr} {u:HO} (h:H a=some u):Rd H a u:=.inl h
theorem Rd.ok {P:Ak} {w:World} {H:Hp} {h:Heap} {a:Addr} {u:HO} (r:Rd H a u) (x:HOk P w H h):azn P w H h a u:=by
 rcases r with r | ⟨o,r⟩
 ·exact x a u r
 ·obtain ⟨_,q⟩:=x a _ r
  exact q
def Mut:Option HO->Prop
 | some (.lst _)=>True
 | some (.dK _)=>True
 | some (.dT _)=>True
 | some (.set _ _)=>True
 | some (.ins _ _ _)=>True
 | some (.ext _)=>True
 | _=>False
section
variable {P:Ak} {w:World} {H:Hp} {h h':Heap} {x e:Addr} {o':HO}
theorem HOk.write (ok:HOk P w H h) (mu:Mut (H x)) (he:e=x \/ H e=some (.own x)) (k:∀ b u,b ≠ e->h.get? b=some u->h'.get? b=some u) (heo:∃ u,h'.get? e=some u)
  (new:azn P w (upd H x o') h' x o'):HOk P w (upd H x o') h':=fun b u q=>by
 have nown:∀ c y,H c=some (.own y)->c ≠ x:=fun c y r z=>by subst z; rw [r] at mu; exact mu
 have ntup:∀ c xs,H c=some (.tup xs)->c ≠ x:=fun c xs r z=>by subst z; rw [r] at mu; exact mu
 by_cases hb:b=x
 ·subst hb; rw [aa] at q; cases q; exact new
 ·rw [ae hb] at q
  by_cases hbe:b=e
  ·have q':H b=some (.own x):=by
    rcases he with z | z
    ·exact absurd (hbe.trans z) hb
    ·rw [hbe]; exact z
   rw [q] at q'; cases q';obtain ⟨v,hv⟩:=heo;exact ⟨v,by rw [hbe]; exact hv⟩
  ·refine (ok b u q).stay (fun c v hc r=>k c v ?_ r) (fun c r=>by rw [ae (nown c b r)]; exact r) fun c xs r=>by rw [ae (ntup c xs r)]; exact r
   rcases hc with rfl | hc
   ·exact hbe
   ·rintro rfl
    rcases he with z | z
    ·exact nown c b hc z
    ·rw [hc] at z; cases z; exact hb rfl
end
structure Un (fs ex:List Addr) (H H':Hp) (h h':Heap):Prop where
 keep:∀ b o,h.get? b=some o->H b=none->b ∉ fs->b ∉ ex->h'.get? b=some o
 slot:∀ b o,h.get? b=some o->H b=none->b∈fs->b ∉ ex->∃ sl,h'.get? b=some { o with slots:=sl }
 free:∀ b o,h.get? b=some o->H b=none->b ∉ ex->H' b=none
 there:∀ b o,h.get? b=some o->b ∉ ex->∃ o',h'.get? b=some o'
 tups:∀ b xs,H b=some (.tup xs)->H' b=some (.tup xs)
 frzs:∀ b o u,H b=some (.frz o u)->H' b=some (.frz o u)
 tbls:∀ b ps,H b=some (.tbl ps)->∃ more,H' b=some (.tbl (ps++more))
section
variable {fs fs' ex ex':List Addr} {H H1 H2:Hp} {h h1 h2 h':Heap} {a x e:Addr} {o:HO}
theorem Un.any (u:Un fs ex H H1 h h1) {b:Addr} {ob:Obj} (q:h.get? b=some ob) (n:H b=none) (hx:b ∉ ex):∃ sl,h1.get? b=some { ob with slots:=sl }:=by
 by_cases hb:b∈fs
 ·exact u.slot b ob q n hb hx
 ·exact ⟨ob.slots,u.keep b ob q n hb hx⟩
theorem Un.trans (a:Un fs ex H H1 h h1) (b:Un fs ex H1 H2 h1 h2):Un fs ex H H2 h h2 where
 keep:=fun c ob q n hc hx=>b.keep c ob (a.keep c ob q n hc hx) (a.free c ob q n hx) hc hx
 slot:=fun c ob q n hc hx=>by
  obtain ⟨sl,e1⟩:=a.slot c ob q n hc hx;obtain ⟨sl',e2⟩:=b.slot c _ e1 (a.free c ob q n hx) hc hx;exact ⟨sl',e2⟩
 free:=fun c ob q n hx=>by
  obtain ⟨o',e1⟩:=a.there c ob q hx;exact b.free c o' e1 (a.free c ob q n hx) hx
 there:=fun c ob q hx=>by
  obtain ⟨o',e1⟩:=a.there c ob q hx;exact b.there c o' e1 hx
 tups:=fun c xs q=>b.tups c xs (a.tups c xs q)
 frzs:=fun c ob xs q=>b.frzs c ob xs (a.frzs c ob xs q)
 tbls:=fun c ps q=>by
  obtain ⟨m1,e1⟩:=a.tbls c ps q;obtain ⟨m2,e2⟩:=b.tbls c _ e1;exact ⟨m1++m2,by rw [e2,K4]⟩
theorem Un.kept (k:∀ b u,h.get? b=some u->h'.get? b=some u):Un fs ex H H h h' :=
 ⟨fun b ob q _ _ _=>k b ob q,fun b ob q _ _ _=>⟨ob.slots,k b ob q⟩,fun _ _ _ n _=>n,fun b ob q _=>⟨ob,k b ob q⟩,fun _ _ q=>q,fun _ _ _ q=>q,fun _ ps q=>⟨#[],by rw [q]; simp⟩⟩
theorem Un.refl:Un fs ex H H h h:=Un.kept fun _ _ q=>q
theorem Un.laid (k:∀ b u,h.get? b=some u->h'.get? b=some u) (hp:h.objs.size <= a) (hn:H a=none):Un fs ex H (upd H a o) h h' where
 keep:=fun b u q _ _ _=>k b u q
 slot:=fun b u q _ _ _=>⟨u.slots,k b u q⟩
 free:=fun b u q n _=>by rw [ae (ne_of_lt (lt_of_lt_of_le (Af q) hp))]; exact n
 there:=fun b u q _=>⟨u,k b u q⟩
 tups:=fun b xs q=>by rw [ae (ac q hn)]; exact q
 frzs:=fun b u xs q=>by rw [ae (ac q hn)]; exact q
 tbls:=fun b ps q=>⟨#[],by rw [ae (ac q hn),q]; simp⟩
theorem Un.write (mu:Mut (H x)) (he:e=x \/ H e=some (.own x)) (k:∀ b u,b ≠ e->h.get? b=some u->h'.get? b=some u) (heo:∃ u,h'.get? e=some u):Un fs ex H (upd H x o) h h':=by
 have hx:∀ b,H b=none->b ≠ x:=fun b n z=>by subst z; rw [n] at mu; exact mu
 have hb:∀ b,H b=none->b ≠ e:=fun b n z=>by
  subst z;rcases he with r | r
  ·exact hx b n r
  ·rw [n] at r; cases r
 have hm:∀ b u,H b=some u->¬ Mut (some u)->b ≠ x:=fun b u q nm z=>by subst z; rw [q] at mu; exact nm mu
 refine ⟨fun b u q n _ _=>k b u (hb b n) q,fun b u q n _ _=>⟨u.slots,k b u (hb b n) q⟩,fun b u q n _=>by rw [ae (hx b n)]; exact n,fun b u q _=>?_,
  fun b xs q=>by rw [ae (hm b _ q fun z=>z)]; exact q,fun b u xs q=>by rw [ae (hm b _ q fun z=>z)]; exact q,fun b ps q=>⟨#[],by rw [ae (hm b _ q fun z=>z),q]; simp⟩⟩
 by_cases hbe:b=e
 ·subst hbe; exact heo
 ·exact ⟨u,k b u hbe q⟩
theorem Un.mono (u:Un fs ex H H1 h h1) (hs:∀ b∈fs,b∈fs') (hx:∀ b∈ex,b∈ex'):Un fs' ex' H H1 h h1 :=
 ⟨fun b ob q n hb he=>u.keep b ob q n (fun z=>hb (hs b z)) fun z=>he (hx b z),fun _ _ q n _ he=>u.any q n fun z=>he (hx _ z),fun b ob q n he=>u.free b ob q n fun z=>he (hx b z),fun b ob q he=>u.there b ob q fun z=>he (hx b z),u.tups,u.frzs,u.tbls⟩
end
def trk (h:Heap) (H:Hp):List Addr:=(Ar h.objs.size).filter fun a=>(H a).isSome
def hidT (h:Heap) (H:Hp):Heap:=PySem.W.hideAll h (trk h H)
theorem aqee (h:Heap) (H:Hp):(hidT h H).objs.size=h.objs.size:=PySem.W.hideAll_size _ _
theorem aqip {h:Heap} {H:Hp} {b:Addr} {o:Obj} (e:h.get? b=some o) (n:H b=none):(hidT h H).get? b=some o :=
 PySem.W.hideAll_get _ e fun hm=>by
  have q:(H b).isSome=true:=(Ay.mp hm).2;rw [n] at q; simp at q
theorem aqlq {h:Heap} {H:Hp} {b:Addr} {o:Obj} (e:(hidT h H).get? b=some o):h.get? b=some o/\H b=none:=by
 have e':h.get? b=some o:=PySem.W.of_hideAll (trk h H) e;refine ⟨e',?_⟩;cases q:H b with
 | none=>rfl
 | some x =>
  have hm:b∈trk h H:=Ay.mpr ⟨A0.mpr (Af e'),by simp [q]⟩;have z:(hidT h H).get? b=none:=PySem.W.hideAll_none (trk h H) hm;rw [z] at e; cases e
def allNews (g h:Heap) (L:Addr):List (Addr × Obj):=(Ar h.objs.size).filterMap fun a=>if a=L \/ (g.get? a).isSome=true then none else (h.get? a).map fun o=>(a,o)
def aqt6 (g h:Heap) (L d:Addr):List (Addr × Obj):=(allNews g h L).filter fun p=>decide (p.1 ≠ d)
structure Mod (K:Frag) (mg:Str->Option Value) (base:Heap):Prop where
 kin:K.In base
 glob:base.Ns Aq mg
 blt:∃ mb,base.Ns K5 mb/\∀ x:Str,x ≠ "__name__"->mb x=A6 x
 nolimit:base.NoLimit
structure Cx where
 prog:Ak
 w:World
 K:Frag
 mg:Str->Option Value
 base:Heap
 A:Around
 N:List Str
 s₀:Shared
 H₀:Hp
 env:Env
 outer:List Env
 stack:List Env
 ex:List Addr
 fn:Str->Bool
 calm:Bool
 pn:List (Addr × Obj)
 xe:Value->Shared->Prop
def frs (l:List Env):List Addr:=l.filterMap (·.frame)
abbrev Cx.fs (X:Cx):List Addr:=frs X.outer
def Vis (sc:Scope) (x:Str):Prop:=sc.names.lookup x=some .local \/ sc.names.lookup x=some .cell \/ sc.names.lookup x=some .free
def Loc (sc:Scope) (x:Str):Prop:=sc.names.lookup x=some .local \/ sc.names.lookup x=some .cell
def Look (env:Env) (h:Heap) (m:Str->Option Value) (x:Str) (u:Value):Prop :=
 (env.kindOf x=some .local/\m x=some u) \/ ((env.kindOf x=some .cell \/ env.kindOf x=some .free)/\∃ c,env.cells.lookup x=some c/\h.IsCell c (some u))
structure Cx.Ok (X:Cx):Prop where
 mod:Mod X.K X.mg X.base
 kind:X.env.scope.kind=.function
 glob:X.env.globals=Aq
 blt:X.env.builtins=K5
 above:X.s₀.heap.objs.size <= X.env.locals
 inj:∀ x y c,X.env.cells.lookup x=some c->X.env.cells.lookup y=some c->x=y
 has:∀ x,(X.env.kindOf x=some .cell \/ X.env.kindOf x=some .free)->∃ c,X.env.cells.lookup x=some c
 cab:∀ x c,X.fn x=true->X.env.cells.lookup x=some c->X.s₀.heap.objs.size <= c
 hd:X.calm=true->X.A.handled=none
 frames:X.A.frames=some X.stack
 stk:X.stack=X.outer \/ (X.stack=X.env :: X.outer/\X.env.frame=some X.env.locals)
 exf:∀ b∈X.ex,b ≠ X.env.locals/\∀ x c,X.env.cells.lookup x=some c->c ≠ b
 bs:∀ b o,X.base.get? b=some o->X.s₀.heap.get? b=some o/\X.H₀ b=none
 bsz:X.base.objs.size <= X.s₀.heap.objs.size
 noex:∀ b o,X.base.get? b=some o->b ∉ X.ex
 exfs:∀ b∈X.ex,b ∉ X.fs
 funs:X.s₀.heap.FunFrames X.base X.outer
 frf:∀ b∈X.fs,X.H₀ b=none
structure Inv (X:Cx) (pins:List (Addr × Obj)) (σ:List (Option V)) (H:Hp) (s:Shared):Prop where
 ok:X.Ok
 os:s.os=X.s₀.os
 bare:G5 s.gens
 base:Un X.fs X.ex X.H₀ H X.s₀.heap s.heap
 loc:∃ m,s.heap.Ns X.env.locals m/\∀ (i:Nat) (x:Str) (v:V),X.N[i]?=some x->σ[i]?=some (some v)->Vis X.env.scope x->∃ u,RelV v u/\Look X.env s.heap m x u
 cell:∀ x c,X.env.cells.lookup x=some c->∃ v,s.heap.IsCell c v
 free:H X.env.locals=none
 freeC:∀ x c,X.env.cells.lookup x=some c->H c=none
 pin:∀ p∈X.pn++pins,s.heap.get? p.1=some p.2/\H p.1=none/\p.1 ≠ X.env.locals/\p.1 ∉ X.fs/\∀ v,p.2.data ≠ .cell v
 hok:HOk X.prog X.w H s.heap
 len:σ.length=X.N.length
section
variable {X:Cx} {pins:List (Addr × Obj)} {σ:List (Option V)} {H H':Hp} {s:Shared} {h':Heap}
theorem Cx.Ok.nofr (ok:X.Ok) {b:Addr} {o:Obj} (e:X.base.get? b=some o):b ∉ X.fs:=fun hb=>by
 have:=(ok.funs.mem hb).1
 rw [e] at this; cases this
theorem Inv.bs (I:Inv X pins σ H s):∀ b o,X.base.get? b=some o->s.heap.get? b=some o/\H b=none:=fun b o e =>
 ⟨I.base.keep b o (I.ok.bs b o e).1 (I.ok.bs b o e).2 (I.ok.nofr e) (I.ok.noex b o e),I.base.free b o (I.ok.bs b o e).1 (I.ok.bs b o e).2 (I.ok.noex b o e)⟩
theorem Inv.bk (I:Inv X pins σ H s):∀ b o,X.base.get? b=some o->s.heap.get? b=some o:=fun b o e=>(I.bs b o e).1
theorem Inv.mod (I:Inv X pins σ H s):Mod X.K X.mg X.base:=I.ok.mod
theorem Inv.kIn (I:Inv X pins σ H s):X.K.In s.heap:=I.ok.mod.kin.keeps I.bk
theorem Inv.nolimit (I:Inv X pins σ H s):s.heap.NoLimit:=I.ok.mod.nolimit.keeps I.bk
theorem Inv.lt (I:Inv X pins σ H s):X.env.locals < s.heap.objs.size:=let ⟨_,hn,_⟩:=I.loc; hn.lt
theorem Inv.sz (I:Inv X pins σ H s):X.s₀.heap.objs.size <= s.heap.objs.size:=le_trans I.ok.above (le_of_lt I.lt)
theorem Inv.nofs (I:Inv X pins σ H s) {a:Addr} (h:s.heap.objs.size <= a):a ∉ X.fs:=fun hb=>by
 obtain ⟨_,o,ho,_⟩:=I.ok.funs.mem hb;exact absurd (lt_of_lt_of_le (Af ho) (le_trans I.sz h)) (lt_irrefl _)
theorem Inv.cne (I:Inv X pins σ H s):∀ x c,X.env.cells.lookup x=some c->c ≠ X.env.locals:=fun x c e z=>by
 obtain ⟨v,o,ho,hd⟩:=I.cell x c e;obtain ⟨m,⟨o',es,ep,ho',hd',_⟩,_⟩:=I.loc;rw [z,ho'] at ho; cases ho; rw [hd'] at hd; cases hd
theorem Inv.funs (I:Inv X pins σ H s):s.heap.FunFrames X.base X.outer:=by
 have all:∀ (l:List Env),(∀ b∈frs l,b∈X.fs)->X.s₀.heap.FunFrames X.base l->s.heap.FunFrames X.base l:=by
  intro l
  induction l with
  | nil=>intro _ _; trivial
  | cons env r ih =>
   intro hs hl;obtain ⟨hk,⟨L,o,hf,hn,ho,hd⟩,hr⟩:=hl;have hL:L∈X.fs:=hs L (by unfold frs; rw [filterMap_cons,hf]; exact mem_cons_self);obtain ⟨sl,e⟩:=I.base.slot L o ho (I.ok.frf L hL) hL fun z=>I.ok.exfs L z hL;exact ⟨hk,⟨L,_,hf,hn,e,hd⟩,ih (fun b hb=>hs b (by unfold frs; rw [filterMap_cons,hf]; exact mem_cons_of_mem _ hb)) hr⟩
 exact all X.outer (fun _ hb=>hb) I.ok.funs
theorem Inv.stack (I:Inv X pins σ H s):s.heap.FunFrames X.base X.stack:=by
 rcases I.ok.stk with e | ⟨e,hf⟩
 ·rw [e]; exact I.funs
 ·rw [e]
  obtain ⟨m,hn,_⟩:=I.loc;refine .cons (by rw [I.ok.kind]; decide) hf hn ?_ I.funs;exact Heap.get?_none_of_le (le_trans I.ok.bsz I.ok.above)
theorem Inv.stkSub (I:Inv X pins σ H s):∀ b∈frs X.stack,b∈X.env.locals :: X.fs:=fun b hb=>by
 rcases I.ok.stk with e | ⟨e,hf⟩
 ·rw [e] at hb; exact mem_cons_of_mem _ hb
 ·rw [e] at hb
  unfold frs at hb;rw [filterMap_cons,hf] at hb;exact hb
theorem Inv.stkFree (I:Inv X pins σ H s):∀ b∈frs X.stack,H b=none:=fun b hb=>by
 rcases Al.mp (I.stkSub b hb) with e | hb
 ·rw [e]; exact I.free
 ·obtain ⟨_,o,ho,_⟩:=I.ok.funs.mem hb
  exact I.base.free b o ho (I.ok.frf b hb) fun z=>I.ok.exfs b z hb
theorem Inv.step {g':Array Ml} {t':Nat} {d':Drawn} {ch:List Addr} (I:Inv X pins σ H s)
  (hch:∀ b∈ch,(b∈X.ex \/ X.s₀.heap.objs.size <= b)/\b ≠ X.env.locals/\(∀ x c,X.env.cells.lookup x=some c->c ≠ b)/\∀ p∈X.pn++pins,p.1 ≠ b)
  (keep:∀ b o,b ≠ X.env.locals->b ∉ X.fs->b ∉ ch->s.heap.get? b=some o->H b=none->h'.get? b=some o)
  (slot:∀ b o,b ≠ X.env.locals->b∈X.fs->b ∉ ch->s.heap.get? b=some o->H b=none->∃ sl,h'.get? b=some { o with slots:=sl }) (free:∀ b o,b ∉ ch->s.heap.get? b=some o->H b=none->H' b=none)
  (there:∀ b o,b ∉ ch->s.heap.get? b=some o->∃ o',h'.get? b=some o')
  (tups:∀ b xs,H b=some (.tup xs)->H' b=some (.tup xs)) (frzs:∀ b o u,H b=some (.frz o u)->H' b=some (.frz o u)) (tbls:∀ b ps,H b=some (.tbl ps)->∃ more,H' b=some (.tbl (ps++more)))
  (ns:∀ m,s.heap.Ns X.env.locals m->h'.Ns X.env.locals m) (hok:HOk X.prog X.w H' h') (hg:G5 g') :
  Inv X pins σ H' { s with heap:=h',gens:=g',drawn:=d',toks:=t' }:=by
 have neL:∀ b o,X.s₀.heap.get? b=some o->b ≠ X.env.locals:=fun b o e=>ne_of_lt (lt_of_lt_of_le (Af e) I.ok.above);have neC:∀ b o,X.s₀.heap.get? b=some o->b ∉ X.ex->b ∉ ch:=fun b o e hx hb=>by
  rcases (hch b hb).1 with z | z
  ·exact hx z
  ·exact absurd (lt_of_lt_of_le (Af e) z) (lt_irrefl _)
 have cellK:∀ x c,X.env.cells.lookup x=some c->∀ v,s.heap.IsCell c v->h'.IsCell c v:=fun x c e v ⟨o,ho,hd⟩=>by
  have nch:c ∉ ch:=fun z=>(hch c z).2.2.1 x c e rfl
  by_cases hc:c∈X.fs
  ·obtain ⟨sl,q⟩:=slot c o (I.cne x c e) hc nch ho (I.freeC x c e)
   exact ⟨_,q,hd⟩
  ·exact ⟨o,keep c o (I.cne x c e) hc nch ho (I.freeC x c e),hd⟩
 refine ⟨I.ok,I.os,hg,⟨fun b o e n hb hx=>?_,fun b o e n hb hx=>?_,fun b o e n hx=>?_,fun b o e hx=>?_,fun b xs e=>tups b xs (I.base.tups b xs e),fun b o xs e=>frzs b o xs (I.base.frzs b o xs e),fun b ps e=>?_⟩,?_,fun x c e=>?_,?_,fun x c e=>?_,fun p hp=>?_,hok,I.len⟩
 ·exact keep b o (neL b o e) hb (neC b o e hx) (I.base.keep b o e n hb hx) (I.base.free b o e n hx)
 ·obtain ⟨sl,e1⟩:=I.base.slot b o e n hb hx
  obtain ⟨sl',e2⟩:=slot b _ (neL b o e) hb (neC b o e hx) e1 (I.base.free b o e n hx);exact ⟨sl',e2⟩
 ·obtain ⟨o',e1⟩:=I.base.there b o e hx
  exact free b o' (neC b o e hx) e1 (I.base.free b o e n hx)
 ·obtain ⟨o',e1⟩:=I.base.there b o e hx
  exact there b o' (neC b o e hx) e1
 ·obtain ⟨m1,e1⟩:=I.base.tbls b ps e
  obtain ⟨m2,e2⟩:=tbls b _ e1;exact ⟨m1++m2,by rw [e2,K4]⟩
 ·obtain ⟨m,hn,hl⟩:=I.loc
  refine ⟨m,ns m hn,fun i x v e1 e2 e3=>?_⟩;obtain ⟨u,r,l⟩:=hl i x v e1 e2 e3;refine ⟨u,r,?_⟩;rcases l with l | ⟨k,c,e,z⟩
  ·exact .inl l
  ·exact .inr ⟨k,c,e,cellK x c e _ z⟩
 ·obtain ⟨v,z⟩:=I.cell x c e
  exact ⟨v,cellK x c e v z⟩
 ·obtain ⟨m,⟨o,_,_,ho,_⟩,_⟩:=I.loc
  exact free _ o (fun z=>(hch _ z).2.1 rfl) ho I.free
 ·obtain ⟨v,o,ho,hd⟩:=I.cell x c e
  exact free c o (fun z=>(hch c z).2.2.1 x c e rfl) ho (I.freeC x c e)
 ·obtain ⟨e,n,ne,nf,d⟩:=I.pin p hp
  have nch:p.1 ∉ ch:=fun z=>(hch p.1 z).2.2.2 p hp rfl;exact ⟨keep p.1 p.2 ne nf nch e n,free p.1 p.2 nch e n,ne,nf,d⟩
theorem Inv.un {t':Nat} (I:Inv X pins σ H s) (u:Un X.fs [] H H' s.heap h') (hok:HOk X.prog X.w H' h'):Inv X pins σ H' { s with heap:=h',toks:=t' }:=by
 obtain ⟨m,⟨o,es,ep,ho,r⟩,_⟩:=id I.loc;obtain ⟨sl,hL⟩:=u.any ho I.free (by simp);exact I.step (g':=s.gens) (d':=s.drawn) (ch:=[]) (fun _ z=>nomatch z) (fun b o _ hb _ e n=>u.keep b o e n hb (by simp)) (fun b o _ hb _ e n=>u.slot b o e n hb (by simp)) (fun b o _ e n=>u.free b o e n (by simp)) (fun b o _ e=>u.there b o e (by simp)) u.tups u.frzs u.tbls (fun m' hm=>by
  obtain ⟨o',es',ep',ho',r'⟩:=hm;rw [ho] at ho'; cases ho';exact ⟨_,es',ep',hL,r'⟩) hok I.bare
theorem Inv.call {g':Array Ml} {t':Nat} {d':Drawn} {ch:List Addr} (I:Inv X pins σ H s) (u:Un (frs X.stack) ch H H' s.heap h') (hok:HOk X.prog X.w H' h') (hg:G5 g')
  (hch:∀ b∈ch,(b∈X.ex \/ X.s₀.heap.objs.size <= b)/\b ≠ X.env.locals/\(∀ x c,X.env.cells.lookup x=some c->c ≠ b)/\∀ p∈X.pn++pins,p.1 ≠ b) :
  Inv X pins σ H' { s with heap:=h',gens:=g',drawn:=d',toks:=t' }:=by
 obtain ⟨m,⟨o,es,ep,ho,r⟩,_⟩:=id I.loc;obtain ⟨sl,hL⟩:=u.any ho I.free fun z=>(hch _ z).2.1 rfl;exact I.step (ch:=ch) hch (fun b o hL hb hc e n=>u.keep b o e n (fun z=>(Al.mp (I.stkSub b z)).elim hL hb) hc) (fun b o _ _ hc e n=>u.any e n hc) (fun b o hc e n=>u.free b o e n hc) (fun b o hc e=>u.there b o e hc) u.tups u.frzs u.tbls (fun m' hm=>by
  obtain ⟨o',es',ep',ho',r'⟩:=hm;rw [ho] at ho'; cases ho';exact ⟨_,es',ep',hL,r'⟩) hok hg
theorem Inv.turned {t':Nat} {it:Addr} (I:Inv X pins σ H s) (k:∀ b o,b ≠ it->s.heap.get? b=some o->h'.get? b=some o) (hn:H it=none) (hL:it ≠ X.env.locals)
  (h1:it∈X.ex \/ X.s₀.heap.objs.size <= it) (h2:∀ x c,X.env.cells.lookup x=some c->c ≠ it) (h3:∀ p∈X.pn++pins,p.1 ≠ it):Inv X pins σ H { s with heap:=h',toks:=t' }:=by
 have nit:∀ b u,H b=some u->b ≠ it:=fun b u e z=>by rw [z,hn] at e; cases e
 refine I.step (g':=s.gens) (d':=s.drawn) (ch:=[it]) (fun b hb=>?_) (fun b o _ _ hc e _=>k b o (fun z=>hc (by simp [z])) e) (fun b o _ _ hc e _=>⟨o.slots,k b o (fun z=>hc (by simp [z])) e⟩) (fun _ _ _ _ n=>n)
  (fun b o hc e=>⟨o,k b o (fun z=>hc (by simp [z])) e⟩) (fun _ _ e=>e) (fun _ _ _ e=>e) (fun b ps e=>⟨#[],by rw [e]; simp⟩) (fun m hm=>?_) (fun b u e=>?_) I.bare
 ·have e:b=it:=by simpa using hb
  subst e;exact ⟨h1,hL,h2,h3⟩
 ·obtain ⟨o,es,ep,ho,r⟩:=hm
  exact ⟨o,es,ep,k _ o (B4 hL) ho,r⟩
 ·refine (I.hok b u e).stay (fun c v hc q=>k c v ?_ q) (fun _ q=>q) fun _ _ q=>q
  rcases hc with z | z
  ·rw [z]; exact nit b u e
  ·exact nit c _ z
theorem Inv.tok (I:Inv X pins σ H s) (t:Nat):Inv X pins σ H { s with toks:=t }:=I.un (h':=s.heap) (t':=t) Un.refl I.hok
theorem Inv.kept {t':Nat} (I:Inv X pins σ H s) (k:∀ b u,s.heap.get? b=some u->h'.get? b=some u):Inv X pins σ H { s with heap:=h',toks:=t' }:=I.un (Un.kept k) (I.hok.kept k)
theorem Inv.laid {a:Addr} {o:HO} {t':Nat} (I:Inv X pins σ H s) (k:∀ b u,s.heap.get? b=some u->h'.get? b=some u) (hp:s.heap.objs.size <= a) (new:azn X.prog X.w (upd H a o) h' a o) :
  Inv X pins σ (upd H a o) { s with heap:=h',toks:=t' }:=I.un (Un.laid k hp (I.hok.fresh hp)) (I.hok.laid k hp new)
theorem Inv.write {x e:Addr} {o:HO} {t':Nat} (I:Inv X pins σ H s) (mu:Mut (H x)) (he:e=x \/ H e=some (.own x)) (k:∀ b u,b ≠ e->s.heap.get? b=some u->h'.get? b=some u) (heo:∃ u,h'.get? e=some u)
  (new:azn X.prog X.w (upd H x o) h' x o):Inv X pins σ (upd H x o) { s with heap:=h',toks:=t' }:=I.un (Un.write mu he k heo) (I.hok.write mu he k heo new)
theorem Inv.pins_of {pins':List (Addr × Obj)} (I:Inv X pins σ H s) (h:∀ p∈pins',s.heap.get? p.1=some p.2/\H p.1=none/\p.1 ≠ X.env.locals/\p.1 ∉ X.fs/\∀ v,p.2.data ≠ .cell v):Inv X pins' σ H s :=
 ⟨I.ok,I.os,I.bare,I.base,I.loc,I.cell,I.free,I.freeC,fun p hp=>(Dd.mp hp).elim (fun z=>I.pin p (Es _ z)) (h p),I.hok,I.len⟩
theorem aqan {N:List Str} (hN:N.Nodup) {i j:Nat} {x:Str} (a:N[i]?=some x) (b:N[j]?=some x):i=j:=by
 obtain ⟨h1,e1⟩:=Ai.mp a;obtain ⟨h2,e2⟩:=Ai.mp b;exact (getElem_inj hN).mp (e1.trans e2.symm)
theorem aVq {M:Model} {A:Around} {E:Value->Shared->Prop} {i:Nat} {x:Str} {v:V} {u:Value} {Q:Unit->Shared->Prop} (I:Inv X pins σ H s) (hN:X.N.Nodup) (hi:X.N[i]?=some x) (hx:Loc X.env.scope x) (r:RelV v u)
  (h:∀ s',Inv X pins (σ.set i (some v)) H s'->(∃ a,Heap.SameBut a s.heap s'.heap/\(a=X.env.locals \/ X.env.cells.lookup x=some a))->Q () s') (hf:X.fn x=true \/ X.env.scope.names.lookup x=some .local:=by first | exact .inl rfl | exact .inr rfl | assumption):wpAny M A (storeName X.env x u) Q E s:=by
 obtain ⟨m,hn,hl⟩:=id I.loc;have hcls:(X.env.scope.kind == .class || (X.env.scope.kind == .module && X.env.locals != X.env.globals))=false:=by rw [I.ok.kind]; rfl
 have hiσ:i < σ.length:=by rw [I.len]; exact (Ai.mp hi).1
 have cne:=I.cne;have tracked:∀ {a:Addr} {h':Heap},(∃ o,s.heap.get? a=some o/\H a=none)->Heap.SameBut a s.heap h'->HOk X.prog X.w H h':=fun {a h'} ha hs b ob e=>by
  obtain ⟨_,_,hfree⟩:=ha;refine (I.hok b ob e).stay (fun c w' hc q=>(hs.2 c ?_).trans q) (fun _ q=>q) fun _ _ q=>q;rintro rfl;rcases hc with rfl | hc
  ·rw [hfree] at e; cases e
  ·rw [hfree] at hc; cases hc
 rcases hx with hk | hk
 ·refine wpAny_storeName_local hk hn (fun h' hn' hs=>?_) hcls
  obtain ⟨oL,_,_,hoL,_⟩:=id hn;refine h _ ⟨I.ok,I.os,I.bare,⟨fun b o e n hb hx=>?_,fun b o e n hb hx=>?_,I.base.free,fun b o e hx=>?_,I.base.tups,I.base.frzs,I.base.tbls⟩,⟨_,hn',fun j y v' e1 e2 e3=>?_⟩,fun y c e=>?_,I.free,I.freeC,fun p hp=>?_,tracked ⟨oL,hoL,I.free⟩ hs,by simpa using I.len⟩ ⟨_,hs,.inl rfl⟩
  ·exact (hs.2 b (ne_of_lt (lt_of_lt_of_le (Af e) I.ok.above))).trans (I.base.keep b o e n hb hx)
  ·obtain ⟨sl,e1⟩:=I.base.slot b o e n hb hx
   exact ⟨sl,(hs.2 b (ne_of_lt (lt_of_lt_of_le (Af e) I.ok.above))).trans e1⟩
  ·obtain ⟨o',e1⟩:=I.base.there b o e hx
   exact ⟨o',(hs.2 b (ne_of_lt (lt_of_lt_of_le (Af e) I.ok.above))).trans e1⟩
  ·by_cases hj:j=i
   ·subst hj
    rw [hi] at e1; cases e1;rw [getElem?_set_self hiσ] at e2;cases e2;exact ⟨u,r,.inl ⟨hk,by simp⟩⟩
   ·rw [getElem?_set_ne (B4 hj)] at e2
    obtain ⟨u',r',q⟩:=hl j y v' e1 e2 e3;refine ⟨u',r',?_⟩;rcases q with ⟨k,e⟩ | ⟨k,c,e,z⟩
    ·refine .inl ⟨k,?_⟩
     have:y ≠ x:=fun e=>hj (aqan hN e1 (e ▸ hi))
     simp [this,e]
    ·exact .inr ⟨k,c,e,z.sameBut hs (cne y c e)⟩
  ·obtain ⟨w',z⟩:=I.cell y c e
   exact ⟨w',z.sameBut hs (cne y c e)⟩
  ·obtain ⟨e,n,ne,nf,d⟩:=I.pin p hp
   exact ⟨(hs.2 p.1 ne).trans e,n,ne,nf,d⟩
 ·have hfn:X.fn x=true:=by
   rcases hf with z | z
   ·exact z
   ·rw [z] at hk; cases hk
  obtain ⟨c,hc⟩:=I.ok.has x (.inl hk);obtain ⟨w',z⟩:=I.cell x c hc;refine wpAny_storeName_cell I.ok.kind hk hc z (fun h' hc' hs=>?_);obtain ⟨oc,hoc,hocd⟩:=id z;refine h { s with heap:=h' } ⟨I.ok,I.os,I.bare,⟨fun b o e n hb hx=>?_,fun b o e n hb hx=>?_,I.base.free,fun b o e hx=>?_,I.base.tups,I.base.frzs,I.base.tbls⟩,⟨m,hn.sameBut hs (B4 (cne x c hc)),fun j y v' e1 e2 e3=>?_⟩,fun y c' e=>?_,I.free,I.freeC,fun p hp=>?_,tracked ⟨oc,hoc,I.freeC x c hc⟩ hs,by simpa using I.len⟩ ⟨c,hs,.inr hc⟩
  ·exact (hs.2 b (ne_of_lt (lt_of_lt_of_le (Af e) (I.ok.cab x c hfn hc)))).trans (I.base.keep b o e n hb hx)
  ·obtain ⟨sl,e1⟩:=I.base.slot b o e n hb hx
   exact ⟨sl,(hs.2 b (ne_of_lt (lt_of_lt_of_le (Af e) (I.ok.cab x c hfn hc)))).trans e1⟩
  ·obtain ⟨o',e1⟩:=I.base.there b o e hx
   exact ⟨o',(hs.2 b (ne_of_lt (lt_of_lt_of_le (Af e) (I.ok.cab x c hfn hc)))).trans e1⟩
  ·by_cases hj:j=i
   ·subst hj
    rw [hi] at e1; cases e1;rw [getElem?_set_self hiσ] at e2;cases e2;exact ⟨u,r,.inr ⟨.inl hk,c,hc,hc'⟩⟩
   ·rw [getElem?_set_ne (B4 hj)] at e2
    obtain ⟨u',r',q⟩:=hl j y v' e1 e2 e3;refine ⟨u',r',?_⟩;rcases q with q | ⟨k,c',e,z'⟩
    ·exact .inl q
    ·refine .inr ⟨k,c',e,z'.sameBut hs ?_⟩
     rintro rfl;exact hj (aqan hN e1 (I.ok.inj _ _ _ e hc ▸ hi))
  ·by_cases hcc:c'=c
   ·subst hcc; exact ⟨_,hc'⟩
   ·obtain ⟨w2,z2⟩:=I.cell y c' e
    exact ⟨w2,z2.sameBut hs hcc⟩
  ·obtain ⟨e,n,ne,nf,d⟩:=I.pin p hp
   refine ⟨(hs.2 p.1 ?_).trans e,n,ne,nf,d⟩;intro q;rw [q,hoc] at e;have q':oc=p.2:=Option.some.inj e;exact d w' (by rw [<- q']; exact hocd)
theorem aYg {M:Model} {A:Around} {E:Value->Shared->Prop} {i:Nat} {x:Str} {v:V} {u:Value} {Q:Unit->Shared->Prop} (I:Inv X pins σ H s) (hN:X.N.Nodup) (hi:X.N[i]?=some x) (hx:Loc X.env.scope x) (r:RelV v u)
  (h:∀ s',Inv X pins (σ.set i (some v)) H s'->Q () s') (hf:X.fn x=true \/ X.env.scope.names.lookup x=some .local:=by first | exact .inl rfl | exact .inr rfl | assumption):wpAny M A (storeName X.env x u) Q E s :=
 aVq I hN hi hx r (fun s' I' _=>h s' I') hf
theorem Inv.call' {s':Shared} {ch:List Addr} (I:Inv X pins σ H s) (ho:s'.os=s.os) (u:Un (frs X.stack) ch H H' s.heap s'.heap) (hok:HOk X.prog X.w H' s'.heap) (hg:G5 s'.gens)
  (hch:∀ b∈ch,(b∈X.ex \/ X.s₀.heap.objs.size <= b)/\b ≠ X.env.locals/\(∀ x c,X.env.cells.lookup x=some c->c ≠ b)/\∀ p∈X.pn++pins,p.1 ≠ b):Inv X pins σ H' s':=by
 obtain ⟨h',g',d',t',o'⟩:=s';have e:o'=s.os:=ho;subst e;exact I.call (g':=g') (t':=t') (d':=d') u hok hg hch
end
abbrev XK:=Value->Option Addr->Hp->Prop
abbrev St:=List (Option V)
abbrev VK:=V->Hp->Prop
abbrev TE:=St->Hp->VK->Prop
abbrev TT:=St->Hp->(Bool->Hp->Prop)->Prop
abbrev TA:=St->Hp->(List V->Hp->Prop)->Prop
structure Ends where
 nx:St->Hp->Prop
 rt:VK
 bk:St->Hp->Prop:=fun _ _=>False
 ct:St->Hp->Prop:=fun _ _=>False
abbrev TS:=Ends->St->Hp->Prop
def EP (X:Cx) (pins:List (Addr × Obj)) (σ:St) (Q:VK) (u:Value) (s':Shared):Prop:=∃ v H',Inv X pins σ H' s'/\RelV v u/\Q v H'
def TP (X:Cx) (pins:List (Addr × Obj)) (σ:St) (Q:Bool->Hp->Prop) (b:Bool) (s':Shared):Prop:=∃ H',Inv X pins σ H' s'/\Q b H'
def AP (X:Cx) (pins:List (Addr × Obj)) (σ:St) (Q:List V->Hp->Prop) (us:List Value) (s':Shared):Prop:=∃ vs H',Inv X pins σ H' s'/\aqu8 vs us/\Q vs H'
def SP (X:Cx) (pins:List (Addr × Obj)) (D:Ends) (f:Flow) (s':Shared):Prop :=
 match f with
 | .next=>∃ σ' H',Inv X pins σ' H' s'/\D.nx σ' H'
 | .brk=>∃ σ' H',Inv X pins σ' H' s'/\D.bk σ' H'
 | .cont=>∃ σ' H',Inv X pins σ' H' s'/\D.ct σ' H'
 | .ret u=>∃ v σ' H',Inv X pins σ' H' s'/\RelV v u/\D.rt v H'
def PE (X:Cx) (e:Expr) (t:TE):Prop :=
 ∀ (pins:List (Addr × Obj)) (s:Shared) (σ:St) (H:Hp) (Q:VK),Inv X pins σ H s->t σ H Q->wpAny (model X.prog X.w) X.A (eval e X.env) (EP X pins σ Q) X.xe s
def PT (X:Cx) (e:Expr) (t:TT):Prop :=
 ∀ (pins:List (Addr × Obj)) (s:Shared) (σ:St) (H:Hp) (Q:Bool->Hp->Prop),Inv X pins σ H s->t σ H Q->wpAny (model X.prog X.w) X.A (Mm e X.env (eval e X.env)) (TP X pins σ Q) X.xe s
def PW (X:Cx) (e:Expr) (t:TT):Prop :=
 ∀ (whole:Sem Value) (pins:List (Addr × Obj)) (s:Shared) (σ:St) (H:Hp) (Q:Bool->Hp->Prop),Inv X pins σ H s->t σ H Q->wpAny (model X.prog X.w) X.A (Mm e X.env whole) (TP X pins σ Q) X.xe s
theorem PW.pt {X:Cx} {e:Expr} {t:TT} (h:PW X e t):PT X e t:=h _
def PA (X:Cx) (es:List Expr) (t:TA):Prop :=
 ∀ (pos:Pos) (pins:List (Addr × Obj)) (s:Shared) (σ:St) (H:Hp) (Q:List V->Hp->Prop),Inv X pins σ H s->t σ H Q->wpAny (model X.prog X.w) X.A (spliced (C1 pos (Ap es X.env))) (AP X pins σ Q) X.xe s
def PS (X:Cx) (st:Stmt) (t:TS):Prop :=
 ∀ (pins:List (Addr × Obj)) (s:Shared) (σ:St) (H:Hp) (D:Ends),Inv X pins σ H s->t D σ H->wpAny (model X.prog X.w) X.A (exec st X.env) (SP X pins D) X.xe s
def PSs (X:Cx) (st:List Stmt) (t:TS):Prop :=
 ∀ (pins:List (Addr × Obj)) (s:Shared) (σ:St) (H:Hp) (D:Ends),Inv X pins σ H s->t D σ H->wpAny (model X.prog X.w) X.A (execs st X.env) (SP X pins D) X.xe s
theorem thn {α:Type} {t:Sem α} {Q Q':α->Shared->Prop} {M:Model} {A:Around} {E:Value->Shared->Prop} {s:Shared} (h:wpAny M A t Q E s) (hQ:∀ a s,Q a s->Q' a s):wpAny M A t Q' E s:=Bj h hQ fun _ _ x=>x
section
variable {X:Cx}
def aqsw (i:Nat):TE:=fun σ H Q=>∃ v,σ[i]?=some (some v)/\Q v H
def tC (v:V):TE:=fun _ H Q=>Q v H
theorem aqoi {i:Nat} {x:Str} {pos:Pos} (hN:X.N[i]?=some x) (hv:Vis X.env.scope x) (hd:(x == ("__debug__":Str))=false:=by decide) (hcd:(x == ("__classdict__":Str))=false:=by decide):PE X (.Name x pos) (aqsw i):=by
 intro pins s σ H Q I h;obtain ⟨v,e,h⟩:=h;obtain ⟨m,hn,hl⟩:=I.loc;obtain ⟨u,r,l⟩:=hl i x v hN e hv;have fin:EP X pins σ Q u s:=⟨v,H,I,r,h⟩;rcases l with ⟨hk,hm⟩ | ⟨hk,c,hc,hcell⟩
 ·exact wpAny_Name (wpAny_loadName_local I.ok.kind hk hn hm fin) hd
 ·rcases hk with hk | hk
  ·exact wpAny_Name (wpAny_loadName_cell I.ok.kind hk hc hcell fin) hd
  ·exact wpAny_Name (wpAny_loadName_free I.ok.kind hk hc hcell fin hcd) hd
theorem am {i j pos}:PE X (.Constant (.int i) j pos) (tC (.int i)):=fun _ _ _ H _ I h=>wpAny_Constant_int ⟨.int i,H,I.tok _,⟨_,rfl⟩,h⟩
theorem pe_bl {b j pos}:PE X (.Constant (.bool b) j pos) (tC (.bl b)):=fun _ _ _ H _ I h=>Constant_bool ⟨.bl b,H,I,rfl,h⟩
theorem aql4 {j pos}:PE X (.Constant .none j pos) (tC .non):=fun _ _ _ H _ I h=>Constant_none ⟨.non,H,I,rfl,h⟩
theorem aqhe {x j pos}:PE X (.Constant (.str x) j pos) (tC (.str x)):=fun _ _ _ H _ I h=>Calls.Constant_str ⟨.str x,H,I.tok _,⟨_,rfl⟩,h⟩
def Gl (X:Cx) (x:Str):Prop:=X.env.kindOf x=some .globalImplicit
theorem aqb1 {E:Value->Shared->Prop} {pins:List (Addr × Obj)} {s:Shared} {σ:St} {H:Hp} {x:Str} {u:Value} {pos:Pos} {Q:Value->Shared->Prop} (I:Inv X pins σ H s) (hg:Gl X x) (hm:X.mg x=some u) (h:Q u s)
  (hd:(x == ("__debug__":Str))=false:=by decide):wpAny (model X.prog X.w) X.A (eval (.Name x pos) X.env) Q E s :=
 Hd I.ok.kind hg (Calls.loadGlobal_global (by rw [I.ok.glob]; exact I.mod.glob.keeps I.bk) hm h) hd
theorem awo {E:Value->Shared->Prop} {pins:List (Addr × Obj)} {s:Shared} {σ:St} {H:Hp} {x:Str} {u:Value} {pos:Pos} {Q:Value->Shared->Prop} (I:Inv X pins σ H s) (hg:Gl X x) (hm:X.mg x=none) (hv:A6 x=some u) (h:Q u s)
  (hn:x ≠ "__name__":=by decide) (hd:(x == ("__debug__":Str))=false:=by decide):wpAny (model X.prog X.w) X.A (eval (.Name x pos) X.env) Q E s:=by
 obtain ⟨mb,h1,h2⟩:=I.mod.blt;exact Hd I.ok.kind hg (Calls.loadGlobal_builtin (by rw [I.ok.glob]; exact I.mod.glob.keeps I.bk) hm (by rw [I.ok.blt]; exact h1.keeps I.bk) ((h2 x hn).trans hv) h) hd
theorem aqa3 {x:Str} {v:V} {u:Value} {pos:Pos} (hg:Gl X x) (hm:X.mg x=some u) (r:RelV v u) (hd:(x == ("__debug__":Str))=false:=by decide):PE X (.Name x pos) (tC v) :=
 fun _ _ _ H _ I h=>aqb1 I hg hm ⟨v,H,I,r,h⟩ hd
theorem aql5 {x:Str} {v:V} {u:Value} {pos:Pos} (hg:Gl X x) (hm:X.mg x=none) (hv:A6 x=some u) (r:RelV v u) (hn:x ≠ "__name__":=by decide) (hd:(x == ("__debug__":Str))=false:=by decide):PE X (.Name x pos) (tC v) :=
 fun _ _ _ H _ I h=>awo I hg hm hv ⟨v,H,I,r,h⟩ hn hd
variable {a b:Expr} {ta tb:TE} {pos:Pos}
def PC (X:Cx) (op:CmpOp) (a b:Expr) (t:TE):Prop :=
 ∀ (pins:List (Addr × Obj)) (s:Shared) (σ:St) (H:Hp) (Q:VK),Inv X pins σ H s->t σ H Q ->
  wpAny (model X.prog X.w) X.A (eval a X.env) (fun v s₁=>wpAny (model X.prog X.w) X.A (eval b X.env) (fun u s₂=>wpAny (model X.prog X.w) X.A (Bm op v u) (EP X pins σ Q) X.xe s₂) X.xe s₁) X.xe s
theorem nobehind (b:Expr) {op:CmpOp} (h:op ≠ .In) (h2:op ≠ .NotIn):Cy op b=false:=by
 have e1:(op == CmpOp.In)=false:=by cases op <;> first | rfl | exact absurd rfl h
 have e2:(op == CmpOp.NotIn)=false:=by cases op <;> first | rfl | exact absurd rfl h2
 cases b <;> simp [Cy,e1,e2]
def tB (t:TE):TT:=fun σ H Q=>t σ H fun x H1=>∃ c,x=.bl c/\Q c H1
theorem aqh9 {op:CmpOp} {t:TE} (h:PC X op a b t) (h1:Cy op b=false:=by first | exact nobehind _ (by decide) (by decide) | rfl):PT X (.Compare a [op] [b] pos) (tB t):=by
 intro pins s σ H Q I hw;refine Jv (thn (h pins s σ H _ I hw) fun v s1 h1=>thn h1 fun u s2 h2=>thn h2 fun c s3 hQ=>?_) h1;obtain ⟨x,H1,I1,r1,q1⟩:=hQ;obtain ⟨d,rfl,q⟩:=q1;cases r1;exact El ⟨H1,I1,q⟩
theorem aqh8 {e:Expr} {t:TE} (h:PE X e t) (he:∀ whole,Mm e X.env whole=(do let v <- whole; Mg e.pos; I0 [v] (truthy v)):=by intro _; rfl):PT X e (tB t):=by
 intro pins s σ H Q I hw;refine isTrue_plain (thn (h pins s σ H _ I hw) fun v s1 hQ=>?_) (he _);obtain ⟨x,H1,I1,r1,q1⟩:=hQ;obtain ⟨d,rfl,q⟩:=q1;cases r1;exact El ⟨H1,I1,q⟩
variable {tA tB':TT} {aqt6:List Expr}
def tAnd (t u:TT):TT:=fun σ H Q=>t σ H fun c H1=>if c=true then u σ H1 Q else Q false H1
def tOr (t u:TT):TT:=fun σ H Q=>t σ H fun c H1=>if c=true then Q true H1 else u σ H1 Q
def tNot (t:TT):TT:=fun σ H Q=>t σ H fun c H1=>Q (!c) H1
theorem aVz (ha:PT X a tA):PW X (.BoolOp .And [a] pos) tA:=by
 intro wh pins s σ H Q I h;refine isTrue_and (thn (ha pins s σ H Q I h) fun c s1 e=>?_);cases c with
 | true=>exact isTrue_and_nil e
 | false=>exact e
theorem aqdg (ha:PT X a tA):PW X (.BoolOp .Or [a] pos) tA:=by
 intro wh pins s σ H Q I h;refine isTrue_or (thn (ha pins s σ H Q I h) fun c s1 e=>?_);cases c with
 | false=>exact isTrue_or_nil e
 | true=>exact e
theorem aqdh (ha:PT X a tA) (hb:PW X (.BoolOp .And (b :: aqt6) pos) tB'):PW X (.BoolOp .And (a :: b :: aqt6) pos) (tAnd tA tB'):=by
 intro wh pins s σ H Q I h;refine isTrue_and (thn (ha pins s σ H _ I h) fun c s1 hQ=>?_);obtain ⟨H1,I1,q1⟩:=hQ;cases c with
 | true=>exact hb wh pins s1 σ H1 Q I1 q1
 | false=>exact ⟨H1,I1,q1⟩
theorem pw_or (ha:PT X a tA) (hb:PW X (.BoolOp .Or (b :: aqt6) pos) tB'):PW X (.BoolOp .Or (a :: b :: aqt6) pos) (tOr tA tB'):=by
 intro wh pins s σ H Q I h;refine isTrue_or (thn (ha pins s σ H _ I h) fun c s1 hQ=>?_);obtain ⟨H1,I1,q1⟩:=hQ;cases c with
 | true=>exact ⟨H1,I1,q1⟩
 | false=>exact hb wh pins s1 σ H1 Q I1 q1
theorem aqkw (ha:PT X a tA):PT X (.UnaryOp .Not a pos) (tNot tA):=by
 intro pins s σ H Q I h;exact isTrue_not (ha pins s σ H (fun c H1=>Q (!c) H1) I h)
def tIf (t:TT) (ta tb:TE):TE:=fun σ H Q=>t σ H fun c H1=>if c=true then ta σ H1 Q else tb σ H1 Q
theorem aqhh {c:Expr} (hc:PT X c tA) (ha:PE X a ta) (hb:PE X b tb):PE X (.IfExp c a b pos) (tIf tA ta tb):=by
 intro pins s σ H Q I h;refine wpAny_IfExp (thn (hc pins s σ H _ I h) fun d s1 hQ=>?_);obtain ⟨H1,I1,q1⟩:=hQ;cases d with
 | true=>exact ha pins s1 σ H1 Q I1 q1
 | false=>exact hb pins s1 σ H1 Q I1 q1
end
def SqL (K:Frag) (H:Hp) (a:Addr) (xs:List V):Prop :=
 Rd H a (.lst xs) \/
  ∃ (o:Obj) (its:Array Value) (n:Nat),K.lookup a=some o/\o.cls=.type "list"/\o.dict=none/\o.data=.seq its n/\its.size <= Aj/\aqu8 xs its.toList
def SqT (K:Frag) (H:Hp) (a:Addr) (xs:List V):Prop :=
 Rd H a (.tup xs) \/
  ∃ (o:Obj) (its:Array Value) (n:Nat),K.lookup a=some o/\o.cls=.type "tuple"/\o.data=.seq its n/\its.size <= Aj/\aqu8 xs its.toList
def absV:Value->Option V
 | .none=>some .non
 | .bool b=>some (.bl b)
 | .int i _=>some (.int i)
 | .str x _=>some (.str x)
 | .bytes b _=>some (.byt b)
 | .float b _=>some (.flt b)
 | .ref a=>some (.ref a)
 | .type n=>some (.ty n)
 | _=>none
theorem RelV.abs {x:V} {u:Value} (r:RelV x u):absV u=some x:=by
 cases x with
 | non=>cases r; rfl
 | bl _=>cases r; rfl
 | int _=>obtain ⟨t,rfl⟩:=r; rfl
 | str _=>obtain ⟨t,rfl⟩:=r; rfl
 | byt _=>obtain ⟨t,rfl⟩:=r; rfl
 | flt _=>obtain ⟨t,rfl⟩:=r; rfl
 | ref _=>cases r; rfl
 | ty _=>cases r; rfl
theorem RelV.inj {x y:V} {u:Value} (r:RelV x u) (q:RelV y u):x=y:=Option.some.inj (r.abs.symm.trans q.abs)
theorem aqu8.inj:∀ {xs ys:List V} {us:List Value},aqu8 xs us->aqu8 ys us->xs=ys
 | _,_,_,.nil,.nil=>rfl
 | _,_,_,.cons r t,.cons r' t'=>by rw [r.inj r',aqu8.inj t t']
section
variable {X:Cx} {pins:List (Addr × Obj)} {σ:St} {H:Hp} {s:Shared} {a:Addr} {xs ys:List V}
theorem SqL.of {K:Frag} (h:H a=some (.lst xs)):SqL K H a xs:=.inl (.inl h)
theorem SqT.of {K:Frag} (h:H a=some (.tup xs)):SqT K H a xs:=.inl (.inl h)
theorem Inv.list (I:Inv X pins σ H s) (h:SqL X.K H a xs):∃ its:List Value,aqu8 xs its/\PlainL s.heap a its.toArray/\xs.length <= Aj:=by
 rcases h with h | ⟨o,its,n,hk,hc,hd,hs,hz,r⟩
 ·obtain ⟨z,its,n,r,e⟩:=h.ok I.hok
  exact ⟨its,r,⟨_,n,e,rfl,rfl,rfl⟩,z⟩
 ·refine ⟨its.toList,r,⟨o,n,I.kIn a o hk,hc,hd,by simpa using hs⟩,?_⟩
  have e:=r.length;simp only [length_toList] at e;omega
theorem Inv.tuple (I:Inv X pins σ H s) (h:SqT X.K H a xs):∃ its:List Value,aqu8 xs its/\IsTup s.heap a its.toArray/\xs.length <= Aj:=by
 rcases h with h | ⟨o,its,n,hk,hc,hs,hz,r⟩
 ·obtain ⟨z,its,r,p⟩:=h.ok I.hok
  exact ⟨its,r,p,z⟩
 ·refine ⟨its.toList,r,⟨o,I.kIn a o hk,hc,n,by simpa using hs⟩,?_⟩
  have e:=r.length;simp only [length_toList] at e;omega
theorem Inv.list_inj (I:Inv X pins σ H s) (h:SqL X.K H a xs) (h':SqL X.K H a ys):xs=ys:=by
 obtain ⟨its,r,⟨o,n,e,_,_,d⟩,_⟩:=I.list h;obtain ⟨its',r',⟨o',n',e',_,_,d'⟩,_⟩:=I.list h';rw [e] at e'; cases e';rw [d] at d';injection d' with d1 _
 have:its=its':=by simpa using congrArg Array.toList d1
 subst this;exact r.inj r'
theorem Inv.tuple_inj (I:Inv X pins σ H s) (h:SqT X.K H a xs) (h':SqT X.K H a ys):xs=ys:=by
 obtain ⟨its,r,⟨o,e,_,n,d⟩,_⟩:=I.tuple h;obtain ⟨its',r',⟨o',e',_,n',d'⟩,_⟩:=I.tuple h';rw [e] at e'; cases e';rw [d] at d';injection d' with d1 _
 have:its=its':=by simpa using congrArg Array.toList d1
 subst this;exact r.inj r'
end
abbrev Cx.wish (X:Cx) (E:Value->Shared->Prop):Cx:={ X with xe:=E }
abbrev Cx.nox (X:Cx):Cx:=X.wish fun _ _=>False
theorem Cx.Ok.wish {X:Cx} (ok:X.Ok) (E:Value->Shared->Prop):(X.wish E).Ok :=
 ⟨ok.mod,ok.kind,ok.glob,ok.blt,ok.above,ok.inj,ok.has,ok.cab,ok.hd,ok.frames,ok.stk,ok.exf,ok.bs,ok.bsz,ok.noex,ok.exfs,ok.funs,ok.frf⟩
theorem Cx.Ok.unwish {X:Cx} {E:Value->Shared->Prop} (ok:(X.wish E).Ok):X.Ok :=
 ⟨ok.mod,ok.kind,ok.glob,ok.blt,ok.above,ok.inj,ok.has,ok.cab,ok.hd,ok.frames,ok.stk,ok.exf,ok.bs,ok.bsz,ok.noex,ok.exfs,ok.funs,ok.frf⟩
section
variable {X:Cx} {pins:List (Addr × Obj)} {σ:St} {H:Hp} {s:Shared} {E:Value->Shared->Prop}
theorem Inv.wish (I:Inv X pins σ H s) (E:Value->Shared->Prop):Inv (X.wish E) pins σ H s:=⟨I.ok.wish E,I.os,I.bare,I.base,I.loc,I.cell,I.free,I.freeC,I.pin,I.hok,I.len⟩
theorem Inv.unwish (I:Inv (X.wish E) pins σ H s):Inv X pins σ H s:=⟨I.ok.unwish,I.os,I.bare,I.base,I.loc,I.cell,I.free,I.freeC,I.pin,I.hok,I.len⟩
theorem SP.unwish {D:Ends} {f:Flow} {s':Shared} (h:SP (X.wish E) pins D f s'):SP X pins D f s':=by
 cases f with
 | next=>obtain ⟨σ',H',I,q⟩:=h; exact ⟨σ',H',I.unwish,q⟩
 | brk=>obtain ⟨σ',H',I,q⟩:=h; exact ⟨σ',H',I.unwish,q⟩
 | cont=>obtain ⟨σ',H',I,q⟩:=h; exact ⟨σ',H',I.unwish,q⟩
 | ret u=>obtain ⟨v,σ',H',I,r,q⟩:=h; exact ⟨v,σ',H',I.unwish,r,q⟩
theorem PE.nox {e:Expr} {t:TE} (h:PE X.nox e t):PE X e t:=fun pins s σ H Q I hw =>
 Bj (h pins s σ H Q (I.wish _) hw) (fun _ _ ⟨v,H',I',r,q⟩=>⟨v,H',I'.unwish,r,q⟩) fun _ _ z=>Az z
theorem PT.nox {e:Expr} {t:TT} (h:PT X.nox e t):PT X e t:=fun pins s σ H Q I hw =>
 Bj (h pins s σ H Q (I.wish _) hw) (fun _ _ ⟨H',I',q⟩=>⟨H',I'.unwish,q⟩) fun _ _ z=>Az z
theorem PSs.nox {st:List Stmt} {t:TS} (h:PSs X.nox st t):PSs X st t:=fun pins s σ H D I hw =>
 Bj (h pins s σ H D (I.wish _) hw) (fun _ _ q=>q.unwish) fun _ _ z=>Az z
end
section
variable {X:Cx} {st:Stmt} {aqt6:List Stmt} {t u:TS} {e:Expr} {te:TE} {pos:Pos}
def tNext:TS:=fun D σ H=>D.nx σ H
def tSeq (t u:TS):TS:=fun D σ H=>t { D with nx:=u D } σ H
theorem ajr:PSs X [] tNext:=fun _ _ σ H _ I h=>Gp ⟨σ,H,I,h⟩
theorem aj (h1:PS X st t) (h2:PSs X aqt6 u):PSs X (st :: aqt6) (tSeq t u):=by
 intro pins s σ H D I h;refine wpAny_execs_cons (thn (h1 pins s σ H { D with nx:=u D } I h) fun f s1 q=>?_);cases f with
 | next =>
  obtain ⟨σ',H',I',q⟩:=q;exact h2 pins s1 σ' H' D I' q
 | ret v=>exact q
 | brk=>exact q
 | cont=>exact q
theorem av (h1:PS X st t):PSs X [st] t:=by
 intro pins s σ H D I h;refine wpAny_execs_cons (thn (h1 pins s σ H D I h) fun f s1 q=>?_);cases f with
 | next=>exact Gp q
 | ret v=>exact q
 | brk=>exact q
 | cont=>exact q
theorem Inv.quiet {pins:List (Addr × Obj)} {σ:St} {H:Hp} {s:Shared} (I:Inv X pins σ H s):interactive X.env=false:=by simp [interactive,I.ok.kind]
def tDrop (te:TE):TS:=fun D σ H=>te σ H fun _ H1=>D.nx σ H1
theorem aqz (he:PE X e te) (hs:Hc e none pos.line X.env=pure false:=by rfl):PS X (.Expr e pos) (tDrop te):=by
 intro pins s σ H D I h;exact wpAny_Expr_any (thn (he pins s σ H _ I h) fun v s1 ⟨x,H1,I1,r1,q1⟩=>⟨σ,H1,I1,q1⟩) I.quiet hs
def tRet (te:TE):TS:=fun D σ H=>te σ H D.rt
theorem av1 (he:PE X e te):PS X (.Return (some e) pos) (tRet te):=by
 intro pins s σ H D I h;exact wpAny_Return_some (thn (he pins s σ H _ I h) fun v s1 ⟨x,H1,I1,r1,q1⟩=>⟨x,σ,H1,I1,r1,q1⟩)
def tIfS (c:TT) (t u:TS):TS:=fun D σ H=>c σ H fun b H1=>if b=true then t D σ H1 else u D σ H1
theorem aX3 {c:Expr} {a b:List Stmt} {tc:TT} (hc:PT X c tc) (ha:PSs X a t) (hb:PSs X b u):PS X (.If c a b pos) (tIfS tc t u):=by
 intro pins s σ H D I h;refine wpAny_If (thn (hc pins s σ H _ I h) fun d s1 hQ=>?_);obtain ⟨H1,I1,q1⟩:=hQ;cases d with
 | true=>exact ha pins s1 σ H1 D I1 q1
 | false=>exact hb pins s1 σ H1 D I1 q1
def tNever:TS:=fun _ _ _=>False
theorem aqha:PS X st tNever:=fun _ _ _ _ _ _ h=>h.elim
end
abbrev TG:=V->St->Hp->(St->Hp->Prop)->Prop
abbrev TGs:=List V->St->Hp->(St->Hp->Prop)->Prop
def PG (X:Cx) (target:Expr) (t:TG):Prop :=
 ∀ (pins:List (Addr × Obj)) (s:Shared) (σ:St) (H:Hp) (v:V) (u:Value) (Q:St->Hp->Prop),Inv X pins σ H s->RelV v u->t v σ H Q ->
  wpAny (model X.prog X.w) X.A (Il target X.env u) (fun _ s'=>∃ σ' H',Inv X pins σ' H' s'/\Q σ' H') X.xe s
def PGs (X:Cx) (ts:List Expr) (t:TGs):Prop :=
 ∀ (pins:List (Addr × Obj)) (s:Shared) (σ:St) (H:Hp) (vs:List V) (us:List Value) (Q:St->Hp->Prop),Inv X pins σ H s->aqu8 vs us->t vs σ H Q ->
  wpAny (model X.prog X.w) X.A (assignInOrder ((B6 ts X.env).map (·.2)) us) (fun _ s'=>∃ σ' H',Inv X pins σ' H' s'/\Q σ' H') X.xe s
abbrev TSet:=V->V->V->Hp->(Hp->Prop)->Prop
def PSet (X:Cx) (t:TSet):Prop :=
 ∀ (pins:List (Addr × Obj)) (s:Shared) (σ:St) (H:Hp) (o i v:V) (ov iv u:Value) (Q:Hp->Prop),Inv X pins σ H s->RelV o ov->RelV i iv->RelV v u->t o i v H Q ->
  wpAny (model X.prog X.w) X.A (setItem ov iv u) (fun _ s'=>∃ H',Inv X pins σ H' s'/\Q H') X.xe s
section
variable {X:Cx} {pos:Pos}
def azj (i:Nat):TG:=fun v σ H Q=>Q (σ.set i (some v)) H
theorem aq0 {i:Nat} {x:Str} (hN:X.N.Nodup) (hi:X.N[i]?=some x) (hx:Loc X.env.scope x) (hf:X.fn x=true \/ X.env.scope.names.lookup x=some .local:=by first | exact .inl rfl | exact .inr rfl | assumption):PG X (.Name x pos) (azj i):=by
 intro pins s σ H v u Q I r h;exact wpAny_assign_Name (aYg I hN hi hx r (fun s' I'=>⟨_,H,I',h⟩) hf)
def gNil:TGs:=fun vs σ H Q=>vs=[]/\Q σ H
def aqbh (t:TG) (u:TGs):TGs:=fun vs σ H Q=>∃ v r,vs=v :: r/\t v σ H fun σ' H'=>u r σ' H' Q
theorem aJu:PGs X [] gNil:=by
 intro pins s σ H vs us Q I r h;obtain ⟨e,h⟩:=h;subst e;cases r;exact assignInOrder_nil ⟨σ,H,I,h⟩
theorem axl {e:Expr} {es:List Expr} {t:TG} {u:TGs} (h1:PG X e t) (h2:PGs X es u)
  (hs:(B6 (e :: es) X.env).map (·.2)=Il e X.env :: (B6 es X.env).map (·.2):=by rfl):PGs X (e :: es) (aqbh t u):=by
 intro pins s σ H vs us Q I r h;obtain ⟨v,vr,e1,h⟩:=h;subst e1;cases r with
 | cons r rr =>
  rw [hs];refine assignInOrder_cons (thn (h1 pins s σ H _ _ _ I r h) fun _ s1 hQ=>?_);obtain ⟨σ1,H1,I1,q1⟩:=hQ;exact h2 pins s1 σ1 H1 _ _ Q I1 rr q1
def gTup (K:Frag) (n:Nat) (t:TGs):TG:=fun v σ H Q=>∃ a xs,v=.ref a/\SqT K H a xs/\xs.length=n/\t xs σ H Q
theorem aqdl {es:List Expr} {k:Nat} {t:TGs} {n:Nat} (hc:X.calm=true) (h:PGs X es t)
  (hn:(B6 es X.env).length=n:=by rfl) (hst:(B6 es X.env).findIdx? (·.1)=none:=by rfl):PG X (.Tuple es k pos) (gTup X.K n t):=by
 intro pins s σ H v u Q I r hw;obtain ⟨a,xs,e1,hq,hl,hw⟩:=hw;subst e1;cases r;obtain ⟨its,rv,ht,hz⟩:=I.tuple hq;refine assign_Tuple_tuple (I.ok.hd hc) ht (by simp [hn,<- hl,rv.length]) hst fun h' hx=>?_;have I1:Inv X pins σ H { s with heap:=h' }:=I.kept (t':=s.toks) fun b o e=>hx b o (ne_of_lt (Af e)) e;exact h pins _ σ H xs _ Q I1 (by simpa using rv) hw
def gSub (to ti:TE) (t:TSet):TG:=fun v σ H Q=>to σ H fun o H1=>ti σ H1 fun i H2=>t o i v H2 fun H3=>Q σ H3
theorem aqoh {o i:Expr} {to ti:TE} {t:TSet} (ho:PE X o to) (hi:PE X i ti) (hs:PSet X t)
  (ha:∀ v,Il (.Subscript o i pos) X.env v=(do
   let ov <- I0 [v] (eval o X.env)
   let iv <- I0 [v,ov] (eval i X.env)
   Mg pos
   I0 [v,ov,iv] (setItem ov iv v)
   release [v,ov,iv] []):=by intro _; rfl):PG X (.Subscript o i pos) (gSub to ti t):=by
 intro pins s σ H v u Q I r h;rw [ha];refine Ac (Ba (thn (ho pins s σ H _ I h) fun ov s1 hQ=>?_));obtain ⟨x,H1,I1,r1,q1⟩:=hQ;refine Ac (Ba (thn (hi pins s1 σ H1 _ I1 q1) fun iv s2 hQ=>?_));obtain ⟨y,H2,I2,r2,q2⟩:=hQ;refine Ac (Ku (Ac (Ba (thn (hs pins s2 σ H2 x y v ov iv u _ I2 r1 r2 r q2) fun _ s3 hQ=>?_))));obtain ⟨H3,I3,q3⟩:=hQ;exact wpAny_release ⟨σ,H3,I3,q3⟩
def tAsg (te:TE) (g:TG):TS:=fun D σ H=>te σ H fun x H1=>g x σ H1 D.nx
theorem aqoe {tg e:Expr} {te:TE} {g:TG} (he:PE X e te) (hg:PG X tg g) (hs:swapsWithSole [tg] e pos.line X.env=pure false:=by rfl) (hw:swappedStores [tg] e X.env=pure none:=by rfl)
  (h1:(B6 [tg] X.env).map (·.2)=[Il tg X.env]:=by rfl):PS X (.Assign [tg] e pos) (tAsg te g):=by
 intro pins s σ H D I h;refine wpAny_Assign_stores (thn (he pins s σ H _ I h) fun v s1 hQ=>?_) hs hw;obtain ⟨x,H1,I1,r1,q1⟩:=hQ;rw [h1];exact thn (hg pins s1 σ H1 x v _ I1 r1 q1) fun _ s2 q=>q
theorem aq {i:Nat} {x:Str} {e:Expr} {te:TE} {pos':Pos} (hN:X.N.Nodup) (hi:X.N[i]?=some x) (hx:Loc X.env.scope x) (he:PE X e te) (hs:Hc e (some (.Name x pos')) pos.line X.env=pure false:=by rfl) (hf:X.fn x=true \/ X.env.scope.names.lookup x=some .local:=by first | exact .inl rfl | exact .inr rfl | assumption) :
  PS X (.Assign [.Name x pos'] e pos) (tAsg te (azj i)):=by
 intro pins s σ H D I h;refine wpAny_Assign_Name (thn (he pins s σ H _ I h) fun v s1 hQ=>?_) hs;obtain ⟨y,H1,I1,r1,q1⟩:=hQ;exact aYg I1 hN hi hx r1 (fun s2 I2=>⟨_,H1,I2,q1⟩) hf
end
section
variable {X:Cx} {pos:Pos}
def tWhile (c:TT) (tb:TS):TS:=fun D σ H=>∃ W:Nat->St->Hp->Prop,(∃ m,W m σ H)/\∀ m σ H,W m σ H ->
 c σ H fun b H1=>if b=true then ∃ N:St->Hp->Prop,(∀ σ' H',N σ' H'->∃ m',m' < m/\W m' σ' H')/\tb { D with nx:=N,ct:=N,bk:=D.nx } σ H1 else D.nx σ H1
theorem aY8 {c:Expr} {body:List Stmt} {tc:TT} {tb:TS} (hp:PassesOwn (model X.prog X.w) X.A X.env X.xe) (hc:PT X c tc) (hb:PSs X body tb):PS X (.While c body [] pos) (tWhile tc tb):=by
 intro pins s σ H D I h;obtain ⟨W,⟨m0,w0⟩,turn⟩:=h;refine wpAny_While (codeAny_whileLoop (fun n s'=>∃ σ' H',Inv X pins σ' H' s'/\W n σ' H') ?_ m0 ⟨σ,H,I,w0⟩);rintro n s1 ⟨σ1,H1,I1,w1⟩;refine De hp (thn (hc pins s1 σ1 H1 _ I1 (turn n σ1 H1 w1)) fun b s2 hQ=>?_);obtain ⟨H2,I2,q2⟩:=hQ;cases b with
 | true =>
  obtain ⟨N,hN,q2⟩:=q2;rw [if_pos rfl];refine De hp (thn (hb pins s2 σ1 H2 _ I2 q2) fun f s3 q3=>?_);cases f with
  | next =>
   obtain ⟨σ3,H3,I3,n3⟩:=q3;obtain ⟨m',hm,w3⟩:=hN σ3 H3 n3;exact ⟨m',hm,σ3,H3,I3,w3⟩
  | cont =>
   obtain ⟨σ3,H3,I3,n3⟩:=q3;obtain ⟨m',hm,w3⟩:=hN σ3 H3 n3;exact ⟨m',hm,σ3,H3,I3,w3⟩
  | brk=>exact q3
  | ret v=>exact q3
 | false =>
  rw [if_neg An];exact Gp ⟨σ1,H2,I2,q2⟩
end
structure It where
 go:Nat->Hp->Prop
 yld:Nat->Hp->V->Hp->Prop
 stop:Nat->Hp->Prop
def FpOk (X:Cx) (pins:List (Addr × Obj)) (H:Hp) (b:Addr):Prop :=
 H b=none/\b ≠ X.env.locals/\b ∉ X.fs/\(b∈X.ex \/ X.s₀.heap.objs.size <= b)/\(∀ x c,X.env.cells.lookup x=some c->c ≠ b)/\∀ p∈X.pn++pins,p.1 ≠ b
theorem Inv.fpOk {X:Cx} {pins:List (Addr × Obj)} {σ:St} {H H':Hp} {s:Shared} {b:Addr} (I:Inv X pins σ H s) (hb:s.heap.objs.size <= b) (hn:H' b=none):FpOk X pins H' b:=by
 refine ⟨hn,ne_of_gt (lt_of_lt_of_le I.lt hb),I.nofs hb,.inr (le_trans I.sz hb),fun x c e z=>?_,fun p hp z=>?_⟩
 ·obtain ⟨v,q⟩:=I.cell x c e
  exact absurd (lt_of_lt_of_le q.lt (by rw [z]; exact hb)) (lt_irrefl _)
 ·exact absurd (lt_of_lt_of_le (Af (I.pin p hp).1) (by rw [z]; exact hb)) (lt_irrefl _)
structure Turn (P:Ak) (w:World) (K:Frag) (tg:Expr) (J:It) (fp:List Addr) (it:Addr) (tn:Nat->Heap->Prop):Prop where
 mem:it∈fp
 obj:∀ i h,tn i h->∀ b∈fp,∃ o,h.get? b=some o/\∀ v,o.data ≠ .cell v
 keep:∀ i h h',tn i h->(∀ b∈fp,∀ o,h.get? b=some o->h'.get? b=some o)->tn i h'
 item:∀ (X:Cx),X.prog=P->X.w=w->X.K=K->X.calm=true->∀ (i:Nat) (pins:List (Addr × Obj)) (s:Shared) (σ:St) (H:Hp) (E:Value->Shared->Prop),Inv X pins σ H s->(∀ b∈fp,FpOk X pins H b)->tn i s.heap->J.go i H ->
  wpAny (model P w) X.A (Dt (.ref it)) (fun r s1=>∃ u,r=some u /\
   wpAny (model P w) X.A (Gq tg (.ref it) u) (fun _ s2=>∃ x H',Inv X pins σ H' s2/\RelV x u/\J.yld i H x H'/\tn (i + 1) s2.heap/\∀ b∈fp,H' b=none) E s1) E s
 done:∀ (X:Cx),X.prog=P->X.w=w->X.K=K->X.calm=true->∀ (i:Nat) (pins:List (Addr × Obj)) (s:Shared) (σ:St) (H:Hp) (E:Value->Shared->Prop),Inv X pins σ H s->(∀ b∈fp,FpOk X pins H b)->tn i s.heap->J.stop i H ->
  wpAny (model P w) X.A (Dt (.ref it)) (fun r s1=>r=none/\Inv X pins σ H s1) E s
 self:∀ (A:Around) (i:Nat) (s:Shared) (Q:Value->Shared->Prop) (E:Value->Shared->Prop),tn i s.heap->Q (.ref it) s->wpAny (model P w) A (J2 (.ref it)) Q E s
abbrev TI:=St->Hp->(It->Hp->Prop)->Prop
def PIE (X:Cx) (pins:List (Addr × Obj)) (σ:St) (tg:Expr) (R:It->Hp->Prop) (itv:Value) (s2:Shared):Prop :=
 ∃ (it:Addr) (fp:List Addr) (tn:Nat->Heap->Prop) (J:It) (H':Hp),itv=.ref it/\Inv X pins σ H' s2/\Turn X.prog X.w X.K tg J fp it tn/\tn 0 s2.heap/\(∀ b∈fp,FpOk X pins H' b)/\R J H'
def PI (X:Cx) (tg iter:Expr) (wi:TI):Prop :=
 ∀ (pins:List (Addr × Obj)) (s:Shared) (σ:St) (H:Hp) (R:It->Hp->Prop),Inv X pins σ H s->wi σ H R ->
  wpAny (model X.prog X.w) X.A (eval iter X.env) (fun v s1=>wpAny (model X.prog X.w) X.A (J2 v) (PIE X pins σ tg R) X.xe s1) X.xe s
theorem go_of {M:Model} {A:Around} {E:Value->Shared->Prop} {s:Shared} {tg:Expr} {it:Addr} {u:Value} {o:Obj} {n:String} {vs:Array Value} {Q:Unit->Shared->Prop} (ho:s.heap.get? it=some o) (hc:o.cls=.type n) (hd:o.data=.fields vs)
  (hn:["enumerate","zip","dict_itemiterator","dict_reverseitemiterator","odict_iterator","itertools.zip_longest","itertools.pairwise"].contains n=false) (hQ:Q () s):wpAny M A (Gq tg (.ref it) u) Q E s:=by
 unfold Gq;cases tg <;> first
  | exact Ad hQ
  | (cases u <;> first
    | exact Ad hQ
    | (refine Ac (Fy ho ?_)
       rw [hc,hd];show wpAny M A (if (["enumerate","zip","dict_itemiterator","dict_reverseitemiterator","odict_iterator","itertools.zip_longest","itertools.pairwise"].contains n && vs[0]? == some (B7 _))=true then _ else _) Q E s;rw [if_neg (by intro h; rw [hn,Bool.false_and] at h; cases h)];exact Ad hQ))
def Itl (K:Frag) (a:Addr):It :=
 ⟨fun i H=>∃ xs x,SqL K H a xs/\xs[i]?=some x,fun i H x H'=>H'=H/\∀ xs,SqL K H a xs->xs[i]?=some x,fun i H=>∃ xs,SqL K H a xs/\xs.length <= i⟩
def Itt (K:Frag) (a:Addr):It :=
 ⟨fun i H=>∃ xs x,SqT K H a xs/\xs[i]?=some x,fun i H x H'=>H'=H/\∀ xs,SqT K H a xs->xs[i]?=some x,fun i H=>∃ xs,SqT K H a xs/\xs.length <= i⟩
def Itr (lo:Int) (n:Nat):It:=⟨fun i _=>i < n,fun i H x H'=>H'=H/\x=.int (lo + i),fun i _=>n <= i⟩
theorem aqcw {P:Ak} {w:World} {K:Frag} {tg:Expr} (a it:Addr):Turn P w K tg (Itl K a) [it] it (fun i h=>h.IsListIter it a i) where
 mem:=by simp
 obj:=fun i h st b hb=>by
  have e:b=it:=by simpa using hb
  subst e;obtain ⟨o,e,c,d⟩:=st;exact ⟨o,e,fun v z=>by rw [d] at z; cases z⟩
 keep:=fun i h h' st k=>st.at fun o e=>k it (by simp) o e
 item:=by
  intro X hP hw hK hc i pins s σ H E I hf st hg;subst hP hw hK;obtain ⟨xs,x,hq,hx⟩:=hg;obtain ⟨its,rv,p,hz⟩:=I.list hq;obtain ⟨u,hu,ru⟩:=rv.get hx;obtain ⟨f0,f1,f2,f3,f4,f5⟩:=hf it (by simp);refine wpAny_pyNext_list_item st p.isList (x:=u) (by simpa using hu) fun h' st' sb=>?_;have I1:Inv X pins σ H { s with heap:=h' }:=I.turned (t':=s.toks) (fun b o hb e=>(sb.2 b hb).trans e) f0 f1 f3 f4 f5;obtain ⟨o,e,c,d⟩:=id st';exact ⟨u,rfl,go_of (s:={ s with heap:=h' }) e c d (by decide) ⟨x,H,I1,ru,⟨rfl,fun ys hy=>by rw [I.list_inj hy hq]; exact hx⟩,st',fun b hb=>(hf b hb).1⟩⟩
 done:=by
  intro X hP hw hK hc i pins s σ H E I hf st hg;subst hP hw hK;obtain ⟨xs,hq,hx⟩:=hg;obtain ⟨its,rv,p,hz⟩:=I.list hq;obtain ⟨f0,f1,f2,f3,f4,f5⟩:=hf it (by simp);have hl:=rv.length;exact wpAny_pyNext_list_end (I.ok.hd hc) st p.isList (by simp; omega) fun h' eb=>⟨rfl,I.turned (t':=s.toks) (fun b o hb e=>eb b o hb e) f0 f1 f3 f4 f5⟩
 self:=fun _ _ _ _ _ st h=>wpAny_pyIter_listiter st h
theorem aW8 {P:Ak} {w:World} {K:Frag} {tg:Expr} (a it:Addr):Turn P w K tg (Itt K a) [it] it (fun i h=>h.IsTupleIter it a i) where
 mem:=by simp
 obj:=fun i h st b hb=>by
  have e:b=it:=by simpa using hb
  subst e;obtain ⟨o,e,c,d⟩:=st;exact ⟨o,e,fun v z=>by rw [d] at z; cases z⟩
 keep:=fun i h h' st k=>st.at fun o e=>k it (by simp) o e
 item:=by
  intro X hP hw hK hc i pins s σ H E I hf st hg;subst hP hw hK;obtain ⟨xs,x,hq,hx⟩:=hg;obtain ⟨its,rv,p,hz⟩:=I.tuple hq;obtain ⟨u,hu,ru⟩:=rv.get hx;obtain ⟨f0,f1,f2,f3,f4,f5⟩:=hf it (by simp);refine wpAny_pyNext_tuple_item st (show s.heap.IsTuple a its.toArray from p) (x:=u) (by simpa using hu) fun h' st' sb=>?_;have I1:Inv X pins σ H { s with heap:=h' }:=I.turned (t':=s.toks) (fun b o hb e=>(sb.2 b hb).trans e) f0 f1 f3 f4 f5;obtain ⟨o,e,c,d⟩:=id st';exact ⟨u,rfl,go_of (s:={ s with heap:=h' }) e c d (by decide) ⟨x,H,I1,ru,⟨rfl,fun ys hy=>by rw [I.tuple_inj hy hq]; exact hx⟩,st',fun b hb=>(hf b hb).1⟩⟩
 done:=by
  intro X hP hw hK hc i pins s σ H E I hf st hg;subst hP hw hK;obtain ⟨xs,hq,hx⟩:=hg;obtain ⟨its,rv,p,hz⟩:=I.tuple hq;obtain ⟨f0,f1,f2,f3,f4,f5⟩:=hf it (by simp);have hl:=rv.length;exact wpAny_pyNext_tuple_end (I.ok.hd hc) st (show s.heap.IsTuple a its.toArray from p) (by simp; omega) fun h' eb=>⟨rfl,I.turned (t':=s.toks) (fun b o hb e=>eb b o hb e) f0 f1 f3 f4 f5⟩
 self:=fun _ _ _ _ _ st h=>wpAny_pyIter_tupleiter st h
theorem aW9 {P:Ak} {w:World} {K:Frag} {tg:Expr} (it:Addr) (lo:Int) (n:Nat):Turn P w K tg (Itr lo n) [it] it (fun i h=>IsRangeIter h it (lo + (i:Nat) * 1) ((n:Int) - (i:Nat)) 1) where
 mem:=by simp
 obj:=fun i h st b hb=>by
  have e:b=it:=by simpa using hb
  subst e;exact ⟨_,st,fun v z=>by
   have z':Data.fields _=Data.cell v:=z;cases z'⟩
 keep:=fun i h h' st k=>k it (by simp) _ st
 item:=by
  intro X hP hw hK hc i pins s σ H E I hf st hg;subst hP hw hK;obtain ⟨f0,f1,f2,f3,f4,f5⟩:=hf it (by simp);have W:=Walks.range (prog:=X.prog) (w:=X.w) (I.ok.hd hc) it lo 1 n;refine W.item i s _ _ hg st fun v h' tk hv st' kk=>?_;obtain ⟨t,rfl⟩:=hv;have I1:Inv X pins σ H { s with heap:=h',toks:=tk }:=I.turned (fun b o hb e=>kk b o (by simpa using hb) e) f0 f1 f3 f4 f5;refine ⟨_,rfl,go_of (s:={ s with heap:=h',toks:=tk }) (n:="range_iterator") st' rfl rfl (by decide) ⟨.int (lo + i),H,I1,⟨t,?_⟩,⟨rfl,rfl⟩,st',fun b hb=>(hf b hb).1⟩⟩;rw [Int.mul_one]
 done:=by
  intro X hP hw hK hc i pins s σ H E I hf st hg;subst hP hw hK;obtain ⟨f0,f1,f2,f3,f4,f5⟩:=hf it (by simp);exact wpAny_pyNext_range_end (I.ok.hd hc) st (by have:n <= i:=hg; omega) fun h' eb=>⟨rfl,I.turned (t':=s.toks) (fun b o hb e=>eb b o hb e) f0 f1 f3 f4 f5⟩
 self:=fun _ _ _ _ _ st h=>wpAny_pyIter_rangeiter st h
section
variable {X:Cx} {tg:Expr}
def aqmh (K:Frag) (tl:TE):TI:=fun σ H R=>tl σ H fun x H1=>∃ a,x=.ref a/\(∃ xs,SqL K H1 a xs)/\R (Itl K a) H1
def iTup (K:Frag) (tl:TE):TI:=fun σ H R=>tl σ H fun x H1=>∃ a,x=.ref a/\(∃ xs,SqT K H1 a xs)/\R (Itt K a) H1
theorem aJ {l:Expr} {tl:TE} (hl:PE X l tl):PI X tg l (aqmh X.K tl):=by
 intro pins s σ H R I h;refine thn (hl pins s σ H _ I h) fun v s1 hQ=>?_;obtain ⟨x,H1,I1,r1,q1⟩:=hQ;obtain ⟨a,e,⟨xs,hq⟩,q⟩:=q1;subst e;cases r1;obtain ⟨its,rv,p,hz⟩:=I1.list hq;refine Hw p.isList ?_;refine ⟨s1.heap.objs.size,[s1.heap.objs.size],_,_,H1,rfl,I1.kept (t':=s1.toks) fun b o e=>Ae _ e,aqcw a _,⟨_,Ag _ rfl,rfl,rfl⟩,fun b hb=>?_,q⟩;have e:b=s1.heap.objs.size:=by simpa using hb
 subst e;exact I1.fpOk (le_refl _) (I1.hok.fresh (le_refl _))
theorem aql2 {l:Expr} {tl:TE} (hl:PE X l tl):PI X tg l (iTup X.K tl):=by
 intro pins s σ H R I h;refine thn (hl pins s σ H _ I h) fun v s1 hQ=>?_;obtain ⟨x,H1,I1,r1,q1⟩:=hQ;obtain ⟨a,e,⟨xs,hq⟩,q⟩:=q1;subst e;cases r1;obtain ⟨its,rv,p,hz⟩:=I1.tuple hq;refine wpAny_pyIter_tuple (show s1.heap.IsTuple a its.toArray from p) ?_;refine ⟨s1.heap.objs.size,[s1.heap.objs.size],_,_,H1,rfl,I1.kept (t':=s1.toks) fun b o e=>Ae _ e,aW8 a _,⟨_,Ag _ rfl,rfl,rfl⟩,fun b hb=>?_,q⟩;have e:b=s1.heap.objs.size:=by simpa using hb
 subst e;exact I1.fpOk (le_refl _) (I1.hok.fresh (le_refl _))
theorem aY4 {pins:List (Addr × Obj)} {σ:St} {H:Hp} {s:Shared} {R:It->Hp->Prop} {E:Value->Shared->Prop} {lo hi:Int} {t u v:Tok} {tk:Nat} (I:Inv X pins σ H s) (h1:-(2 ^ 62) <= lo) (h2:lo < 2 ^ 62) (h3:-(2 ^ 62) <= hi) (h4:hi < 2 ^ 62)
  (q:R (Itr lo (hi - lo).toNat) H):wpAny (model X.prog X.w) X.A (J2 (.ref s.heap.objs.size)) (PIE X pins σ tg R) E { s with heap:=s.heap.push { cls:=.type "range",data:=.fields #[.int lo t,.int hi u,.int 1 v] },toks:=tk }:=by
 refine wpAny_pyIter_range (IsRange.new ..) (small_one h1 h2 h3 h4) ?_;have I1:Inv X pins σ H { s with heap:=s.heap.push { cls:=.type "range",data:=.fields #[.int lo t,.int hi u,.int 1 v] },toks:=tk }:=I.kept fun b o e=>Ae _ e;refine ⟨(s.heap.push { cls:=.type "range",data:=.fields #[.int lo t,.int hi u,.int 1 v] }).objs.size,[(s.heap.push { cls:=.type "range",data:=.fields #[.int lo t,.int hi u,.int 1 v] }).objs.size],_,_,H,rfl,
  I1.kept (t':=tk) fun b o e=>Ae _ e,aW9 _ lo (hi - lo).toNat,?_,fun b hb=>?_,q⟩
 ·have e1:lo + ((0:Nat):Int) * 1=lo:=by simp
  have e2:(((hi - lo).toNat:Nat):Int) - ((0:Nat):Int)=Builtin.Range.rangeSize lo hi 1:=by rw [rangeSize_one]; split <;> omega
  show IsRangeIter _ _ (lo + ((0:Nat):Int) * 1) ((((hi - lo).toNat:Nat):Int) - ((0:Nat):Int)) 1;rw [e1,e2];exact Ag _ rfl
 ·have e:b=(s.heap.push { cls:=.type "range",data:=.fields #[.int lo t,.int hi u,.int 1 v] }).objs.size:=by simpa using hb
  subst e;exact I1.fpOk (le_refl _) (I1.hok.fresh (le_refl _))
def iRng1 (ta:TA):TI:=fun σ H R=>ta σ H fun vs H1=>∃ j:Int,vs=[.int j]/\-(2 ^ 62) <= j/\j < 2 ^ 62/\R (Itr 0 j.toNat) H1
def iRng2 (ta:TA):TI:=fun σ H R=>ta σ H fun vs H1=>∃ i j:Int,vs=[.int i,.int j]/\(-(2 ^ 62) <= i/\i < 2 ^ 62/\-(2 ^ 62) <= j/\j < 2 ^ 62)/\R (Itr i (j - i).toNat) H1
theorem av4 {a:Expr} {ta:TA} {p pos:Pos} (hg:Gl X "range") (hm:X.mg "range"=none) (ha:PA X [a] ta) (hs:Ap [a] X.env=[(false,eval a X.env)]:=by rfl):PI X tg (.Call (.Name "range" p) [a] [] pos) (iRng1 ta):=by
 intro pins s σ H R I h;refine Call_ (awo I hg hm boot_range (Bp (thn (ha pos pins s σ H _ I h) fun us s1 hQ=>?_) hs rfl));obtain ⟨vs,H1,I1,r1,q1⟩:=hQ;obtain ⟨j,e,q1,q2,q⟩:=q1;subst e;cases r1 with
 | cons r rr =>
  cases rr;obtain ⟨t,rfl⟩:=r;exact call_range_1 (aY4 I1 (by omega) (by omega) q1 q2 (by simpa using q))
theorem aqdj {a b:Expr} {ta:TA} {p pos:Pos} (hg:Gl X "range") (hm:X.mg "range"=none) (ha:PA X [a,b] ta) (hs:Ap [a,b] X.env=[(false,eval a X.env),(false,eval b X.env)]:=by rfl) (hs2:Ap [b] X.env=[(false,eval b X.env)]:=by rfl) :
  PI X tg (.Call (.Name "range" p) [a,b] [] pos) (iRng2 ta):=by
 intro pins s σ H R I h;refine Call_ (awo I hg hm boot_range (Bp (thn (ha pos pins s σ H _ I h) fun us s1 hQ=>?_) (by rw [hs,hs2]) (by rw [hs2]; rfl)));obtain ⟨vs,H1,I1,r1,q1⟩:=hQ;obtain ⟨i,j,e,⟨q1,q2,q3,q4⟩,q⟩:=q1;subst e;cases r1 with
 | cons r rr =>
  cases rr with
  | cons r' rr =>
   cases rr;obtain ⟨t,rfl⟩:=r;obtain ⟨t',rfl⟩:=r';exact call_range_2 (aY4 I1 q1 q2 q3 q4 q)
def tFor (wi:TI) (g:TG) (tb:TS):TS:=fun D σ H=>wi σ H fun J H1=>∃ W:Nat->Nat->St->Hp->Prop,(∃ m,W 0 m σ H1)/\∀ i m σ H,W i m σ H ->
 (J.stop i H/\D.nx σ H) \/ (J.go i H/\∃ N:St->Hp->Prop,(∀ σ' H',N σ' H'->∃ m',m' < m/\W (i + 1) m' σ' H')/\∀ x H',J.yld i H x H'->g x σ H' fun σ2 H2=>tb { D with nx:=N,ct:=N,bk:=D.nx } σ2 H2)
def aX7 (fp:List Addr) (h:Heap):List (Addr × Obj):=fp.filterMap fun b=>(h.get? b).map fun o=>(b,o)
theorem azx {fp:List Addr} {h:Heap} {b:Addr} {o:Obj} (hb:b∈fp) (e:h.get? b=some o):(b,o)∈aX7 fp h:=D0.mpr ⟨b,hb,by rw [e]; rfl⟩
theorem aqdx {fp:List Addr} {h:Heap} {p:Addr × Obj} (hp:p∈aX7 fp h):p.1∈fp/\h.get? p.1=some p.2:=by
 obtain ⟨b,hb,e⟩:=D0.mp hp;cases q:h.get? b with
 | none=>rw [q] at e; cases e
 | some o =>
  rw [q] at e;have e':(b,o)=p:=Option.some.inj e;subst e';exact ⟨hb,q⟩
theorem Inv.pinned {pins:List (Addr × Obj)} {σ:St} {H:Hp} {s:Shared} {fp:List Addr} (I:Inv X pins σ H s) (hf:∀ b∈fp,FpOk X pins H b) (ho:∀ b∈fp,∃ o,s.heap.get? b=some o/\∀ v,o.data ≠ .cell v):Inv X (pins++aX7 fp s.heap) σ H s :=
 I.pins_of fun p hp=>(Dd.mp hp).elim (fun z=>I.pin p (mem_append_right _ z)) fun z=>by
  obtain ⟨hb,e⟩:=aqdx z;obtain ⟨f0,f1,f2,_⟩:=hf p.1 hb;obtain ⟨o,e',d⟩:=ho p.1 hb;rw [e] at e'; cases e';exact ⟨e,f0,f1,f2,d⟩
theorem Inv.unpinned {pins pl:List (Addr × Obj)} {σ:St} {H:Hp} {s:Shared} (I:Inv X (pins++pl) σ H s):Inv X pins σ H s:=I.pins_of fun p hp=>I.pin p (mem_append_right _ (Es _ hp))
theorem aX4 {iter:Expr} {body:List Stmt} {wi:TI} {g:TG} {tb:TS} {pos:Pos} (hp:PassesOwn (model X.prog X.w) X.A X.env X.xe) (hc:X.calm=true) (hi:PI X tg iter wi) (hg:PG X tg g) (hb:PSs X body tb)
  (hs:∀ x,Cd iter X.env x=pure x:=by intro _; rfl):PS X (.For tg iter body [] pos) (tFor wi g tb):=by
 intro pins s σ H D I h;refine wpAny_For (thn (hi pins s σ H _ I h) fun v s1 h1=>thn h1 fun itv s2 h2=>?_) hs;obtain ⟨it,fp,tn,J,H2,e,I2,T,st2,f2,W,⟨m0,w0⟩,turn⟩:=h2;subst e;have stat:∀ {H':Hp},(∀ b∈fp,H' b=none)->∀ b∈fp,FpOk X pins H' b:=fun hn b hb=>⟨hn b hb,(f2 b hb).2⟩;refine codeAny_forLoop_any (fun n s'=>∃ i σ' H',Inv X pins σ' H' s'/\tn i s'.heap/\(∀ b∈fp,H' b=none)/\W i n σ' H') ?_ m0 ⟨0,σ,H2,I2,st2,fun b hb=>(f2 b hb).1,w0⟩;rintro n s3 ⟨i,σ3,H3,I3,st3,fr3,w3⟩;rcases turn i n σ3 H3 w3 with ⟨stop,qn⟩ | ⟨go,N,hN,step⟩
 ·refine De hp (thn (T.done X rfl rfl rfl hc i pins s3 σ3 H3 X.xe I3 (stat fr3) st3 stop) fun r s4 hQ=>?_)
  obtain ⟨hr,I4⟩:=hQ;subst hr;exact Gp ⟨σ3,H3,I4,qn⟩
 ·refine De hp (thn (T.item X rfl rfl rfl hc i pins s3 σ3 H3 X.xe I3 (stat fr3) st3 go) fun r s4 hQ=>?_)
  obtain ⟨u,hr,h4⟩:=hQ;subst hr;refine De hp (thn h4 fun _ s5 hQ=>?_);obtain ⟨x,H5,I5,r5,y5,st5,fr5⟩:=hQ;have I5':=I5.pinned (stat fr5) (T.obj _ _ st5);refine De hp (thn (hg _ s5 σ3 H5 x u _ I5' r5 (step x H5 y5)) fun _ s6 hQ=>?_);obtain ⟨σ6,H6,I6,q6⟩:=hQ;refine De hp (thn (hb _ s6 σ6 H6 _ I6 q6) fun f s7 q7=>?_);have again:∀ {σ7:St} {H7:Hp},Inv X (pins++aX7 fp s5.heap) σ7 H7 s7->N σ7 H7->∃ m,m < n/\∃ i σ' H',Inv X pins σ' H' s7/\tn i s7.heap/\(∀ b∈fp,H' b=none)/\W i m σ' H':=fun {σ7 H7} I7 n7=>by
   obtain ⟨m',hm,w7⟩:=hN σ7 H7 n7;refine ⟨m',hm,i + 1,σ7,H7,I7.unpinned,T.keep _ _ _ st5 fun b hb o e=>(I7.pin (b,o) (mem_append_right _ (mem_append_right _ (azx hb e)))).1,fun b hb=>?_,w7⟩;obtain ⟨o,e,d⟩:=T.obj _ _ st5 b hb;exact (I7.pin (b,o) (mem_append_right _ (mem_append_right _ (azx hb e)))).2.1
  cases f with
  | next=>obtain ⟨σ7,H7,I7,n7⟩:=q7; exact again I7 n7
  | cont=>obtain ⟨σ7,H7,I7,n7⟩:=q7; exact again I7 n7
  | brk=>obtain ⟨σ7,H7,I7,q7⟩:=q7; exact ⟨σ7,H7,I7.unpinned,q7⟩
  | ret v=>obtain ⟨x7,σ7,H7,I7,r7,q7⟩:=q7; exact ⟨x7,σ7,H7,I7.unpinned,r7,q7⟩
end
theorem aqbj {K:Frag} {a:Addr} {xs:List V} {g:TG} {tb:TS} {D:Ends} {σ:St} {H:Hp} (Pv:Nat->St->Hp->Prop) (h0:Pv 0 σ H) (hl:∀ i σ H,i <= xs.length->Pv i σ H->SqL K H a xs)
  (hs:∀ i x σ H,xs[i]?=some x->Pv i σ H->g x σ H fun σ2 H2=>tb { D with nx:=Pv (i + 1),ct:=Pv (i + 1),bk:=D.nx } σ2 H2) (hd:∀ σ H,Pv xs.length σ H->D.nx σ H) :
  ∃ W:Nat->Nat->St->Hp->Prop,(∃ m,W 0 m σ H)/\∀ i m σ H,W i m σ H ->
   ((Itl K a).stop i H/\D.nx σ H) \/ ((Itl K a).go i H/\∃ N:St->Hp->Prop,(∀ σ' H',N σ' H'->∃ m',m' < m/\W (i + 1) m' σ' H')/\∀ x H',(Itl K a).yld i H x H'->g x σ H' fun σ2 H2=>tb { D with nx:=N,ct:=N,bk:=D.nx } σ2 H2):=by
 refine ⟨fun i m σ H=>m=xs.length - i/\i <= xs.length/\Pv i σ H,⟨xs.length,by simp,zero_le _,h0⟩,?_⟩;rintro i m σ H ⟨rfl,hi,p⟩;have q:=hl i σ H hi p
 by_cases hlt:i < xs.length
 ·refine .inr ⟨⟨xs,xs[i],q,by simp [hlt]⟩,Pv (i + 1),fun σ' H' p'=>⟨xs.length - (i + 1),by omega,rfl,hlt,p'⟩,fun x H' y=>?_⟩
  obtain ⟨e,y⟩:=y;subst e;exact hs i x σ _ (y xs q) p
 ·have e:i=xs.length:=by omega
  subst e;exact .inl ⟨⟨xs,q,le_refl _⟩,hd σ H p⟩
theorem av8 {lo:Int} {n:Nat} {g:TG} {tb:TS} {D:Ends} {σ:St} {H:Hp} (Pv:Nat->St->Hp->Prop) (h0:Pv 0 σ H)
  (hs:∀ i σ H,i < n->Pv i σ H->g (.int (lo + i)) σ H fun σ2 H2=>tb { D with nx:=Pv (i + 1),ct:=Pv (i + 1),bk:=D.nx } σ2 H2) (hd:∀ σ H,Pv n σ H->D.nx σ H) :
  ∃ W:Nat->Nat->St->Hp->Prop,(∃ m,W 0 m σ H)/\∀ i m σ H,W i m σ H ->
   ((Itr lo n).stop i H/\D.nx σ H) \/ ((Itr lo n).go i H/\∃ N:St->Hp->Prop,(∀ σ' H',N σ' H'->∃ m',m' < m/\W (i + 1) m' σ' H')/\∀ x H',(Itr lo n).yld i H x H'->g x σ H' fun σ2 H2=>tb { D with nx:=N,ct:=N,bk:=D.nx } σ2 H2):=by
 refine ⟨fun i m σ H=>m=n - i/\i <= n/\Pv i σ H,⟨n,by simp,zero_le _,h0⟩,?_⟩;rintro i m σ H ⟨rfl,hi,p⟩
 by_cases hlt:i < n
 ·refine .inr ⟨hlt,Pv (i + 1),fun σ' H' p'=>⟨n - (i + 1),by omega,rfl,hlt,p'⟩,fun x H' y=>?_⟩
  obtain ⟨e,y⟩:=y;subst e y;exact hs i σ _ hlt p
 ·have e:i=n:=by omega
  subst e;exact .inl ⟨le_refl _,hd σ H p⟩
abbrev R2:=V->V->Hp->VK->Prop
def OpR (X:Cx) (f:Value->Value->Sem Value) (r:R2):Prop :=
 ∀ (pins:List (Addr × Obj)) (s:Shared) (σ:St) (H:Hp) (x y:V) (v u:Value) (Q:VK),Inv X pins σ H s->RelV x v->RelV y u->r x y H Q ->
  wpAny (model X.prog X.w) X.A (f v u) (EP X pins σ Q) X.xe s
def UnR (X:Cx) (f:Value->Sem Value) (r:V->Hp->VK->Prop):Prop :=
 ∀ (pins:List (Addr × Obj)) (s:Shared) (σ:St) (H:Hp) (x:V) (v:Value) (Q:VK),Inv X pins σ H s->RelV x v->r x H Q ->
  wpAny (model X.prog X.w) X.A (f v) (EP X pins σ Q) X.xe s
def awh (X:Cx) (f:Value) (r:List V->Hp->VK->Prop):Prop :=
 ∀ (pins:List (Addr × Obj)) (s:Shared) (σ:St) (H:Hp) (xs:List V) (us:List Value) (Q:VK),Inv X pins σ H s->aqu8 xs us->r xs H Q ->
  wpAny (model X.prog X.w) X.A (call f us) (EP X pins σ Q) X.xe s
def tOp (r:R2) (ta tb:TE):TE:=fun σ H Q=>ta σ H fun x H1=>tb σ H1 fun y H2=>r x y H2 Q
def tUn (r:V->Hp->VK->Prop) (ta:TE):TE:=fun σ H Q=>ta σ H fun x H1=>r x H1 Q
def rI (C:Int->Int->Prop) (g:Int->Int->V):R2:=fun x y H Q=>∃ i j,x=.int i/\y=.int j/\C i j/\Q (g i j) H
def rI0 (g:Int->Int->V):R2:=fun x y H Q=>∃ i j,x=.int i/\y=.int j/\Q (g i j) H
def rU (g:Int->V):V->Hp->VK->Prop:=fun x H Q=>∃ i,x=.int i/\Q (g i) H
section
variable {X:Cx} {a b c:Expr} {ta tb tc:TE} {pos:Pos}
theorem binT (ha:PE X a ta) (hb:PE X b tb) {pins:List (Addr × Obj)} {s:Shared} {σ:St} {H:Hp} {R:V->V->Hp->Prop} (I:Inv X pins σ H s)
  (h:ta σ H fun x H1=>tb σ H1 fun y H2=>R x y H2) {Q:Value->Shared->Prop} {f:Value->Value->Sem Value}
  (hf:∀ v u s2 x y H2,Inv X pins σ H2 s2->RelV x v->RelV y u->R x y H2->wpAny (model X.prog X.w) X.A (f v u) Q X.xe s2) :
  wpAny (model X.prog X.w) X.A (eval a X.env) (fun v s₁=>wpAny (model X.prog X.w) X.A (eval b X.env) (fun u s₂=>wpAny (model X.prog X.w) X.A (f v u) Q X.xe s₂) X.xe s₁) X.xe s:=by
 refine thn (ha pins s σ H _ I h) fun v s1 hQ=>?_;obtain ⟨x,H1,I1,r1,q1⟩:=hQ;refine thn (hb pins s1 σ H1 _ I1 q1) fun u s2 hQ=>?_;obtain ⟨y,H2,I2,r2,q2⟩:=hQ;exact hf v u s2 x y H2 I2 r1 r2 q2
theorem aq3 {op:Operator} {r:R2} (ho:OpR X (Dg op) r) (ha:PE X a ta) (hb:PE X b tb):PE X (.BinOp a op b pos) (tOp r ta tb):=by
 intro pins s σ H Q I h;exact wpAny_BinOp (binT ha hb I h fun v u s2 x y H2 I2 rx ry q=>ho pins s2 σ H2 x y v u Q I2 rx ry q)
theorem pe_un {op:UnaryOp} {r:V->Hp->VK->Prop} (ho:UnR X (unaryOp op) r) (ha:PE X a ta):PE X (.UnaryOp op a pos) (tUn r ta):=by
 intro pins s σ H Q I h;exact UnaryOp_ (thn (ha pins s σ H _ I h) fun v s1 ⟨x,H1,I1,r1,q1⟩=>ho pins s1 σ H1 x v Q I1 r1 q1)
theorem opI {f:Value->Value->Sem Value} {C:Int->Int->Prop} {g:Int->Int->Int}
  (rule:∀ (i j:Int) (t u:Tok) (s:Shared) (Q:Value->Shared->Prop) (E:Value->Shared->Prop),C i j->Q (.int (g i j) s.toks) { s with toks:=s.toks + 1 }->wpAny (model X.prog X.w) X.A (f (.int i t) (.int j u)) Q E s) :
  OpR X f (rI C fun i j=>.int (g i j)):=by
 intro pins s σ H x y v u Q I rx ry h;obtain ⟨i,j,rfl,rfl,hc,q⟩:=h;obtain ⟨t,rfl⟩:=rx;obtain ⟨t',rfl⟩:=ry;exact rule i j t t' s _ _ hc ⟨.int (g i j),H,I.tok _,⟨_,rfl⟩,q⟩
theorem opI0 {f:Value->Value->Sem Value} {g:Int->Int->Int}
  (rule:∀ (i j:Int) (t u:Tok) (s:Shared) (Q:Value->Shared->Prop) (E:Value->Shared->Prop),Q (.int (g i j) s.toks) { s with toks:=s.toks + 1 }->wpAny (model X.prog X.w) X.A (f (.int i t) (.int j u)) Q E s) :
  OpR X f (rI0 fun i j=>.int (g i j)):=by
 intro pins s σ H x y v u Q I rx ry h;obtain ⟨i,j,rfl,rfl,q⟩:=h;obtain ⟨t,rfl⟩:=rx;obtain ⟨t',rfl⟩:=ry;exact rule i j t t' s _ _ ⟨.int (g i j),H,I.tok _,⟨_,rfl⟩,q⟩
theorem opB0 {f:Value->Value->Sem Value} {g:Int->Int->Bool}
  (rule:∀ (i j:Int) (t u:Tok) (s:Shared) (Q:Value->Shared->Prop) (E:Value->Shared->Prop),Q (.bool (g i j)) s->wpAny (model X.prog X.w) X.A (f (.int i t) (.int j u)) Q E s) :
  OpR X f (rI0 fun i j=>.bl (g i j)):=by
 intro pins s σ H x y v u Q I rx ry h;obtain ⟨i,j,rfl,rfl,q⟩:=h;obtain ⟨t,rfl⟩:=rx;obtain ⟨t',rfl⟩:=ry;exact rule i j t t' s _ _ ⟨.bl (g i j),H,I,rfl,q⟩
def CDiv (i j:Int):Prop:=0 < j/\j < 1073741824
def CPow (i j:Int):Prop:=0 <= j/\j <= 1000000/\i.natAbs < 2 ^ 64
def CMul (i j:Int):Prop:=(-(2 ^ 64) < i/\i < 2 ^ 64) \/ (-(2 ^ 64) < j/\j < 2 ^ 64)
theorem CMul.ok {i j:Int} (h:CMul i j):IntMulOk i j:=by
 rcases h with ⟨h1,h2⟩ | ⟨h1,h2⟩
 ·exact .of_left (intBits_le_64 h1 h2)
 ·exact .of_right (intBits_le_64 h1 h2)
theorem ax5:OpR X (Dg .Add) (rI0 fun i j=>.int (i + j)):=opI0 fun _ _ _ _ _ _ _ q=>add_int q
theorem aZd:OpR X (Dg .Sub) (rI0 fun i j=>.int (i - j)):=opI0 fun _ _ _ _ _ _ _ q=>sub_int q
theorem aqop:OpR X (Dg .Mult) (rI CMul fun i j=>.int (i * j)):=opI fun _ _ _ _ _ _ _ hc q=>mul_int q hc.ok
theorem akq:OpR X (Dg .FloorDiv) (rI CDiv fun i j=>.int (i / j)):=opI fun i j _ _ _ _ _ hc q=>by
 have h1:(0:Int) < j:=hc.1;have h2:j < 1073741824:=hc.2;exact floordiv_int (by omega) (by rw [He i (by omega)]; exact q) (.inl (PyProof.noPylong_small (by omega)))
theorem ax4:OpR X (Dg .Mod) (rI (fun _ j=>0 < j) fun i j=>.int (i % j)):=opI fun i j _ _ _ _ _ hc q=>by
 have h1:(0:Int) < j:=hc;exact mod_int' (by omega) (by rw [Et i (by omega)]; exact q)
theorem aqaa:OpR X (Dg .Mod) (rI (fun _ j=>j ≠ 0) fun i j=>.int (i.fmod j)):=opI fun _ _ _ _ _ _ _ hc q=>mod_int' hc q
theorem aqlc:OpR X (Dg .Pow) (rI CPow fun i j=>.int (i ^ j.toNat)):=opI fun _ _ _ _ _ _ _ hc q=>pow_int_small hc.1 hc.2.1 hc.2.2 q
theorem unI {f:Value->Sem Value} {g:Int->Int}
  (rule:∀ (i:Int) (t:Tok) (s:Shared) (Q:Value->Shared->Prop) (E:Value->Shared->Prop),Q (.int (g i) s.toks) { s with toks:=s.toks + 1 }->wpAny (model X.prog X.w) X.A (f (.int i t)) Q E s) :
  UnR X f (rU fun i=>.int (g i)):=by
 intro pins s σ H x v Q I rx h;obtain ⟨i,rfl,q⟩:=h;obtain ⟨t,rfl⟩:=rx;exact rule i t s _ _ ⟨.int (g i),H,I.tok _,⟨_,rfl⟩,q⟩
theorem aqk6:UnR X (unaryOp .USub) (rU fun i=>.int (-i)):=unI fun _ _ _ _ _ q=>neg_int q
end
def scal:V->V->Bool
 | .non,.non=>true | .non,.int _=>true | .int _,.non=>true | .non,.bl _=>true | .bl _,.non=>true | .non,.str _=>true | .str _,.non=>true
 | .int _,.int _=>true | .bl _,.bl _=>true | .str _,.str _=>true | .byt _,.byt _=>true
 | .int _,.str _=>true | .str _,.int _=>true | .bl _,.str _=>true | .str _,.bl _=>true
 | _,_=>false
def rEq:R2:=fun x y H Q=>scal x y=true/\Q (.bl (decide (x=y))) H
theorem aqmw {i j:Int}:decide (V.int i=V.int j)=(i == j):=by
 rw [A5]
 simp
theorem aqpv {i j:Bool}:decide (V.bl i=V.bl j)=(i == j):=by
 rw [A5]
 simp
theorem aqmv {i j:Str}:decide (V.str i=V.str j)=(i == j):=by
 rw [A5]
 simp
theorem aqmx {i j:Array UInt8}:decide (V.byt i=V.byt j)=(i.toList == j.toList):=by
 rw [A5];cases i;cases j
 simp
section
variable {X:Cx} {a b c:Expr} {ta tb tc:TE} {pos:Pos}
theorem axt {pins:List (Addr × Obj)} {σ:St} {H:Hp} {s:Shared} {Q:VK} {k k':Bool} (I:Inv X pins σ H s) (q:Q (.bl k) H) (e:k=k'):EP X pins σ Q (.bool k') s:=by
 subst e;exact ⟨.bl k,H,I,rfl,q⟩
theorem aqjw:OpR X (Bm .Eq) rEq:=by
 intro pins s σ H x y v u Q I rx ry h;obtain ⟨hs,q⟩:=h;cases x with
 | non =>
  cases rx;cases y with
  | non=>cases ry; exact PySem.EqNone.eq_none_none (axt I q (by simp))
  | bl j=>cases ry; exact PySem.EqNone.eq_none_bool (axt I q (by simp))
  | int j=>obtain ⟨t',rfl⟩:=ry; exact PySem.EqNone.eq_none_int (axt I q (by simp))
  | str j=>obtain ⟨t',rfl⟩:=ry; exact PySem.EqNone.eq_none_str (axt I q (by simp))
  | _=>exact absurd (show false=true from hs) An
 | bl i =>
  cases rx;cases y with
  | non=>cases ry; exact PySem.EqNone.eq_bool_none (axt I q (by simp))
  | bl j=>cases ry; exact eq_bool (axt I q aqpv)
  | str j=>obtain ⟨t',rfl⟩:=ry; exact PySem.EqMixed.eq_bool_str (axt I q (by simp))
  | _=>exact absurd (show false=true from hs) An
 | int i =>
  obtain ⟨t,rfl⟩:=rx;cases y with
  | non=>cases ry; exact PySem.EqNone.eq_int_none (axt I q (by simp))
  | int j=>obtain ⟨t',rfl⟩:=ry; exact eq_int (axt I q aqmw)
  | str j=>obtain ⟨t',rfl⟩:=ry; exact PySem.EqMixed.eq_int_str (axt I q (by simp))
  | _=>exact absurd (show false=true from hs) An
 | str i =>
  obtain ⟨t,rfl⟩:=rx;cases y with
  | non=>cases ry; exact PySem.EqNone.eq_str_none (axt I q (by simp))
  | bl j=>cases ry; exact PySem.EqMixed.eq_str_bool (axt I q (by simp))
  | int j=>obtain ⟨t',rfl⟩:=ry; exact PySem.EqMixed.eq_str_int (axt I q (by simp))
  | str j=>obtain ⟨t',rfl⟩:=ry; exact eq_str (axt I q aqmv)
  | _=>exact absurd (show false=true from hs) An
 | byt i =>
  obtain ⟨t,rfl⟩:=rx;cases y with
  | byt j=>obtain ⟨t',rfl⟩:=ry; exact PySem.W.eq_bytes (axt I q aqmx)
  | _=>exact absurd (show false=true from hs) An
 | _=>cases y <;> exact absurd (show false=true from hs) An
theorem aqle:OpR X (Bm .Lt) (rI0 fun i j=>.bl (decide (i < j))):=opB0 fun _ _ _ _ _ _ _ q=>lt_int q
theorem op_le:OpR X (Bm .LtE) (rI0 fun i j=>.bl (decide (i <= j))):=opB0 fun _ _ _ _ _ _ _ q=>le_int q
theorem op_gt:OpR X (Bm .Gt) (rI0 fun i j=>.bl (decide (j < i))):=opB0 fun _ _ _ _ _ _ _ q=>gt_int q
theorem op_ge:OpR X (Bm .GtE) (rI0 fun i j=>.bl (decide (j <= i))):=opB0 fun _ _ _ _ _ _ _ q=>ge_int q
theorem aqoq:OpR X (Bm .Is) (fun x y H Q=>y=.non/\Q (.bl (decide (x=.non))) H):=by
 intro pins s σ H x y v u Q I rx ry h;obtain ⟨rfl,q⟩:=h;cases ry;refine is_none_gen (axt I q ?_);cases x <;> first
  | (cases rx; rfl)
  | (obtain ⟨t,rfl⟩:=rx; rfl)
theorem aqld:OpR X (Bm .IsNot) (fun x y H Q=>y=.non/\Q (.bl (!decide (x=.non))) H):=by
 intro pins s σ H x y v u Q I rx ry h;obtain ⟨rfl,q⟩:=h;cases ry;refine isnot_none_gen (axt I q ?_);cases x <;> first
  | (cases rx; rfl)
  | (obtain ⟨t,rfl⟩:=rx; rfl)
theorem OpR.or {f:Value->Value->Sem Value} {r r':R2} (h:OpR X f r) (h':OpR X f r'):OpR X f (fun x y H Q=>r x y H Q \/ r' x y H Q):=by
 intro pins s σ H x y v u Q I rx ry q;rcases q with q | q
 ·exact h pins s σ H x y v u Q I rx ry q
 ·exact h' pins s σ H x y v u Q I rx ry q
theorem aqg (b:Expr) {op:CmpOp} (h:op ≠ .In:=by decide) (h2:op ≠ .NotIn:=by decide):Cy op b=false:=by
 have e1:(op == CmpOp.In)=false:=by cases op <;> first | rfl | exact absurd rfl h
 have e2:(op == CmpOp.NotIn)=false:=by cases op <;> first | rfl | exact absurd rfl h2
 cases b <;> simp [Cy,e1,e2]
theorem aqfm {op:CmpOp} {r:R2} (ho:OpR X (Bm op) r) (ha:PE X a ta) (hb:PE X b tb) (hm:Cy op b=false):PE X (.Compare a [op] [b] pos) (tOp r ta tb):=by
 intro pins s σ H Q I h;exact wpAny_Compare1 (binT ha hb I h fun v u s2 x y H2 I2 rx ry q=>ho pins s2 σ H2 x y v u Q I2 rx ry q) hm
def tTest (t:TE):TT:=fun σ H Q=>t σ H fun x H'=>∃ k,x=.bl k/\Q k H'
theorem aqd {op:CmpOp} {r:R2} (ho:OpR X (Bm op) r) (ha:PE X a ta) (hb:PE X b tb) (hm:Cy op b=false):PT X (.Compare a [op] [b] pos) (tTest (tOp r ta tb)):=by
 intro pins s σ H Q I h;refine Jv (thn (ha pins s σ H _ I h) fun v s1 ⟨x,H1,I1,r1,q1⟩=>thn (hb pins s1 σ H1 _ I1 q1) fun u s2 ⟨y,H2,I2,r2,q2⟩ =>
  thn (ho pins s2 σ H2 x y v u _ I2 r1 r2 q2) fun c s3 ⟨z,H3,I3,r3,k,e,q3⟩=>?_) hm
 subst e;cases r3;exact El ⟨H3,I3,q3⟩
theorem aqax:(Aj:Nat) < 2 ^ 63:=by rw [Ao]; decide
theorem akr:OpR X (Dg .Add) (fun x y H Q=>∃ i j,x=.str i/\y=.str j/\i.length + j.length <= Aj/\Q (.str (i++j)) H):=by
 intro pins s σ H x y v u Q I rx ry h;obtain ⟨i,j,rfl,rfl,hz,q⟩:=h;obtain ⟨t,rfl⟩:=rx;obtain ⟨t',rfl⟩:=ry;exact add_str (fun t' tk=>⟨.str (i++j),H,I.tok _,⟨_,rfl⟩,q⟩) hz
theorem vals1 {x:V} {us:List Value} (r:aqu8 [x] us):∃ u,us=[u]/\RelV x u:=by
 cases r with
 | cons r1 r2=>cases r2; exact ⟨_,rfl,r1⟩
theorem vals2 {x y:V} {us:List Value} (r:aqu8 [x,y] us):∃ u w',us=[u,w']/\RelV x u/\RelV y w':=by
 cases r with
 | cons r1 r2 =>
  cases r2 with
  | cons r3 r4=>cases r4; exact ⟨_,_,rfl,r1,r3⟩
theorem aqc7:awh X (.builtin "abs") (fun xs H Q=>∃ i,xs=[.int i]/\Q (.int (if i < 0 then -i else i)) H):=by
 intro pins s σ H xs us Q I r h;obtain ⟨i,rfl,q⟩:=h;obtain ⟨u,rfl,t,rfl⟩:=vals1 r;exact call_abs_int fun u tk=>⟨.int (if i < 0 then -i else i),H,I.tok _,⟨_,rfl⟩,q⟩
theorem aqer (hc:X.calm=true):awh X (.builtin "max") (fun xs H Q=>∃ i j,xs=[.int i,.int j]/\Q (.int (if j > i then j else i)) H):=by
 intro pins s σ H xs us Q I r h;obtain ⟨i,j,rfl,q⟩:=h;obtain ⟨u,w',rfl,⟨t,rfl⟩,⟨t',rfl⟩⟩:=vals2 r;refine max_two_ints (I.ok.hd hc) fun h' tk k=>⟨_,H,I.kept k,?_,q⟩
 by_cases hj:j > i
 ·rw [if_pos hj,if_pos hj]; exact ⟨_,rfl⟩
 ·rw [if_neg hj,if_neg hj]; exact ⟨_,rfl⟩
theorem aqeq (hc:X.calm=true):awh X (.builtin "min") (fun xs H Q=>∃ i j,xs=[.int i,.int j]/\Q (.int (if j < i then j else i)) H):=by
 intro pins s σ H xs us Q I r h;obtain ⟨i,j,rfl,q⟩:=h;obtain ⟨u,w',rfl,⟨t,rfl⟩,⟨t',rfl⟩⟩:=vals2 r;refine min_two_ints (I.ok.hd hc) fun h' tk k=>⟨_,H,I.kept k,?_,q⟩
 by_cases hj:j < i
 ·rw [if_pos hj,if_pos hj]; exact ⟨_,rfl⟩
 ·rw [if_neg hj,if_neg hj]; exact ⟨_,rfl⟩
end
structure ObjM (h:Heap) (x dx C:Addr) (mA:Str->Option Value):Prop where
 obj:h.get? x=some (Cr C dx)
 ns:h.Ns1 dx mA
 ne:dx ≠ x
theorem aqe2 {h:Heap} {dx:Addr} {mA:Str->Option Value} (n:h.Ns1 dx mA):∃ od,h.get? dx=some od/\∀ name,Hf name od=some (mA name):=by
 obtain ⟨o,es,ep,ho,hd,hk,_,hm⟩:=n;refine ⟨o,ho,fun name=>?_⟩;have e:=hm name;unfold nsFind findBy at e;rw [<- Array.find?_toList] at e;unfold Hf;rw [hd];dsimp only;split
 ·rename_i y q
  rw [q] at e;exact congrArg some e
 ·rename_i q
  rw [q] at e;have a:es.toList.any (·.refKey)=false:=by
   rw [List.any_eq_false];intro y hy;obtain ⟨z,t,hkey⟩:=hk y (Array.mem_toList_iff.mp hy);simp [DictEntry.refKey,hkey]
  have a':¬ es.toList.any (·.refKey)=true:=by rw [a]; exact An
  rw [if_neg a'];exact congrArg some e
theorem ObjM.look {h:Heap} {x dx C:Addr} {mA:Str->Option Value} (I:ObjM h x dx C mA):∃ od,PySem.W.InstAt h x (Cr C dx) C (some od)/\∀ name,Hf name od=some (mA name) :=
 let ⟨od,ho,hl⟩:=aqe2 I.ns
 ⟨od,⟨I.obj,rfl,rfl,ho⟩,hl⟩
section
variable {prog:Ak} {w:World} {A:Around} {E:Value->Shared->Prop} {s:Shared} {K:Frag} {x dx C f:Addr} {mA:Str->Option Value} {name:Str} {v:Value}
theorem get_map {expr:Bool} {Q:Value->Shared->Prop} (X:K.In s.heap) (I:ObjM s.heap x dx C mA) (hg:E1 K C name=true) (hh:Fh K C=true)
  (ha:A7 K (.ref C) name=some none) (hv:mA name=some v) (hv':PySem.W.handedIn v=true) (h:Q v { s with toks:=s.toks + 1 }) :
  wpAny (model prog w) A (getAttr (.ref x) name expr) Q E s:=by
 obtain ⟨od,J,hl⟩:=I.look;exact PySem.W.get_value X J (G1 hg).1 (PySem.W.findObj_own hh ha rfl (by rw [hl,hv])) hv' h
theorem aqis {pl:Sem Bool} {Q:Value × List Value->Shared->Prop} (X:K.In s.heap) (I:ObjM s.heap x dx C mA) (hg:E1 K C name=true)
  (hf:A7 K (.ref C) name=some (some (.ref f))) (ht:G6 K (.ref f)=true) (hv:mA name=none) (h:Q (.ref f,[.ref x]) s) :
  wpAny (model prog w) A (L1 (.ref x) name pl) Q E s:=by
 obtain ⟨od,J,hl⟩:=I.look;exact PySem.W.method_fn X J (G1 hg).1 (G1 hg).2 hf (beq_iff_eq.mp ht) (by show (Hf name od).map (·.isSome)=some false; rw [hl,hv]; rfl) h
theorem aqko {ns:List Str} {Q:Unit->Shared->Prop} (X:K.In s.heap) (I:ObjM s.heap x dx C mA)
  (hs:A7 K (.ref C) "__setattr__"=some (some (.builtin "object.__setattr__"))) (hp:Hy K C=true) (ht:Jl K C name=some none) (hh:Fh K C=true)
  (hw:PySem.Within mA ns) (hsz:ns.length <= Aj)
  (h:∀ h',ObjM h' x dx C (fun y=>if y=name then some v else mA y)->Heap.SameBut dx s.heap h'->Q () { s with heap:=h',toks:=s.toks + 2 }) :
  wpAny (model prog w) A (setAttr (.ref x) name v) Q E s:=by
 obtain ⟨od,J,hl⟩:=I.look;refine PySem.W.set_plain X J hs (PySem.W.osa_open (s:={ s with toks:=s.toks + 1 }) (r:=none) X J hp ht fun b=>?_);obtain ⟨cd,hc,hd'⟩:=PySem.W.any_some hh;have hx:s.heap.get? x=some ⟨.ref C,some dx,.plain,#[]⟩:=I.obj;refine Ac (Ad (Ac (Ac (wpAny_loadPart hx (Ac (PySem.W.Looks.here (s:={ s with toks:=s.toks + 1 }) (PySem.W.looks_clsIn X hc) ?_))))));rw [hd'];refine Ad (a:=some dx) (Ac (Ad (Ac ?_)));refine wpAny_nsSet1 (s:={ s with toks:=s.toks + 1 }) I.ns fun h' hn2 hs2=>?_;obtain ⟨oD,esD,epD,hoD,hdD,hcD⟩:=hn2.count (PySem.Within.cons name v hw);refine Ac (wpAny_lookBehind hoD (by rw [hdD]; exact pastItsLine_dict (le_trans hcD (by rw [length_cons]; omega))) ?_);exact Ad (h _ ⟨(hs2.2 _ (B4 I.ne)).trans I.obj,hn2,I.ne⟩ hs2)
theorem aqi6 {R:L3->Shared->Prop} {vs:List Value} {kw:List (Str × Value)} (X:K.In s.heap) (hm:Jm K C=true)
  (hi:A7 K (.ref C) "__init__"=some (some (.ref f))) (hf:J3 K (.ref f)=some (.type "function"))
  (h:Dp (model prog w) (A.under (.builtin "type.__call__" ⟨.ref C :: vs,kw⟩)) (.call (.ref f) ⟨.ref (s.heap.objs.size + 1) :: vs,kw⟩) (PySem.W.InitBack (s.heap.objs.size + 1) R)
   { s with heap:=(s.heap.push Bw).push (Cr C s.heap.objs.size) }) :
  Dp (model prog w) A (.call (.ref C) ⟨vs,kw⟩) R s:=by
 obtain ⟨hh,g,d,t,os⟩:=s;exact PySem.W.make_core (PySem.W.makes_of X hm) (PySem.W.looks_findIn X hi) (fun self=>PySem.W.bind_fn X self hf) (.inl rfl) h
end
def aqt8 (f:Str) (v:V):List (Str × V)->List (Str × V)
 | []=>[(f,v)]
 | (g,x) :: r=>if g=f then (g,v) :: r else (g,x) :: aqt8 f v r
theorem aqq (f g:Str) (v:V):∀ fs:List (Str × V),(aqt8 f v fs).lookup g=if g=f then some v else fs.lookup g
 | []=>by
  show Dh g [(f,v)]=_
  by_cases h:g=f
  ·have hb:(g == f)=true:=beq_iff_eq.mpr h
   simp only [Dh,hb,if_pos h]
  ·have hb:(g == f)=false:=beq_eq_false_iff_ne.mpr h
   simp only [Dh,hb,if_neg h]
 | (k,x) :: r=>by
  have ih:=aqq f g v r;rw [show aqt8 f v ((k,x) :: r)=(if k=f then (k,v) :: r else (k,x) :: aqt8 f v r) from rfl]
  by_cases hk:k=f
  ·rw [if_pos hk]
   by_cases h:g=k
   ·have hb:(g == k)=true:=beq_iff_eq.mpr h
    simp only [Dh,hb,if_pos (h.trans hk)]
   ·have hb:(g == k)=false:=beq_eq_false_iff_ne.mpr h
    simp only [Dh,hb,if_neg (fun e:g=f=>h (e.trans hk.symm))]
  ·rw [if_neg hk]
   by_cases h:g=k
   ·have hb:(g == k)=true:=beq_iff_eq.mpr h
    simp only [Dh,hb,if_neg (fun e:g=f=>hk (h.symm.trans e))]
   ·have hb:(g == k)=false:=beq_eq_false_iff_ne.mpr h
    simp only [Dh,hb];exact ih
theorem aQ0 (f:Str) (v:V):∀ fs:List (Str × V),f∈(aqt8 f v fs).map (·.1)/\∀ g,g∈fs.map (·.1)->g∈(aqt8 f v fs).map (·.1)
 | []=>⟨by simp [aqt8],fun g h=>by simp at h⟩
 | (k,x) :: r=>by
  obtain ⟨i1,i2⟩:=aQ0 f v r;rw [show aqt8 f v ((k,x) :: r)=(if k=f then (k,v) :: r else (k,x) :: aqt8 f v r) from rfl]
  by_cases hk:k=f
  ·rw [if_pos hk]
   subst hk;exact ⟨by simp,fun g h=>by simpa using h⟩
  ·rw [if_neg hk]
   refine ⟨?_,fun g h=>?_⟩
   ·rw [map_cons]
    exact mem_cons_of_mem _ i1
   ·rw [map_cons] at h ⊢
    rcases Al.mp h with e | e
    ·exact Al.mpr (.inl e)
    ·exact mem_cons_of_mem _ (i2 g e)
theorem aw7 (f:Str) (v:V):∀ fs:List (Str × V),(aqt8 f v fs).length <= fs.length + 1
 | []=>by simp [aqt8]
 | (k,x) :: r=>by
  have ih:=aw7 f v r;rw [show aqt8 f v ((k,x) :: r)=(if k=f then (k,v) :: r else (k,x) :: aqt8 f v r) from rfl]
  by_cases hk:k=f
  ·rw [if_pos hk,length_cons,length_cons]; omega
  ·rw [if_neg hk,length_cons,length_cons]; omega
theorem aqub.some_of {v:V} {o:Option Value} (r:aqub (some v) o):∃ u,o=some u/\RelV v u:=by
 cases o with
 | none=>exact (show False from r).elim
 | some u=>exact ⟨u,rfl,r⟩
theorem aqub.none_of {o:Option Value} (r:aqub none o):o=none:=by
 cases o with
 | none=>rfl
 | some u=>exact (show False from r).elim
theorem aqef {v:V} {u:Value} (r:RelV v u):PySem.W.handedIn u=true:=by
 cases v with
 | non=>cases (show u=Value.none from r); rfl
 | bl b=>cases (show u=Value.bool b from r); rfl
 | int i=>obtain ⟨t,e⟩:=(show ∃ t,u=Value.int i t from r); cases e; rfl
 | str x=>obtain ⟨t,e⟩:=(show ∃ t,u=Value.str x t from r); cases e; rfl
 | byt b=>obtain ⟨t,e⟩:=(show ∃ t,u=Value.bytes b t from r); cases e; rfl
 | flt b=>obtain ⟨t,e⟩:=(show ∃ t,u=Value.float b t from r); cases e; rfl
 | ref a=>cases (show u=Value.ref a from r); rfl
 | ty n=>cases (show u=Value.type n from r); rfl
section
variable {P:Ak} {w:World} {H H':Hp} {h h':Heap} {a C dx:Addr} {fs fs':List (Str × V)}
theorem aqbd (hok:HOk P w H h) (e:H a=some (.ins C dx fs)):∃ mA,ObjM h a dx C mA/\(∀ f,aqub (fs.lookup f) (mA f))/\PySem.Within mA (fs.map (·.1))/\fs.length <= 1000/\H dx=some (.own a):=by
 obtain ⟨d,z,ne,ob,mA,n,r,q⟩:=(show azn P w H h a (.ins C dx fs) from hok a _ e);exact ⟨mA,⟨ob,n,ne⟩,r,q,z,d⟩
end
structure Cls (K:Frag) (C:Addr):Prop where
 pg:E1 K C Str.empty=true
 hd:Fh K C=true
 po:Hy K C=true
 sa:A7 K (.ref C) "__setattr__"=some (some (.builtin "object.__setattr__"))
theorem Cls.get {K:Frag} {C:Addr} (c:Cls K C) (f:Str):E1 K C f=true:=c.pg
def aXk (K:Frag) (C:Addr) (f:Str):Prop:=A7 K (.ref C) f=some none
theorem aXk.taker {K:Frag} {C:Addr} {f:Str} (n:aXk K C f):Jl K C f=some none:=by
 unfold Jl;rw [show A7 K (.ref C) f=some none from n];rfl
structure Con (K:Frag) (C:Addr) (f:Str) (v:V) (u:Value):Prop where
 at_:A7 K (.ref C) f=some (some u)
 rel:RelV v u
 get:Hz K u "__get__"=some none
 cp:PySem.W.copiedNames.contains f=false
structure Meth (K:Frag) (C:Addr) (m:Str) (f:Addr):Prop where
 at_:A7 K (.ref C) m=some (some (.ref f))
 fn:G6 K (.ref f)=true
 kp:Gr K (.ref f)=true
section
variable {X:Cx} {pins:List (Addr × Obj)} {σ:St} {H:Hp} {s:Shared} {a C dx:Addr} {fs:List (Str × V)} {f:Str} {v:V} {A:Around} {E:Value->Shared->Prop}
theorem aqbf {b:Bool} {Q:Value->Shared->Prop} (I:Inv X pins σ H s) (e:H a=some (.ins C dx fs)) (c:Cls X.K C) (n:aXk X.K C f) (l:fs.lookup f=some v)
  (h:∀ u s',Inv X pins σ H s'->RelV v u->Q u s'):wpAny (model X.prog X.w) A (getAttr (.ref a) f b) Q E s:=by
 obtain ⟨mA,O,r,_,_,_⟩:=aqbd I.hok e;obtain ⟨u,hu,ru⟩:=aqub.some_of (v:=v) (o:=mA f) (by rw [<- l]; exact r f);exact get_map I.kIn O (c.get f) c.hd n hu (aqef ru) (h u _ (I.tok _) ru)
theorem aJ8 {m:Str} {g:Addr} {pl:Sem Bool} {Q:Value × List Value->Shared->Prop} (I:Inv X pins σ H s) (e:H a=some (.ins C dx fs)) (c:Cls X.K C) (k:Meth X.K C m g) (l:fs.lookup m=none)
  (h:Q (.ref g,[.ref a]) s):wpAny (model X.prog X.w) A (L1 (.ref a) m pl) Q E s:=by
 obtain ⟨mA,O,r,_,_,_⟩:=aqbd I.hok e;have hn:mA m=none:=aqub.none_of (by rw [<- l]; exact r m);exact aqis I.kIn O (c.get m) k.at_ k.fn hn h
theorem aYo {y:V} {u:Value} {Q:Unit->Shared->Prop} (I:Inv X pins σ H s) (e:H a=some (.ins C dx fs)) (c:Cls X.K C) (n:aXk X.K C f) (hl:fs.length < 1000) (ry:RelV y u)
  (h:∀ s',Inv X pins σ (upd H a (.ins C dx (aqt8 f y fs))) s'->Q () s'):wpAny (model X.prog X.w) A (setAttr (.ref a) f u) Q E s:=by
 obtain ⟨mA,O,r,wi,_,ho⟩:=aqbd I.hok e;have hz:(fs.map (·.1)).length <= Aj:=by rw [length_map,Ao]; omega
 refine aqko I.kIn O c.sa c.po n.taker c.hd wi hz fun h' O' sb=>h _ ?_;have hd:∃ o,h'.get? dx=some o:=let ⟨o,_,_,e',_⟩:=O'.ns; ⟨o,e'⟩;refine I.write (x:=a) (e:=dx) (by rw [e]; exact True.intro) (.inr ho) (fun b q hb z=>(sb.2 b hb).trans z) hd ?_;refine ⟨by rw [ae O.ne]; exact ho,?_,O.ne,O'.obj,_,O'.ns,fun g=>?_,fun g hg=>?_⟩
 ·have:=aw7 f y fs; omega
 ·show aqub ((aqt8 f y fs).lookup g) (if g=f then some u else mA g)
  rw [aqq]
  by_cases q:g=f
  ·rw [if_pos q,if_pos q]; exact ry
  ·rw [if_neg q,if_neg q]; exact r g
 ·by_cases q:g=f
  ·rw [q]; exact (aQ0 f y fs).1
  ·refine (aQ0 f y fs).2 g (wi g fun z=>hg ?_)
   show (if g=f then some u else mA g)=none;rw [if_neg q]; exact z
theorem Inv.made (I:Inv X pins σ H s):Inv X pins σ (upd (upd H s.heap.objs.size (.own (s.heap.objs.size + 1))) (s.heap.objs.size + 1) (.ins C s.heap.objs.size []))
  { s with heap:=(s.heap.push Bw).push (Cr C s.heap.objs.size) }:=by
 have e1:(s.heap.push Bw).get? s.heap.objs.size=some Bw:=Ag s.heap rfl;have e2:((s.heap.push Bw).push (Cr C s.heap.objs.size)).get? (s.heap.objs.size + 1)=some (Cr C s.heap.objs.size):=by
  have:=Ag (s.heap.push Bw) (o:=Cr C s.heap.objs.size) rfl
  rwa [By] at this
 have e3:(s.heap.push Bw).Ns s.heap.objs.size (fun _=>none):=⟨Bw,#[],_,e1,rfl,(fun e he=>absurd he (by simp)),fun _=>rfl⟩;have I1:=I.laid (a:=s.heap.objs.size) (o:=.own (s.heap.objs.size + 1)) (h':=s.heap.push Bw) (t':=s.toks) (fun b u q=>Ae _ q) (le_refl _) ⟨_,e1⟩;refine I1.laid (a:=s.heap.objs.size + 1) (o:=.ins C s.heap.objs.size []) (t':=s.toks) (fun b u q=>Ae _ q) (Nat.le_of_eq (By _ _)) ?_;have ne:s.heap.objs.size ≠ s.heap.objs.size + 1:=ne_of_lt (lt_succ_self _);refine ⟨by rw [ae ne,aa],zero_le _,ne,e2,fun _=>none,(Heap.Ns1.of_empty e3).at fun o q=>Ae _ q,fun _=>True.intro,fun y hy=>absurd rfl hy⟩
theorem aqng {prog:Ak} {w:World} {env:Env} {e:Expr} {f:Str} {pos:Pos} {s:Shared} {Q:Value->Shared->Prop} (hb:Ee e f env (eval e env)=eval e env)
  (h:wpAny (model prog w) A (eval e env) (fun o s₁=>wpAny (model prog w) A (getAttr o f true) Q E s₁) E s):wpAny (model prog w) A (eval (.Attribute e f pos) env) Q E s :=
 Attribute_any_ h (by rw [arm_eval_Attribute,hb])
end
def tFld (K:Frag) (ta:TE) (f:Str):TE:=fun σ H Q=>ta σ H fun x H1=>∃ a C dx fs v,x=.ref a/\H1 a=some (.ins C dx fs)/\Cls K C/\aXk K C f/\fs.lookup f=some v/\Q v H1
def sFld (K:Frag) (ta tv:TE) (f:Str):TS:=fun D σ H=>tv σ H fun y H1=>ta σ H1 fun x H2=>∃ a C dx fs,x=.ref a/\H2 a=some (.ins C dx fs)/\Cls K C/\aXk K C f/\fs.length < 1000 /\
 D.nx σ (upd H2 a (.ins C dx (aqt8 f y fs)))
section
variable {X:Cx} {o e value:Expr} {f:Str} {pos pos' tpos:Pos} {ta tv:TE}
theorem ave (he:PE X e ta) (hb:Ee e f X.env (eval e X.env)=eval e X.env):PE X (.Attribute e f pos) (tFld X.K ta f):=by
 intro pins s σ H Q I h;refine aqng hb (thn (he pins s σ H _ I h) fun u s1 hQ=>?_);obtain ⟨x,H1,I1,rx,a,C,dx,fs,v,ex,ea,c,n,l,q⟩:=hQ;subst ex;obtain rfl:u=Value.ref a:=rx;exact aqbf I1 ea c n l fun u' s2 I2 ru=>⟨v,H1,I2,ru,q⟩
theorem aqkx (ha:PE X o ta) (hv:PE X value tv) (hs:Hc value (some (.Attribute o f pos')) pos.line X.env=pure false):PS X (.Assign [.Attribute o f pos'] value pos) (sFld X.K ta tv f):=by
 intro pins s σ H D I h;refine plainObj_wpAny_Assign_Attribute (thn (hv pins s σ H _ I h) fun u s1 ⟨y,H1,I1,ry,q⟩=>thn (ha pins s1 σ H1 _ I1 q) fun ov s2 hQ=>?_) hs;obtain ⟨x,H2,I2,rx,a,C,dx,fs,ex,ea,c,n,l,q2⟩:=hQ;subst ex;obtain rfl:ov=Value.ref a:=rx;exact aYo I2 ea c n l ry fun s3 I3=>⟨σ,_,I3,q2⟩
end
section
variable {X:Cx} {pins:List (Addr × Obj)} {σ:St} {H:Hp} {s:Shared} {A:Around} {E:Value->Shared->Prop} {Q:Value->Shared->Prop} {c:Value} {b:Bool}
inductive TyOf (K:Frag) (H:Hp):V->Value->Prop where
 | non:TyOf K H .non (.type "NoneType")
 | bl (x:Bool):TyOf K H (.bl x) (.type "bool")
 | int (i:Int):TyOf K H (.int i) (.type "int")
 | str (x:Str):TyOf K H (.str x) (.type "str")
 | flt (x:UInt64):TyOf K H (.flt x) (.type "float")
 | lst {a:Addr} {xs:List V} (e:H a=some (.lst xs)):TyOf K H (.ref a) (.type "list")
 | frz {a:Addr} {o:Obj} {xs:List V} (e:H a=some (.frz o (.lst xs))):TyOf K H (.ref a) (.type "list")
 | tup {a:Addr} {xs:List V} (e:H a=some (.tup xs)):TyOf K H (.ref a) (.type "tuple")
 | dK {a:Addr} {kvs:List (Key × V)} (e:H a=some (.dK kvs)):TyOf K H (.ref a) (.type "dict")
 | dT {a:Addr} {kvs:List (List Key × V)} (e:H a=some (.dT kvs)):TyOf K H (.ref a) (.type "dict")
 | ins {a C dx:Addr} {fs:List (Str × V)} (e:H a=some (.ins C dx fs)) (cl:Cls K C) (ha:A7 K (.ref C) "__class__"=some (some (.builtin "object.__class__")))
   (hn:Hz K (.builtin "object.__class__") "__get__"=some (some (.builtin "getset_descriptor.__get__"))) (htk:PySem.W.takesIn K (.builtin "object.__class__")=some true)
   (hm:Ef K C (.type "object")=some true):TyOf K H (.ref a) (.ref C)
end
structure Room (k:Nat) (A:Around):Prop where
 hd:A.handled=none
 dp:A.depth + 3 * k + 5 < recursionLimit
 un:A.units + 16 * k + 200 < cLine
theorem Room.mono {j k:Nat} {A:Around} (r:Room k A) (h:j <= k):Room j A:=⟨r.hd,by have:=r.dp; omega,by have:=r.un; omega⟩
theorem Room.deeper {k:Nat} {A:Around} (r:Room (k + 1) A) (env:Env):Room k (A.deeper env) :=
 ⟨r.hd,by have:=r.dp; show A.depth + 1 + 3 * k + 5 < _; omega,by have:=r.un; show A.units + 3 + 16 * k + 200 < _; omega⟩
theorem Room.in1 {k:Nat} {A:Around} (r:Room (k + 1) A):Room k A.in1 :=
 ⟨r.hd,by have:=r.dp; show A.depth + 3 * k + 5 < _; omega,by have:=r.un; show A.units + 1 + 16 * k + 200 < _; omega⟩
theorem aqas {A:Around} {C:Addr} {us:List Value} {kw:List (Str × Value)}:(A.under (.builtin "type.__call__" ⟨.ref C :: us,kw⟩)).depth=A.depth + 1:=by
 first | rfl | simp [Ll,Code.weight,Code.isCreation,Code.isGuard,Code.isCaller,Code.frames,Lm,guardIds]
theorem aqar {A:Around} {C:Addr} {us:List Value} {kw:List (Str × Value)}:(A.under (.builtin "type.__call__" ⟨.ref C :: us,kw⟩)).units=A.units + 1:=by
 first | rfl | simp [Ll,Code.cUnits,Code.frames,Lm]
theorem Room.make {k:Nat} {A:Around} (r:Room (k + 1) A) (C:Addr) (us:List Value) (kw:List (Str × Value)):Room k (A.under (.builtin "type.__call__" ⟨.ref C :: us,kw⟩)) :=
 ⟨r.hd,by have:=r.dp; rw [aqas]; omega,by have:=r.un; rw [aqar]; omega⟩
theorem Room.depth {k:Nat} {A:Around} (r:Room k A):A.depth < recursionLimit:=by have:=r.dp; omega
theorem Room.units {k:Nat} {A:Around} (r:Room k A):A.units + 64 < cLine:=by have:=r.un; omega
def aqsx:TA:=fun _ H Q=>Q [] H
def az6 (ta:TE) (tr:TA):TA:=fun σ H Q=>ta σ H fun x H1=>tr σ H1 fun xs H2=>Q (x :: xs) H2
section
variable {X:Cx} {e:Expr} {es:List Expr} {te:TE} {t:TA} {pos:Pos}
theorem cn:PA X [] aqsx:=fun _ _ _ _ H Q I h=>Di ⟨[],H,I,.nil,h⟩
theorem gd (ha:PE X e te) (hr:PA X es t) (hs:Ap (e :: es) X.env=(false,eval e X.env) :: Ap es X.env:=by rfl):PA X (e :: es) (az6 te t):=by
 intro pos pins s σ H Q I h;rw [hs];show wpAny _ _ (spliced ((false,eval e X.env) :: C1 pos (Ap es X.env))) _ _ s;refine B8 (thn (ha pins s σ H _ I h) fun u s1 hQ=>?_);obtain ⟨x,H1,I1,r1,q1⟩:=hQ;exact thn (hr pos pins s1 σ H1 _ I1 q1) fun us s2 ⟨xs,H2,I2,r2,q2⟩=>⟨x :: xs,H2,I2,.cons r1 r2,q2⟩
def tTup (t:TA):TE:=fun σ H Q=>t σ H fun xs H1=>xs.length <= Aj/\∀ p,H1 p=none->Q (.ref p) (upd H1 p (.tup xs))
def tLst (t:TA):TE:=fun σ H Q=>t σ H fun xs H1=>xs.length <= Aj/\∀ p,H1 p=none->Q (.ref p) (upd H1 p (.lst xs))
theorem aWe {x1} (h:PA X es t):PE X (.Tuple es x1 pos) (tTup t):=by
 intro pins s σ H Q I hq;refine wpAny_Tuple_spliced (thn (h pos pins s σ H _ I hq) fun us s1 ⟨xs,H1,I1,r,z,q⟩=>⟨by rw [<- r.length]; exact z,?_⟩);have hf:H1 s1.heap.objs.size=none:=I1.hok.fresh (le_refl _);refine ⟨.ref s1.heap.objs.size,upd H1 s1.heap.objs.size (.tup xs),I1.laid (t':=s1.toks) (fun b u e=>Ae _ e) (le_refl _) ?_,rfl,q _ hf⟩;exact ⟨z,us,r,⟨_,Ag _ rfl,rfl,_,rfl⟩⟩
theorem aWf (h:PA X es t):PE X (.List es pos) (tLst t):=by
 intro pins s σ H Q I hq;refine wpAny_List_spliced (thn (h pos pins s σ H _ I hq) fun us s1 ⟨xs,H1,I1,r,z,q⟩=>⟨by rw [<- r.length]; exact z,?_⟩);have hf:H1 s1.heap.objs.size=none:=I1.hok.fresh (le_refl _);refine ⟨.ref s1.heap.objs.size,upd H1 s1.heap.objs.size (.lst xs),I1.laid (t':=s1.toks) (fun b u e=>Ae _ e) (le_refl _) ?_,rfl,q _ hf⟩;exact ⟨z,us,0,r,Ag _ rfl⟩
end
abbrev Sp:=List V->Hp->VK->XK->Prop
abbrev CXT:=List Env->Hp->Shared->XK->Value->Shared->Prop
structure Env0 (P:Ak) (w:World) (K:Frag) (mg:Str->Option Value) (base:Heap) (A:Around) (outer:List Env) (s:Shared) (H:Hp):Prop where
 frames:A.frames=some outer
 mod:Mod K mg base
 bs:∀ b o,base.get? b=some o->s.heap.get? b=some o/\H b=none
 bsz:base.objs.size <= s.heap.objs.size
 funs:s.heap.FunFrames base outer
 frf:∀ b∈frs outer,H b=none
 hok:HOk P w H s.heap
 bare:G5 s.gens
def CE (outer:List Env) (P:Ak) (w:World) (H:Hp) (s:Shared) (Q:VK) (u:Value) (s':Shared):Prop :=
 ∃ v H',s'.os=s.os/\G5 s'.gens/\Un (frs outer) [] H H' s.heap s'.heap/\HOk P w H' s'.heap/\RelV v u/\Q v H'
def CR (CX:CXT) (outer:List Env) (P:Ak) (w:World) (H:Hp) (s:Shared) (Q:VK) (E:XK) (r:L3) (s':Shared):Prop :=
 match r with
 | .ok (.ret u)=>CE outer P w H s Q u s'
 | .ok _=>False
 | .error e=>CX outer H s E e s'
structure FnOk (P:Ak) (w:World) (K:Frag) (mg:Str->Option Value) (base:Heap) (CX:CXT) (k:Nat) (f:Addr) (fd:Am) (ps:List Str) (sp:Sp):Prop where
 len:∀ vs H Q E,sp vs H Q E->vs.length=ps.length
 run:∀ (A:Around) (outer:List Env) (s:Shared) (H:Hp) (args:Args) (us:List Value) (vs:List V) (Q:VK) (E:XK),Room k A->Env0 P w K mg base A outer s H->Ia s fd args (ps.zip us)->aqu8 vs us->sp vs H Q E ->
  Dp (model P w) A (.call (.ref f) args) (CR CX outer P w H s Q E) s
theorem FnOk.mono {P:Ak} {w:World} {K:Frag} {mg:Str->Option Value} {base:Heap} {CX:CXT} {j k:Nat} {f:Addr} {fd:Am} {ps:List Str} {sp:Sp} (F:FnOk P w K mg base CX j f fd ps sp) (h:j <= k) :
  FnOk P w K mg base CX k f fd ps sp:=⟨F.len,fun A outer s H args us vs Q E hr=>F.run A outer s H args us vs Q E (hr.mono h)⟩
theorem FnOk.imp {P:Ak} {w:World} {K:Frag} {mg:Str->Option Value} {base:Heap} {CX:CXT} {k:Nat} {f:Addr} {fd:Am} {ps:List Str} {sp sp':Sp} (F:FnOk P w K mg base CX k f fd ps sp)
  (h:∀ vs H Q E,sp' vs H Q E->sp vs H Q E):FnOk P w K mg base CX k f fd ps sp' :=
 ⟨fun vs H Q E q=>F.len vs H Q E (h _ _ _ _ q),fun A outer s H args us vs Q E hr he hb hv hs=>F.run A outer s H args us vs Q E hr he hb hv (h _ _ _ _ hs)⟩
theorem Env0.make {P:Ak} {w:World} {K:Frag} {mg:Str->Option Value} {base:Heap} {A:Around} {outer:List Env} {s:Shared} {H:Hp} (e:Env0 P w K mg base A outer s H) (C:Addr) (us:List Value) (kw:List (Str × Value)) :
  Env0 P w K mg base (A.under (.builtin "type.__call__" ⟨.ref C :: us,kw⟩)) outer s H:=⟨by first | exact e.frames | (simpa [Ll,Code.envs,Lm,pushEnvs] using e.frames),e.mod,e.bs,e.bsz,e.funs,e.frf,e.hok,e.bare⟩
theorem Env0.in1 {P:Ak} {w:World} {K:Frag} {mg:Str->Option Value} {base:Heap} {A:Around} {outer:List Env} {s:Shared} {H:Hp} (e:Env0 P w K mg base A outer s H) :
  Env0 P w K mg base A.in1 outer s H:=⟨e.frames,e.mod,e.bs,e.bsz,e.funs,e.frf,e.hok,e.bare⟩
section
variable {X:Cx} {pins:List (Addr × Obj)} {σ:St} {H:Hp} {s s':Shared}
theorem Inv.env0 (I:Inv X pins σ H s):Env0 X.prog X.w X.K X.mg X.base X.A X.stack s H :=
 ⟨I.ok.frames,I.ok.mod,I.bs,le_trans I.ok.bsz I.sz,I.stack,I.stkFree,I.hok,I.bare⟩
theorem Inv.after {Q:VK} {u:Value} (I:Inv X pins σ H s) (h:CE X.stack X.prog X.w H s Q u s'):EP X pins σ Q u s':=by
 obtain ⟨v,H',os,bare,un,hok,r,q⟩:=h;obtain ⟨hh,g,d,t,os'⟩:=s';obtain rfl:os'=s.os:=os;exact ⟨v,H',I.call (h':=hh) (g':=g) (d':=d) (t':=t) (ch:=[]) un hok bare (fun b z=>absurd z (by simp)),r,q⟩
end
def tCall (sp:Sp) (dvs:List V) (E:XK) (t:TA):TE:=fun σ H Q=>t σ H fun vs H1=>sp (vs++dvs) H1 Q E
def tMeth (C:Addr) (m:Str) (sp:Sp) (dvs:List V) (E:XK) (ta:TE) (t:TA):TE:=fun σ H Q=>ta σ H fun x H1=>∃ a dx fs,x=.ref a/\H1 a=some (.ins C dx fs)/\fs.lookup m=none /\
 t σ H1 fun vs H2=>sp (x :: (vs++dvs)) H2 Q E
def tMake (C:Addr) (sp:Sp) (dvs:List V) (E:XK) (t:TA):TE:=fun σ H Q=>t σ H fun vs H1=>∀ x dx,H1 x=none->H1 dx=none->dx ≠ x ->
 sp (.ref x :: (vs++dvs)) (upd (upd H1 dx (.own x)) x (.ins C dx [])) (fun v H2=>v=.non/\Q (.ref x) H2) E
def Binds (K:Frag) (fd:Am) (ps:List Str) (ds:List Value):Prop :=
 ∀ (s:Shared) (us:List Value),K.In s.heap->(us++ds).length=ps.length->Ia s fd ⟨us,[]⟩ (ps.zip (us++ds))
theorem Binds.all {K:Frag} {fd:Am} {ps:List Str} (h:∀ us:List Value,us.length=ps.length->Hg fd ⟨us,[]⟩=pure (ps.zip us)):Binds K fd ps []:=fun s us _ hl=>by
 rw [append_nil] at hl ⊢;exact .of_eq (h us hl)
def aVj (CX:CXT) (X:Cx) (E:XK):Prop:=∀ (pins:List (Addr × Obj)) (σ:St) (H:Hp) (s:Shared) (e:Value) (s':Shared),Inv X pins σ H s->CX X.stack H s E e s'->X.xe e s'
section
variable {X:Cx} {CX:CXT} {k:Nat} {f C:Addr} {fd:Am} {ps:List Str} {sp:Sp} {dvs:List V} {ds:List Value} {E:XK} {x m:Str} {p pos apos:Pos} {e o:Expr} {es:List Expr} {ta:TE} {t:TA}
theorem aqh4 {pins:List (Addr × Obj)} {σ:St} {H:Hp} {s:Shared} {Q:VK} {us:List Value} {vs:List V} (F:FnOk X.prog X.w X.K X.mg X.base CX k f fd ps sp) (hr:Room k X.A) (hb:Binds X.K fd ps ds) (hd:aqu8 dvs ds) (hx:aVj CX X E)
  (I:Inv X pins σ H s) (r:aqu8 vs us) (h:sp (vs++dvs) H Q E):wpAny (model X.prog X.w) X.A (call (.ref f) us) (EP X pins σ Q) X.xe s:=by
 have r2:aqu8 (vs++dvs) (us++ds):=r.append hd;have hl:(us++ds).length=ps.length:=by rw [<- r2.length]; exact F.len _ _ _ _ h
 refine wpAny_call (Cn (F.run X.A X.stack s H ⟨us,[]⟩ (us++ds) (vs++dvs) Q E hr I.env0 (hb s us I.kIn hl) r2 h) fun r s' hq=>?_);cases r with
 | error e=>exact hx pins σ H s e s' I hq
 | ok fl =>
  cases fl with
  | ret u=>exact I.after hq
  | next=>exact Az hq
  | brk=>exact Az hq
  | cont=>exact Az hq
theorem aq6 (F:FnOk X.prog X.w X.K X.mg X.base CX k f fd ps sp) (hr:Room k X.A) (hg:Gl X x) (hm:X.mg x=some (.ref f)) (hk:Gr X.K (.ref f)=true) (hb:Binds X.K fd ps ds) (hd:aqu8 dvs ds) (hx:aVj CX X E)
  (ha:PA X (e :: es) t) (hdb:(x == ("__debug__":Str))=false:=by decide) (he:Ap (e :: es) X.env=(false,eval e X.env) :: Ap es X.env:=by rfl) (hpl:(C1 pos (Ap es X.env)).any (·.1)=false:=by rfl) :
  PE X (.Call (.Name x p) (e :: es) [] pos) (tCall sp dvs E t):=by
 intro pins s σ H Q I h;refine B9 (aqb1 I hg hm ?_ hdb);refine K6 (h₀:=X.base) I.ok.mod.kin hk (thn (ha pos pins s σ H _ I h) fun us s1 ⟨vs,H1,I1,r,q⟩=>⟨I1.kIn,?_⟩) he hpl;exact aqh4 F hr hb hd hx I1 r q
theorem axm {pl:Sem Bool} (he:PE X o ta) (c:Cls X.K C) (hm:Meth X.K C m f) (F:FnOk X.prog X.w X.K X.mg X.base CX k f fd ps sp) (hr:Room k X.A) (hb:Binds X.K fd ps ds) (hd:aqu8 dvs ds) (hx:aVj CX X E) (ha:PA X (e :: es) t)
  (hst:Ap (e :: es) X.env=(false,eval e X.env) :: Ap es X.env:=by rfl) (hpl:(C1 pos (Ap es X.env)).any (·.1)=false:=by rfl)
  (ht:eval (.Call (.Attribute o m apos) (e :: es) [] pos) X.env=(do
   let ov <- eval o X.env
   Mg apos.atName
   let (f,first) <- I0 [ov] (L1 ov m pl)
   callWith pos f first (C1 pos (Ap (e :: es) X.env)) (Ln pos (Ib [] X.env))):=by rfl) :
  PE X (.Call (.Attribute o m apos) (e :: es) [] pos) (tMeth C m sp dvs E ta t):=by
 intro pins s σ H Q I h;refine Jw (pl:=pl) (thn (he pins s σ H _ I h) fun u s1 hQ=>?_) ht;obtain ⟨x,H1,I1,rx,a,dx,fs,ex,ea,l,q⟩:=hQ;subst ex;obtain rfl:u=Value.ref a:=rx;refine aJ8 I1 ea c hm l ?_;refine K6 (first:=[.ref a]) (h₀:=X.base) I.ok.mod.kin hm.kp (thn (ha pos pins s1 σ H1 _ I1 q) fun us s2 ⟨vs,H2,I2,r,q2⟩=>⟨I2.kIn,?_⟩) hst hpl;exact aqh4 (us:=.ref a :: us) (vs:=.ref a :: vs) F hr hb hd hx I2 (.cons rfl r) q2
theorem aqa2 {pl:Sem Bool} (he:PE X o ta) (c:Cls X.K C) (hm:Meth X.K C m f) (F:FnOk X.prog X.w X.K X.mg X.base CX k f fd ps sp) (hr:Room k X.A) (hb:Binds X.K fd ps ds) (hd:aqu8 dvs ds) (hx:aVj CX X E)
  (ht:eval (.Call (.Attribute o m apos) [] [] pos) X.env=(do
   let ov <- eval o X.env
   Mg apos.atName
   let (f,first) <- I0 [ov] (L1 ov m pl)
   callWith pos f first (C1 pos (Ap [] X.env)) (Ln pos (Ib [] X.env))):=by rfl) :
  PE X (.Call (.Attribute o m apos) [] [] pos) (tMeth C m sp dvs E ta aqsx):=by
 intro pins s σ H Q I h;refine Jw (pl:=pl) (thn (he pins s σ H _ I h) fun u s1 hQ=>?_) ht;obtain ⟨x,H1,I1,rx,a,dx,fs,ex,ea,l,q⟩:=hQ;subst ex;obtain rfl:u=Value.ref a:=rx;refine aJ8 I1 ea c hm l ?_;exact Kp (first:=[.ref a]) I1.kIn hm.kp (aqh4 (us:=[.ref a]) (vs:=[.ref a]) F hr hb hd hx I1 (.cons rfl .nil) q)
structure Mk (K:Frag) (C f:Addr):Prop where
 makes:Jm K C=true
 init:A7 K (.ref C) "__init__"=some (some (.ref f))
 fn:G6 K (.ref f)=true
 kp:Gr K (.ref C)=true
theorem aqh3 {pins:List (Addr × Obj)} {σ:St} {H:Hp} {s:Shared} {Q:VK} {us:List Value} {vs:List V} (M:Mk X.K C f) (F:FnOk X.prog X.w X.K X.mg X.base CX k f fd ps sp) (hr:Room (k + 1) X.A) (hb:Binds X.K fd ps ds) (hd:aqu8 dvs ds)
  (hx:aVj CX X E) (I:Inv X pins σ H s) (r:aqu8 vs us)
  (h:∀ x dx,H x=none->H dx=none->dx ≠ x->sp (.ref x :: (vs++dvs)) (upd (upd H dx (.own x)) x (.ins C dx [])) (fun v H2=>v=.non/\Q (.ref x) H2) E) :
  wpAny (model X.prog X.w) X.A (call (.ref C) us) (EP X pins σ Q) X.xe s:=by
 have hq:=h (s.heap.objs.size + 1) s.heap.objs.size (I.hok.fresh (le_succ _)) (I.hok.fresh (le_refl _)) (ne_of_lt (lt_succ_self _));have I2:=Inv.made (C:=C) I;have r2:aqu8 (V.ref (s.heap.objs.size + 1) :: (vs++dvs)) (Value.ref (s.heap.objs.size + 1) :: (us++ds)):=.cons rfl (r.append hd);have hl:(Value.ref (s.heap.objs.size + 1) :: us++ds).length=ps.length:=by
  have e:=r2.length;rw [F.len _ _ _ _ hq] at e;exact e.symm
 refine wpAny_call (aqi6 (f:=f) I.kIn M.makes M.init (beq_iff_eq.mp M.fn) (Cn (F.run _ X.stack _ _ ⟨Value.ref (s.heap.objs.size + 1) :: us,[]⟩ (Value.ref (s.heap.objs.size + 1) :: (us++ds)) _ _ E (hr.make C us [])
  (I2.env0.make C us []) (hb _ (Value.ref (s.heap.objs.size + 1) :: us) I2.kIn hl) r2 hq) fun r s' hq'=>?_))
 cases r with
 | error e=>exact hx pins σ _ _ e s' I2 hq'
 | ok fl =>
  cases fl with
  | ret u =>
   obtain ⟨v,H',I3,rv,ev,q3⟩:=I2.after hq';subst ev;exact ⟨rv,⟨V.ref (s.heap.objs.size + 1),H',I3,rfl,q3⟩⟩
  | next=>exact Az hq'
  | brk=>exact Az hq'
  | cont=>exact Az hq'
theorem aqhg (M:Mk X.K C f) (F:FnOk X.prog X.w X.K X.mg X.base CX k f fd ps sp) (hr:Room (k + 1) X.A) (hg:Gl X x) (hm:X.mg x=some (.ref C)) (hb:Binds X.K fd ps ds) (hd:aqu8 dvs ds) (hx:aVj CX X E)
  (hdb:(x == ("__debug__":Str))=false:=by decide):PE X (.Call (.Name x p) [] [] pos) (tMake C sp dvs E aqsx):=by
 intro pins s σ H Q I h;refine B9 (aqb1 I hg hm ?_ hdb);exact Kp I.kIn M.kp (aqh3 (us:=[]) M F hr hb hd hx I .nil h)
end
section
variable {X:Cx} {CX:CXT} {k:Nat} {f C:Addr} {fd:Am} {ps ks:List Str} {sp:Sp} {E:XK} {x m:Str} {p pos apos kpos:Pos} {e o:Expr} {es:List Expr} {kws:List Kl} {te ta:TE} {t tk:TA} {nm:Option Str}
structure KBinds (K:Frag) (fd:Am) (ps ks:List Str) (g:List Value->List Value->List Value) (gV:List V->List V->List V):Prop where
 to:∀ (s:Shared) (us ws:List Value),K.In s.heap->(g us ws).length=ps.length->Ia s fd ⟨us,ks.zip ws⟩ (ps.zip (g us ws))
 rel:∀ {vs:List V} {us:List Value} {zs:List V} {ws:List Value},aqu8 vs us->aqu8 zs ws->aqu8 (gV vs zs) (g us ws)
variable {g:List Value->List Value->List Value} {gV:List V->List V->List V}
end
structure FnScope (N P:List Str) (sc:Scope):Prop where
 kind:sc.kind=.function
 co:sc.isCoroutine=false
 gen:sc.isGenerator=false
 nd:N.Nodup
 pre:N.take P.length=P
 par:∀ x∈P,sc.names.lookup x=some .local \/ sc.names.lookup x=some .cell
 nofree:∀ y∈sc.names,y.2 ≠ .free
theorem aK1 {kindOf:Str->Option NameKind} {x:Str}:∀ {binds:List (Str × Value)} {m:Str->Option Value},(∀ v,(x,v) ∉ binds)->bindL kindOf binds m x=m x
 | [],_,_=>rfl
 | (n,v) :: r,m,h=>by
  unfold bindL;rw [aK1 fun w hw=>h w (mem_cons_of_mem _ hw)];split
  ·have:x ≠ n:=by rintro rfl; exact h v mem_cons_self
   simp [this]
  ·rfl
theorem aK3 {kindOf:Str->Option NameKind} {x:Str}:∀ {binds:List (Str × Value)} {m:Str->Option Value},(∀ v,(x,v) ∉ binds)->bindC kindOf binds m x=m x
 | [],_,_=>rfl
 | (n,v) :: r,m,h=>by
  unfold bindC;rw [aK3 fun w hw=>h w (mem_cons_of_mem _ hw)];split
  ·rfl
  ·have:x ≠ n:=by rintro rfl; exact h v mem_cons_self
   simp [this]
theorem aK2 {kindOf:Str->Option NameKind} {x:Str} {v:Value}:∀ {P:List Str} {vs:List Value} {i:Nat} {m:Str->Option Value},P.Nodup->P[i]?=some x->vs[i]?=some v->kindOf x=some .local ->
  bindL kindOf (P.zip vs) m x=some v
 | [],_,_,_,_,h,_,_=>by simp at h
 | _ :: _,[],_,_,_,_,h,_=>by simp at h
 | p :: P,w :: vs,0,m,nd,h1,h2,hk=>by
  simp at h1 h2; subst h1; subst h2;show bindL kindOf ((p,w) :: P.zip vs) m p=_;unfold bindL;rw [aK1 fun v hv=>(Gs.mp nd).1 (of_mem_zip hv).1,if_pos hk]
  simp
 | p :: P,w :: vs,i + 1,m,nd,h1,h2,hk=>by
  show bindL kindOf ((p,w) :: P.zip vs) m x=_;unfold bindL;exact aK2 (i:=i) (Gs.mp nd).2 (by simpa using h1) (by simpa using h2) hk
theorem aK4 {kindOf:Str->Option NameKind} {x:Str} {v:Value}:∀ {P:List Str} {vs:List Value} {i:Nat} {m:Str->Option Value},P.Nodup->P[i]?=some x->vs[i]?=some v->kindOf x ≠ some .local ->
  bindC kindOf (P.zip vs) m x=some v
 | [],_,_,_,_,h,_,_=>by simp at h
 | _ :: _,[],_,_,_,_,h,_=>by simp at h
 | p :: P,w :: vs,0,m,nd,h1,h2,hk=>by
  simp at h1 h2; subst h1; subst h2;show bindC kindOf ((p,w) :: P.zip vs) m p=_;unfold bindC;rw [aK3 fun v hv=>(Gs.mp nd).1 (of_mem_zip hv).1,if_neg hk]
  simp
 | p :: P,w :: vs,i + 1,m,nd,h1,h2,hk=>by
  show bindC kindOf ((p,w) :: P.zip vs) m x=_;unfold bindC;exact aK4 (i:=i) (Gs.mp nd).2 (by simpa using h1) (by simpa using h2) hk
def start (N:List Str) (vs:List V):St:=vs.map some++C2 (N.length - vs.length) none
def cxOf (CX:CXT) (P:Ak) (w:World) (K:Frag) (mg:Str->Option Value) (base:Heap) (N:List Str) (qual:Str) (scope:Scope) (f:Addr) (cd:Value) (A:Around) (outer:List Env) (s:Shared) (H:Hp) (E:XK):Cx where
 prog:=P
 w:=w
 K:=K
 mg:=mg
 base:=base
 A:=A.deeper (Ja qual scope s.heap.objs.size f cd)
 N:=N
 s₀:=s
 H₀:=H
 env:=Ja qual scope s.heap.objs.size f cd
 outer:=outer
 stack:=Ja qual scope s.heap.objs.size f cd :: outer
 ex:=[]
 calm:=true
 fn:=fun _=>true
 pn:=[]
 xe:=fun e s'=>wpAny (model P w) (A.deeper (Ja qual scope s.heap.objs.size f cd)) (leaving (Ja qual scope s.heap.objs.size f cd) e) (fun _ s''=>CX outer H s E e s'') (fun e' s''=>CX outer H s E e' s'') s'
theorem aqc2 {sc:Scope} {n:Nat} {x:Str} (h:sc.names.lookup x=some .cell):∃ c,(L4 n sc.names []).lookup x=some c:=by
 have q:=Jb sc.names n [] (.inl h);exact Im.mp q
theorem aqeb {CX:CXT} {P:Ak} {w:World} {K:Frag} {mg:Str->Option Value} {base:Heap} {N ps:List Str} {qual:Str} {scope:Scope} {f:Addr} {cd:Value} {A:Around} {outer:List Env} {s s1:Shared} {H:Hp} {E:XK} {us:List Value} {vs:List V}
  (S:FnScope N ps scope) (hd:A.handled=none) (e0:Env0 P w K mg base A outer s H) (hl:vs.length=ps.length) (r:aqu8 vs us)
  (x:InCallC s s.heap.objs.size (bindL (Ja qual scope s.heap.objs.size f cd).kindOf (ps.zip us) fun _=>none) (L4 (s.heap.objs.size + 1) scope.names []) (bindC (Ja qual scope s.heap.objs.size f cd).kindOf (ps.zip us) fun _=>none) s1) :
  Inv (cxOf CX P w K mg base N qual scope f cd A outer s H E) [] (start N vs) H s1:=by
 have hpl:ps.length <= N.length:=by have:=congrArg List.length S.pre; rw [length_take] at this; omega
 obtain ⟨h1,tk,rfl,hk⟩:=x.done;have noA:∀ b:Addr,b ∉ (cxOf CX P w K mg base N qual scope f cd A outer s H E).ex:=fun b z=>absurd (show b∈([]:List Addr) from z) (by simp);refine ⟨⟨e0.mod,S.kind,rfl,rfl,le_refl _,fun y z c h1 h2=>?_,fun y hy=>?_,fun y c _ h=>?_,fun _=>hd,Around.frames_deeper e0.frames,.inr ⟨rfl,rfl⟩,fun b z=>absurd z (noA b),e0.bs,e0.bsz,fun b _ _=>noA b,fun b z=>absurd z (noA b),e0.funs,e0.frf⟩,
  rfl,e0.bare,Un.kept hk,⟨_,x.toInCall.ns,fun i y v h1 h2 h3=>?_⟩,fun y c h=>⟨_,x.cell y c h⟩,e0.hok.fresh (le_refl _),fun y c h=>?_,fun p hp=>absurd (show p∈([]:List (Addr × Obj)) from hp) (by simp),e0.hok.kept hk,?_⟩
 ·exact name_of_addr x.apart (Dq h1) (Dq h2)
 ·have hy:scope.names.lookup y=some .cell \/ scope.names.lookup y=some .free:=hy
  rcases hy with hy | hy
  ·exact aqc2 hy
  ·exact absurd rfl (S.nofree _ (Dq hy))
 ·exact le_of_lt (x.above y c (Dq h))
 ·have hi:i < vs.length:=by
   unfold start at h2
   by_cases hi:i < vs.length
   ·exact hi
   ·rw [Hh (by simpa using hi)] at h2
    rw [List.getElem?_replicate] at h2;split at h2 <;> cases h2
  have ha:vs[i]?=some v:=by
   unfold start at h2;rw [C9 (by simpa using hi),getElem?_map] at h2;cases e:vs[i]? with
   | none=>rw [e] at h2; cases h2
   | some a=>rw [e] at h2; cases h2; rfl
  obtain ⟨u,hu,rv⟩:=r.get ha;have hp:ps[i]?=some y:=by
   rw [<- S.pre,List.getElem?_take_of_lt (by omega)]; exact h1
  have ndP:ps.Nodup:=by rw [<- S.pre]; exact S.nd.sublist (List.take_sublist _ _)
  refine ⟨u,rv,?_⟩;rcases S.par y (mem_of_getElem? hp) with k | k
  ·exact .inl ⟨k,aK2 ndP hp hu k⟩
  ·obtain ⟨c,e⟩:=aqc2 (n:=s.heap.objs.size + 1) k
   refine .inr ⟨.inl k,c,e,?_⟩;have q:=x.cell y c e;rw [aK4 ndP hp hu (by show scope.names.lookup y ≠ _; rw [k]; decide)] at q;exact q
 ·exact e0.hok.fresh (le_of_lt (x.above y c (Dq h)))
 ·unfold start
  show _=N.length;rw [length_append,length_map,List.length_replicate];omega
theorem fn_of {CX:CXT} {P:Ak} {w:World} {K:Frag} {mg:Str->Option Value} {base:Heap} {k:Nat} {f:Addr} {name qual:Str} {params:Arguments} {body:List Stmt} {scope:Scope} {dV kV doc pm cdv ct oc:Value} {an od:Option Addr}
  {osl:Array (Option Value)} {N ps:List Str} {sp:Sp} (lk:K.lookup f=some ⟨oc,od,.func (fnOf name qual params body scope dV kV doc pm an cdv ct),osl⟩) (hcd:L5 K cdv qual=true) (S:FnScope N ps scope)
  (len:∀ vs H Q E,sp vs H Q E->vs.length=ps.length)
  (hbody:∀ (A:Around) (outer:List Env) (s:Shared) (H:Hp) (vs:List V) (Q:VK) (E:XK),Room k (A.deeper (Ja qual scope s.heap.objs.size f cdv))->sp vs H Q E ->
   ∃ t,PSs (cxOf CX P w K mg base N qual scope f cdv A outer s H E) body t/\t { nx:=fun _ H'=>Q .non H',rt:=Q } (start N vs) H) :
  FnOk P w K mg base CX (k + 1) f (fnOf name qual params body scope dV kV doc pm an cdv ct) ps sp:=by
 refine ⟨len,fun A outer s H args us vs Q E hr e0 hb r hsp=>?_⟩;have hl:=len _ _ _ _ hsp;have KX:K.In s.heap:=e0.mod.kin.keeps fun b o e=>(e0.bs b o e).1;have lim:s.heap.NoLimit:=e0.mod.nolimit.keeps fun b o e=>(e0.bs b o e).1;have hkind:∀ y∈ps.zip us,scope.names.lookup y.1=some .local \/ (scope.names.lookup y.1=some .cell/\((L4 (s.heap.objs.size + 1) scope.names []).lookup y.1).isSome=true):=fun ⟨n,v⟩ hy=>by
  rcases S.par n (of_mem_zip hy).1 with q | q
  ·exact .inl q
  ·exact .inr ⟨q,Jb _ _ _ (.inl q)⟩
 refine codeAny_call_function hr.depth (KX _ _ lk) rfl S.co S.gen rfl (PySem.W.codeRec_of KX hcd) (hb _ _ _ _ ?_);refine wpAny_newFunctionEnv_cells S.kind hkind fun env he s1 x=>?_;subst he;refine ⟨lim.keeps x.toInCall.keep,codeAny_func ?_⟩;obtain ⟨t,ht,hq⟩:=hbody A outer s H vs Q E (hr.deeper _) hsp;have I:Inv (cxOf CX P w K mg base N qual scope f cdv A outer s H E) [] (start N vs) H s1:=aqeb S hr.hd e0 hl r x;refine Bj (ht [] s1 (start N vs) H _ I hq) (fun fl s' hs=>?_) fun e s' hs=>hs;have fin:∀ {σ':St} {H':Hp} {v:V} {u:Value},Inv (cxOf CX P w K mg base N qual scope f cdv A outer s H E) [] σ' H' s'->RelV v u->Q v H'->CE outer P w H s Q u s' :=
  fun {σ' H' v u} J rv q=>⟨v,H',J.os,J.bare,J.base,J.hok,rv,q⟩
 cases fl with
 | ret u =>
  obtain ⟨v,σ',H',J,rv,q⟩:=hs;exact fin J rv q
 | next =>
  obtain ⟨σ',H',J,q⟩:=hs;exact fin (v:=V.non) (u:=Value.none) J rfl q
 | brk =>
  obtain ⟨_,_,_,q⟩:=hs;exact Az q
 | cont =>
  obtain ⟨_,_,_,q⟩:=hs;exact Az q
section
variable {X:Cx} {x:Str} {p pos:Pos} {e:Expr} {es:List Expr} {t:TA} {id T:String} {r:List V->Hp->VK->Prop}
def tCB (r:List V->Hp->VK->Prop) (t:TA):TE:=fun σ H Q=>t σ H fun vs H1=>r vs H1 Q
theorem aV (hc:awh X (.builtin id) r) (hg:Gl X x) (hm:X.mg x=none) (hv:A6 x=some (.builtin id)) (ha:PA X (e :: es) t) (hn:x ≠ "__name__":=by decide) (hdb:(x == ("__debug__":Str))=false:=by decide)
  (he:Ap (e :: es) X.env=(false,eval e X.env) :: Ap es X.env:=by rfl) (hpl:(C1 pos (Ap es X.env)).any (·.1)=false:=by rfl):PE X (.Call (.Name x p) (e :: es) [] pos) (tCB r t):=by
 intro pins s σ H Q I h;refine B9 (awo I hg hm hv ?_ hn hdb);exact PyProof.Rows.callWith_builtin1 (thn (ha pos pins s σ H _ I h) fun us s1 ⟨vs,H1,I1,r1,q1⟩=>hc pins s1 σ H1 vs us Q I1 r1 q1) he hpl
theorem aqh (hc:awh X (.type T) r) (hg:Gl X x) (hm:X.mg x=none) (hv:A6 x=some (.type T)) (ha:PA X (e :: es) t) (hn:x ≠ "__name__":=by decide) (hdb:(x == ("__debug__":Str))=false:=by decide)
  (he:Ap (e :: es) X.env=(false,eval e X.env) :: Ap es X.env:=by rfl) (hpl:(C1 pos (Ap es X.env)).any (·.1)=false:=by rfl):PE X (.Call (.Name x p) (e :: es) [] pos) (tCB r t):=by
 intro pins s σ H Q I h;refine B9 (awo I hg hm hv ?_ hn hdb);exact Bp (thn (ha pos pins s σ H _ I h) fun us s1 ⟨vs,H1,I1,r1,q1⟩=>hc pins s1 σ H1 vs us Q I1 r1 q1) he hpl
end
end L2
namespace HT
open PySem PyProof.Rows
section
open PySem.SeqAt
open PySem.AutoSeq1 (wpAny_loadPart')
open PySem.MeetsSeq PySem.MeetsSeq2 PySem.MeetsSeq3
end
section
variable {prog:Ak} {w:World} {A:Around} {E:Value->Shared->Prop} {s:Shared}
end
end HT
namespace L2
open PySem PySem.Spec PyProof.Rows
abbrev TO:=St->Hp->(Option Int->Hp->Prop)->Prop
def PO (X:Cx) (e:Option Expr) (t:TO):Prop :=
 ∀ (pins:List (Addr × Obj)) (s:Shared) (σ:St) (H:Hp) (Q:Option Int->Hp->Prop),Inv X pins σ H s->t σ H Q ->
  wpAny (model X.prog X.w) X.A (evalPart e X.env) (fun u s'=>∃ o H',Inv X pins σ H' s'/\IsPart u o/\Q o H') X.xe s
def tNoPart:TO:=fun _ H Q=>Q none H
def tPart (t:TE):TO:=fun σ H Q=>t σ H fun x H1=>∃ i,x=.int i/\Q (some i) H1
theorem intsAre_of {ns:List Int}:∀ {us:List Value},aqu8 (ns.map V.int) us->IntsAre us ns:=by
 induction ns with
 | nil=>intro us r; rw [map_nil] at r; cases r; exact .nil
 | cons n ns ih =>
  intro us r;rw [map_cons] at r;cases r with
  | cons r1 r2 =>
   obtain ⟨t,e⟩:=r1;subst e;exact .cons n t (ih r2)
section
variable {X:Cx} {e:Expr} {te:TE} {lo hi:Option Expr} {tl th:TO} {pos p2:Pos}
theorem aql0:PO X none tNoPart:=by
 intro pins s σ H Q I h;rw [evalPart_none];exact Ad ⟨none,H,I,.none,h⟩
theorem aqkz (h:PE X e te):PO X (some e) (tPart te):=by
 intro pins s σ H Q I hw;rw [evalPart_some];refine thn (h pins s σ H _ I hw) fun u s1 hQ=>?_;obtain ⟨x,H1,I1,r1,q1⟩:=hQ;obtain ⟨i,rfl,q⟩:=q1;obtain ⟨t,rfl⟩:=r1;exact ⟨some i,H1,I1,.int i t,q⟩
def SlR (X:Cx) (r:V->Option Int->Option Int->Hp->VK->Prop):Prop :=
 ∀ (pins:List (Addr × Obj)) (s:Shared) (σ:St) (H:Hp) (x:V) (v vl vu:Value) (lo hi:Option Int) (sl:Addr) (Q:VK),Inv X pins σ H s->RelV x v->s.heap.IsSliceOf sl vl vu .none->IsPart vl lo->IsPart vu hi->r x lo hi H Q ->
  ∃ T id,K7 (.type T) "__getitem__"=pure (some (.builtin id))/\s.TypeIs v T/\wpAny (model X.prog X.w) X.A (Lo v (.ref sl)) (EP X pins σ Q) X.xe s
theorem SlR.or {r r':V->Option Int->Option Int->Hp->VK->Prop} (h:SlR X r) (h':SlR X r'):SlR X (fun x lo hi H Q=>r x lo hi H Q \/ r' x lo hi H Q):=by
 intro pins s σ H x v vl vu lo hi sl Q I rx hs pl pu q;rcases q with q | q
 ·exact h pins s σ H x v vl vu lo hi sl Q I rx hs pl pu q
 ·exact h' pins s σ H x v vl vu lo hi sl Q I rx hs pl pu q
def tSl (r:V->Option Int->Option Int->Hp->VK->Prop) (te:TE) (tl th:TO):TE:=fun σ H Q=>te σ H fun x H1=>tl σ H1 fun l H2=>th σ H2 fun u H3=>r x l u H3 Q
theorem aqhf {r:V->Option Int->Option Int->Hp->VK->Prop} (hr:SlR X r) (he:PE X e te) (hl:PO X lo tl) (hu:PO X hi th):PE X (.Subscript e (.Slice lo hi none p2) pos) (tSl r te tl th):=by
 intro pins s σ H Q I h;refine Subscript_ (thn (he pins s σ H _ I h) fun v s1 hQ=>?_);obtain ⟨x,H1,I1,r1,q1⟩:=hQ;refine wpAny_Slice (thn (hl pins s1 σ H1 _ I1 q1) fun vl s2 ⟨l,H2,I2,pl,q2⟩=>thn (hu pins s2 σ H2 _ I2 q2) fun vu s3 hQ=>?_);obtain ⟨u,H3,I3,pu,q3⟩:=hQ;rw [evalPart_none];refine Ad ?_;have I4:Inv X pins σ H3 { s3 with heap:=s3.heap.push { cls:=.type "slice",data:=.fields #[vl,vu,.none] } }:=I3.kept (t':=s3.toks) fun b ob q=>Ae _ q;obtain ⟨T,id,hT,ht,hg⟩:=hr pins { s3 with heap:=s3.heap.push { cls:=.type "slice",data:=.fields #[vl,vu,.none] } } σ H3 x v vl vu l u s3.heap.objs.size Q I4 r1 (Heap.IsSliceOf.new ..) pl pu q3;show wpAny (model X.prog X.w) X.A (Kv e (.Slice lo hi none p2) v (.ref s3.heap.objs.size)) (EP X pins σ Q) X.xe { s3 with heap:=s3.heap.push { cls:=.type "slice",data:=.fields #[vl,vu,.none] } };exact tail_any (ops:=[.ref s3.heap.objs.size,v]) ht hT hg (by with_unfolding_all rfl)
end
def ixN (n:Nat) (i:Int):Option Nat:=if 0 <= i then (if i < n then some i.toNat else none) else if -(n:Int) <= i then some (i + n).toNat else none
def atI {α:Type} (xs:List α) (i:Int):Option α:=(ixN xs.length i).bind fun j=>xs[j]?
theorem aqb8 {n:Nat} {i:Int} {j:Nat} (h:ixN n i=some j):seqIndex? i n=some j/\j < n/\-(n:Int) <= i/\i < n:=by
 unfold ixN at h
 by_cases h0:0 <= i
 ·rw [if_pos h0] at h
  by_cases h1:i < n
  ·rw [if_pos h1] at h
   have e:i.toNat=j:=Option.some.inj h;exact ⟨by rw [Mb h0 h1,e],by omega,by omega,h1⟩
  ·rw [if_neg h1] at h; cases h
 ·rw [if_neg h0] at h
  by_cases h1:-(n:Int) <= i
  ·rw [if_pos h1] at h
   have e:(i + n).toNat=j:=Option.some.inj h;exact ⟨by rw [Lp (by omega) h1,e],by omega,h1,by omega⟩
  ·rw [if_neg h1] at h; cases h
theorem aqco {α:Type} {xs:List α} {i:Int} {v:α} (h:atI xs i=some v):∃ j,seqIndex? i xs.length=some j/\xs[j]?=some v/\j < xs.length/\-(xs.length:Int) <= i/\i < xs.length:=by
 unfold atI at h;cases e:ixN xs.length i with
 | none=>rw [e] at h; cases h
 | some j =>
  rw [e] at h;obtain ⟨h1,h2,h3,h4⟩:=aqb8 e;exact ⟨j,h1,h,h2,h3,h4⟩
theorem aK7 {α:Type} {xs:List α} {j:Nat} {v:α} (h:xs[j]?=some v):atI xs (j:Int)=some v:=by
 have hj:j < xs.length:=(Ai.mp h).1;have e:ixN xs.length (j:Int)=some j:=by
  unfold ixN;rw [if_pos (by omega),if_pos (by omega)]; simp
 unfold atI; rw [e]; exact h
def aqgg (b:Expr):Prop:=∀ o i,J4 b false o i=operate [o,i] (Lo o i)
def IxR (X:Cx) (r:R2):Prop :=
 ∀ (value slice:Expr) (pins:List (Addr × Obj)) (s:Shared) (σ:St) (H:Hp) (x y:V) (v u:Value) (Q:VK),Inv X pins σ H s->RelV x v->RelV y u->r x y H Q ->
  J4 slice false v u=operate [v,u] (Lo v u)->wpAny (model X.prog X.w) X.A (Kv value slice v u) (EP X pins σ Q) X.xe s
def MtR (X:Cx) (id:String) (r:V->List V->Hp->VK->Prop):Prop :=
 ∀ (pins:List (Addr × Obj)) (s:Shared) (σ:St) (H:Hp) (x:V) (xs:List V) (v:Value) (us:List Value) (Q:VK),Inv X pins σ H s->RelV x v->aqu8 xs us->r x xs H Q ->
  wpAny (model X.prog X.w) X.A (call (.builtin id) (v :: us)) (EP X pins σ Q) X.xe s
section
variable {X:Cx} {a b:Expr} {ta tb:TE} {pos:Pos}
theorem IxR.or {r r':R2} (h:IxR X r) (h':IxR X r'):IxR X (fun x y H Q=>r x y H Q \/ r' x y H Q):=by
 intro value slice pins s σ H x y v u Q I rx ry q hs;rcases q with q | q
 ·exact h value slice pins s σ H x y v u Q I rx ry q hs
 ·exact h' value slice pins s σ H x y v u Q I rx ry q hs
theorem MtR.or {id:String} {r r':V->List V->Hp->VK->Prop} (h:MtR X id r) (h':MtR X id r'):MtR X id (fun x xs H Q=>r x xs H Q \/ r' x xs H Q):=by
 intro pins s σ H x xs v us Q I rx rs q;rcases q with q | q
 ·exact h pins s σ H x xs v us Q I rx rs q
 ·exact h' pins s σ H x xs v us Q I rx rs q
theorem aZa {r:R2} (hr:IxR X r) (ha:PE X a ta) (hb:PE X b tb) (hs:aqgg b):PE X (.Subscript a b pos) (tOp r ta tb):=by
 intro pins s σ H Q I h;exact Subscript_ (binT ha hb I h fun v u s2 x y H2 I2 rx ry q=>hr a b pins s2 σ H2 x y v u Q I2 rx ry q (hs _ _))
def rIxL (K:Frag):R2:=fun x y H Q=>∃ p xs i v,x=.ref p/\y=.int i/\SqL K H p xs/\atI xs i=some v/\Q v H
def rIxT (K:Frag):R2:=fun x y H Q=>∃ p xs i v,x=.ref p/\y=.int i/\SqT K H p xs/\atI xs i=some v/\Q v H
def rIxS:R2:=fun x y H Q=>∃ z i c,x=.str z/\y=.int i/\z.length <= Aj/\atI z.cps.toList i=some c/\Q (.str ⟨#[c]⟩) H
theorem aJ5:IxR X (rIxL X.K):=by
 intro value slice pins s σ H x y v u Q I rx ry h hs;obtain ⟨p,xs,i,z,rfl,rfl,hq,he,q⟩:=h;cases rx;obtain ⟨t,rfl⟩:=ry;obtain ⟨its,r,pl,hz⟩:=I.list hq;obtain ⟨j,h1,h2,h3,h4,h5⟩:=aqco he;obtain ⟨w,ew,rw'⟩:=r.get h2;have hl:=r.length;have hn:=aqax;have fin:EP X pins σ Q w s:=⟨z,H,I,rw',q⟩
 by_cases h0:0 <= i
 ·have hj:i.toNat=j:=by
   rw [Mb h0 h5] at h1;exact Option.some.inj h1
  exact item_listR pl.isList h0 (by omega) (by rw [hj]; simpa using ew) fin hs
 ·have hj:(i + (its.toArray.size:Int)).toNat=j:=by
   rw [Lp (by omega) h4] at h1;rw [size_toArray,<- hl];exact Option.some.inj h1
  exact Jc (x:=w) pl.isList.typeIs slot_list_getitem.lookup
   (wpAny_getItem_list_neg (Q:=fun r s'=>r=w/\EP X pins σ Q r s') pl.isList (by omega) (by rw [size_toArray] <;> omega) (by omega) (by rw [hj]; simpa using ew) ⟨rfl,fin⟩) hs
theorem aqe8:IxR X (rIxT X.K):=by
 intro value slice pins s σ H x y v u Q I rx ry h hs;obtain ⟨p,xs,i,z,rfl,rfl,hq,he,q⟩:=h;cases rx;obtain ⟨t,rfl⟩:=ry;obtain ⟨its,r,pl,hz⟩:=I.tuple hq;obtain ⟨j,h1,h2,h3,h4,h5⟩:=aqco he;obtain ⟨w,ew,rw'⟩:=r.get h2;have hl:=r.length;have hn:=aqax;have fin:EP X pins σ Q w s:=⟨z,H,I,rw',q⟩;exact Jc (x:=w) pl.typeIs slot_tuple_getitem.lookup
  (getItem_tuple (j:=j) (Q:=fun r s'=>r=w/\EP X pins σ Q r s') pl (by omega) (by omega) (by rw [size_toArray,<- hl]; exact h1) (by simpa using ew) ⟨rfl,fin⟩) hs
theorem aqii:IxR X rIxS:=by
 intro value slice pins s σ H x y v u Q I rx ry h hs;obtain ⟨z,i,c,rfl,rfl,hz,he,q⟩:=h;obtain ⟨t,rfl⟩:=rx;obtain ⟨t',rfl⟩:=ry;obtain ⟨j,h1,h2,h3,h4,h5⟩:=aqco he;have hl:z.cps.toList.length=z.length:=by simp [Str.length]
 rw [hl] at h1 h4 h5;have hn:=aqax;exact tail_any (K8 s z t) slot_str_getitem.lookup (getItem_str (c:=c) (by
  have e1:decide (i < -(2 ^ 63:Int))=false:=decide_eq_false (by omega);have e2:decide (i ≥ 2 ^ 63)=false:=decide_eq_false (by omega);rw [e1,e2,Kw]) (by rw [h1]; simpa using h2) ⟨.str ⟨#[c]⟩,H,I.tok _,⟨_,rfl⟩,q⟩) hs
theorem aqaq (its:List Value) (n j:Nat) (u:Value):Bg (·.setIfInBounds j u) { cls:=.type "list",data:=.seq its.toArray n }={ cls:=.type "list",data:=.seq (its.set j u).toArray n }:=by
 simp [Bg]
theorem Inv.lst {pins:List (Addr × Obj)} {σ:St} {H:Hp} {s:Shared} {p:Addr} {xs:List V} (I:Inv X pins σ H s) (h:H p=some (.lst xs)) :
  ∃ (its:List Value) (n:Nat),aqu8 xs its/\s.heap.get? p=some { cls:=.type "list",data:=.seq its.toArray n }/\xs.length <= Aj:=by
 obtain ⟨z,its,n,r,e⟩:=I.hok p _ h;exact ⟨its,n,r,e,z⟩
theorem Inv.lstUpd {pins:List (Addr × Obj)} {σ:St} {H:Hp} {s:Shared} {p:Addr} {xs ys:List V} {its its':List Value} {n n':Nat} {f:Obj->Obj} (I:Inv X pins σ H s) (h:H p=some (.lst xs))
  (ho:s.heap.get? p=some { cls:=.type "list",data:=.seq its.toArray n }) (hf:f { cls:=.type "list",data:=.seq its.toArray n }={ cls:=.type "list",data:=.seq its'.toArray n' }) (r:aqu8 ys its') (hz:ys.length <= Aj) (t:Nat) :
  Inv X pins σ (upd H p (.lst ys)) { s with heap:=s.heap.update p f,toks:=t }:=by
 have e:(s.heap.update p f).get? p=some { cls:=.type "list",data:=.seq its'.toArray n' }:=by
  rw [Bf f ho (by rw [hf] <;> rfl),hf]
 refine I.write (x:=p) (e:=p) (by rw [h]; trivial) (.inl rfl) (fun b u hb q=>(Au _ _ (B4 hb)).trans q) ⟨_,e⟩ ?_;exact ⟨hz,its',n',r,e⟩
def rSetL:V->V->V->Hp->(Hp->Prop)->Prop:=fun o i v H Q=>∃ p xs k j,o=.ref p/\i=.int k/\H p=some (.lst xs)/\ixN xs.length k=some j/\Q (upd H p (.lst (xs.set j v)))
theorem aqgq:PSet X rSetL:=by
 intro pins s σ H o i v ov iv u Q I ro ri rv h;obtain ⟨p,xs,k,j,rfl,rfl,hp,hj,q⟩:=h;cases ro;obtain ⟨t,rfl⟩:=ri;obtain ⟨its,n,r,ho,hz⟩:=I.lst hp;obtain ⟨h1,h2,h3,h4⟩:=aqb8 hj;have hl:=r.length;have hn:=aqax;have I':Inv X pins σ (upd H p (.lst (xs.set j v))) { s with heap:=s.heap.update p (Bg (·.setIfInBounds j u)) } :=
  I.lstUpd hp ho (aqaq its n j u) (r.set rv j) (by rw [List.length_set]; exact hz) s.toks
 by_cases h0:0 <= k
 ·have hk:k.toNat=j:=by
   rw [Mb h0 h4] at h1;exact Option.some.inj h1
  exact PySem.W.ki_setAt ho h0 (by omega) (by rw [size_toArray,<- hl]; exact h4) (by rw [hk]; exact ⟨_,I',q⟩)
 ·have hk:(k + (its.toArray.size:Int)).toNat=j:=by
   rw [Lp (by omega) h3] at h1;rw [size_toArray,<- hl];exact Option.some.inj h1
  exact PySem.W.ki_setBack ho (by omega) (by rw [size_toArray,<- hl]; exact h3) (by omega) (by rw [hk]; exact ⟨_,I',q⟩)
theorem aqc:awh X (.builtin "len") (fun xs H Q=>∃ p ys,xs=[.ref p]/\(SqL X.K H p ys \/ SqT X.K H p ys)/\Q (.int ys.length) H):=by
 intro pins s σ H xs us Q I r h;obtain ⟨p,ys,rfl,hq,q⟩:=h;obtain ⟨u,rfl,rx⟩:=vals1 r;cases rx;have hn:=aqax;rcases hq with hq | hq
 ·obtain ⟨its,r',pl,hz⟩:=I.list hq
  have hlen:=r'.length;exact Calls.call_len_list pl.isList (by simp only [size_toArray] <;> omega) ⟨.int ys.length,H,I.tok _,⟨s.toks + 1,by rw [size_toArray,hlen]⟩,q⟩
 ·obtain ⟨its,r',pl,hz⟩:=I.tuple hq
  have hlen:=r'.length;exact len_tuple pl (by simp only [size_toArray] <;> omega) ⟨.int ys.length,H,I.tok _,⟨s.toks + 1,by rw [size_toArray,hlen]⟩,q⟩
theorem awh.or {f:Value} {r r':List V->Hp->VK->Prop} (h:awh X f r) (h':awh X f r'):awh X f (fun xs H Q=>r xs H Q \/ r' xs H Q):=by
 intro pins s σ H xs us Q I rs q;rcases q with q | q
 ·exact h pins s σ H xs us Q I rs q
 ·exact h' pins s σ H xs us Q I rs q
theorem aj6:awh X (.type "list") (fun xs H Q=>∃ p ys,xs=[.ref p]/\(SqL X.K H p ys \/ SqT X.K H p ys)/\∀ l,H l=none->Q (.ref l) (upd H l (.lst ys))):=by
 intro pins s σ H xs us Q I r h;obtain ⟨p,ys,rfl,hq,q⟩:=h;obtain ⟨u,rfl,rx⟩:=vals1 r;cases rx;have fin:∀ (its:List Value),aqu8 ys its->ys.length <= Aj->∀ (h':Heap) (c':Nat),(∀ b o',s.heap.get? b=some o'->h'.get? b=some o') ->
   h'.get? s.heap.objs.size=some { cls:=.type "list",dict:=none,data:=.seq its.toArray c',slots:=#[] }->EP X pins σ Q (.ref s.heap.objs.size) { s with heap:=h' }:=fun its r' hz h' c' kp e =>
  ⟨.ref s.heap.objs.size,_,I.laid (t':=s.toks) kp (le_refl _) (show azn X.prog X.w _ h' _ (.lst ys) from ⟨hz,its,c',r',e⟩),rfl,q _ (I.hok.fresh (le_refl _))⟩
 rcases hq with hq | hq
 ·obtain ⟨its,r',pl,hz⟩:=I.list hq
  have hlen:=r'.length;obtain ⟨o,ho,hc,n,hd⟩:=pl.isList;exact call_list_seq p (.inl rfl) ho hc hd (fun h' c' kp e=>fin its r' hz h' c' kp e) (by simp only [size_toArray] <;> omega)
 ·obtain ⟨its,r',pl,hz⟩:=I.tuple hq
  have hlen:=r'.length;obtain ⟨o,ho,hc,n,hd⟩:=pl;exact call_list_seq p (.inr rfl) ho hc hd (fun h' c' kp e=>fin its r' hz h' c' kp e) (by simp only [size_toArray] <;> omega)
theorem aqf:awh X (.type "tuple") (fun xs H Q=>∃ p ys,xs=[.ref p]/\((SqL X.K H p ys/\∀ l,H l=none->Q (.ref l) (upd H l (.tup ys))) \/ (SqT X.K H p ys/\Q (.ref p) H))):=by
 intro pins s σ H xs us Q I r h;obtain ⟨p,ys,rfl,h⟩:=h;obtain ⟨u,rfl,rx⟩:=vals1 r;cases rx;rcases h with ⟨hq,q⟩ | ⟨hq,q⟩
 ·obtain ⟨its,r',pl,hz⟩:=I.list hq
  have hlen:=r'.length;refine call_tuple_list pl.isList (fun h' kp=>?_) (by simp only [size_toArray] <;> omega);have I1:Inv X pins σ H { s with heap:=h' }:=I.kept (t':=s.toks) kp;have I2:Inv X pins σ (upd H h'.objs.size (.tup ys)) { s with heap:=h'.push { cls:=.type "tuple",data:=.seq its.toArray } } :=
   I1.laid (t':=s.toks) (fun b o e=>Ae _ e) (le_refl _) (show azn X.prog X.w _ _ _ (.tup ys) from ⟨hz,its,r',IsTup.new _ _⟩)
  exact ⟨.ref h'.objs.size,_,I2,rfl,q _ (I1.hok.fresh (le_refl _))⟩
 ·obtain ⟨its,r',pl,hz⟩:=I.tuple hq
  exact call_tuple_same pl ⟨.ref p,H,I,rfl,q⟩
def tyV (K:Frag) (T:String) (x:V) (H:Hp):Prop:=match x with
 | .str _=>T="str"
 | .int _=>T="int"
 | .ref p=>(T="list"/\∃ xs,SqL K H p xs) \/ (T="tuple"/\∃ o,K.lookup p=some o/\o.cls=.type "tuple"/\o.dict=none) \/
   (T="dict"/\((∃ kvs,H p=some (.dK kvs)) \/ ∃ kvs,H p=some (.dT kvs))) \/ (T="set"/\∃ S n,H p=some (.set S n))
 | _=>False
theorem aqob {pins:List (Addr × Obj)} {σ:St} {H:Hp} {s:Shared} {T:String} {x:V} {v:Value} (I:Inv X pins σ H s) (r:RelV x v) (ty:tyV X.K T x H) :
  s.TypeIs v T/\∀ a,v=.ref a->∃ ob,s.heap.get? a=some ob/\ob.dict=none:=by
 cases x with
 | str z =>
  obtain ⟨t,rfl⟩:=r;cases (show T="str" from ty);exact ⟨K8 s z t,fun _ e=>nomatch e⟩
 | int i =>
  obtain ⟨t,rfl⟩:=r;cases (show T="int" from ty);exact ⟨typeIs_int s i t,fun _ e=>nomatch e⟩
 | ref p =>
  cases r;rcases ty with ⟨rfl,xs,hq⟩ | ⟨rfl,o,hk,hc,hd⟩ | ⟨rfl,hk⟩ | ⟨rfl,S,n,hk⟩
  ·obtain ⟨its,_,pl,_⟩:=I.list hq
   refine ⟨pl.isList.typeIs,fun a e=>?_⟩;cases e;obtain ⟨o,n,e,c,hd,_⟩:=pl;exact ⟨o,e,hd⟩
  ·refine ⟨⟨o,I.kIn p o hk,hc⟩,fun a e=>?_⟩
   cases e;exact ⟨o,I.kIn _ o hk,hd⟩
  ·have z:∃ o,s.heap.get? p=some o/\o.ExactDict:=by
    rcases hk with ⟨kvs,hk⟩ | ⟨kvs,hk⟩
    ·obtain ⟨_,_,_,_,o,_,_,e,ex,_⟩:=I.hok p _ hk
     exact ⟨o,e,ex⟩
    ·obtain ⟨_,_,_,_,o,_,_,e,ex,_⟩:=I.hok p _ hk
     exact ⟨o,e,ex⟩
   obtain ⟨o,e,ex⟩:=z;refine ⟨⟨o,e,ex.1⟩,fun a e2=>?_⟩;cases e2;exact ⟨o,e,ex.2.1⟩
  ·obtain ⟨o,_,_,_,e,ex,_⟩:=I.hok p _ hk
   refine ⟨⟨o,e,ex.1⟩,fun a e2=>?_⟩;cases e2;exact ⟨o,e,ex.2.1⟩
 | _=>exact Az ty
def tBM (K:Frag) (T:String) (r:V->List V->Hp->VK->Prop) (to:TE) (t:TA):TE:=fun σ H Q=>to σ H fun x H1=>tyV K T x H1/\t σ H1 fun xs H2=>r x xs H2 Q
variable {o e:Expr} {es:List Expr} {to:TE} {t:TA} {name:Str} {apos cpos:Pos} {T id:String} {r:V->List V->Hp->VK->Prop}
theorem aqfn (pa:PlainAttrs T) (slot:Slot T name id) (hty:typeOf (.builtin id)=pure (.type "method_descriptor")) (hm:MtR X id r) (ho:PE X o to) (ha:PA X (e :: es) t)
  (hbase:Ee o name X.env (eval o X.env)=eval o X.env:=by rfl)
  (hfew:((C1 cpos (Ap (e :: es) X.env)).all (fun x=>!x.1) && (Ln cpos (Ib [] X.env)).all (fun x=>x.1.isSome)
   && decide ((e :: es).length + ([]:List Kl).length + (if ([]:List Kl).isEmpty then 0 else 1) < 30))=true:=by rfl)
  (hline:(apos.endLine == cpos.line)=true:=by rfl) (hs:Ap (e :: es) X.env=(false,eval e X.env) :: Ap es X.env:=by rfl) (hplain:(C1 cpos (Ap es X.env)).any (·.1)=false:=by rfl) :
  PE X (.Call (.Attribute o name apos) (e :: es) [] cpos) (tBM X.K T r to t):=by
 intro pins s σ H Q I h;refine wpAny_Call_method_late hbase hfew hline rfl (thn (ho pins s σ H _ I h) fun v s1 hQ=>?_);obtain ⟨x,H1,I1,r1,ty,q1⟩:=hQ;obtain ⟨h1,h2⟩:=aqob I1 r1 ty;refine ⟨T,id,pa,slot,hty,h1,h2,?_⟩;have hA:=ha cpos pins s1 σ H1 _ I1 q1;rw [hs] at hA ⊢;refine Ct (by show (false || (C1 cpos (Ap es X.env)).any (·.1))=false; rw [hplain] <;> rfl) (Eu ?_);exact thn hA fun us s2 ⟨vs,H2,I2,r2,q2⟩=>hm pins s2 σ H2 x vs v us Q I2 r1 r2 q2
end
def MtM (X:Cx) (id:String) (r:V->List V->Hp->VK->Prop):Prop :=
 ∀ (pins:List (Addr × Obj)) (s:Shared) (σ:St) (H:Hp) (x:V) (xs:List V) (v:Value) (us:List Value) (Q:VK),Inv X pins σ H s->RelV x v->aqu8 xs us->r x xs H Q ->
  wpAny (model X.prog X.w) X.A (call (.builtin id) (v :: us)) (EP X pins σ Q) X.xe s
theorem aqu8.one:∀ {x:V} {us:List Value},aqu8 [x] us->∃ u,us=[u]/\RelV x u
 | _,_,.cons r .nil=>⟨_,rfl,r⟩
theorem aqu8.eraseIdx:∀ {xs:List V} {us:List Value} (i:Nat),aqu8 xs us->aqu8 (xs.eraseIdx i) (us.eraseIdx i)
 | _,_,_,.nil=>.nil
 | _,_,0,.cons _ t=>t
 | _,_,i + 1,.cons r t=>.cons r (aqu8.eraseIdx i t)
theorem aqu8.reverse {xs:List V} {us:List Value} (h:aqu8 xs us):aqu8 xs.reverse us.reverse:=by
 induction h with
 | nil=>exact .nil
 | cons r t ih=>rw [List.reverse_cons,List.reverse_cons]; exact aqu8.append ih (.cons r .nil)
theorem aqu8.rep {xs:List V} {us:List Value} (h:aqu8 xs us):∀ k:Nat,aqu8 (C2 k xs).flatten (C2 k us).flatten
 | 0=>.nil
 | k + 1=>by
  rw [G2,G2,List.flatten_cons,List.flatten_cons];exact aqu8.append h (aqu8.rep h k)
section
variable {X:Cx} {pins:List (Addr × Obj)} {σ:St} {H:Hp} {s:Shared} {l b:Addr} {xs ys zs:List V}
theorem Inv.lset {its its':List Value} {n:Nat} {f:Array Value->Array Value} {t':Nat} (I:Inv X pins σ H s) (hH:H l=some (.lst xs))
  (e:s.heap.get? l=some { cls:=.type "list",data:=.seq its.toArray n }) (hf:f its.toArray=its'.toArray) (hv:aqu8 ys its') (hz:ys.length <= Aj) :
  Inv X pins σ (upd H l (.lst ys)) { s with heap:=s.heap.update l (Bg f),toks:=t' }:=by
 have q:=PySem.IsL.update e f;rw [hf] at q;refine I.write (x:=l) (e:=l) (by rw [hH]; exact trivial) (.inl rfl) (fun b' u hb hu=>(Au s.heap (Bg f) (B4 hb)).trans hu) ⟨_,q⟩ ?_;exact ⟨hz,its',_,hv,q⟩
theorem Inv.lnew {its:List Value} {t':Nat} (I:Inv X pins σ H s) (hv:aqu8 ys its) (hz:ys.length <= Aj) :
  Inv X pins σ (upd H s.heap.objs.size (.lst ys)) { s with heap:=s.heap.push { cls:=.type "list",data:=.seq its.toArray },toks:=t' } :=
 I.laid (fun _ _ q=>Ae _ q) (le_refl _) ⟨hz,its,0,hv,Ag _ rfl⟩
theorem Inv.fresh (I:Inv X pins σ H s):H s.heap.objs.size=none:=I.hok.fresh (le_refl _)
theorem Inv.lstM (I:Inv X pins σ H s) (hH:H l=some (.lst xs)):xs.length <= Aj/\∃ (its:List Value) (n:Nat),aqu8 xs its/\xs.length=its.length/\s.heap.get? l=some { cls:=.type "list",data:=.seq its.toArray n }:=by
 obtain ⟨z,its,n,r,e⟩:=I.hok l _ hH;exact ⟨z,its,n,r,r.length,e⟩
theorem notLongL {n:Nat} (h:n <= Aj):E6 n=false:=by
 unfold E6;exact decide_eq_false (by omega)
end
section
variable {X:Cx}
def aqfg:V->List V->Hp->VK->Prop:=fun x vs H Q=>∃ l xs y,x=.ref l/\vs=[y]/\H l=some (.lst xs)/\xs.length < Aj/\Q .non (upd H l (.lst (xs++[y])))
theorem aj2:MtM X "list.append" aqfg:=by
 intro pins s σ H x vs v us Q I rx rv h;obtain ⟨l,xs,y,rfl,rfl,hH,hz,q⟩:=h;cases rx;obtain ⟨u,rfl,ru⟩:=rv.one;obtain ⟨z,its,n,r,hl,e⟩:=I.lstM hH;refine call_meets F.slot_list_append ⟨_,e,rfl⟩ F.entry_list_append (F.args_list_append_2 _ _) (PySem.list_append l its.toArray n u (by rw [size_toArray]; omega)) ⟨e,?_⟩;refine ⟨.non,_,I.lset (its':=its++[u]) hH e (by simp) (r.append (.cons ru .nil)) ?_,rfl,q⟩;rw [length_append,List.length_singleton];omega
end
section
variable {prog:Ak} {w:World} {A:Around} {E:Value->Shared->Prop} {s:Shared}
end
section
variable {X:Cx}
end
end L2
namespace Att
open PySem PySem.W PySem.Calls PyProof.Rows
theorem ints_of_wellAll {P:Params} {h:Heap}:∀ (ns:List Int) (vs:List Value),WellAll P h vs (ns.map WData.int)->IntsAre vs ns:=by
 intro ns
 induction ns with
 | nil =>
  intro vs w;rw [map_nil] at w;cases w;exact .nil
 | cons n ns ih =>
  intro vs w;rw [map_cons] at w;cases w with
  | cons a b =>
   cases a;exact .cons _ _ (ih _ b)
theorem script_of {l:OpenLaw} {n:Nat} (hn:l.most=some n) {P:Params} {h:Heap} {args:List WData} {vals:List Value}
  (hpre:l.row.toRowW.claim.pre args=true) (hwl:WellAll P h vals args) :
  ∃ a vs ns,vals=[Value.ref a]/\args=[WData.list (ns.map WData.int)]/\h.get? a=some { cls:=.type "list",data:=.seq vs.toArray }/\IntsAre vs ns/\ns.length <= n:=by
 have hsh:WShape.hasAll [] args [.list .int]=true:=(pre_splitW hpre).1;have hc:l.pre.holds [] { args:=args }=true:=(pre_splitW hpre).2;obtain ⟨d,r,rfl,h1,h2⟩:=hasAllW_cons hsh;obtain rfl:=hasAllW_nil h2;obtain ⟨xs,rfl,h3⟩:=hasW_list h1;obtain ⟨ns,rfl⟩:=items_int h3;have hlen:ns.length <= n:=by
  unfold OpenLaw.pre at hc;have h4:(WTm.not (.lt (.lit (.int (n:Int))) (.len (.arg 0)))).holds [] { args:=[.list (ns.map .int)] }=true:=by
   have h4:=(holds_andW hc).1;rw [hn] at h4;exact h4
  have h5:=condW_of h4 (w_not (w_lt w_lit (w_len_list (w_arg rfl))));rw [length_map] at h5;refine Nat.le_of_not_lt fun q=>?_;have q':(n:Int) < ((ns.length:Nat):Int):=by omega
  first
   | (rw [decide_eq_true q'] at h5; exact absurd h5 (by decide))
   | (simp at h5; omega)
 cases hwl with
 | cons w1 w2 =>
  cases w2;cases w1 with
  | list ho hall=>exact ⟨_,_,ns,rfl,rfl,ho,ints_of_wellAll ns _ hall,hlen⟩
theorem post_true (l:OpenLaw) (args:List WData):l.row.toRowW.claim.post args (.bool true) args=true :=
 postW_of (r:=l.row.toRowW) (X:=(true == true))
  (show WShape.has [] (.bool true) .bool=true by first | rfl | decide | simp [WShape.has,WShape.arms,WShape.armsAll])
  (show (WTm.eq .res (.lit (.bool true))).value [] { args:=args,res:=some (.bool true),after:=args }=some (.bool (true == true)) from w_eq_bool (w_res rfl) w_lit) rfl
theorem attach_call {l:OpenLaw} {n:Nat} {q:Ak} {loose:List Str} {XP:(Str->Option Value)->Heap->Prop} {YP:World->Heap->Prop} {d:DefRec}
  (hn:l.most=some n) (hdf:d.params.defaults=[])
  (call:∀ (w:World) (s₀ s₁:Shared) (mg mb:Str->Option Value) (fa:Addr) (o:Obj) (pm cd doc:Value) (a:Addr) (vs:List Value) (ns:List Int),
   Ground q loose [] XP w s₀ mg mb s₁.heap->YP w s₁.heap ->
   s₁.heap.get? fa=some o->o.data=.func (docDef d.name d.params d.body d.scope pm cd doc)->s₁.heap.CodeRec cd d.name->mg d.name=some (.ref fa) ->
   s₁.heap.get? a=some { cls:=.type "list",data:=.seq vs.toArray }->IntsAre vs ns->ns.length <= n->s₁.gens=#[] ->
   Dp (model l.prog w) G7 (.call (.ref fa) ⟨[.ref a],[]⟩) (fun r s'=>r=.ok (.ret (.bool true))/\OldK s₁.heap s'.heap/\s'.os=s₁.os/\G5 s'.gens) s₁) :
  WalkO q loose XP YP l.row.toRowW d [] (fun f vs=>PySem.call f vs):=by
 intro w s₀ s₁ mg mb G Y fa o pm cd doc dV kV ho hd hcd hD hmg hg args vals as hpre hlay hrd hwl hlo;obtain rfl:dV=.none:=Dflts.none hD hdf;obtain rfl:kV=.none:=Dflts.noKw hD;obtain ⟨a,vs,ns,rfl,rfl,hobj,hints,hlen⟩:=script_of hn hpre hwl;refine enter_call (Cn (call w s₀ s₁ mg mb fa o pm cd doc a vs ns G Y ho (fd_plain hd) hcd hmg hobj hints hlen hg) fun r s' hq=>?_);obtain ⟨rfl,h2,h3,h4⟩:=hq;exact ⟨.inl ⟨.bool true,.bool true,[],rfl,fun _=>rfl,.bool true,post_true l _,fun _=>⟨List.Pairwise.nil,fun _ hm=>(nomatch hm)⟩⟩,h2,h3,h4⟩
section
variable {prog:Ak} {w:World} {A:Around} {E:Value->Shared->Prop} {s:Shared} {K:Frag}
end
end Att
namespace L2
open PySem PySem.Spec PyProof.Rows
theorem aQe:∀ {vs:List Value} {ns:List Int},IntsAre vs ns->aqu8 (ns.map V.int) vs
 | _,_,.nil=>.nil
 | _,_,.cons n t h=>.cons ⟨t,rfl⟩ (aQe h)
def Only (H:Hp):Prop:=∀ b,H b=none \/ ∃ o xs,H b=some (.frz o (.lst xs))
theorem law_call {P:Ak} {w:World} {K:Frag} {mg mb:Str->Option Value} {CX:CXT} {k:Nat} {fa a:Addr} {fd:Am} {x:Str} {sp:Sp} {s₁:Shared} {vs:List Value} {ns:List Int}
  (KX:K.In s₁.heap) (hns:s₁.heap.Ns Aq mg) (hb:s₁.heap.Ns K5 mb) (hbb:∀ x:Str,x ≠ "__name__"->mb x=A6 x) (hlim:s₁.heap.NoLimit) (hg:s₁.gens=#[])
  (ha:s₁.heap.get? a=some { cls:=.type "list",data:=.seq vs.toArray }) (hi:IntsAre vs ns) (hl:ns.length <= Aj) (hr:Room k G7)
  (F:∀ base:Heap,K.In base->base.Ns Aq mg->FnOk P w K mg base CX k fa fd [x] sp) (hbind:∀ (s:Shared) (u:Value),Ia s fd ⟨[u],[]⟩ [(x,u)])
  (hsp:∀ H:Hp,Only H->SqL K H a (ns.map V.int)->sp [.ref a] H (fun v _=>v=.bl true) fun _ _ _=>False)
  (hCX:∀ H e s',CX [] H s₁ (fun _ _ _=>False) e s'->False) :
  Dp (model P w) G7 (.call (.ref fa) ⟨[.ref a],[]⟩) (fun r s'=>r=.ok (.ret (.bool true))/\OldK s₁.heap s'.heap/\s'.os=s₁.os/\G5 s'.gens) s₁:=by
 have rv:=aQe hi;have lenV:=hi.length;have core:∀ H:Hp,Only H->SqL K H a (ns.map V.int)->HOk P w H s₁.heap->(∀ b,H b ≠ none->b=a)->(H a ≠ none->K.lookup a=none) ->
   Dp (model P w) G7 (.call (.ref fa) ⟨[.ref a],[]⟩) (fun r s'=>r=.ok (.ret (.bool true))/\OldK s₁.heap s'.heap/\s'.os=s₁.os/\G5 s'.gens) s₁:=by
  intro H hO hS hok hA hK;have base_of:∀ {b:Addr} {o:Obj},s₁.heap.get? b=some o->H b=none->(hidT s₁.heap H).get? b=some o:=fun e n=>aqip e n;have noA:∀ {b:Addr} {o:Obj} {es:Array DictEntry} {ep:Nat},s₁.heap.get? b=some o->o.data=.dict es ep->H b=none:=fun {b o es ep} e d=>by
   cases q:H b with
   | none=>rfl
   | some u =>
    have e':b=a:=hA b (by rw [q]; simp);subst e';rw [ha] at e; cases e;have d':Data.seq vs.toArray _=Data.dict es ep:=d;cases d'
  have nsK:∀ {b:Addr} {m:Str->Option Value},s₁.heap.Ns b m->(hidT s₁.heap H).Ns b m:=fun {b m} ⟨o,es,ep,e,d,r⟩=>⟨o,es,ep,base_of e (noA e d),d,r⟩;have hKb:K.In (hidT s₁.heap H):=fun b o e=>base_of (KX b o e) (by
   cases q:H b with
   | none=>rfl
   | some u =>
    have e':b=a:=hA b (by rw [q]; simp);subst e';rw [hK (by rw [q]; simp)] at e; cases e)
  have hM:Mod K mg (hidT s₁.heap H):=⟨hKb,nsK hns,⟨mb,nsK hb,hbb⟩,let ⟨mc,h1,h2⟩:=hlim; ⟨mc,nsK h1,h2⟩⟩;have e0:Env0 P w K mg (hidT s₁.heap H) G7 [] s₁ H:=⟨rfl,hM,fun b o e=>aqlq e,Nat.le_of_eq (aqee _ _),trivial,fun b hb=>absurd (show b∈([]:List Addr) from hb) (by simp),hok,.of_eq hg⟩;refine Cn ((F _ hKb (nsK hns)).run G7 [] s₁ H ⟨[.ref a],[]⟩ [.ref a] [.ref a] _ _ hr e0 (hbind s₁ (.ref a)) (.cons rfl .nil) (hsp H hO hS)) fun r s' h=>?_;cases r with
  | error e=>exact (hCX H e s' h).elim
  | ok fl =>
   cases fl with
   | next=>exact Az h
   | brk=>exact Az h
   | cont=>exact Az h
   | ret u =>
    obtain ⟨v,H',os,bare,un,hok',r',q⟩:=h;have q':v=.bl true:=q;subst q';obtain rfl:u=Value.bool true:=r';refine ⟨rfl,OldK.of_keep fun b o e=>?_,os,bare⟩;cases q:H b with
    | none=>exact un.keep b o e q (by intro z; exact absurd (show b∈([]:List Addr) from z) (by simp)) (by simp)
    | some u =>
     rcases hO b with z | ⟨ob,xs,z⟩
     ·rw [q] at z; cases z
     ·have z2:=un.frzs b ob _ z
      obtain ⟨e1,_⟩:=hok b _ z;obtain ⟨e2,_⟩:=hok' b _ z2;rw [e] at e1; cases e1;exact e2
 cases hk:K.lookup a with
 | some o =>
  have e:=KX a o hk;rw [ha] at e;cases e;refine core (fun _=>none) (fun _=>.inl rfl) (.inr ⟨_,vs.toArray,_,hk,rfl,rfl,rfl,by rw [size_toArray,lenV]; exact hl,by simpa using rv⟩) (fun b u z=>by have z':(none:Option HO)=some u:=z; cases z') (fun b z=>absurd rfl z) fun z=>absurd rfl z
 | none =>
  refine core (fun b=>if b=a then some (.frz { cls:=.type "list",data:=.seq vs.toArray } (.lst (ns.map V.int))) else none) (fun b=>?_) (.inl (.inr ⟨{ cls:=.type "list",data:=.seq vs.toArray },if_pos rfl⟩)) (fun b u z=>?_) (fun b z=>?_) fun _=>hk
  ·by_cases hb:b=a
   ·exact .inr ⟨_,_,if_pos hb⟩
   ·exact .inl (if_neg hb)
  ·by_cases hb:b=a
   ·have z':=(if_pos hb).symm.trans z
    cases z';subst hb;exact ⟨ha,by rw [length_map]; exact hl,vs,_,rv,ha⟩
   ·have z':=(if_neg hb).symm.trans z
    cases z'
  ·by_cases hb:b=a
   ·exact hb
   ·exact absurd (if_neg hb) z
theorem aqey {l:Gv} {n k:Nat} {q:Ak} {loose:List Str} {XP:(Str->Option Value)->Heap->Prop} {YP:World->Heap->Prop} {d:DefRec} {K:Params->Frag} {CX:World->CXT} {sp:World->Sp} {x:Str}
  (hn:l.most=some n) (hn2:n <= Aj) (hdf:d.params.defaults=[]) (hr:Room k G7)
  (hY:∀ (w:World) (h:Heap),YP w h->(K w.params).In h)
  (F:∀ (w:World) (mg:Str->Option Value) (fa:Addr) (h:Heap),(K w.params).In h->h.Ns Aq mg->mg d.name=some (.ref fa) ->
   ∃ fd:Am,(∀ (s:Shared) (u:Value),Ia s fd ⟨[u],[]⟩ [(x,u)]) /\
    ∀ base:Heap,(K w.params).In base->base.Ns Aq mg->FnOk l.prog w (K w.params) mg base (CX w) k fa fd [x] (sp w))
  (hsp:∀ (w:World) (H:Hp) (a:Addr) (ns:List Int),ns.length <= n->Only H->SqL (K w.params) H a (ns.map V.int)->sp w [.ref a] H (fun v _=>v=.bl true) fun _ _ _=>False)
  (hCX:∀ (w:World) (H:Hp) (s:Shared) (e:Value) (s':Shared),CX w [] H s (fun _ _ _=>False) e s'->False) :
  Kx q loose XP YP l.row.toRowW d [] (fun f vs=>PySem.call f vs):=by
 refine Att.attach_call hn hdf fun w s₀ s₁ mg mb fa o pm cd doc a vs ns G Y ho hd hcd hmg hobj hints hlen hg=>?_;have KX:=hY w _ Y;obtain ⟨fd,hb,hF⟩:=F w mg fa _ KX G.T.g hmg;exact law_call KX G.T.g G.T.b G.T.builtins G.T.nolimit hg hobj hints (le_trans hlen hn2) hr hF hb (fun H hO hS=>hsp w H a ns hlen hO hS) fun H e s'=>hCX w H s₁ e s'
def aza (s:Stmt) (j:Nat):Stmt:=match s with
 | .ClassDef _ _ _ body _ _ _ _ _ _ _=>body.getD j (.Pass ⟨0,0,0,0⟩)
 | _=>.Pass ⟨0,0,0,0⟩
def aja (s:Stmt):Arguments:=match s with
 | .FunctionDef _ a _ _ _ _ _ _ _ _=>a
 | _=>{ posonlyargs:=[],args:=[],vararg:=none,kwonlyargs:=[],kw_defaults:=[],kwarg:=none,defaults:=[] }
def aqu (s:Stmt):List Stmt:=match s with
 | .FunctionDef _ _ b _ _ _ _ _ _ _=>b
 | _=>[]
def af (s:Stmt):Scope:=match s with
 | .FunctionDef _ _ _ _ _ _ sc _ _ _=>sc
 | _=>{ kind:=.function,names:=[],isGenerator:=false,isCoroutine:=false }
abbrev CX0:CXT:=fun _ _ _ _ _ _=>False
abbrev E0:XK:=fun _ _ _=>False
theorem azs {X:Cx}:aVj CX0 X E0:=fun _ _ _ _ _ _ _ h=>h.elim
structure Fun (K:Frag) (x qual:Str) (st:Stmt) (f:Addr) (fd:Am):Prop where
 ex:∃ (oc:Value) (od:Option Addr) (kV doc pm:Value) (an:Option Addr) (cdv ct:Value) (osl:Array (Option Value)),
  fd=fnOf x qual (aja st) (aqu st) (af st) .none kV doc pm an cdv ct/\K.lookup f=some ⟨oc,od,.func fd,osl⟩/\L5 K cdv qual=true
 kp:Gr K (.ref f)=true
section
variable {P:Ak} {w:World} {K:Frag} {mg:Str->Option Value} {base:Heap}
theorem Fun.ok {x qual:Str} {st:Stmt} {f:Addr} {fd:Am} {N ps:List Str} {k:Nat} {sp:Sp} (F:Fun K x qual st f fd) (S:FnScope N ps (af st)) (len:∀ vs H Q E,sp vs H Q E->vs.length=ps.length)
  (hbody:∀ (cdv:Value) (A:Around) (outer:List Env) (s:Shared) (H:Hp) (vs:List V) (Q:VK) (E:XK),Room k (A.deeper (Ja qual (af st) s.heap.objs.size f cdv))->sp vs H Q E ->
   ∃ t,PSs (cxOf CX0 P w K mg base N qual (af st) f cdv A outer s H E).nox (aqu st) t/\t { nx:=fun _ H'=>Q .non H',rt:=Q } (start N vs) H):FnOk P w K mg base CX0 (k + 1) f fd ps sp:=by
 obtain ⟨oc,od,kV,doc,pm,an,cdv,ct,osl,rfl,lk,hcd⟩:=F.ex;refine fn_of lk hcd S len fun A outer s H vs Q E hr hsp=>?_;obtain ⟨t,h,q⟩:=hbody cdv A outer s H vs Q E hr hsp;exact ⟨t,h.nox,q⟩
theorem Fun.binds {x qual:Str} {st:Stmt} {f:Addr} {fd:Am} {ps:List Str} (F:Fun K x qual st f fd)
  (h:∀ (kV doc pm:Value) (an:Option Addr) (cdv ct:Value) (us:List Value),us.length=ps.length->Hg (fnOf x qual (aja st) (aqu st) (af st) .none kV doc pm an cdv ct) ⟨us,[]⟩=pure (ps.zip us)):Binds K fd ps []:=by
 obtain ⟨oc,od,kV,doc,pm,an,cdv,ct,osl,rfl,lk,hcd⟩:=F.ex;exact .all (h kV doc pm an cdv ct)
theorem aqiu {x qual:Str} {st:Stmt} {f:Addr} {oc:Value} {od an:Option Addr} {osl:Array (Option Value)} {kV doc pm cdv ct:Value} (l:K.lookup f=some ⟨oc,od,.func (fnOf x qual (aja st) (aqu st) (af st) .none kV doc pm an cdv ct),osl⟩)
  (c:L5 K cdv qual=true) (k:Gr K (.ref f)=true):Fun K x qual st f (fnOf x qual (aja st) (aqu st) (af st) .none kV doc pm an cdv ct):=⟨⟨oc,od,kV,doc,pm,an,cdv,ct,osl,rfl,l,c⟩,k⟩
end
theorem awp {A:Around} {k:Nat} (hr:Room k A):A.units + 1 < cLine:=lt_of_le_of_lt (Nat.add_le_add_left (by decide:1 <= 64) _) hr.units
section
variable {X:Cx}
theorem pv (i:Nat) {x:Str} {pos:Pos} (hN:X.N[i]?=some x:=by rfl) (hv:Vis X.env.scope x:=by first | exact Or.inl rfl | exact Or.inr (Or.inl rfl) | exact Or.inr (Or.inr rfl)) (hd:(x == ("__debug__":Str))=false:=by decide)
  (hcd:(x == ("__classdict__":Str))=false:=by decide):PE X (.Name x pos) (aqsw i):=aqoi hN hv hd hcd
end
theorem aqti {A B:Prop} (h:B):if false=true then A else B:=by
 rw [if_neg An];exact h
theorem iteT {A B:Prop} (h:A):if true=true then A else B:=by
 rw [if_pos rfl];exact h
theorem ite2 {c A B:Prop} [Decidable c] (h1:c->A) (h2:¬ c->B):if c then A else B:=by
 by_cases h:c
 ·rw [if_pos h]
  exact h1 h
 ·rw [if_neg h]
  exact h2 h
def aqu9 (H H':Hp):Prop:=∀ b o,H b=some o->H' b=some o
theorem aqu9.refl (H:Hp):aqu9 H H:=fun _ _ h=>h
theorem aqu9.trans {H H1 H2:Hp} (a:aqu9 H H1) (b:aqu9 H1 H2):aqu9 H H2:=fun c o h=>b c o (a c o h)
theorem aqu9.free {H H':Hp} (e:aqu9 H H') {l:Addr} (h:H' l=Option.none):H l=Option.none:=by
 cases q:H l with
 | none=>rfl
 | some o =>
  rw [e l o q] at h;cases h
theorem aqu9.seq {K:Frag} {H H':Hp} {a:Addr} {xs:List V} (e:aqu9 H H') (h:SqL K H a xs):SqL K H' a xs:=by
 rcases h with (h | ⟨o,h⟩) | h
 ·exact .inl (.inl (e _ _ h))
 ·exact .inl (.inr ⟨o,e _ _ h⟩)
 ·exact .inr h
end L2
namespace DL
open PySem
inductive D where
 | non | bl (b:Bool) | int (i:Int) | str (x:Str) | lst (xs:List D) | tup (xs:List D)
inductive O where
 | sh (d:D) | lst (os:List O) | tup (os:List O)
mutual
def imm:D->Bool
 | .lst _=>false
 | .tup ds=>aqtl ds
 | _=>true
def aqtl:List D->Bool
 | []=>true
 | d :: ds=>imm d && aqtl ds
end
mutual
def oD:O->Option D
 | .sh d=>some d
 | .lst os=>(oDs os).map D.lst
 | .tup os=>(oDs os).map D.tup
def oDs:List O->Option (List D)
 | []=>some []
 | o :: os=>(oD o).bind fun d=>(oDs os).map fun ds=>d :: ds
end
mutual
def oim:O->Bool
 | .sh d=>imm d
 | .lst os=>aqtc os
 | .tup os=>aqtc os
def aqtc:List O->Bool
 | []=>true
 | o :: os=>oim o && aqtc os
end
def ow (ds:List D):O:=.lst (ds.map O.sh)
abbrev Cs:=List (Option O)
abbrev aquj:=List (Option D)
abbrev FE:=aquj->Option D
abbrev FO:=aquj->Option O
abbrev FT:=aquj->Option Bool
abbrev FA:=aquj->Option (List D)
abbrev FAO:=aquj->Option (List O)
def aqug:Nat:=100000
def aqtq (i:Nat):FE:=fun ρ=>(ρ[i]?).bind id
def fC (d:D):FE:=fun _=>some d
def f2 (g:D->D->Option D) (a b:FE):FE:=fun ρ=>(a ρ).bind fun x=>(b ρ).bind fun y=>g x y
def f1 (g:D->Option D) (a:FE):FE:=fun ρ=>(a ρ).bind g
def fL (f:FO):FE:=fun ρ=>(f ρ).bind oD
def oE (f:FE):FO:=fun ρ=>(f ρ).map O.sh
def qV (f:FE):FT:=fun ρ=>(f ρ).bind fun d=>match d with | .bl b=>some b | _=>none
def qNot (f:FT):FT:=fun ρ=>(f ρ).map not
def qAnd (f g:FT):FT:=fun ρ=>(f ρ).bind fun x=>if x=true then g ρ else some false
def qOr (f g:FT):FT:=fun ρ=>(f ρ).bind fun x=>if x=true then some true else g ρ
def fB (f:FT):FE:=fun ρ=>(f ρ).map D.bl
def fNot (f:FE):FE:=fB (qNot (qV f))
def fAnd (f g:FE):FE:=fun ρ=>(qV f ρ).bind fun x=>if x=true then g ρ else some (.bl false)
def fOr (f g:FE):FE:=fun ρ=>(qV f ρ).bind fun x=>if x=true then some (.bl true) else g ρ
def fIf (c:FT) (f g:FE):FE:=fun ρ=>(c ρ).bind fun x=>if x=true then f ρ else g ρ
def aqu6:FA:=fun _=>some []
def ak (f:FE) (g:FA):FA:=fun ρ=>(f ρ).bind fun d=>(g ρ).map fun ds=>d :: ds
def aoNil:FAO:=fun _=>some []
def aqcp (f:FO) (g:FAO):FAO:=fun ρ=>(f ρ).bind fun d=>(g ρ).map fun ds=>d :: ds
def aqtr (g:FA):FE:=fun ρ=>(g ρ).bind fun ds=>if ds.length <= aqug then some (.tup ds) else none
def oLst (g:FA):FO:=fun ρ=>(g ρ).bind fun ds=>if ds.length <= aqug then some (ow ds) else none
def oLstO (g:FAO):FO:=fun ρ=>(g ρ).bind fun os=>if os.length <= aqug then some (.lst os) else none
def oTupO (g:FAO):FO:=fun ρ=>(g ρ).bind fun os=>if os.length <= aqug then some (.tup os) else none
def aq1 (n:Nat) (g:List D->Option D) (f:FA):FE:=fun ρ=>(f ρ).bind fun ds=>if ds.length=n then g ds else none
def aqcr (n:Nat) (g:List D->Option O) (f:FA):FO:=fun ρ=>(f ρ).bind fun ds=>if ds.length=n then g ds else none
def aqts (g:List D->Option D) (f:FA):FE:=fun ρ=>(f ρ).bind g
def aqte (g:List D->Option (List D)) (f:FA):FO:=fun ρ=>((f ρ).bind g).map ow
def o2 (g:D->D->Option (List D)) (a b:FE):FO:=fun ρ=>((a ρ).bind fun x=>(b ρ).bind fun y=>g x y).map ow
abbrev GE:=D->aquj->Option aquj
def geN (i:Nat):GE:=fun d ρ=>some (ρ.set i (some d))
def geT:List GE->List D->aquj->Option aquj
 | [],[],ρ=>some ρ
 | g :: gs,d :: ds,ρ=>(g d ρ).bind fun ρ'=>geT gs ds ρ'
 | _,_,_=>none
def aqto (gs:List GE):GE:=fun d ρ=>match d with
 | .tup ds=>geT gs ds ρ
 | _=>none
def mkD (js:List (Option Nat)) (ρ:aquj):aquj:=js.map fun o=>o.bind fun j=>(ρ[j]?).bind id
def av0 (g:GE) (c:FT) (e:FO):List D->aquj->Option (List O)
 | [],_=>some []
 | d :: ds,ρ=>(g d ρ).bind fun ρ1=>(c ρ1).bind fun b=>if b=true then (e ρ1).bind fun y=>(av0 g c e ds ρ1).map fun ys=>y :: ys else av0 g c e ds ρ1
def qT:FT:=fun _=>some true
def aJl:D->Option (List D)
 | .lst ds=>some ds
 | _=>none
theorem aZ7 {α:Type} (d:D) (k:List D->Option α):(aJl d).bind k=match d with
 | .lst ds=>k ds
 | _=>none:=by cases d <;> rfl
def azv (js:List (Option Nat)) (f:FE) (g:GE) (c:FT) (e:FO):FO:=fun ρ=>(f ρ).bind fun d=>(aJl d).bind fun ds=>if ds.length <= aqug then (av0 g c e ds (mkD js ρ)).map O.lst else none
def aqbn (ds:List D):List D:=(Ar ds.length).zipWith (fun (i:Nat) d=>.tup [.int (i:Int),d]) ds
def aqak (js:List (Option Nat)) (f:FE) (g:GE) (c:FT) (e:FO):FO:=fun ρ=>(f ρ).bind fun d=>(aJl d).bind fun ds=>if ds.length <= aqug then (av0 g c e (aqbn ds) (mkD js ρ)).map O.lst else none
inductive Out where
 | nx (ρ:Cs) | bk (ρ:Cs) | ct (ρ:Cs) | rt (o:O) (ρ:Cs) | ex (c:Str) (ρ:Cs)
abbrev Blk:=Cs->Option Out
def fzc:Option O->Option O
 | some o=>match oD o with | some d=>some (.sh d) | none=>some o
 | none=>none
def frz:List Bool->Cs->aquj
 | b :: S,c :: ρ=>(if b=true then c.bind oD else none) :: frz S ρ
 | _,_=>[]
def fz:List Bool->Cs->Cs
 | b :: S,c :: ρ=>(if b=true then fzc c else c) :: fz S ρ
 | _,ρ=>ρ
def all (ρ:Cs):aquj:=ρ.map fun c=>c.bind oD
abbrev FM:=Cs->Option (O × Cs)
def mE (S:List Bool) (f:FE):FM:=fun ρ=>(f (frz S ρ)).map fun d=>(.sh d,if imm d=true then ρ else fz S ρ)
def mO (S:List Bool) (f:FO):FM:=fun ρ=>(f (frz S ρ)).map fun o=>(o,if oim o=true then ρ else fz S ρ)
def mMv (i:Nat):FM:=fun ρ=>((ρ[i]?).bind id).map fun o=>(o,ρ.set i none)
def aqu2:Blk:=fun ρ=>some (.nx ρ)
def aqu0 (b c:Blk):Blk:=fun ρ=>match b ρ with
 | some (.nx ρ')=>c ρ'
 | o=>o
def aqtz (i:Nat) (f:FM):Blk:=fun ρ=>(f ρ).map fun p=>.nx (p.2.set i (some p.1))
def aqu1 (f:FM):Blk:=fun ρ=>(f ρ).map fun p=>.rt p.1 p.2
def bRetN:Blk:=fun ρ=>some (.rt (.sh .non) ρ)
def bExpr (f:FM):Blk:=fun ρ=>(f ρ).map fun p=>.nx p.2
def bIf (c:FT) (a b:Blk):Blk:=fun ρ=>(c (DL.all ρ)).bind fun t=>if t=true then a ρ else b ρ
def bPass:Blk:=fun ρ=>some (.nx ρ)
def bBrk:Blk:=fun ρ=>some (.bk ρ)
def bCnt:Blk:=fun ρ=>some (.ct ρ)
def bNever:Blk:=fun _=>none
abbrev GD:=D->Cs->Option Cs
def gN (i:Nat):GD:=fun d ρ=>some (ρ.set i (some (.sh d)))
def gT:List GD->List D->Cs->Option Cs
 | [],[],ρ=>some ρ
 | g :: gs,d :: ds,ρ=>(g d ρ).bind fun ρ'=>gT gs ds ρ'
 | _,_,_=>none
def gTp (gs:List GD):GD:=fun d ρ=>match d with
 | .tup ds=>gT gs ds ρ
 | _=>none
def aqtp (g:GD) (b:Blk):List D->Blk
 | [],ρ=>some (.nx ρ)
 | d :: ds,ρ=>(g d ρ).bind fun ρ1=>match b ρ1 with
  | some (.nx ρ2)=>aqtp g b ds ρ2
  | some (.ct ρ2)=>aqtp g b ds ρ2
  | some (.bk ρ2)=>some (.nx ρ2)
  | o=>o
def aqu3 (S:List Bool) (f:FE) (g:GD) (b:Blk):Blk:=fun ρ=>(f (frz S ρ)).bind fun d=>(aJl d).bind fun ds=>aqtp g b ds (fz S ρ)
def aZt (c:FT) (b:Blk):Nat->Blk
 | 0,_=>none
 | n + 1,ρ=>(c (DL.all ρ)).bind fun t=>if t=true then match b ρ with
   | some (.nx ρ2)=>aZt c b n ρ2
   | some (.ct ρ2)=>aZt c b n ρ2
   | some (.bk ρ2)=>some (.nx ρ2)
   | o=>o
  else some (.nx ρ)
theorem bind_some {α β:Type} {o:Option α} {f:α->Option β} {y:β} (h:o.bind f=some y):∃ x,o=some x/\f x=some y:=by
 cases o with
 | none=>cases h
 | some x=>exact ⟨x,rfl,h⟩
theorem map_some {α β:Type} {o:Option α} {f:α->β} {y:β} (h:o.map f=some y):∃ x,o=some x/\f x=y:=by
 cases o with
 | none=>cases h
 | some x=>exact ⟨x,rfl,Option.some.inj h⟩
theorem az2 {c:FT} {b:Blk}:∀ {n m:Nat} {ρ:Cs} {o:Out},aZt c b n ρ=some o->n <= m->aZt c b m ρ=some o
 | 0,_,_,_,h,_=>by cases h
 | n + 1,0,_,_,_,h=>by omega
 | n + 1,m + 1,ρ,o,h,hl=>by
  unfold aZt at h ⊢;obtain ⟨t,ht,h⟩:=bind_some h;rw [ht];show (if t=true then _ else _)=some o;split at h
  ·rename_i htt
   rw [if_pos htt];cases hb:b ρ with
   | none=>rw [hb] at h; cases h
   | some o1 =>
    rw [hb] at h;cases o1 with
    | nx ρ2=>exact az2 h (by omega)
    | ct ρ2=>exact az2 h (by omega)
    | bk ρ2=>exact h
    | rt d ρ2=>exact h
    | ex d ρ2=>exact h
  ·rename_i htt
   rw [if_neg htt]; exact h
open Classical in
noncomputable def az4 (c:FT) (b:Blk):Blk:=fun ρ=>if h:∃ n o,aZt c b n ρ=some o then aZt c b (choose h) ρ else none
theorem aK6 {c:FT} {b:Blk} {n:Nat} {ρ:Cs} {o:Out} (h:aZt c b n ρ=some o):az4 c b ρ=some o:=by
 have h':∃ n o,aZt c b n ρ=some o:=⟨n,o,h⟩;unfold az4;rw [dif_pos h'];obtain ⟨o',ho⟩:=Classical.choose_spec h';have e1:=az2 h (Jn n (Classical.choose h'));have e2:=az2 ho (Iq n (Classical.choose h'));rw [e1] at e2;cases e2;exact ho
theorem aKb {c:FT} {b:Blk} {ρ:Cs} {o:Out} (h:az4 c b ρ=some o):∃ n,aZt c b n ρ=some o:=by
 unfold az4 at h;split at h
 ·exact ⟨_,h⟩
 ·cases h
inductive Stp where
 | ix (i:Int) | fl (x:Str)
def ixP (n:Nat) (i:Int):Option Nat:=if 0 <= i then (if i < n then some i.toNat else none) else if -(n:Int) <= i then some (i + n).toNat else none
def atP {α:Type} (xs:List α) (i:Int):Option α:=(ixP xs.length i).bind fun j=>xs[j]?
def plc:O->Stp->Option Nat
 | .lst os,.ix i=>ixP os.length i
 | .tup os,.ix i=>ixP os.length i
 | _,_=>none
def kids:O->List O
 | .lst os=>os
 | .tup os=>os
 | _=>[]
def reset:O->List O->O
 | .lst _,os=>.lst os
 | .tup _,os=>.tup os
 | o,_=>o
def atO (g:O->Option O):List Stp->O->Option O
 | [],o=>g o
 | s :: p,o=>(plc o s).bind fun n=>((kids o)[n]?).bind fun c=>(atO g p c).map fun c'=>reset o ((kids o).set n c')
def aqtn:List Stp->O->Option O
 | [],o=>some o
 | s :: p,o=>(plc o s).bind fun n=>((kids o)[n]?).bind fun c=>aqtn p c
abbrev FP:=aquj->Option (List Stp)
def pNil:FP:=fun _=>some []
def gApp (o:O):O->Option O
 | .lst os=>if os.length < aqug then some (.lst (os++[o])) else none
 | _=>none
def gSetI (i:Int) (o:O):O->Option O
 | .lst os=>(ixP os.length i).map fun n=>.lst (os.set n o)
 | _=>none
def gExt (ds:List D):O->Option O
 | .lst os=>if os.length + ds.length <= aqug then some (.lst (os++ds.map O.sh)) else none
 | _=>none
def isL:O->Bool
 | .lst _=>true
 | _=>false
def bMut (i:Nat) (S:List Bool) (p:FP) (f:FM) (g:O->O->Option O):Blk:=fun ρ=>(p (frz S ρ)).bind fun q=>((ρ[i]?).bind id).bind fun c0=>(aqtn q c0).bind fun m=>if isL m=true then
  (f ρ).bind fun r=>((r.2[i]?).bind id).bind fun c=>(atO (g r.1) q c).map fun c'=>.nx (r.2.set i (some c')) else none
def bPut (i:Nat) (S:List Bool) (p:FP) (k:FE) (f:FM):Blk:=fun ρ=>(f ρ).bind fun r=>(p (frz S r.2)).bind fun q=>(k (frz S r.2)).bind fun d=>((r.2[i]?).bind id).bind fun c=>match d with
 | .int j=>(atO (gSetI j r.1) q c).map fun c'=>.nx (r.2.set i (some c'))
 | _=>none
def bExt (i:Nat) (S:List Bool) (p:FP) (f:FE):Blk:=fun ρ=>(p (frz S ρ)).bind fun q=>(f (frz S ρ)).bind fun d=>((ρ[i]?).bind id).bind fun c=>match d with
 | .lst ds=>if aqtl ds=true then (atO (gExt ds) q c).map fun c'=>.nx (ρ.set i (some c')) else none
 | _=>none
def ini (m:Nat) (ds:List D):Cs:=ds.map (fun d=>some (.sh d))++C2 (m - ds.length) none
def aqt2 (m:Nat) (b:Blk):List D->Option O:=fun ds=>match b (ini m ds) with
 | some (.rt o _)=>some o
 | some (.nx _)=>some (.sh .non)
 | _=>none
def aqt4 (m:Nat) (b:Blk):List D->Option D:=fun ds=>(aqt2 m b ds).bind oD
def BIG:Nat:=2 ^ 1000000
def BIGD:Nat:=2 ^ 9000
def SHORT:Nat:=2 ^ 63
def aqfu (i j:Int):Prop:=(i.natAbs < BIG/\j.natAbs < BIG) \/ i.natAbs < SHORT \/ j.natAbs < SHORT
instance (i j:Int):Decidable (aqfu i j):=inferInstanceAs (Decidable (_ \/ _ \/ _))
def dI (g:Int->Int->Int):D->D->Option D
 | .int i,.int j=>some (.int (g i j))
 | _,_=>none
def dB (g:Int->Int->Bool):D->D->Option D
 | .int i,.int j=>some (.bl (g i j))
 | _,_=>none
def dAdd:D->D->Option D
 | .int i,.int j=>some (.int (i + j))
 | .str x,.str y=>if x.length + y.length <= aqug then some (.str (x++y)) else none
 | _,_=>none
def dSub:D->D->Option D:=dI fun i j=>i - j
def aqtu:D->D->Option D
 | .int i,.int j=>if aqfu i j then some (.int (i * j)) else none
 | _,_=>none
def aqtw:D->D->Option D
 | .int i,.int j=>if j ≠ 0/\j.natAbs < BIGD then some (.int (i.fdiv j)) else none
 | _,_=>none
def dMod:D->D->Option D
 | .int i,.int j=>if j ≠ 0 then some (.int (i.fmod j)) else none
 | _,_=>none
def dNeg:D->Option D
 | .int i=>some (.int (-i))
 | _=>none
def dLt:D->D->Option D:=dB fun i j=>decide (i < j)
def dLe:D->D->Option D:=dB fun i j=>decide (i <= j)
def dGt:D->D->Option D:=dB fun i j=>decide (j < i)
def dGe:D->D->Option D:=dB fun i j=>decide (j <= i)
mutual
def eqD:D->D->Bool
 | .non,.non=>true
 | .bl a,.bl b=>a == b
 | .int i,.int j=>i == j
 | .bl a,.int j=>(if a=true then 1 else 0) == j
 | .int i,.bl b=>i == (if b=true then 1 else 0)
 | .str x,.str y=>x == y
 | .lst xs,.lst ys=>aqtt xs ys
 | .tup xs,.tup ys=>aqtt xs ys
 | _,_=>false
def aqtt:List D->List D->Bool
 | [],[]=>true
 | x :: xs,y :: ys=>eqD x y && aqtt xs ys
 | _,_=>false
end
mutual
def shp:Nat->D->Bool
 | _,.non=>true
 | _,.bl _=>true
 | _,.int _=>true
 | _,.str x=>x.cps.all (· < 0x110000)
 | 0,.lst _=>false
 | n + 1,.lst xs=>aqt0 n xs
 | 0,.tup _=>false
 | n + 1,.tup xs=>aqt0 n xs
def aqt0:Nat->List D->Bool
 | _,[]=>true
 | n,x :: xs=>shp n x && aqt0 n xs
end
def dEq (x y:D):Option D:=if shp 20 x=true/\shp 20 y=true then some (.bl (eqD x y)) else none
def dNe (x y:D):Option D:=if shp 20 x=true/\shp 20 y=true then some (.bl (!eqD x y)) else none
def dIs:D->D->Option D
 | .bl a,.bl b=>some (.bl (a == b))
 | x,.non=>match x with | .non=>some (.bl true) | _=>some (.bl false)
 | _,_=>none
def aqtv:D->D->Option D
 | .bl a,.bl b=>some (.bl (a != b))
 | x,.non=>match x with | .non=>some (.bl false) | _=>some (.bl true)
 | _,_=>none
def dIn:D->D->Option D
 | x,.lst ds=>if shp 20 x=true/\shp 20 (.lst ds)=true then some (.bl (ds.any fun y=>eqD y x)) else none
 | x,.tup ds=>if shp 20 x=true/\shp 20 (.tup ds)=true then some (.bl (ds.any fun y=>eqD y x)) else none
 | _,_=>none
def aXc:D->D->Option D
 | x,.lst ds=>if shp 20 x=true/\shp 20 (.lst ds)=true then some (.bl (!ds.any fun y=>eqD y x)) else none
 | x,.tup ds=>if shp 20 x=true/\shp 20 (.tup ds)=true then some (.bl (!ds.any fun y=>eqD y x)) else none
 | _,_=>none
def dIx:D->D->Option D
 | .lst xs,.int i=>atP xs i
 | .tup xs,.int i=>atP xs i
 | _,_=>none
def dLen:List D->Option D
 | [.lst xs]=>some (.int xs.length)
 | [.tup xs]=>some (.int xs.length)
 | _=>none
def dAbs:List D->Option D
 | [.int i]=>some (.int (if i < 0 then -i else i))
 | _=>none
def dMax2:List D->Option D
 | [.int i,.int j]=>some (.int (if j > i then j else i))
 | _=>none
def dMin2:List D->Option D
 | [.int i,.int j]=>some (.int (if j < i then j else i))
 | _=>none
def tyD:D->String
 | .non=>"NoneType"
 | .bl _=>"bool"
 | .int _=>"int"
 | .str _=>"str"
 | .lst _=>"list"
 | .tup _=>"tuple"
def isT (d:D) (T:String):Bool:=tyD d == T || (tyD d == "bool" && T == "int")
def aqtj (T:String):D->Option D
 | d=>some (.bl (isT d T))
def fIsi (T:String) (f:FE):FE:=fun ρ=>(f ρ).bind (aqtj T)
def dCat:D->D->Option (List D)
 | .lst xs,.lst ys=>if xs.length + ys.length <= aqug then some (xs++ys) else none
 | _,_=>none
def sumD:List D->Int->Option Int
 | [],a=>some a
 | .int i :: ds,a=>sumD ds (a + i)
 | _,_=>none
def dSum:List D->Option D
 | [.lst ds]=>(sumD ds 0).map D.int
 | _=>none
def aqjl:List D->Option (List Bool)
 | []=>some []
 | .bl b :: ds=>(aqjl ds).map fun r=>b :: r
 | _=>none
def dAll:List D->Option D
 | [.lst ds]=>(aqjl ds).map fun bs=>D.bl (bs.all id)
 | _=>none
def aqg1:List D->Option (List D)
 | [.lst ds]=>some ds
 | [.tup ds]=>some ds
 | _=>none
def dTuple:List D->Option D
 | [.lst ds]=>some (.tup ds)
 | [.tup ds]=>some (.tup ds)
 | _=>none
end DL
namespace DL
open PySem
section
variable {ρ:aquj} {σ:Cs} {f g:FE} {a:FA} {p q:FT} {o:FO}
@[simp] theorem aqr4 {i:Nat}:aqtq i ρ=(ρ[i]?).bind id:=rfl
@[simp] theorem fC_ap {d:D}:fC d ρ=some d:=rfl
@[simp] theorem f2_ap {o:D->D->Option D}:f2 o f g ρ=(f ρ).bind fun x=>(g ρ).bind fun y=>o x y:=rfl
@[simp] theorem f1_ap {o:D->Option D}:f1 o f ρ=(f ρ).bind o:=rfl
@[simp] theorem fL_ap:fL o ρ=(o ρ).bind oD:=rfl
@[simp] theorem oE_ap:oE f ρ=(f ρ).map O.sh:=rfl
@[simp] theorem qV_ap:qV f ρ=(f ρ).bind fun d=>match d with | .bl b=>some b | _=>none:=rfl
@[simp] theorem qT_ap:qT ρ=some true:=rfl
@[simp] theorem aqqh:qNot p ρ=(p ρ).map not:=rfl
@[simp] theorem aqqi:qAnd p q ρ=(p ρ).bind fun x=>if x=true then q ρ else some false:=rfl
@[simp] theorem aqrs:qOr p q ρ=(p ρ).bind fun x=>if x=true then some true else q ρ:=rfl
@[simp] theorem fB_ap:fB p ρ=(p ρ).map D.bl:=rfl
@[simp] theorem aqr6:fNot f ρ=((qV f ρ).map not).map D.bl:=rfl
@[simp] theorem aqr9:fAnd f g ρ=(qV f ρ).bind fun x=>if x=true then g ρ else some (.bl false):=rfl
@[simp] theorem aqs8:fOr f g ρ=(qV f ρ).bind fun x=>if x=true then some (.bl true) else g ρ:=rfl
@[simp] theorem aqs9:fIf p f g ρ=(p ρ).bind fun x=>if x=true then f ρ else g ρ:=rfl
@[simp] theorem aqrq:aqu6 ρ=some []:=rfl
@[simp] theorem aqqc:ak f a ρ=(f ρ).bind fun d=>(a ρ).map fun ds=>d :: ds:=rfl
@[simp] theorem aqq8:aoNil ρ=some []:=rfl
@[simp] theorem aqo9 {h:FAO}:aqcp o h ρ=(o ρ).bind fun d=>(h ρ).map fun ds=>d :: ds:=rfl
@[simp] theorem aqr5:aqtr a ρ=(a ρ).bind fun ds=>if ds.length <= aqug then some (.tup ds) else none:=rfl
@[simp] theorem aqqm:oLst a ρ=(a ρ).bind fun ds=>if ds.length <= aqug then some (ow ds) else none:=rfl
@[simp] theorem aqoy {h:FAO}:oLstO h ρ=(h ρ).bind fun ds=>if ds.length <= aqug then some (.lst ds) else none:=rfl
@[simp] theorem aqox {h:FAO}:oTupO h ρ=(h ρ).bind fun ds=>if ds.length <= aqug then some (.tup ds) else none:=rfl
@[simp] theorem aqpp {n:Nat} {h:List D->Option D}:aq1 n h a ρ=(a ρ).bind fun ds=>if ds.length=n then h ds else none:=rfl
@[simp] theorem aqp0 {n:Nat} {h:List D->Option O}:aqcr n h a ρ=(a ρ).bind fun ds=>if ds.length=n then h ds else none:=rfl
@[simp] theorem aqr8 {h:List D->Option D}:aqts h a ρ=(a ρ).bind h:=rfl
@[simp] theorem aqqp {h:List D->Option (List D)}:aqte h a ρ=((a ρ).bind h).map ow:=rfl
@[simp] theorem o2_ap {h:D->D->Option (List D)}:o2 h f g ρ=((f ρ).bind fun x=>(g ρ).bind fun y=>h x y).map ow:=rfl
@[simp] theorem aqr7 {T:String}:fIsi T f ρ=(f ρ).bind (aqtj T):=rfl
@[simp] theorem aqpg {T:String} {i:Int}:aqtj T (.int i)=some (.bl (isT (.int i) T)):=rfl
@[simp] theorem aqqt {T:String} {i:Bool}:aqtj T (.bl i)=some (.bl (isT (.bl i) T)):=rfl
@[simp] theorem aqpd {T:String} {i:Str}:aqtj T (.str i)=some (.bl (isT (.str i) T)):=rfl
@[simp] theorem aqpe {T:String}:aqtj T .non=some (.bl (isT .non T)):=rfl
@[simp] theorem aqpf {T:String} {i:List D}:aqtj T (.lst i)=some (.bl (isT (.lst i) T)):=rfl
@[simp] theorem aqpc {T:String} {i:List D}:aqtj T (.tup i)=some (.bl (isT (.tup i) T)):=rfl
@[simp] theorem mE_ap {S:List Bool}:mE S f σ=(f (frz S σ)).map fun d=>(.sh d,if imm d=true then σ else fz S σ):=rfl
@[simp] theorem mO_ap {S:List Bool}:mO S o σ=(o (frz S σ)).map fun o=>(o,if oim o=true then σ else fz S σ):=rfl
@[simp] theorem aqrx {i:Nat}:mMv i σ=((σ[i]?).bind id).map fun o=>(o,σ.set i none):=rfl
@[simp] theorem aqrj {b c:Blk}:aqu0 b c σ=(match b σ with | some (.nx ρ')=>c ρ' | o=>o):=rfl
@[simp] theorem aqrl:aqu2 σ=some (.nx σ):=rfl
@[simp] theorem aqq5:bPass σ=some (.nx σ):=rfl
@[simp] theorem aqro:bBrk σ=some (.bk σ):=rfl
@[simp] theorem aqrn:bCnt σ=some (.ct σ):=rfl
@[simp] theorem aqri {i:Nat} {m:FM}:aqtz i m σ=(m σ).map fun p=>.nx (p.2.set i (some p.1)):=rfl
@[simp] theorem aqrk {m:FM}:aqu1 m σ=(m σ).map fun p=>.rt p.1 p.2:=rfl
@[simp] theorem aqq4:bRetN σ=some (.rt (.sh .non) σ):=rfl
@[simp] theorem aqq6 {m:FM}:bExpr m σ=(m σ).map fun p=>.nx p.2:=rfl
@[simp] theorem aqso {b c:Blk}:bIf p b c σ=(p (all σ)).bind fun t=>if t=true then b σ else c σ:=rfl
@[simp] theorem aqr3 {S:List Bool}:frz S []=[]:=by cases S <;> rfl
@[simp] theorem frz_t {S:List Bool} {c:Option O}:frz (true :: S) (c :: σ)=c.bind oD :: frz S σ:=rfl
@[simp] theorem frz_f {S:List Bool} {c:Option O}:frz (false :: S) (c :: σ)=none :: frz S σ:=rfl
@[simp] theorem aqs7 {S:List Bool}:fz S []=[]:=by cases S <;> rfl
@[simp] theorem aqr2:fz [] σ=σ:=by cases σ <;> rfl
@[simp] theorem fz_t {S:List Bool} {c:Option O}:fz (true :: S) (c :: σ)=fzc c :: fz S σ:=rfl
@[simp] theorem fz_f {S:List Bool} {c:Option O}:fz (false :: S) (c :: σ)=c :: fz S σ:=rfl
@[simp] theorem aqpn:fzc none=none:=rfl
@[simp] theorem aqs6 {d:D}:fzc (some (.sh d))=some (.sh d):=by simp [fzc,oD]
@[simp] theorem all_nil:all []=[]:=rfl
@[simp] theorem all_cons {c:Option O}:all (c :: σ)=c.bind oD :: all σ:=rfl
@[simp] theorem oD_sh {d:D}:oD (.sh d)=some d:=by simp [oD]
@[simp] theorem aqqo {ds:List D}:oDs (ds.map O.sh)=some ds:=by
 induction ds with
 | nil=>simp [oDs]
 | cons d ds ih=>simp [oDs,ih]
@[simp] theorem oD_ow {ds:List D}:oD (ow ds)=some (.lst ds):=by simp [ow,oD]
@[simp] theorem aqrw {os:List O}:oD (.lst os)=(oDs os).map D.lst:=by simp [oD]
@[simp] theorem aqrv {os:List O}:oD (.tup os)=(oDs os).map D.tup:=by simp [oD]
@[simp] theorem aqqn:oDs []=some []:=by simp [oDs]
@[simp] theorem aqoz {x:O} {xs:List O}:oDs (x :: xs)=(oD x).bind fun d=>(oDs xs).map fun ds=>d :: ds:=by simp [oDs]
@[simp] theorem aqpm {ds:List D}:fzc (some (ow ds))=some (.sh (.lst ds)):=by simp [fzc]
@[simp] theorem aqr0 {i:Int}:imm (.int i)=true:=by simp [imm]
@[simp] theorem aqs5 {i:Bool}:imm (.bl i)=true:=by simp [imm]
@[simp] theorem aqqw {i:Str}:imm (.str i)=true:=by simp [imm]
@[simp] theorem aqqy:imm .non=true:=by simp [imm]
@[simp] theorem aqqz {ds:List D}:imm (.lst ds)=false:=by simp [imm]
@[simp] theorem aqqv {ds:List D}:imm (.tup ds)=aqtl ds:=by simp [imm]
@[simp] theorem aqpi:aqtl []=true:=by simp [aqtl]
@[simp] theorem aqnz {d:D} {ds:List D}:aqtl (d :: ds)=(imm d && aqtl ds):=by simp [aqtl]
@[simp] theorem aqny {ns:List Int}:aqtl (ns.map D.int)=true:=by
 induction ns with
 | nil=>simp
 | cons n ns ih=>simp [ih]
theorem aqbe {ds:List D}:aqtl ds=true ↔ ∀ d∈ds,imm d=true:=by
 induction ds with
 | nil=>simp
 | cons d ds ih=>simp [ih]
@[simp] theorem aqrt {d:D}:oim (.sh d)=imm d:=by simp [oim]
@[simp] theorem aqql {os:List O}:oim (.lst os)=aqtc os:=by simp [oim]
@[simp] theorem aqqk {os:List O}:oim (.tup os)=aqtc os:=by simp [oim]
@[simp] theorem aqov:aqtc []=true:=by simp [aqtc]
@[simp] theorem aqnu {x:O} {xs:List O}:aqtc (x :: xs)=(oim x && aqtc xs):=by simp [aqtc]
@[simp] theorem aqow {ds:List D}:aqtc (ds.map O.sh)=aqtl ds:=by
 induction ds with
 | nil=>simp
 | cons d ds ih=>simp [ih]
@[simp] theorem aqru {ds:List D}:oim (ow ds)=aqtl ds:=by simp [ow]
@[simp] theorem dI_ap {o:Int->Int->Int} {i j:Int}:dI o (.int i) (.int j)=some (.int (o i j)):=rfl
@[simp] theorem dB_ap {o:Int->Int->Bool} {i j:Int}:dB o (.int i) (.int j)=some (.bl (o i j)):=rfl
@[simp] theorem aqrh {i j:Int}:dAdd (.int i) (.int j)=some (.int (i + j)):=rfl
@[simp] theorem aqra {i j:Int}:dSub (.int i) (.int j)=some (.int (i - j)):=rfl
@[simp] theorem aqsd {i j:Int}:dLt (.int i) (.int j)=some (.bl (decide (i < j))):=rfl
@[simp] theorem aqsg {i j:Int}:dLe (.int i) (.int j)=some (.bl (decide (i <= j))):=rfl
@[simp] theorem aqsi {i j:Int}:dGt (.int i) (.int j)=some (.bl (decide (j < i))):=rfl
@[simp] theorem aqsj {i j:Int}:dGe (.int i) (.int j)=some (.bl (decide (j <= i))):=rfl
@[simp] theorem aqrb {i:Int}:dNeg (.int i)=some (.int (-i)):=rfl
theorem aqw {i j:Int} (h:i.natAbs < BIG) (h':j.natAbs < BIG):aqtu (.int i) (.int j)=some (.int (i * j)):=by
 have:aqfu i j:=.inl ⟨h,h'⟩
 simp [aqtu,this]
theorem aqn4 {i j:Int} (h:i.natAbs < 2 ^ 63):aqtu (.int i) (.int j)=some (.int (i * j)):=by
 have:aqfu i j:=.inr (.inl h)
 simp [aqtu,this]
theorem aqn3 {i j:Int} (h:j.natAbs < 2 ^ 63):aqtu (.int i) (.int j)=some (.int (i * j)):=by
 have:aqfu i j:=.inr (.inr h)
 simp [aqtu,this]
theorem aqbx {i j:Int} (h:j ≠ 0) (h':j.natAbs < BIGD):aqtw (.int i) (.int j)=some (.int (i.fdiv j)):=by simp [aqtw,h,h']
theorem aqbv {i j:Int} (h:j ≠ 0):dMod (.int i) (.int j)=some (.int (i.fmod j)):=by simp [dMod,h]
@[simp] theorem aqsl {i j:Int}:dEq (.int i) (.int j)=some (.bl (i == j)):=by simp [dEq,shp,eqD]
@[simp] theorem aqsb {i j:Int}:dNe (.int i) (.int j)=some (.bl (i != j)):=by simp [dNe,shp,eqD,bne]
@[simp] theorem aqsm {i j:Bool}:dEq (.bl i) (.bl j)=some (.bl (i == j)):=by simp [dEq,shp,eqD]
@[simp] theorem aqsc {i j:Bool}:dNe (.bl i) (.bl j)=some (.bl (i != j)):=by simp [dNe,shp,eqD,bne]
@[simp] theorem aqsk {a b c d:Int}:dEq (.tup [.int a,.int b]) (.tup [.int c,.int d])=some (.bl (a == c && b == d)):=by simp [dEq,shp,aqt0,eqD,aqtt]
@[simp] theorem aqsa {a b c d:Int}:dNe (.tup [.int a,.int b]) (.tup [.int c,.int d])=some (.bl (!(a == c && b == d))):=by simp [dNe,shp,aqt0,eqD,aqtt]
@[simp] theorem aqsh {i j:Bool}:dIs (.bl i) (.bl j)=some (.bl (i == j)):=rfl
@[simp] theorem aqrf {i j:Bool}:aqtv (.bl i) (.bl j)=some (.bl (i != j)):=rfl
@[simp] theorem aqqq {ds:List D}:aJl (.lst ds)=some ds:=rfl
@[simp] theorem aqsf {ds:List D}:dLen [.lst ds]=some (.int ds.length):=rfl
@[simp] theorem aqse {ds:List D}:dLen [.tup ds]=some (.int ds.length):=rfl
@[simp] theorem aqsn {i:Int}:dAbs [.int i]=some (.int (if i < 0 then -i else i)):=rfl
@[simp] theorem aqre {i j:Int}:dMax2 [.int i,.int j]=some (.int (if j > i then j else i)):=rfl
@[simp] theorem aqrd {i j:Int}:dMin2 [.int i,.int j]=some (.int (if j < i then j else i)):=rfl
@[simp] theorem aqqs {ds:List D}:aqg1 [.lst ds]=some ds:=rfl
@[simp] theorem aqqr {ds:List D}:aqg1 [.tup ds]=some ds:=rfl
@[simp] theorem aqpx {ds:List D}:dTuple [.lst ds]=some (.tup ds):=rfl
@[simp] theorem aqbw {a:D} {ds:List D}:dIx (.tup (a :: ds)) (.int 0)=some a:=by simp [dIx,atP,ixP]
@[simp] theorem aqjd {a b:D} {ds:List D}:dIx (.tup (a :: b :: ds)) (.int 1)=some b:=by
 have:(1:Int) < (ds.length:Int) + 1 + 1:=by omega
 simp [dIx,atP,ixP,this]
theorem aqni {α:Type} {ds:List α} {i:Nat} (h:i < ds.length):atP ds (i:Int)=some ds[i]:=by
 unfold atP ixP;simp [h]
theorem aqn5 {ds:List D} {i:Nat} (h:i < ds.length):dIx (.lst ds) (.int (i:Int))=some ds[i]:=aqni h
end
@[simp] theorem aqs0 {i:Int}:isT (.int i) "int"=true:=rfl
@[simp] theorem aqs1 {i:Int}:isT (.int i) "bool"=false:=rfl
@[simp] theorem aqs2 {i:Bool}:isT (.bl i) "int"=true:=rfl
@[simp] theorem aqs3 {i:Bool}:isT (.bl i) "bool"=true:=rfl
@[simp] theorem aqry {ds:List D}:isT (.tup ds) "tuple"=true:=rfl
@[simp] theorem aqrz {ds:List D}:isT (.lst ds) "list"=true:=rfl
@[simp] theorem aqs4 {ds:List D}:isL (ow ds)=true:=rfl
@[simp] theorem aqqu {os:List O}:isL (.lst os)=true:=rfl
@[simp] theorem aqpk {o:O}:aqtn [] o=some o:=rfl
@[simp] theorem aqrp {g:O->Option O} {o:O}:atO g [] o=g o:=rfl
@[simp] theorem aqqj {ρ:aquj}:pNil ρ=some []:=rfl
theorem aqbi {ds:List D} {d:D} (h:ds.length < aqug):gApp (.sh d) (ow ds)=some (ow (ds++[d])):=by simp [gApp,ow,h]
@[simp] theorem aqrm {i:Nat} {S:List Bool} {p:FP} {f:FM} {g:O->O->Option O} {ρ:Cs}:bMut i S p f g ρ=(p (frz S ρ)).bind fun q=>((ρ[i]?).bind id).bind fun c0=>(aqtn q c0).bind fun m=>if isL m=true then
  (f ρ).bind fun r=>((r.2[i]?).bind id).bind fun c=>(atO (g r.1) q c).map fun c'=>.nx (r.2.set i (some c')) else none:=rfl
mutual
theorem aQ5:∀ {n:Nat} {d:D},shp n d=true->eqD d d=true
 | n,.non,_=>by simp [eqD]
 | n,.bl _,_=>by simp [eqD]
 | n,.int _,_=>by simp [eqD]
 | n,.str _,_=>by simp [eqD]
 | 0,.lst _,h=>by simp [shp] at h
 | n + 1,.lst xs,h=>by simp only [eqD]; exact aQ4 (n:=n) (by simpa [shp] using h)
 | 0,.tup _,h=>by simp [shp] at h
 | n + 1,.tup xs,h=>by simp only [eqD]; exact aQ4 (n:=n) (by simpa [shp] using h)
theorem aQ4:∀ {n:Nat} {ds:List D},aqt0 n ds=true->aqtt ds ds=true
 | n,[],_=>by simp [aqtt]
 | n,d :: ds,h=>by
  have h':shp n d=true/\aqt0 n ds=true:=by simpa [aqt0] using h
  simp [aqtt,aQ5 h'.1,aQ4 h'.2]
end
theorem aXq {n:Nat} {ds:List D}:aqt0 n ds=true ↔ ∀ d∈ds,shp n d=true:=by
 induction ds with
 | nil=>simp [aqt0]
 | cons d ds ih=>simp [aqt0,ih]
@[simp] theorem aqqf {n:Nat} {i:Int}:shp n (.int i)=true:=by simp [shp]
@[simp] theorem aqrr {n:Nat} {i:Bool}:shp n (.bl i)=true:=by simp [shp]
@[simp] theorem aqqe {n:Nat}:shp n .non=true:=by simp [shp]
@[simp] theorem aqfd {n:Nat} {ds:List D}:shp (n + 1) (.lst ds)=aqt0 n ds:=by simp [shp]
@[simp] theorem aqqd {n:Nat} {ds:List D}:shp (n + 1) (.tup ds)=aqt0 n ds:=by simp [shp]
@[simp] theorem aqoc {n:Nat}:aqt0 n []=true:=by simp [aqt0]
@[simp] theorem aqnq {n:Nat} {d:D} {ds:List D}:aqt0 n (d :: ds)=(shp n d && aqt0 n ds):=by simp [aqt0]
@[simp] theorem aqnp {n:Nat} {ns:List Int}:aqt0 n (ns.map D.int)=true:=by
 induction ns with
 | nil=>simp
 | cons m ns ih=>simp [ih]
theorem aqeh {xs ys:List Int}:aqtt (xs.map D.int) (ys.map D.int)=decide (xs=ys):=by
 induction xs generalizing ys with
 | nil=>cases ys <;> simp [aqtt]
 | cons x xs ih=>cases ys with
  | nil=>simp [aqtt]
  | cons y ys=>simp [aqtt,eqD,ih]; rw [A5]; simp
theorem azu {α:Type} {f:α->O} {g:α->D} (h:∀ a,oD (f a)=some (g a)) (l:List α):oDs (l.map f)=some (l.map g):=by
 induction l with
 | nil=>simp
 | cons a l ih=>simp [h,ih]
theorem aqlp {α:Type} {f:α->O} (h:∀ a,oim (f a)=true) (l:List α):aqtc (l.map f)=true:=by
 induction l with
 | nil=>simp
 | cons a l ih=>simp [h,ih]
theorem ajb {c:FT} {b:Blk} {ρ:Cs} (h:c (all ρ)=some false):az4 c b ρ=some (.nx ρ):=aK6 (n:=1) (by simp [aZt,h])
theorem avp {c:FT} {b:Blk} {ρ ρ2:Cs} {o:Out} (h:c (all ρ)=some true) (hb:b ρ=some (.nx ρ2)) (hr:az4 c b ρ2=some o):az4 c b ρ=some o:=by
 obtain ⟨n,hn⟩:=aKb hr;exact aK6 (n:=n + 1) (by simp [aZt,h,hb,hn])
theorem aqg6 {g:GD} {b:Blk} {d:D} {ds:List D} {ρ ρ1 ρ2:Cs} (h1:g d ρ=some ρ1) (h2:b ρ1=some (.nx ρ2) \/ b ρ1=some (.ct ρ2)):aqtp g b (d :: ds) ρ=aqtp g b ds ρ2:=by
 have e:aqtp g b (d :: ds) ρ=(g d ρ).bind fun ρ1=>match b ρ1 with
  | some (.nx ρ2)=>aqtp g b ds ρ2
  | some (.ct ρ2)=>aqtp g b ds ρ2
  | some (.bk ρ2)=>some (.nx ρ2)
  | o=>o:=rfl
 rw [e,h1];rcases h2 with h2 | h2 <;> simp [h2]
theorem aqiw {g:GD} {b:Blk} {d:D} {ds:List D} {ρ ρ1 ρ2:Cs} {o:O} (h1:g d ρ=some ρ1) (h2:b ρ1=some (.rt o ρ2)):aqtp g b (d :: ds) ρ=some (.rt o ρ2):=by
 unfold aqtp;rw [h1];simp [h2]
theorem aqbk {α:Type} {inj:α->D} {g:GD} {b:Blk} (P:List α->Cs->Prop) (xs:List α) (ρ:Cs) (h0:P [] ρ)
  (step:∀ (pre:List α) (a:α) (post:List α) (ρ:Cs),xs=pre++a :: post->P pre ρ->∃ ρ1 ρ2,g (inj a) ρ=some ρ1/\(b ρ1=some (.nx ρ2) \/ b ρ1=some (.ct ρ2))/\P (pre++[a]) ρ2) :
  ∃ ρ',aqtp g b (xs.map inj) ρ=some (.nx ρ')/\P xs ρ':=by
 have key:∀ (post pre:List α) (ρ:Cs),xs=pre++post->P pre ρ->∃ ρ',aqtp g b (post.map inj) ρ=some (.nx ρ')/\P xs ρ':=by
  intro post
  induction post with
  | nil=>intro pre ρ e h; exact ⟨ρ,rfl,by rw [e,append_nil]; exact h⟩
  | cons a post ih =>
   intro pre ρ e h;obtain ⟨ρ1,ρ2,h1,h2,h3⟩:=step pre a post ρ e h;obtain ⟨ρ',e1,e2⟩:=ih (pre++[a]) ρ2 (by rw [e]; simp) h3;exact ⟨ρ',(aqg6 h1 h2).trans e1,e2⟩
 exact key xs [] ρ rfl h0
theorem aB {α:Type} {inj:α->D} {g:GE} {c:FT} {e:FO} (P:aquj->Prop) (p:α->Bool) (f:α->O) (xs:List α) (ρ:aquj) (h0:P ρ)
  (step:∀ a∈xs,∀ ρ,P ρ->∃ ρ1,g (inj a) ρ=some ρ1/\P ρ1/\c ρ1=some (p a)/\(p a=true->e ρ1=some (f a))):av0 g c e (xs.map inj) ρ=some ((xs.filter p).map f):=by
 induction xs generalizing ρ with
 | nil=>rfl
 | cons a xs ih =>
  obtain ⟨ρ1,h1,h2,h3,h4⟩:=step a mem_cons_self ρ h0;have ih':=ih ρ1 h2 fun b m=>step b (mem_cons_of_mem _ m);rw [map_cons];unfold av0;rw [h1];simp only [Option.bind_some,h3];cases hp:p a with
  | true=>simp [h4 hp,ih',hp]
  | false=>simp [ih',hp]
end DL
namespace DL
open PySem PySem.Spec PyProof.Rows L2
theorem ak7:A6 "list"=some (.type "list"):=by decide +kernel
theorem avk:A6 "tuple"=some (.type "tuple"):=by decide +kernel
theorem aqq1:A6 "set"=some (.type "set"):=by decide +kernel
theorem aZ6:A6 "enumerate"=some (.type "enumerate"):=by decide +kernel
theorem aqq0:A6 "zip"=some (.type "zip"):=by decide +kernel
theorem aqnc:A6 "abs"=some (.builtin "abs"):=by decide +kernel
theorem aqq3:A6 "max"=some (.builtin "max"):=by decide +kernel
theorem aqq2:A6 "min"=some (.builtin "min"):=by decide +kernel
theorem awr:A6 "len"=some (.builtin "len"):=by decide +kernel
theorem aqjj:A6 "sum"=some (.builtin "sum"):=by decide +kernel
theorem aj7:A6 "sorted"=some (.builtin "sorted"):=by decide +kernel
theorem aqnb:A6 "all"=some (.builtin "all"):=by decide +kernel
theorem aXf:A6 "isinstance"=some (.builtin "isinstance"):=by decide +kernel
end DL
set_option maxHeartbeats 1000000
namespace DL
open PySem PySem.Spec PyProof.Rows L2
abbrev St:=L2.St
theorem seqT {K:Frag} {H H':Hp} {a:Addr} {xs:List V} (e:aqu9 H H') (h:SqT K H a xs):SqT K H' a xs:=by
 rcases h with (h | ⟨o,h⟩) | h
 ·exact .inl (.inl (e _ _ h))
 ·exact .inl (.inr ⟨o,e _ _ h⟩)
 ·exact .inr h
def SqE (K:Frag) (H:Hp) (a:Addr) (xs:List V):Prop :=
 Rd H a (.lst xs) \/ ∃ (its:List Value) (n:Nat),K.lookup a=some { cls:=.type "list",data:=.seq its.toArray n }/\xs.length <= Aj/\aqu8 xs its
theorem SqE.l {K:Frag} {H:Hp} {a:Addr} {xs:List V} (h:SqE K H a xs):SqL K H a xs:=by
 rcases h with h | ⟨its,n,h,hz,r⟩
 ·exact .inl h
 ·exact .inr ⟨_,its.toArray,n,h,rfl,rfl,rfl,by rw [size_toArray,<- r.length]; exact hz,by simpa using r⟩
theorem aqt1 {K:Frag} {H H':Hp} {a:Addr} {xs:List V} (e:aqu9 H H') (h:SqE K H a xs):SqE K H' a xs:=by
 rcases h with (h | ⟨o,h⟩) | h
 ·exact .inl (.inl (e _ _ h))
 ·exact .inl (.inr ⟨o,e _ _ h⟩)
 ·exact .inr h
theorem Inv.listE {X:Cx} {pins:List (Addr × Obj)} {σ:St} {H:Hp} {s:Shared} {a:Addr} {xs:List V} (I:Inv X pins σ H s) (h:SqE X.K H a xs) :
  ∃ (its:List Value) (n:Nat),aqu8 xs its/\s.heap.get? a=some { cls:=.type "list",data:=.seq its.toArray n }/\xs.length <= Aj:=by
 rcases h with h | ⟨its,n,h,hz,r⟩
 ·obtain ⟨z,its,n,r,e⟩:=h.ok I.hok
  exact ⟨its,n,r,e,z⟩
 ·exact ⟨its,n,r,I.kIn a _ h,hz⟩
mutual
inductive Rep (K:Frag) (F:Hp):V->D->Prop
 | non:Rep K F .non .non
 | bl (b:Bool):Rep K F (.bl b) (.bl b)
 | int (i:Int):Rep K F (.int i) (.int i)
 | str (x:Str):Rep K F (.str x) (.str x)
 | lst {a:Addr} {vs:List V} {ds:List D} (h:SqE K F a vs) (r:Reps K F vs ds):Rep K F (.ref a) (.lst ds)
 | tup {a:Addr} {vs:List V} {ds:List D} (h:SqT K F a vs) (r:Reps K F vs ds):Rep K F (.ref a) (.tup ds)
inductive Reps (K:Frag) (F:Hp):List V->List D->Prop
 | nil:Reps K F [] []
 | cons {v:V} {d:D} {vs:List V} {ds:List D} (h:Rep K F v d) (t:Reps K F vs ds):Reps K F (v :: vs) (d :: ds)
end
theorem axk {K:Frag} {F F':Hp} (e:aqu9 F F'):(∀ {v:V} {d:D},Rep K F v d->Rep K F' v d)/\∀ {vs:List V} {ds:List D},Reps K F vs ds->Reps K F' vs ds:=by
 refine ⟨@Rep.rec K F (fun v d _=>Rep K F' v d) (fun v d _=>Reps K F' v d) .non .bl .int .str ?a ?b .nil ?c,@Reps.rec K F (fun v d _=>Rep K F' v d) (fun v d _=>Reps K F' v d) .non .bl .int .str ?a ?b .nil ?c⟩
 case a=>exact fun h _ r=>.lst (aqt1 e h) r
 case b=>exact fun h _ r=>.tup (seqT e h) r
 case c=>exact fun _ _ h t=>.cons h t
theorem Rep.mono {K:Frag} {F F':Hp} (e:aqu9 F F') {v:V} {d:D} (h:Rep K F v d):Rep K F' v d:=(axk e).1 h
theorem Reps.mono {K:Frag} {F F':Hp} (e:aqu9 F F') {vs:List V} {ds:List D} (h:Reps K F vs ds):Reps K F' vs ds:=(axk e).2 h
section
variable {K:Frag} {F:Hp}
theorem Reps.length {vs:List V} {ds:List D} (r:Reps K F vs ds):vs.length=ds.length:=by
 induction vs generalizing ds with
 | nil=>cases r; rfl
 | cons v vs ih=>cases r with | cons h t=>simp [ih t]
theorem Reps.get {vs:List V} {ds:List D} (r:Reps K F vs ds) {i:Nat} {v:V} (h:vs[i]?=some v):∃ d,ds[i]?=some d/\Rep K F v d:=by
 induction vs generalizing ds i with
 | nil=>simp at h
 | cons w vs ih =>
  cases r with
  | cons q t =>
   cases i with
   | zero=>simp at h; subst h; exact ⟨_,rfl,q⟩
   | succ i=>exact ih t (by simpa using h)
theorem Reps.getD {vs:List V} {ds:List D} (r:Reps K F vs ds) {i:Nat} {d:D} (h:ds[i]?=some d):∃ v,vs[i]?=some v/\Rep K F v d:=by
 induction vs generalizing ds i with
 | nil=>cases r; simp at h
 | cons w vs ih =>
  cases r with
  | cons q t =>
   cases i with
   | zero=>simp at h; subst h; exact ⟨_,rfl,q⟩
   | succ i=>exact ih t (by simpa using h)
theorem Reps.append {vs ws:List V} {ds es:List D} (r:Reps K F vs ds) (q:Reps K F ws es):Reps K F (vs++ws) (ds++es):=by
 induction vs generalizing ds with
 | nil=>cases r; exact q
 | cons v vs ih=>cases r with | cons h t=>exact .cons h (ih t)
theorem Reps.take {vs:List V} {ds:List D} (r:Reps K F vs ds) (n:Nat):Reps K F (vs.take n) (ds.take n):=by
 induction vs generalizing ds n with
 | nil=>cases r; simp; exact .nil
 | cons v vs ih=>cases r with | cons h t=>cases n with
  | zero=>exact .nil
  | succ n=>exact .cons h (ih t n)
theorem Reps.drop {vs:List V} {ds:List D} (r:Reps K F vs ds) (n:Nat):Reps K F (vs.drop n) (ds.drop n):=by
 induction vs generalizing ds n with
 | nil=>cases r; simp; exact .nil
 | cons v vs ih=>cases r with | cons h t=>cases n with
  | zero=>exact .cons h t
  | succ n=>exact ih t n
theorem aR (ns:List Int):Reps K F (ns.map V.int) (ns.map D.int):=by
 induction ns with
 | nil=>exact .nil
 | cons n ns ih=>exact .cons (.int n) ih
end
structure Ext (F H F' H':Hp):Prop where
 ff:aqu9 F F'
 fh:aqu9 F' H'
 hh:aqu9 H H'
 nw:∀ b o,F' b=some o->F b=some o \/ H b=none
theorem Ext.refl {F H:Hp} (s:aqu9 F H):Ext F H F H:=⟨aqu9.refl _,s,aqu9.refl _,fun _ _ h=>.inl h⟩
theorem Ext.trans {F H F1 H1 F2 H2:Hp} (a:Ext F H F1 H1) (b:Ext F1 H1 F2 H2):Ext F H F2 H2 :=
 ⟨a.ff.trans b.ff,b.fh,a.hh.trans b.hh,fun c o h=>by
  rcases b.nw c o h with h | h
  ·exact a.nw c o h
  ·exact .inr (a.hh.free h)⟩
theorem ai {H:Hp} {l:Addr} {o:HO} (h:H l=none):aqu9 H (upd H l o):=fun b u e=>by rw [ae (ac e h)]; exact e
theorem Ext.laid {F H:Hp} (s:aqu9 F H) {l:Addr} {o:HO} (h:H l=none):Ext F H (upd F l o) (upd H l o) :=
 ⟨ai (s.free h),fun b u e=>by
   by_cases hb:b=l
   ·subst hb; rw [aa] at e ⊢; exact e
   ·rw [ae hb] at e ⊢; exact s _ _ e,
  ai h,fun b u e=>by
   by_cases hb:b=l
   ·subst hb; exact .inr h
   ·rw [ae hb] at e; exact .inl e⟩
theorem Ext.laidH {F H:Hp} (s:aqu9 F H) {l:Addr} {o:HO} (h:H l=none):Ext F H F (upd H l o) :=
 ⟨aqu9.refl _,s.trans (ai h),ai h,fun _ _ e=>.inl e⟩
theorem Ext.keep {F H F' H':Hp} (e:Ext F H F' H') {l:Addr} {o:HO} (h:H l=none) (h1:F' l=none) (h2:H' l=some o):Ext F H (upd F' l o) H' :=
 ⟨e.ff.trans (ai h1),fun b u q=>by
   by_cases hb:b=l
   ·subst hb; rw [aa] at q; rw [<- q]; exact h2
   ·rw [ae hb] at q; exact e.fh _ _ q,
  e.hh,fun b u q=>by
   by_cases hb:b=l
   ·subst hb; exact .inr h
   ·rw [ae hb] at q; exact e.nw b u q⟩
def RE (K:Frag) (F:Hp) (σ:St) (ρ:aquj):Prop:=∀ (i:Nat) (d:D),ρ[i]?=some (some d)->∃ v,σ[i]?=some (some v)/\Rep K F v d
theorem RE.mono {K:Frag} {F F':Hp} {σ:St} {ρ:aquj} (r:RE K F σ ρ) (e:aqu9 F F'):RE K F' σ ρ:=fun i d h=>by
 obtain ⟨v,h1,h2⟩:=r i d h;exact ⟨v,h1,h2.mono e⟩
def tD (K:Frag) (f:FE):TE:=fun σ H Q=>∃ F ρ d,aqu9 F H/\RE K F σ ρ/\f ρ=some d/\∀ v F' H',Ext F H F' H'->Rep K F' v d->Q v H'
def tDT (K:Frag) (f:FT):TT:=fun σ H Q=>∃ F ρ b,aqu9 F H/\RE K F σ ρ/\f ρ=some b/\∀ F' H',Ext F H F' H'->Q b H'
def tDA (K:Frag) (f:FA):TA:=fun σ H Q=>∃ F ρ ds,aqu9 F H/\RE K F σ ρ/\f ρ=some ds/\∀ vs F' H',Ext F H F' H'->Reps K F' vs ds->Q vs H'
def DE (X:Cx) (e:Expr) (f:FE):Prop:=PE X e (tD X.K f)
def DT (X:Cx) (e:Expr) (f:FT):Prop:=PT X e (tDT X.K f)
def DW (X:Cx) (e:Expr) (f:FT):Prop:=PW X e (tDT X.K f)
def DA (X:Cx) (es:List Expr) (f:FA):Prop:=PA X es (tDA X.K f)
theorem PE.imp {X:Cx} {e:Expr} {t t':TE} (h:PE X e t) (i:∀ σ H Q,t' σ H Q->t σ H Q):PE X e t':=fun pins s σ H Q I q=>h pins s σ H Q I (i σ H Q q)
theorem PT.imp {X:Cx} {e:Expr} {t t':TT} (h:PT X e t) (i:∀ σ H Q,t' σ H Q->t σ H Q):PT X e t':=fun pins s σ H Q I q=>h pins s σ H Q I (i σ H Q q)
theorem PW.imp {X:Cx} {e:Expr} {t t':TT} (h:PW X e t) (i:∀ σ H Q,t' σ H Q->t σ H Q):PW X e t':=fun wh pins s σ H Q I q=>h wh pins s σ H Q I (i σ H Q q)
theorem PA.imp {X:Cx} {e:List Expr} {t t':TA} (h:PA X e t) (i:∀ σ H Q,t' σ H Q->t σ H Q):PA X e t':=fun pos pins s σ H Q I q=>h pos pins s σ H Q I (i σ H Q q)
theorem PS.imp {X:Cx} {st:Stmt} {t t':TS} (h:PS X st t) (i:∀ E σ H,t' E σ H->t E σ H):PS X st t':=fun pins s σ H E I q=>h pins s σ H E I (i E σ H q)
theorem PSs.imp {X:Cx} {st:List Stmt} {t t':TS} (h:PSs X st t) (i:∀ E σ H,t' E σ H->t E σ H):PSs X st t':=fun pins s σ H E I q=>h pins s σ H E I (i E σ H q)
theorem PG.imp {X:Cx} {tg:Expr} {t t':TG} (h:PG X tg t) (i:∀ v σ H Q,t' v σ H Q->t v σ H Q):PG X tg t':=fun pins s σ H v u Q I r q=>h pins s σ H v u Q I r (i v σ H Q q)
section
variable {X:Cx} {a b c:Expr} {pos:Pos}
theorem ag (i:Nat) {x:Str} {pos:Pos} (h:PE X (.Name x pos) (aqsw i)):DE X (.Name x pos) (aqtq i):=by
 refine PE.imp h fun σ H Q q=>?_;obtain ⟨F,ρ,d,s,r,hf,k⟩:=q;have e:ρ[i]?=some (some d):=by
  unfold aqtq at hf;cases q:ρ[i]? with
  | none=>rw [q] at hf; cases hf
  | some o=>rw [q] at hf; cases o with
   | none=>cases hf
   | some d'=>cases hf; rfl
 obtain ⟨v,h1,h2⟩:=r i d e;exact ⟨v,h1,k v F H (Ext.refl s) h2⟩
theorem de_c {e:Expr} {v:V} {d:D} (h:PE X e (tC v)) (r:∀ F,Rep X.K F v d):DE X e (fC d):=by
 refine PE.imp h fun σ H Q q=>?_;obtain ⟨F,ρ,d',s,_,hf,k⟩:=q;cases hf;exact k v F H (Ext.refl s) (r F)
theorem ar {i j pos}:DE X (.Constant (.int i) j pos) (fC (.int i)):=de_c am fun _=>.int i
theorem aWp {j pos}:DE X (.Constant .none j pos) (fC .non):=de_c aql4 fun _=>.non
def OpD (K:Frag) (r:R2) (g:D->D->Option D):Prop:=∀ x y d F H v u Q,g x y=some d->aqu9 F H->Rep K F v x->Rep K F u y->(∀ w F' H',Ext F H F' H'->Rep K F' w d->Q w H')->r v u H Q
def UnD (K:Frag) (r:V->Hp->VK->Prop) (g:D->Option D):Prop:=∀ x d F H v Q,g x=some d->aqu9 F H->Rep K F v x->(∀ w F' H',Ext F H F' H'->Rep K F' w d->Q w H')->r v H Q
theorem d_op {K:Frag} {r:R2} {g:D->D->Option D} (hr:OpD K r g) {fa fb:FE} {σ:St} {H:Hp} {Q:VK} (q:tD K (f2 g fa fb) σ H Q):tOp r (tD K fa) (tD K fb) σ H Q:=by
 obtain ⟨F,ρ,d,s,re,hf,k⟩:=q;obtain ⟨x,hx,hf⟩:=bind_some hf;obtain ⟨y,hy,hf⟩:=bind_some hf;exact ⟨F,ρ,x,s,re,hx,fun v F1 H1 e1 r1=>⟨F1,ρ,y,e1.fh,re.mono e1.ff,hy,fun u F2 H2 e2 r2=>hr x y d F2 H2 v u Q hf e2.fh (r1.mono e2.ff) r2 fun w F' H' e' r'=>k w F' H' ((e1.trans e2).trans e') r'⟩⟩
theorem d_un {K:Frag} {r:V->Hp->VK->Prop} {g:D->Option D} (hr:UnD K r g) {fa:FE} {σ:St} {H:Hp} {Q:VK} (q:tD K (f1 g fa) σ H Q):tUn r (tD K fa) σ H Q:=by
 obtain ⟨F,ρ,d,s,re,hf,k⟩:=q;obtain ⟨x,hx,hf⟩:=bind_some hf;exact ⟨F,ρ,x,s,re,hx,fun v F1 H1 e1 r1=>hr x d F1 H1 v Q hf e1.fh r1 fun w F' H' e' r'=>k w F' H' (e1.trans e') r'⟩
theorem axd {op:Operator} {r:R2} {g:D->D->Option D} {fa fb:FE} (ho:OpR X (Dg op) r) (hr:OpD X.K r g) (ha:DE X a fa) (hb:DE X b fb):DE X (.BinOp a op b pos) (f2 g fa fb) :=
 PE.imp (aq3 ho ha hb) fun _ _ _ q=>d_op hr q
theorem de_un {op:UnaryOp} {r:V->Hp->VK->Prop} {g:D->Option D} {fa:FE} (ho:UnR X (unaryOp op) r) (hr:UnD X.K r g) (ha:DE X a fa):DE X (.UnaryOp op a pos) (f1 g fa) :=
 PE.imp (pe_un ho ha) fun _ _ _ q=>d_un hr q
theorem aqmy {op:CmpOp} {r:R2} {g:D->D->Option D} {fa fb:FE} (ho:OpR X (Bm op) r) (hr:OpD X.K r g) (ha:DE X a fa) (hb:DE X b fb) (hm:Cy op b=false):DE X (.Compare a [op] [b] pos) (f2 g fa fb) :=
 PE.imp (aqfm ho ha hb hm) fun _ _ _ q=>d_op hr q
theorem OpR.or {f:Value->Value->Sem Value} {r r':R2} (h:OpR X f r) (h':OpR X f r'):OpR X f (fun x y H Q=>r x y H Q \/ r' x y H Q):=by
 intro pins s σ H x y v u Q I rx ry q;rcases q with q | q
 ·exact h pins s σ H x y v u Q I rx ry q
 ·exact h' pins s σ H x y v u Q I rx ry q
theorem aqfh {f:FE} {ρ:aquj} {b:Bool} (h:qV f ρ=some b):f ρ=some (.bl b):=by
 obtain ⟨d,h1,h2⟩:=bind_some h;cases d <;> cases h2;exact h1
theorem aqj2 {f:FE} (h:DE X a f) (he:∀ whole,Mm a X.env whole=(do let v <- whole; Mg a.pos; I0 [v] (truthy v)):=by intro _; rfl):DT X a (qV f):=by
 refine PT.imp (aqh8 h he) fun σ H Q q=>?_;obtain ⟨F,ρ,b,s,re,hf,k⟩:=q;exact ⟨F,ρ,.bl b,s,re,aqfh hf,fun v F' H' e r=>by cases r; exact ⟨b,rfl,k F' H' e⟩⟩
theorem ax6 {op:CmpOp} {r:R2} {g:D->D->Option D} {fa fb:FE} (ho:OpR X (Bm op) r) (hr:OpD X.K r g) (ha:DE X a fa) (hb:DE X b fb) (hm:Cy op b=false):DT X (.Compare a [op] [b] pos) (qV (f2 g fa fb)):=by
 refine PT.imp (aqd ho ha hb hm) fun σ H Q q=>?_;obtain ⟨F,ρ,c,s,re,hf,k⟩:=q;refine d_op (K:=X.K) hr (σ:=σ) (H:=H) ⟨F,ρ,.bl c,s,re,aqfh hf,fun v F' H' e r=>?_⟩;cases r;exact ⟨c,rfl,k F' H' e⟩
variable {aqt6:List Expr}
theorem aqpq {f:FT} (h:DT X a f):DW X (.BoolOp .Or [a] pos) f:=aqdg h
theorem dw_or {f g:FT} (h:DT X a f) (h':DW X (.BoolOp .Or (b :: aqt6) pos) g):DW X (.BoolOp .Or (a :: b :: aqt6) pos) (qOr f g):=by
 refine PW.imp (pw_or h h') fun σ H Q q=>?_;obtain ⟨F,ρ,c,s,re,hf,k⟩:=q;obtain ⟨x,hx,hf⟩:=bind_some hf;refine ⟨F,ρ,x,s,re,hx,fun F1 H1 e1=>?_⟩;cases x with
 | true=>rw [if_pos rfl] at hf ⊢; cases hf; exact k F1 H1 e1
 | false=>rw [if_neg An] at hf ⊢; exact ⟨F1,ρ,c,e1.fh,re.mono e1.ff,hf,fun F2 H2 e2=>k F2 H2 (e1.trans e2)⟩
theorem DW.dt {e:Expr} {f:FT} (h:DW X e f):DT X e f:=h _
theorem de_if {t:Expr} {q:FT} {f g:FE} (hc:DT X t q) (ha:DE X a f) (hb:DE X b g):DE X (.IfExp t a b pos) (fIf q f g):=by
 refine PE.imp (aqhh hc ha hb) fun σ H Q q=>?_;obtain ⟨F,ρ,d,s,re,hf,k⟩:=q;obtain ⟨x,hx,hf⟩:=bind_some hf;refine ⟨F,ρ,x,s,re,hx,fun F1 H1 e1=>?_⟩;cases x with
 | true=>rw [if_pos rfl] at hf ⊢; exact ⟨F1,ρ,d,e1.fh,re.mono e1.ff,hf,fun w F2 H2 e2 r2=>k w F2 H2 (e1.trans e2) r2⟩
 | false=>rw [if_neg An] at hf ⊢; exact ⟨F1,ρ,d,e1.fh,re.mono e1.ff,hf,fun w F2 H2 e2 r2=>k w F2 H2 (e1.trans e2) r2⟩
variable {es:List Expr}
theorem al:DA X [] aqu6:=by
 refine PA.imp cn fun σ H Q q=>?_;obtain ⟨F,ρ,d,s,re,hf,k⟩:=q;cases hf;exact k [] F H (Ext.refl s) .nil
theorem gb {f:FE} {g:FA} (ha:DE X a f) (hr:DA X es g) (hs:Ap (a :: es) X.env=(false,eval a X.env) :: Ap es X.env:=by rfl):DA X (a :: es) (ak f g):=by
 refine PA.imp (gd ha hr hs) fun σ H Q q=>?_;obtain ⟨F,ρ,ds,s,re,hf,k⟩:=q;obtain ⟨d,hd,hf⟩:=bind_some hf;cases hg:g ρ with
 | none=>rw [hg] at hf; cases hf
 | some ds' =>
  rw [hg] at hf;cases hf;exact ⟨F,ρ,d,s,re,hd,fun v F1 H1 e1 r1=>⟨F1,ρ,ds',e1.fh,re.mono e1.ff,hg,fun vs F2 H2 e2 r2=>k _ F2 H2 (e1.trans e2) (.cons (r1.mono e2.ff) r2)⟩⟩
theorem az0 {n:Nat} (h:n <= aqug):n <= Aj:=le_trans h (by unfold aqug; decide)
theorem aQ9 {x1} {g:FA} (h:DA X es g):DE X (.Tuple es x1 pos) (aqtr g):=by
 refine PE.imp (aWe h) fun σ H Q q=>?_;obtain ⟨F,ρ,d,s,re,hf,k⟩:=q;obtain ⟨ds,hd,hf⟩:=bind_some hf;split at hf
 ·rename_i hl
  cases hf;exact ⟨F,ρ,ds,s,re,hd,fun vs F1 H1 e1 r1=>⟨by rw [r1.length]; exact az0 hl,fun p hp=>k _ _ _ (e1.trans (Ext.laid e1.fh hp)) (.tup (.inl (.inl aa)) (r1.mono (ai (e1.fh.free hp))))⟩⟩
 ·cases hf
def spD (K:Frag) (n:Nat) (g:List D->Option D):Sp:=fun vs H Q _=>∃ F ds d,aqu9 F H/\Reps K F vs ds/\ds.length=n/\g ds=some d/\∀ v F' H',Ext F H F' H'->Rep K F' v d->Q v H'
variable {k n:Nat} {f:Addr} {fd:Am} {ps:List Str} {x:Str} {p:Pos}
theorem aqmz {g:List D->Option D} {h:FA} (G:FnOk X.prog X.w X.K X.mg X.base CX0 k f fd ps (spD X.K n g)) (hr:Room k X.A) (hg:Gl X x) (hm:X.mg x=some (.ref f)) (hk:Gr X.K (.ref f)=true) (hb:Binds X.K fd ps [])
  (ha:DA X (a :: es) h) (hdb:(x == ("__debug__":Str))=false:=by decide) (he:Ap (a :: es) X.env=(false,eval a X.env) :: Ap es X.env:=by rfl) (hpl:(C1 pos (Ap es X.env)).any (·.1)=false:=by rfl) :
  DE X (.Call (.Name x p) (a :: es) [] pos) (aq1 n g h):=by
 refine PE.imp (aq6 G hr hg hm hk hb .nil azs ha hdb he hpl) fun σ H Q q=>?_;obtain ⟨F,ρ,d,s,re,hf,k⟩:=q;obtain ⟨ds,hd,hf⟩:=bind_some hf;refine ⟨F,ρ,ds,s,re,hd,fun vs F1 H1 e1 r1=>?_⟩;dsimp only;rw [append_nil];split at hf
 ·rename_i hl
  exact ⟨F1,ds,d,e1.fh,r1,hl,hf,fun v F2 H2 e2 r2=>k v F2 H2 (e1.trans e2) r2⟩
 ·cases hf
def aqno (K:Frag) (r:List V->Hp->VK->Prop) (g:List D->Option D):Prop:=∀ ds d F H vs Q,g ds=some d->aqu9 F H->Reps K F vs ds->(∀ w F' H',Ext F H F' H'->Rep K F' w d->Q w H')->r vs H Q
theorem aj5 {id:String} {r:List V->Hp->VK->Prop} {g:List D->Option D} {h:FA} (hc:awh X (.builtin id) r) (hr:aqno X.K r g) (hg:Gl X x) (hm:X.mg x=none) (hv:A6 x=some (.builtin id)) (ha:DA X (a :: es) h)
  (hn:x ≠ "__name__":=by decide) (hdb:(x == ("__debug__":Str))=false:=by decide)
  (he:Ap (a :: es) X.env=(false,eval a X.env) :: Ap es X.env:=by rfl) (hpl:(C1 pos (Ap es X.env)).any (·.1)=false:=by rfl):DE X (.Call (.Name x p) (a :: es) [] pos) (aqts g h):=by
 refine PE.imp (aV hc hg hm hv ha hn hdb he hpl) fun σ H Q q=>?_;obtain ⟨F,ρ,d,s,re,hf,k⟩:=q;obtain ⟨ds,hd,hf⟩:=bind_some hf;exact ⟨F,ρ,ds,s,re,hd,fun vs F1 H1 e1 r1=>hr ds d F1 H1 vs Q hf e1.fh r1 fun w F' H' e' r'=>k w F' H' (e1.trans e') r'⟩
end
end DL
namespace DL
open PySem PySem.Spec PyProof.Rows L2
abbrev AS:=Addr->Prop
mutual
inductive Own (K:Frag) (F H:Hp):V->O->AS->Prop
 | sh {v:V} {d:D} {A:AS} (h:Rep K F v d) (hA:∀ b,¬ A b):Own K F H v (.sh d) A
 | lst {a:Addr} {vs:List V} {os:List O} {A' A:AS} (h:H a=some (.lst vs)) (n:¬ A' a) (r:Owns K F H vs os A') (hA:∀ b,A b ↔ b=a \/ A' b):Own K F H (.ref a) (.lst os) A
 | tup {a:Addr} {vs:List V} {os:List O} {A:AS} (h:F a=some (.tup vs)) (r:Owns K F H vs os A):Own K F H (.ref a) (.tup os) A
inductive Owns (K:Frag) (F H:Hp):List V->List O->AS->Prop
 | nil {A:AS} (hA:∀ b,¬ A b):Owns K F H [] [] A
 | cons {v:V} {o:O} {vs:List V} {os:List O} {A1 A2 A:AS} (h:Own K F H v o A1) (t:Owns K F H vs os A2) (d:∀ b,A1 b->¬ A2 b) (hA:∀ b,A b ↔ A1 b \/ A2 b):Owns K F H (v :: vs) (o :: os) A
end
section
variable {K:Frag} {F F' H H':Hp}
theorem aV1:(∀ {v:V} {o:O} {A:AS},Own K F H v o A->∀ b,A b->∃ u,H b=some u/\∀ xs,u ≠ .tup xs/\∀ ob w,u ≠ .frz ob w)/\∀ {vs:List V} {os:List O} {A:AS},Owns K F H vs os A->∀ b,A b->∃ u,H b=some u/\∀ xs,u ≠ .tup xs/\∀ ob w,u ≠ .frz ob w:=by
 refine ⟨@Own.rec K F H (fun _ _ A _=>∀ b,A b->∃ u,H b=some u/\∀ xs,u ≠ .tup xs/\∀ ob w,u ≠ .frz ob w) (fun _ _ A _=>∀ b,A b->∃ u,H b=some u/\∀ xs,u ≠ .tup xs/\∀ ob w,u ≠ .frz ob w) ?a ?b ?c ?a2 ?d,@Owns.rec K F H (fun _ _ A _=>∀ b,A b->∃ u,H b=some u/\∀ xs,u ≠ .tup xs/\∀ ob w,u ≠ .frz ob w) (fun _ _ A _=>∀ b,A b->∃ u,H b=some u/\∀ xs,u ≠ .tup xs/\∀ ob w,u ≠ .frz ob w) ?a ?b ?c ?a2 ?d⟩
 case a=>exact fun _ hA b h=>absurd h (hA b)
 case b =>
  intro a vs os A' A h n r hA ih b hb;rcases (hA b).mp hb with rfl | z
  ·exact ⟨_,h,fun xs=>⟨(fun z=>by cases z),fun _ _ z=>by cases z⟩⟩
  ·exact ih b z
 case c=>exact fun _ _ ih=>ih
 case a2=>exact fun hA b h=>absurd h (hA b)
 case d =>
  intro v o vs os A1 A2 A h t d hA ih it b hb;rcases (hA b).mp hb with z | z
  ·exact ih b z
  ·exact it b z
theorem Own.there {v:V} {o:O} {A:AS} (h:Own K F H v o A):∀ b,A b->∃ u,H b=some u/\∀ xs,u ≠ .tup xs/\∀ ob w,u ≠ .frz ob w:=aV1.1 h
theorem Owns.there {vs:List V} {os:List O} {A:AS} (h:Owns K F H vs os A):∀ b,A b->∃ u,H b=some u/\∀ xs,u ≠ .tup xs/\∀ ob w,u ≠ .frz ob w:=aV1.2 h
theorem aqa7 (e:aqu9 F F'):(∀ {v:V} {o:O} {A:AS},Own K F H v o A->(∀ b,A b->H' b=H b)->Own K F' H' v o A)/\∀ {vs:List V} {os:List O} {A:AS},Owns K F H vs os A->(∀ b,A b->H' b=H b)->Owns K F' H' vs os A:=by
 refine ⟨@Own.rec K F H (fun v o A _=>(∀ b,A b->H' b=H b)->Own K F' H' v o A) (fun v o A _=>(∀ b,A b->H' b=H b)->Owns K F' H' v o A) ?a ?b ?c ?a2 ?d,@Owns.rec K F H (fun v o A _=>(∀ b,A b->H' b=H b)->Own K F' H' v o A) (fun v o A _=>(∀ b,A b->H' b=H b)->Owns K F' H' v o A) ?a ?b ?c ?a2 ?d⟩
 case a=>exact fun h hA _=>.sh (h.mono e) hA
 case b=>exact fun h n _ hA ih k=>.lst ((k _ ((hA _).mpr (.inl rfl))).trans h) n (ih fun b z=>k b ((hA b).mpr (.inr z))) hA
 case c=>exact fun h _ ih k=>.tup (e _ _ h) (ih k)
 case a2=>exact fun hA _=>.nil hA
 case d=>exact fun _ _ d hA ih it k=>.cons (ih fun b z=>k b ((hA b).mpr (.inl z))) (it fun b z=>k b ((hA b).mpr (.inr z))) d hA
theorem Own.stay (e:aqu9 F F') {v:V} {o:O} {A:AS} (h:Own K F H v o A) (k:∀ b,A b->H' b=H b):Own K F' H' v o A:=(aqa7 e).1 h k
theorem Owns.stay (e:aqu9 F F') {vs:List V} {os:List O} {A:AS} (h:Owns K F H vs os A) (k:∀ b,A b->H' b=H b):Owns K F' H' vs os A:=(aqa7 e).2 h k
theorem Own.ext (e:aqu9 F F') (s:aqu9 H H') {v:V} {o:O} {A:AS} (h:Own K F H v o A):Own K F' H' v o A:=h.stay e fun b z=>by
 obtain ⟨u,e1,_⟩:=h.there b z;rw [e1,s _ _ e1]
theorem Owns.ext (e:aqu9 F F') (s:aqu9 H H') {vs:List V} {os:List O} {A:AS} (h:Owns K F H vs os A):Owns K F' H' vs os A:=h.stay e fun b z=>by
 obtain ⟨u,e1,_⟩:=h.there b z;rw [e1,s _ _ e1]
theorem Own.congr {v:V} {o:O} {A A':AS} (h:Own K F H v o A) (e:∀ b,A b ↔ A' b):Own K F H v o A':=by
 have:A=A':=funext fun b=>propext (e b)
 subst this; exact h
theorem Owns.congr {v:List V} {o:List O} {A A':AS} (h:Owns K F H v o A) (e:∀ b,A b ↔ A' b):Owns K F H v o A':=by
 have:A=A':=funext fun b=>propext (e b)
 subst this; exact h
theorem Owns.length {vs:List V} {os:List O} {A:AS} (h:Owns K F H vs os A):vs.length=os.length :=
 Owns.rec (motive_1:=fun _ _ _ _=>True) (motive_2:=fun vs os _ _=>vs.length=os.length) (fun _ _=>trivial) (fun _ _ _ _ _=>trivial) (fun _ _ _=>trivial) (fun _=>rfl) (fun _ _ _ _ _ it=>congrArg Nat.succ it) h
open Classical in
noncomputable def aqu5 (F H:Hp) (A:AS):Hp:=fun b=>if A b then H b else F b
theorem axv {A:AS} {b:Addr} (h:A b):aqu5 F H A b=H b:=by unfold aqu5; exact if_pos h
theorem ajp {A:AS} {b:Addr} (h:¬ A b):aqu5 F H A b=F b:=by unfold aqu5; exact if_neg h
theorem akb {A:AS} (h:∀ b,A b->F b=none):aqu9 F (aqu5 F H A):=fun b o e=>by
 rw [ajp fun z=>by rw [h b z] at e; cases e]; exact e
theorem aqcq {A:AS} (s:aqu9 F H):aqu9 (aqu5 F H A) H:=fun b o e=>by
 by_cases z:A b
 ·rw [axv z] at e; exact e
 ·rw [ajp z] at e; exact s _ _ e
theorem aVh {F₀ B:Hp} {A:AS} (e:Ext F₀ B F H) (h:∀ b,A b->F b=none/\B b=none):Ext F₀ B (aqu5 F H A) H :=
 ⟨e.ff.trans (akb fun b z=>(h b z).1),aqcq e.fh,e.hh,fun b o q=>by
  by_cases z:A b
  ·exact .inr (h b z).2
  ·rw [ajp z] at q; exact e.nw b o q⟩
theorem aqfp {G:Hp} (sF:aqu9 F G):(∀ {v:V} {o:O} {A:AS},Own K F H v o A->∀ {d:D},oD o=some d->(∀ b,A b->G b=H b)->Rep K G v d)/\∀ {vs:List V} {os:List O} {A:AS},Owns K F H vs os A->∀ {ds:List D},oDs os=some ds->(∀ b,A b->G b=H b)->Reps K G vs ds:=by
 refine ⟨@Own.rec K F H (fun v o A _=>∀ {d:D},oD o=some d->(∀ b,A b->G b=H b)->Rep K G v d) (fun v o A _=>∀ {d:List D},oDs o=some d->(∀ b,A b->G b=H b)->Reps K G v d) ?a ?b ?c ?a2 ?d,@Owns.rec K F H (fun v o A _=>∀ {d:D},oD o=some d->(∀ b,A b->G b=H b)->Rep K G v d) (fun v o A _=>∀ {d:List D},oDs o=some d->(∀ b,A b->G b=H b)->Reps K G v d) ?a ?b ?c ?a2 ?d⟩
 case a =>
  intro v d A h hA d' e _;cases e; exact h.mono sF
 case b =>
  intro a vs os A' A h n r hA ih d e k;obtain ⟨ds,hd,rfl⟩:=map_some (by simpa [oD] using e);exact .lst (.inl (.inl ((k _ ((hA _).mpr (.inl rfl))).trans h))) (ih hd fun b z=>k b ((hA b).mpr (.inr z)))
 case c =>
  intro a vs os A h r ih d e k;obtain ⟨ds,hd,rfl⟩:=map_some (by simpa [oD] using e);exact .tup (.inl (.inl (sF _ _ h))) (ih hd k)
 case a2 =>
  intro A hA ds e _;cases e; exact .nil
 case d =>
  intro v o vs os A1 A2 A h t d hA ih it ds e k;obtain ⟨d,hd,e⟩:=bind_some (by simpa [oDs] using e);obtain ⟨ds,hds,rfl⟩:=map_some e;exact .cons (ih hd fun b z=>k b ((hA b).mpr (.inl z))) (it hds fun b z=>k b ((hA b).mpr (.inr z)))
theorem Own.rep {G:Hp} (sF:aqu9 F G) {v:V} {o:O} {A:AS} {d:D} (h:Own K F H v o A) (e:oD o=some d) (k:∀ b,A b->G b=H b):Rep K G v d:=(aqfp sF).1 h e k
theorem Owns.rep {G:Hp} (sF:aqu9 F G) {vs:List V} {os:List O} {A:AS} {ds:List D} (h:Owns K F H vs os A) (e:oDs os=some ds) (k:∀ b,A b->G b=H b):Reps K G vs ds:=(aqfp sF).2 h e k
theorem aqfo {vs:List V} {ds:List D} (h:Reps K F vs ds):Owns K F H vs (ds.map O.sh) fun _=>False :=
 Reps.rec (motive_1:=fun _ _ _=>True) (motive_2:=fun vs ds _=>Owns K F H vs (ds.map O.sh) fun _=>False) trivial (fun _=>trivial) (fun _=>trivial) (fun _=>trivial) (fun _ _ _=>trivial) (fun _ _ _=>trivial) (.nil fun _ z=>z) (fun h _ _ it=>.cons (.sh h (A:=fun _=>False) fun _ z=>z) it (fun _ z=>z.elim) fun b=>⟨fun z=>z.elim,fun z=>z.elim id id⟩) h
theorem aqhk {a:Addr} {vs:List V} {os:List O} {A:AS} (h:H a=some (.lst vs)) (n:¬ A a) (r:Owns K F H vs os A):Own K F H (.ref a) (.lst os) fun b=>b=a \/ A b:=.lst h n r fun _=>Lq
theorem aZb {a:Addr} {vs:List V} {ds:List D} (h:H a=some (.lst vs)) (r:Reps K F vs ds):Own K F H (.ref a) (ow ds) fun b=>b=a:=.lst h (A':=fun _=>False) id (aqfo r) fun b=>⟨.inl,fun z=>z.elim id Az⟩
theorem Owns.append {vs ws:List V} {os ps:List O} {A B:AS} (h:Owns K F H vs os A) (s:Owns K F H ws ps B):(∀ b,A b->¬ B b)->Owns K F H (vs++ws) (os++ps) fun b=>A b \/ B b :=
 Owns.rec (motive_1:=fun _ _ _ _=>True) (motive_2:=fun vs os A _=>(∀ b,A b->¬ B b)->Owns K F H (vs++ws) (os++ps) fun b=>A b \/ B b) (fun _ _=>trivial) (fun _ _ _ _ _=>trivial) (fun _ _ _=>trivial)
  (fun hA _=>s.congr fun b=>⟨.inr,fun z=>z.elim (fun y=>absurd y (hA b)) id⟩)
  (fun h _ dd hA _ it d=>.cons h (it fun b y=>d b ((hA b).mpr (.inr y))) (fun b y z=>z.elim (dd b y) (d b ((hA b).mpr (.inl y)))) fun b=>by
   rw [hA b]; exact ⟨fun z=>z.elim (fun y=>y.elim .inl fun w=>.inr (.inl w)) fun w=>.inr (.inr w),fun z=>z.elim (fun y=>.inl (.inl y)) fun y=>y.elim (fun w=>.inl (.inr w)) .inr⟩) h
theorem Owns.split:∀ {vs:List V} {os:List O} {A:AS} {n:Nat} {o:O},Owns K F H vs os A->os[n]?=some o ->
  ∃ (v:V) (A1 A2:AS),vs[n]?=some v/\Own K F H v o A1/\(∀ b,A b ↔ A1 b \/ A2 b)/\(∀ b,A1 b->¬ A2 b) /\
   ∀ (F' H':Hp) (v':V) (o':O) (A1':AS),aqu9 F F'->(∀ b,A2 b->H' b=H b)->Own K F' H' v' o' A1'->(∀ b,A1' b->¬ A2 b)->Owns K F' H' (vs.set n v') (os.set n o') fun b=>A1' b \/ A2 b
 | _,_,_,_,_,.nil _,e=>by simp at e
 | _,_,A,0,o,.cons (v:=v) (vs:=vs) (os:=os) (A1:=A1) (A2:=A2) h t d hA,e=>by
  simp at e; subst e;exact ⟨v,A1,A2,rfl,h,hA,d,fun F' H' v' o' A1' sF k q dd=>.cons q (t.stay sF k) dd fun b=>Lq⟩
 | _,_,A,n + 1,o,.cons (v:=v) (vs:=vs) (os:=os) (A1:=B1) (A2:=B2) h t d hA,e=>by
  obtain ⟨w,A1,A2,h1,h2,h3,h4,h5⟩:=Owns.split t (n:=n) (o:=o) (by simpa using e);refine ⟨w,A1,fun b=>B1 b \/ A2 b,by simpa using h1,h2,fun b=>?_,fun b y z=>?_,fun F' H' v' o' A1' sF k q dd=>?_⟩
  ·rw [hA b,h3 b]; exact ⟨fun z=>z.elim (fun y=>.inr (.inl y)) fun y=>y.elim .inl fun w=>.inr (.inr w),fun z=>z.elim (fun y=>.inr (.inl y)) fun y=>y.elim .inl fun w=>.inr (.inr w)⟩
  ·rcases z with z | z
   ·exact d b z ((h3 b).mpr (.inl y))
   ·exact h4 b y z
  ·refine .cons (h.stay sF fun b y=>k b (.inl y)) (h5 F' H' v' o' A1' sF (fun b y=>k b (.inr y)) q fun b y z=>dd b y (.inr z)) (fun b y z=>?_) fun b=>⟨fun z=>z.elim (fun y=>.inr (.inl y)) fun y=>y.elim .inl fun w=>.inr (.inr w),fun z=>z.elim (fun y=>.inr (.inl y)) fun y=>y.elim .inl fun w=>.inr (.inr w)⟩
   rcases z with z | z
   ·exact dd b z (.inl y)
   ·exact d b y ((h3 b).mpr (.inr z))
end
def tO (K:Frag) (f:FO):TE:=fun σ H Q=>∃ F ρ o,aqu9 F H/\RE K F σ ρ/\f ρ=some o /\
 ∀ v F' H' A,Ext F H F' H'->Own K F' H' v o A->(∀ b,A b->F' b=none/\H b=none)->Q v H'
def tAO (K:Frag) (f:FAO):TA:=fun σ H Q=>∃ F ρ os,aqu9 F H/\RE K F σ ρ/\f ρ=some os /\
 ∀ vs F' H' A,Ext F H F' H'->Owns K F' H' vs os A->(∀ b,A b->F' b=none/\H b=none)->Q vs H'
def DO (X:Cx) (e:Expr) (f:FO):Prop:=PE X e (tO X.K f)
def DAO (X:Cx) (es:List Expr) (f:FAO):Prop:=PA X es (tAO X.K f)
section
variable {X:Cx} {a b c e:Expr} {es:List Expr} {pos:Pos}
theorem DE.o {f:FE} (h:DE X e f):DO X e (oE f):=by
 refine PE.imp h fun σ H Q q=>?_;obtain ⟨F,ρ,o,s,re,hf,k⟩:=q;obtain ⟨d,hd,rfl⟩:=map_some hf;exact ⟨F,ρ,d,s,re,hd,fun v F' H' e r=>k v F' H' (fun _=>False) e (.sh r fun _ z=>z) fun _ z=>z.elim⟩
theorem DO.de {f:FO} (h:DO X e f):DE X e (fL f):=by
 refine PE.imp h fun σ H Q q=>?_;obtain ⟨F,ρ,d,s,re,hf,k⟩:=q;obtain ⟨o,ho,hd⟩:=bind_some hf;exact ⟨F,ρ,o,s,re,ho,fun v F' H' A e r hA=>k v (aqu5 F' H' A) H' (aVh e hA) (r.rep (akb fun b z=>(hA b z).1) hd fun b z=>axv z)⟩
theorem aqmr {H F1 H1 F2 H2:Hp} {A:AS} (e2:Ext F1 H1 F2 H2) (h:∀ b,A b->F1 b=none/\H b=none) (t:∀ b,A b->∃ u,H1 b=some u):∀ b,A b->F2 b=none/\H b=none:=fun b z=>by
 obtain ⟨h1,h2⟩:=h b z;obtain ⟨u,hu⟩:=t b z;refine ⟨?_,h2⟩;cases q:F2 b with
 | none=>rfl
 | some o =>
  rcases e2.nw b o q with y | y
  ·rw [h1] at y; cases y
  ·rw [hu] at y; cases y
theorem aqn0:DAO X [] aoNil:=by
 refine PA.imp cn fun σ H Q q=>?_;obtain ⟨F,ρ,d,s,re,hf,k⟩:=q;cases hf;exact k [] F H (fun _=>False) (Ext.refl s) (.nil fun _ z=>z) fun _ z=>z.elim
theorem aZ2 {f:FO} {g:FAO} (ha:DO X a f) (hr:DAO X es g) (hs:Ap (a :: es) X.env=(false,eval a X.env) :: Ap es X.env:=by rfl):DAO X (a :: es) (aqcp f g):=by
 refine PA.imp (gd ha hr hs) fun σ H Q q=>?_;obtain ⟨F,ρ,ds,s,re,hf,k⟩:=q;obtain ⟨d,hd,hf⟩:=bind_some hf;obtain ⟨ds',hg,rfl⟩:=map_some hf;refine ⟨F,ρ,d,s,re,hd,fun v F1 H1 A1 e1 r1 n1=>⟨F1,ρ,ds',e1.fh,re.mono e1.ff,hg,fun vs F2 H2 A2 e2 r2 n2=>?_⟩⟩;have t1:∀ b,A1 b->∃ u,H1 b=some u:=fun b z=>by obtain ⟨u,h,_⟩:=r1.there b z; exact ⟨u,h⟩
 refine k _ F2 H2 (fun b=>A1 b \/ A2 b) (e1.trans e2) (.cons (r1.ext e2.ff e2.hh) r2 (fun b y z=>?_) fun _=>Lq) fun b z=>?_
 ·obtain ⟨u,hu⟩:=t1 b y
  rw [(n2 b z).2] at hu; cases hu
 ·rcases z with z | z
  ·exact aqmr e2 n1 t1 b z
  ·exact ⟨(n2 b z).1,e1.hh.free (n2 b z).2⟩
theorem aZ1 {g:FA} (h:DA X es g):DO X (.List es pos) (oLst g):=by
 refine PE.imp (aWf h) fun σ H Q q=>?_;obtain ⟨F,ρ,d,s,re,hf,k⟩:=q;obtain ⟨ds,hd,hf⟩:=bind_some hf;split at hf
 ·rename_i hl
  cases hf;refine ⟨F,ρ,ds,s,re,hd,fun vs F1 H1 e1 r1=>⟨by rw [r1.length]; exact az0 hl,fun p hp=>?_⟩⟩;exact k _ F1 _ _ (e1.trans (Ext.laidH e1.fh hp)) (aZb aa r1) fun b z=>by subst z; exact ⟨e1.fh.free hp,e1.hh.free hp⟩
 ·cases hf
theorem aqms {x1} {g:FAO} (h:DAO X es g):DO X (.Tuple es x1 pos) (oTupO g):=by
 refine PE.imp (aWe h) fun σ H Q q=>?_;obtain ⟨F,ρ,d,s,re,hf,k⟩:=q;obtain ⟨os,hd,hf⟩:=bind_some hf;split at hf
 ·rename_i hl
  cases hf;refine ⟨F,ρ,os,s,re,hd,fun vs F1 H1 A e1 r1 n1=>⟨by rw [r1.length]; exact az0 hl,fun p hp=>?_⟩⟩;have np:¬ A p:=fun z=>by obtain ⟨u,hu,_⟩:=r1.there p z; rw [hp] at hu; cases hu
  refine k _ (upd F1 p (.tup vs)) _ A (e1.trans (Ext.laid e1.fh hp)) (.tup aa (r1.ext (ai (e1.fh.free hp)) (ai hp))) fun b z=>?_;obtain ⟨h1,h2⟩:=n1 b z;exact ⟨by rw [ae (by rintro rfl; exact np z)]; exact h1,h2⟩
 ·cases hf
def spO (K:Frag) (n:Nat) (g:List D->Option O):Sp:=fun vs H Q _=>∃ F ds o,aqu9 F H/\Reps K F vs ds/\ds.length=n/\g ds=some o /\
 ∀ v F' H' A,Ext F H F' H'->Own K F' H' v o A->(∀ b,A b->F' b=none/\H b=none)->Q v H'
def CallO (K:Frag) (r:List V->Hp->VK->Prop) (g:List D->Option (List D)):Prop:=∀ ds es F H vs Q,g ds=some es->aqu9 F H->Reps K F vs ds ->
 (∀ a ws F' H',Ext F H F' H'->H' a=some (.lst ws)->F' a=none->H a=none->Reps K F' ws es->Q (.ref a) H')->r vs H Q
def OpO (K:Frag) (r:R2) (g:D->D->Option (List D)):Prop:=∀ x y es F H v u Q,g x y=some es->aqu9 F H->Rep K F v x->Rep K F u y ->
 (∀ a ws F' H',Ext F H F' H'->H' a=some (.lst ws)->F' a=none->H a=none->Reps K F' ws es->Q (.ref a) H')->r v u H Q
variable {k n:Nat} {f:Addr} {fd:Am} {ps:List Str} {x:Str} {p:Pos}
theorem aqmt {g:List D->Option O} {h:FA} (G:FnOk X.prog X.w X.K X.mg X.base CX0 k f fd ps (spO X.K n g)) (hr:Room k X.A) (hg:Gl X x) (hm:X.mg x=some (.ref f)) (hk:Gr X.K (.ref f)=true) (hb:Binds X.K fd ps [])
  (ha:DA X (a :: es) h) (hdb:(x == ("__debug__":Str))=false:=by decide) (he:Ap (a :: es) X.env=(false,eval a X.env) :: Ap es X.env:=by rfl) (hpl:(C1 pos (Ap es X.env)).any (·.1)=false:=by rfl) :
  DO X (.Call (.Name x p) (a :: es) [] pos) (aqcr n g h):=by
 refine PE.imp (aq6 G hr hg hm hk hb .nil azs ha hdb he hpl) fun σ H Q q=>?_;obtain ⟨F,ρ,d,s,re,hf,k⟩:=q;obtain ⟨ds,hd,hf⟩:=bind_some hf;refine ⟨F,ρ,ds,s,re,hd,fun vs F1 H1 e1 r1=>?_⟩;dsimp only;rw [append_nil];split at hf
 ·rename_i hl
  exact ⟨F1,ds,d,e1.fh,r1,hl,hf,fun v F2 H2 A e2 r2 n2=>k v F2 H2 A (e1.trans e2) r2 fun b z=>⟨(n2 b z).1,e1.hh.free (n2 b z).2⟩⟩
 ·cases hf
theorem aqbr {id:String} {r:List V->Hp->VK->Prop} {g:List D->Option (List D)} {h:FA} (hc:awh X (.builtin id) r) (hr:CallO X.K r g) (hg:Gl X x) (hm:X.mg x=none) (hv:A6 x=some (.builtin id)) (ha:DA X (a :: es) h)
  (hn:x ≠ "__name__":=by decide) (hdb:(x == ("__debug__":Str))=false:=by decide)
  (he:Ap (a :: es) X.env=(false,eval a X.env) :: Ap es X.env:=by rfl) (hpl:(C1 pos (Ap es X.env)).any (·.1)=false:=by rfl):DO X (.Call (.Name x p) (a :: es) [] pos) (aqte g h):=by
 refine PE.imp (aV hc hg hm hv ha hn hdb he hpl) fun σ H Q q=>?_;obtain ⟨F,ρ,o,s,re,hf,k⟩:=q;obtain ⟨zs,hf2,rfl⟩:=map_some hf;obtain ⟨ds,hd,hf⟩:=bind_some hf2;exact ⟨F,ρ,ds,s,re,hd,fun vs F1 H1 e1 r1=>hr ds zs F1 H1 vs Q hf e1.fh r1 fun a ws F' H' e' h1 h2 h3 r'=>k (.ref a) F' H' _ (e1.trans e') (aZb h1 r') fun b z=>by subst z; exact ⟨h2,e1.hh.free h3⟩⟩
theorem aKq {T:String} {r:List V->Hp->VK->Prop} {g:List D->Option (List D)} {h:FA} (hc:awh X (.type T) r) (hr:CallO X.K r g) (hg:Gl X x) (hm:X.mg x=none) (hv:A6 x=some (.type T)) (ha:DA X (a :: es) h)
  (hn:x ≠ "__name__":=by decide) (hdb:(x == ("__debug__":Str))=false:=by decide)
  (he:Ap (a :: es) X.env=(false,eval a X.env) :: Ap es X.env:=by rfl) (hpl:(C1 pos (Ap es X.env)).any (·.1)=false:=by rfl):DO X (.Call (.Name x p) (a :: es) [] pos) (aqte g h):=by
 refine PE.imp (aqh hc hg hm hv ha hn hdb he hpl) fun σ H Q q=>?_;obtain ⟨F,ρ,o,s,re,hf,k⟩:=q;obtain ⟨zs,hf2,rfl⟩:=map_some hf;obtain ⟨ds,hd,hf⟩:=bind_some hf2;exact ⟨F,ρ,ds,s,re,hd,fun vs F1 H1 e1 r1=>hr ds zs F1 H1 vs Q hf e1.fh r1 fun a ws F' H' e' h1 h2 h3 r'=>k (.ref a) F' H' _ (e1.trans e') (aZb h1 r') fun b z=>by subst z; exact ⟨h2,e1.hh.free h3⟩⟩
theorem do_op {op:Operator} {r:R2} {g:D->D->Option (List D)} {fa fb:FE} (ho:OpR X (Dg op) r) (hr:OpO X.K r g) (ha:DE X a fa) (hb:DE X b fb):DO X (.BinOp a op b pos) (o2 g fa fb):=by
 refine PE.imp (aq3 ho ha hb) fun σ H Q q=>?_;obtain ⟨F,ρ,o,s,re,hf,k⟩:=q;obtain ⟨zs,hf2,rfl⟩:=map_some hf;obtain ⟨x,hx,hf⟩:=bind_some hf2;obtain ⟨y,hy,hf⟩:=bind_some hf;exact ⟨F,ρ,x,s,re,hx,fun v F1 H1 e1 r1=>⟨F1,ρ,y,e1.fh,re.mono e1.ff,hy,fun u F2 H2 e2 r2=>hr x y zs F2 H2 v u Q hf e2.fh (r1.mono e2.ff) r2 fun a ws F' H' e' h1 h2 h3 r' =>
  k (.ref a) F' H' _ ((e1.trans e2).trans e') (aZb h1 r') fun b z=>by subst z; exact ⟨h2,(e1.trans e2).hh.free h3⟩⟩⟩
end
end DL
namespace DL
open PySem PySem.Spec PyProof.Rows L2
structure Bs where
 F₀:Hp
 B:Hp
 P:Nat->Bool
 σ₀:St
def OwnT (K:Frag) (B F H:Hp) (σ:St) (ρ:Cs) (A:Nat->AS):Prop :=
 (∀ (i:Nat) (o:O),ρ[i]?=some (some o)->∃ v,σ[i]?=some (some v)/\Own K F H v o (A i))/\(∀ i b,A i b->F b=none/\B b=none/\∃ o,ρ[i]?=some (some o))/\∀ i j b,A i b->A j b->i=j
structure RS (K:Frag) (β:Bs) (F H:Hp) (σ:St) (ρ:Cs):Prop where
 ext:Ext β.F₀ β.B F H
 len:ρ.length=σ.length
 pin:∀ i,β.P i=true->σ[i]?=β.σ₀[i]?
 own:∃ A:Nat->AS,OwnT K β.B F H σ ρ A
section
variable {K:Frag} {β:Bs} {F F' H H':Hp} {σ:St} {ρ:Cs}
abbrev Bs.re (β:Bs) (F:Hp):Bs:=⟨F,β.B,β.P,β.σ₀⟩
theorem RS.rebase (r:RS K β F H σ ρ):RS K (β.re F) F H σ ρ:=⟨⟨aqu9.refl _,r.ext.fh,r.ext.hh,fun _ _ h=>.inl h⟩,r.len,r.pin,r.own⟩
theorem aqmq {F₀ B F1 H1:Hp} (e:Ext F₀ B F H) (r:Ext F B F1 H1):Ext F₀ B F1 H1 :=
 ⟨e.ff.trans r.ff,r.fh,r.hh,fun b o h=>(r.nw b o h).elim (fun z=>e.nw b o z) .inr⟩
theorem RS.unbase (e:Ext β.F₀ β.B F H) {F1 H1:Hp} {σ1:St} {ρ1:Cs} (r:RS K (β.re F) F1 H1 σ1 ρ1):RS K β F1 H1 σ1 ρ1:=⟨aqmq e r.ext,r.len,r.pin,r.own⟩
theorem OwnT.there {B:Hp} {A:Nat->AS} (w:OwnT K B F H σ ρ A) {i:Nat} {b:Addr} (h:A i b):∃ u,H b=some u/\∀ xs,u ≠ .tup xs/\∀ ob w,u ≠ .frz ob w:=by
 obtain ⟨h1,h2,h3⟩:=w;obtain ⟨_,_,o,ho⟩:=h2 i b h;obtain ⟨v,_,z⟩:=h1 i o ho;exact z.there b h
theorem OwnT.ext {B:Hp} {A:Nat->AS} (w:OwnT K B F H σ ρ A) (e:Ext F H F' H'):OwnT K B F' H' σ ρ A:=by
 have th:=fun i b h=>w.there (i:=i) (b:=b) h;obtain ⟨h1,h2,h3⟩:=w;refine ⟨fun i o h=>?_,fun i b h=>?_,h3⟩
 ·obtain ⟨v,e1,e2⟩:=h1 i o h
  exact ⟨v,e1,e2.ext e.ff e.hh⟩
 ·obtain ⟨e1,e2,ho⟩:=h2 i b h
  obtain ⟨u,hu,_⟩:=th i b h;refine ⟨?_,e2,ho⟩;cases q:F' b with
  | none=>rfl
  | some w =>
   rcases e.nw b w q with z | z
   ·rw [e1] at z; cases z
   ·rw [hu] at z; cases z
theorem RS.ext' (r:RS K β F H σ ρ) (e:Ext F H F' H'):RS K β F' H' σ ρ:=⟨r.ext.trans e,r.len,r.pin,r.own.imp fun _ w=>w.ext e⟩
def msk (S:List Bool) (i:Nat):Bool:=S[i]?.getD false
theorem aqmo {S:List Bool} {ρ:Cs} {i:Nat} {d:D} (h:(frz S ρ)[i]?=some (some d)):msk S i=true/\∃ o,ρ[i]?=some (some o)/\oD o=some d:=by
 induction S generalizing ρ i with
 | nil=>simp [frz] at h
 | cons b S ih =>
  cases ρ with
  | nil=>simp [frz] at h
  | cons c ρ =>
   cases i with
   | zero =>
    simp [frz] at h;obtain ⟨hb,h⟩:=h;obtain ⟨o,e1,e2⟩:=bind_some h;subst e1;exact ⟨by simp [msk,hb],o,rfl,e2⟩
   | succ i =>
    obtain ⟨h1,h2⟩:=ih (ρ:=ρ) (i:=i) (by simpa [frz] using h);exact ⟨by simpa [msk] using h1,by simpa using h2⟩
theorem aqmn (S:List Bool) (ρ:Cs):(fz S ρ).length=ρ.length:=by
 induction S generalizing ρ with
 | nil=>cases ρ <;> simp [fz]
 | cons b S ih=>cases ρ <;> simp [fz,ih]
theorem aqpo {S:List Bool} {ρ:Cs} {i:Nat} {o:O} (h:(fz S ρ)[i]?=some (some o)) :
  (msk S i=true/\∃ o' d,ρ[i]?=some (some o')/\oD o'=some d/\o=.sh d) \/ (ρ[i]?=some (some o)/\(msk S i=true->oD o=none)):=by
 induction S generalizing ρ i with
 | nil=>cases ρ <;> exact .inr ⟨by simpa [fz] using h,by simp [msk]⟩
 | cons b S ih =>
  cases ρ with
  | nil=>simp [fz] at h
  | cons c ρ =>
   cases i with
   | zero =>
    cases b with
    | true =>
     simp [fz] at h;cases c with
     | none=>cases h
     | some o' =>
      unfold fzc at h;cases q:oD o' with
      | none =>
       simp only [q] at h;cases h;exact .inr ⟨rfl,fun _=>q⟩
      | some d =>
       simp only [q] at h;cases h;exact .inl ⟨by simp [msk],o',d,rfl,q,rfl⟩
    | false=>exact .inr ⟨by simpa [fz] using h,by simp [msk]⟩
   | succ i =>
    rcases ih (ρ:=ρ) (i:=i) (by simpa [fz] using h) with ⟨h1,h2⟩ | ⟨h1,h2⟩
    ·exact .inl ⟨by simpa [msk] using h1,by simpa using h2⟩
    ·exact .inr ⟨by simpa using h1,by simpa [msk] using h2⟩
noncomputable def az5 (F H F':Hp):Hp:=fun b=>match F b with | some o=>some o | none=>match H b with | some _=>none | none=>F' b
theorem aq9:aqu9 F (az5 F H F'):=fun b o h=>by unfold az5; rw [h]
theorem aqb3 {b:Addr} {o:HO} (h:az5 F H F' b=some o):F b=some o \/ (H b=none/\F' b=some o):=by
 unfold az5 at h;cases q:F b with
 | some u=>rw [q] at h; exact .inl h
 | none =>
  rw [q] at h;cases z:H b with
  | some u=>rw [z] at h; cases h
  | none=>rw [z] at h; exact .inr ⟨rfl,h⟩
theorem aQ2 {b:Addr} (s:aqu9 F H) (h:H b=none):az5 F H F' b=F' b:=by
 unfold az5;rw [s.free h,h]
structure Look (F H G:Hp):Prop where
 fg:aqu9 F G
 gh:aqu9 G H
 nt:∀ b u,G b=some u->F b=some u \/ ∀ xs,u ≠ .tup xs/\∀ ob w,u ≠ .frz ob w
section
variable {G:Hp}
theorem Look.ext (l:Look F H G) (e:Ext G H F' H') (s:aqu9 F H):Ext F H (az5 F H F') H' where
 ff:=aq9
 fh:=fun b o h=>by
  rcases aqb3 h with h | ⟨_,h⟩
  ·exact e.hh _ _ (s _ _ h)
  ·exact e.fh _ _ h
 hh:=e.hh
 nw:=fun b o h=>by
  rcases aqb3 h with h | ⟨h,_⟩
  ·exact .inl h
  ·exact .inr h
theorem Look.at (l:Look F H G) (e:Ext G H F' H') (s:aqu9 F H) {a:Addr} {u:HO} (h:F' a=some u) (nt:(∃ xs,u=.tup xs) \/ ∃ ob w,u=.frz ob w):az5 F H F' a=some u:=by
 rcases e.nw a u h with z | z
 ·rcases l.nt a u z with y | y
  ·unfold az5; rw [y]
  ·rcases nt with ⟨xs,rfl⟩ | ⟨ob,w,rfl⟩
   ·exact absurd rfl (y xs).1
   ·exact absurd rfl ((y []).2 ob w)
 ·rw [aQ2 s z]; exact h
theorem Look.seqT (l:Look F H G) (e:Ext G H F' H') (s:aqu9 F H) {a:Addr} {vs:List V} (h:SqT K F' a vs):SqT K (az5 F H F') a vs:=by
 rcases h with (q | ⟨o,q⟩) | q
 ·exact .inl (.inl (l.at e s q (.inl ⟨_,rfl⟩)))
 ·exact .inl (.inr ⟨o,l.at e s q (.inr ⟨_,_,rfl⟩)⟩)
 ·exact .inr q
theorem aqav (l:Look F H G) (e:Ext G H F' H') (s:aqu9 F H):(∀ {v:V} {d:D},Rep K F' v d->imm d=true->Rep K (DL.az5 F H F') v d)/\∀ {vs:List V} {ds:List D},Reps K F' vs ds->aqtl ds=true->Reps K (DL.az5 F H F') vs ds:=by
 refine ⟨@Rep.rec K F' (fun v d _=>imm d=true->Rep K (DL.az5 F H F') v d) (fun v d _=>aqtl d=true->Reps K (DL.az5 F H F') v d) (fun _=>.non) (fun b _=>.bl b) (fun i _=>.int i) (fun x _=>.str x) ?a ?b (fun _=>.nil) ?c,@Reps.rec K F' (fun v d _=>imm d=true->Rep K (DL.az5 F H F') v d) (fun v d _=>aqtl d=true->Reps K (DL.az5 F H F') v d) (fun _=>.non) (fun b _=>.bl b) (fun i _=>.int i) (fun x _=>.str x) ?a ?b (fun _=>.nil) ?c⟩
 case a=>exact fun _ _ _ h=>by simp [imm] at h
 case b=>exact fun q _ ih h=>.tup (l.seqT e s q) (ih (by simpa [imm] using h))
 case c =>
  intro v d vs ds q t ih it h;simp [aqtl] at h;exact .cons (ih h.1) (it h.2)
theorem Look.rep (l:Look F H G) (e:Ext G H F' H') (s:aqu9 F H) {v:V} {d:D} (h:imm d=true) (q:Rep K F' v d):Rep K (DL.az5 F H F') v d:=(aqav l e s).1 q h
theorem Look.reps (l:Look F H G) (e:Ext G H F' H') (s:aqu9 F H) {vs:List V} {ds:List D} (h:aqtl ds=true) (q:Reps K F' vs ds):Reps K (DL.az5 F H F') vs ds:=(aqav l e s).2 q h
theorem aqi9 (l:Look F H G) (e:Ext G H F' H') (s:aqu9 F H):(∀ {v:V} {o:O} {A:AS},Own K F' H' v o A->oim o=true->Own K (DL.az5 F H F') H' v o A)/\∀ {vs:List V} {os:List O} {A:AS},Owns K F' H' vs os A->aqtc os=true->Owns K (DL.az5 F H F') H' vs os A:=by
 refine ⟨@Own.rec K F' H' (fun v o A _=>oim o=true->Own K (DL.az5 F H F') H' v o A) (fun v o A _=>aqtc o=true->Owns K (DL.az5 F H F') H' v o A) ?a ?b ?c ?a2 ?d,@Owns.rec K F' H' (fun v o A _=>oim o=true->Own K (DL.az5 F H F') H' v o A) (fun v o A _=>aqtc o=true->Owns K (DL.az5 F H F') H' v o A) ?a ?b ?c ?a2 ?d⟩
 case a=>exact fun q hA h=>.sh (l.rep e s (by simpa [oim] using h) q) hA
 case b=>exact fun q n _ hA ih h=>.lst q n (ih (by simpa [oim] using h)) hA
 case c=>exact fun q _ ih h=>.tup (l.at e s q (.inl ⟨_,rfl⟩)) (ih (by simpa [oim] using h))
 case a2=>exact fun hA _=>.nil hA
 case d =>
  intro v o vs os A1 A2 A q t d hA ih it h;simp [aqtc] at h;exact .cons (ih h.1) (it h.2) d hA
theorem Look.own (l:Look F H G) (e:Ext G H F' H') (s:aqu9 F H) {v:V} {o:O} {A:AS} (h:oim o=true) (q:Own K F' H' v o A):Own K (DL.az5 F H F') H' v o A:=(aqi9 l e s).1 q h
end
theorem RS.look (r:RS K β F H σ ρ) (S:List Bool):∃ G,Look F H G/\RE K G σ (frz S ρ)/\RS K β G H σ (fz S ρ):=by
 obtain ⟨A,h1,h2,h3⟩:=r.own
 let Z:AS:=fun b=>∃ i,msk S i=true/\(∃ o d,ρ[i]?=some (some o)/\oD o=some d)/\A i b
 have Zf:∀ b,Z b->F b=none/\β.B b=none:=fun b ⟨i,_,_,q⟩=>⟨(h2 i b q).1,(h2 i b q).2.1⟩;have Zt:∀ b,Z b->∃ u,H b=some u/\∀ xs,u ≠ .tup xs/\∀ ob w,u ≠ .frz ob w:=fun b ⟨i,_,_,q⟩=>by
  obtain ⟨_,_,o,ho⟩:=h2 i b q;obtain ⟨v,_,z⟩:=h1 i o ho;exact z.there b q
 have sF:aqu9 F (aqu5 F H Z):=akb fun b z=>(Zf b z).1;refine ⟨aqu5 F H Z,⟨sF,aqcq r.ext.fh,fun b u q=>?_⟩,fun i d h=>?_,⟨aVh r.ext Zf,(aqmn S ρ).trans r.len,r.pin,?_⟩⟩
 ·by_cases z:Z b
  ·rw [axv z] at q
   obtain ⟨u',e1,e2⟩:=Zt b z;rw [q] at e1; cases e1;exact .inr e2
  ·rw [ajp z] at q; exact .inl q
 ·obtain ⟨g1,o,g2,g3⟩:=aqmo h
  obtain ⟨v,e1,e2⟩:=h1 i o g2;exact ⟨v,e1,e2.rep sF g3 fun b z=>axv ⟨i,g1,⟨o,d,g2,g3⟩,z⟩⟩
 ·classical
  refine ⟨fun i b=>A i b/\¬ (msk S i=true/\∃ o d,ρ[i]?=some (some o)/\oD o=some d),fun i o h=>?_,fun i b h=>?_,fun i j b x y=>h3 i j b x.1 y.1⟩
  ·rcases aqpo h with ⟨g1,o',d,g2,g3,rfl⟩ | ⟨g1,g2⟩
   ·obtain ⟨v,e1,e2⟩:=h1 i o' g2
    exact ⟨v,e1,.sh (e2.rep sF g3 fun b z=>axv ⟨i,g1,⟨o',d,g2,g3⟩,z⟩) fun b z=>z.2 ⟨g1,o',d,g2,g3⟩⟩
   ·obtain ⟨v,e1,e2⟩:=h1 i o g1
    refine ⟨v,e1,(e2.stay sF (H':=H) fun _ _=>rfl).congr fun b=>⟨fun z=>⟨z,?_⟩,fun z=>z.1⟩⟩;rintro ⟨m,o',d,q1,q2⟩;rw [g1] at q1; cases q1;rw [g2 m] at q2; cases q2
  ·obtain ⟨e1,e2,o,ho⟩:=h2 i b h.1
   refine ⟨(ajp ?_).trans e1,e2,?_⟩
   ·rintro ⟨j,m,q,z⟩
    have:=h3 i j b h.1 z
    subst this;exact h.2 ⟨m,q⟩
   ·
    have hl:i < (fz S ρ).length:=by rw [aqmn]; exact (Ai.mp ho).1
    have hx:∃ c,(fz S ρ)[i]?=some c:=⟨_,getElem?_eq_getElem hl⟩;obtain ⟨c,hc⟩:=hx;cases c with
    | some o'=>exact ⟨o',hc⟩
    | none =>
     exfalso
     have:∀ (S:List Bool) (ρ:Cs) (i:Nat) (o:O),ρ[i]?=some (some o)->(fz S ρ)[i]? ≠ some none:=by
      intro S
      induction S with
      | nil=>intro ρ i o h z; cases ρ <;> simp [fz] at z h; rw [h] at z; cases z
      | cons b S ih =>
       intro ρ i o h z;cases ρ with
       | nil=>simp at h
       | cons c ρ =>
        cases i with
        | zero =>
         simp at h; subst h;cases b with
         | false=>simp [fz] at z
         | true=>simp [fz,fzc] at z; split at z <;> cases z
        | succ i=>exact ih ρ i o (by simpa using h) (by simpa [fz] using z)
     exact this S ρ i o ho hc
theorem aqnj (ρ:Cs):frz (C2 ρ.length true) ρ=all ρ:=by
 induction ρ with
 | nil=>simp [frz,all]
 | cons c ρ ih=>simp [frz,all,G2] at ih ⊢; exact ih
theorem RS.lookAll (r:RS K β F H σ ρ):∃ G,Look F H G/\RE K G σ (all ρ):=by
 obtain ⟨G,l,re,_⟩:=r.look (C2 ρ.length true);rw [aqnj] at re;exact ⟨G,l,re⟩
theorem RS.back (r:RS K β F H σ ρ) {G:Hp} (l:Look F H G) (e:Ext G H F' H'):RS K β (az5 F H F') H' σ ρ:=r.ext' (l.ext e r.ext.fh)
structure RT (K:Frag) (β:Bs) (F H:Hp) (σ:St) (ρ:Cs) (v:V) (o:O):Prop where
 ext:Ext β.F₀ β.B F H
 len:ρ.length=σ.length
 pin:∀ i,β.P i=true->σ[i]?=β.σ₀[i]?
 own:∃ (A:Nat->AS) (T:AS),OwnT K β.B F H σ ρ A/\Own K F H v o T/\(∀ b,T b->F b=none/\β.B b=none)/\∀ i b,A i b->¬ T b
theorem RT.unbase (e:Ext β.F₀ β.B F H) {F1 H1:Hp} {σ1:St} {ρ1:Cs} {v:V} {o:O} (r:RT K (β.re F) F1 H1 σ1 ρ1 v o):RT K β F1 H1 σ1 ρ1 v o:=⟨aqmq e r.ext,r.len,r.pin,r.own⟩
theorem RS.push (r:RS K β F H σ ρ) (e:Ext F H F' H') {v:V} {o:O} {T:AS} (q:Own K F' H' v o T) (n:∀ b,T b->F' b=none/\H b=none):RT K β F' H' σ ρ v o :=
 ⟨r.ext.trans e,r.len,r.pin,by
  obtain ⟨A,w⟩:=r.own;refine ⟨A,T,w.ext e,q,fun b z=>⟨(n b z).1,r.ext.hh.free (n b z).2⟩,fun i b x y=>?_⟩;obtain ⟨u,hu,_⟩:=w.there x;rw [(n b y).2] at hu; cases hu⟩
theorem RS.sh (r:RS K β F H σ ρ) {v:V} {d:D} (q:Rep K F v d):RT K β F H σ ρ v (.sh d) :=
 r.push (Ext.refl r.ext.fh) (T:=fun _=>False) (.sh q fun _ z=>z) fun _ z=>z.elim
theorem aqbg {α:Type} {l:List (Option α)} {i j:Nat} {c:Option α} {c':α} (h:(l.set i c)[j]?=some (some c')):(j=i/\some c'=c/\i < l.length) \/ (j ≠ i/\l[j]?=some (some c')):=by
 by_cases e:j=i
 ·subst e
  have hl:j < l.length:=by
   have:=(Ai.mp h).1
   simpa using this
  rw [getElem?_set_self hl] at h;cases h;exact .inl ⟨rfl,rfl,hl⟩
 ·rw [getElem?_set_ne (B4 e)] at h
  exact .inr ⟨e,h⟩
theorem RT.give {v:V} {o:O} (r:RT K β F H σ ρ v o) (i:Nat) (hi:β.P i=false):RS K β F H (σ.set i (some v)) (ρ.set i (some o)) where
 ext:=r.ext
 len:=by simpa using r.len
 pin:=fun j h=>by
  have ne:j ≠ i:=by rintro rfl; rw [hi] at h; cases h
  rw [getElem?_set_ne (B4 ne)]; exact r.pin j h
 own:=by
  obtain ⟨A,T,⟨h1,h2,h3⟩,q,n,d⟩:=r.own;have hl:=r.len;refine ⟨fun j b=>(j ≠ i/\A j b) \/ (j=i/\i < ρ.length/\T b),fun j o' h=>?_,fun j b h=>?_,fun j k b x y=>?_⟩
  ·rcases aqbg h with ⟨rfl,e,hl'⟩ | ⟨ne,h⟩
   ·cases e
    exact ⟨v,getElem?_set_self (by rw [<- hl]; exact hl'),q.congr fun b=>⟨fun z=>.inr ⟨rfl,hl',z⟩,fun z=>z.elim (fun y=>absurd rfl y.1) (·.2.2)⟩⟩
   ·obtain ⟨v',e1,e2⟩:=h1 j o' h
    exact ⟨v',by rw [getElem?_set_ne (B4 ne)]; exact e1,e2.congr fun b=>⟨fun z=>.inl ⟨ne,z⟩,fun z=>z.elim (·.2) fun y=>absurd y.1 ne⟩⟩
  ·rcases h with ⟨ne,h⟩ | ⟨rfl,hl',h⟩
   ·obtain ⟨e1,e2,o',ho⟩:=h2 j b h
    exact ⟨e1,e2,o',by rw [getElem?_set_ne (B4 ne)]; exact ho⟩
   ·exact ⟨(n b h).1,(n b h).2,o,getElem?_set_self hl'⟩
  ·rcases x with ⟨_,x⟩ | ⟨rfl,_,x⟩ <;> rcases y with ⟨_,y⟩ | ⟨rfl,_,y⟩
   ·exact h3 j k b x y
   ·exact absurd y (d j b x)
   ·exact absurd x (d k b y)
   ·rfl
theorem RS.set_sh (r:RS K β F H σ ρ) (i:Nat) (hi:β.P i=false) {v:V} {d:D} (q:Rep K F v d):RS K β F H (σ.set i (some v)) (ρ.set i (some (.sh d))):=(r.sh q).give i hi
end
def tM (K:Frag) (f:FM):TE:=fun σ H Q=>∃ β F ρ p,RS K β F H σ ρ/\f ρ=some p/\∀ v F' H',aqu9 F F'->aqu9 H H'->RT K β F' H' σ p.2 v p.1->Q v H'
def DM (X:Cx) (e:Expr) (f:FM):Prop:=PE X e (tM X.K f)
section
variable {X:Cx} {e:Expr}
theorem DE.m (S:List Bool) {f:FE} (h:DE X e f):DM X e (mE S f):=by
 refine PE.imp h fun σ H Q q=>?_;obtain ⟨β,F,ρ,p,r,hf,k⟩:=q;obtain ⟨d,hd,rfl⟩:=map_some hf;obtain ⟨G,l,re,rz⟩:=r.look S;refine ⟨G,frz S ρ,d,l.gh,re,hd,fun v F' H' e q=>?_⟩
 by_cases hi:imm d=true
 ·rw [if_pos hi] at k
  exact k v _ H' aq9 e.hh ((r.back l e).sh (l.rep e r.ext.fh hi q))
 ·rw [if_neg hi] at k
  exact k v F' H' (l.fg.trans e.ff) e.hh ((rz.ext' e).sh q)
theorem DO.m (S:List Bool) {f:FO} (h:DO X e f):DM X e (mO S f):=by
 refine PE.imp h fun σ H Q q=>?_;obtain ⟨β,F,ρ,p,r,hf,k⟩:=q;obtain ⟨o,ho,rfl⟩:=map_some hf;obtain ⟨G,l,re,rz⟩:=r.look S;refine ⟨G,frz S ρ,o,l.gh,re,ho,fun v F' H' A e q n=>?_⟩
 by_cases hi:oim o=true
 ·rw [if_pos hi] at k
  exact k v _ H' aq9 e.hh (r.push (l.ext e r.ext.fh) (l.own e r.ext.fh hi q) fun b z=>⟨(aQ2 r.ext.fh (n b z).2).trans (n b z).1,(n b z).2⟩)
 ·rw [if_neg hi] at k
  exact k v F' H' (l.fg.trans e.ff) e.hh (rz.push e q n)
end
def EndS (K:Frag) (β:Bs) (E:Ends):Out->Prop
 | .nx ρ'=>∀ F' H' σ',RS K β F' H' σ' ρ'->E.nx σ' H'
 | .bk ρ'=>∀ F' H' σ',RS K β F' H' σ' ρ'->E.bk σ' H'
 | .ct ρ'=>∀ F' H' σ',RS K β F' H' σ' ρ'->E.ct σ' H'
 | .rt o ρ'=>∀ F' H' σ' v,RT K β F' H' σ' ρ' v o->E.rt v H'
 | .ex _ _=>False
def tS (K:Frag) (W:List Nat) (b:Blk):TS:=fun E σ H=>∃ β F ρ o,RS K β F H σ ρ/\(∀ i∈W,β.P i=false)/\b ρ=some o/\EndS K β E o
def DS (X:Cx) (st:Stmt) (W:List Nat) (b:Blk):Prop:=PS X st (tS X.K W b)
def DSs (X:Cx) (st:List Stmt) (W:List Nat) (b:Blk):Prop:=PSs X st (tS X.K W b)
section
variable {X:Cx} {st:Stmt} {aqt6:List Stmt} {a e:Expr} {pos:Pos} {W W1 W2:List Nat}
theorem aqfw {β:Bs} (h:∀ i∈W1++W2,β.P i=false):∀ i∈W1,β.P i=false:=fun i m=>h i (Es _ m)
theorem mem_r {β:Bs} (h:∀ i∈W1++W2,β.P i=false):∀ i∈W2,β.P i=false:=fun i m=>h i (mem_append_right _ m)
theorem azb:DSs X [] [] aqu2:=by
 refine PSs.imp ajr fun E σ H q=>?_;obtain ⟨β,F,ρ,o,r,_,h,k⟩:=q;cases h;exact k F H σ r
theorem ah {b c:Blk} (h1:DS X st W1 b) (h2:DSs X aqt6 W2 c):DSs X (st :: aqt6) (W1++W2) (aqu0 b c):=by
 refine PSs.imp (aj h1 h2) fun E σ H q=>?_;obtain ⟨β,F,ρ,o,r,hw,h,k⟩:=q;unfold aqu0 at h;cases hb:b ρ with
 | none=>rw [hb] at h; cases h
 | some o1 =>
  rw [hb] at h;cases o1 with
  | nx ρ'=>exact ⟨β,F,ρ,.nx ρ',r,aqfw hw,hb,fun F' H' σ' r'=>⟨β,F',ρ',o,r',mem_r hw,h,k⟩⟩
  | bk ρ'=>cases h; exact ⟨β,F,ρ,.bk ρ',r,aqfw hw,hb,k⟩
  | ct ρ'=>cases h; exact ⟨β,F,ρ,.ct ρ',r,aqfw hw,hb,k⟩
  | rt d ρ'=>cases h; exact ⟨β,F,ρ,.rt d ρ',r,aqfw hw,hb,k⟩
  | ex d ρ'=>cases h; exact ⟨β,F,ρ,.ex d ρ',r,aqfw hw,hb,k⟩
theorem ao {b:Blk} (h1:DS X st W b):DSs X [st] W b:=av h1
theorem cC (i:Nat) {f:FM} {st:Stmt} (hp:PS X st (tAsg (tM X.K f) (azj i))):DS X st [i] (aqtz i f):=by
 refine PS.imp hp fun E σ H q=>?_;obtain ⟨β,F,ρ,o,r,hw,h,k⟩:=q;obtain ⟨p,hd,rfl⟩:=map_some h;exact ⟨β,F,ρ,p,r,hd,fun v F' H' _ _ rt=>k F' H' _ (rt.give i (hw i (by simp)))⟩
theorem aH {f:FM} (h:DM X e f):DS X (.Return (some e) pos) [] (aqu1 f):=by
 refine PS.imp (av1 h) fun E σ H q=>?_;obtain ⟨β,F,ρ,o,r,hw,h,k⟩:=q;obtain ⟨p,hd,rfl⟩:=map_some h;exact ⟨β,F,ρ,p,r,hd,fun v F' H' _ _ rt=>k F' H' σ v rt⟩
theorem aqcs {c:Expr} {as bs:List Stmt} {q:FT} {a b:Blk} (hc:DT X c q) (ha:DSs X as W1 a) (hb:DSs X bs W2 b):DS X (.If c as bs pos) (W1++W2) (bIf q a b):=by
 refine PS.imp (aX3 hc ha hb) fun E σ H z=>?_;obtain ⟨β,F,ρ,o,r,hw,h,k⟩:=z;obtain ⟨t,ht,h⟩:=bind_some h;obtain ⟨G,l,re⟩:=r.lookAll;refine ⟨G,DL.all ρ,t,l.gh,re,ht,fun F' H' e=>?_⟩;have r':=r.back l e;cases t with
 | true=>rw [if_pos rfl] at h; exact iteT ⟨β,_,ρ,o,r',aqfw hw,h,k⟩
 | false=>rw [if_neg An] at h; exact aqti ⟨β,_,ρ,o,r',mem_r hw,h,k⟩
theorem aqj5 {st:Stmt}:DS X st [] bNever:=by
 refine PS.imp aqha fun E σ H q=>?_;obtain ⟨β,F,ρ,o,r,_,h,k⟩:=q;cases h
def tG (K:Frag) (W:List Nat) (g:GD):TG:=fun v σ H Q=>∃ β F ρ d ρ',RS K β F H σ ρ/\(∀ i∈W,β.P i=false)/\Rep K F v d/\g d ρ=some ρ'/\∀ σ',RS K β F H σ' ρ'->Q σ' H
def tGs (K:Frag) (W:List Nat) (g:List D->Cs->Option Cs):TGs:=fun vs σ H Q=>∃ β F ρ ds ρ',RS K β F H σ ρ/\(∀ i∈W,β.P i=false)/\Reps K F vs ds/\g ds ρ=some ρ'/\∀ σ',RS K β F H σ' ρ'->Q σ' H
def DG (X:Cx) (tg:Expr) (W:List Nat) (g:GD):Prop:=PG X tg (tG X.K W g)
theorem avz (i:Nat) {tg:Expr} (h:PG X tg (azj i)):DG X tg [i] (gN i):=by
 refine PG.imp h fun v σ H Q q=>?_;obtain ⟨β,F,ρ,d,ρ',r,hw,q,h,k⟩:=q;cases h;exact k _ (r.set_sh i (hw i (by simp)) q)
theorem aqmm:∀ {gs:List GD} {ds:List D} {ρ ρ':Cs},gT gs ds ρ=some ρ'->ds.length=gs.length
 | [],[],_,_,_=>rfl
 | g :: gs,d :: ds,ρ,ρ',h=>by
  obtain ⟨r1,_,h2⟩:=bind_some h;simp [aqmm h2]
 | [],_ :: _,_,_,h=>by simp [gT] at h
 | _ :: _,[],_,_,h=>by simp [gT] at h
def DGs (X:Cx) (ts:List Expr) (W:List Nat) (gs:List GD):Prop:=PGs X ts (tGs X.K W (gT gs))
theorem aqbt:DGs X [] [] []:=by
 intro pins s σ H vs us Q I rv q;refine aJu pins s σ H vs us Q I rv ?_;obtain ⟨β,F,ρ,ds,ρ',r,hw,q,h,k⟩:=q;cases q with
 | nil=>cases h; exact ⟨rfl,k _ r⟩
 | cons=>cases h
theorem avj {t:Expr} {ts:List Expr} {g:GD} {gs:List GD} (h1:DG X t W1 g) (h2:DGs X ts W2 gs)
  (hs:(B6 (t :: ts) X.env).map (·.2)=Il t X.env :: (B6 ts X.env).map (·.2):=by rfl):DGs X (t :: ts) (W1++W2) (g :: gs):=by
 intro pins s σ H vs us Q I rv q;refine axl h1 h2 hs pins s σ H vs us Q I rv ?_;obtain ⟨β,F,ρ,ds,ρ',r,hw,q,h,k⟩:=q;cases q with
 | nil=>cases h
 | cons q1 q2 =>
  obtain ⟨ρ1,h1,h2⟩:=bind_some h;exact ⟨_,_,rfl,β,F,ρ,_,ρ1,r,aqfw hw,q1,h1,fun σ' r'=>⟨β,F,ρ1,_,ρ',r',mem_r hw,q2,h2,k⟩⟩
theorem aqjc {ts:List Expr} {gs:List GD} {kk:Nat} (hc:X.calm=true) (h:DGs X ts W gs) (hn:(B6 ts X.env).length=gs.length:=by rfl) (hst:(B6 ts X.env).findIdx? (·.1)=none:=by rfl):DG X (.Tuple ts kk pos) W (gTp gs):=by
 refine PG.imp (aqdl hc h hn hst) fun v σ H Q q=>?_;obtain ⟨β,F,ρ,d,ρ',r,hw,q,h,k⟩:=q;unfold gTp at h;split at h
 ·rename_i ds
  cases q with
  | tup q t=>exact ⟨_,_,rfl,seqT r.ext.fh q,by rw [t.length]; exact aqmm h,β,F,ρ,ds,ρ',r,hw,t,h,k⟩
 ·cases h
theorem aqiv {K:Frag} {β:Bs} {F H:Hp} {σ:St} {ρ:Cs} {gD:GD} {bD:Blk} {d:D} {aqt6:List D} {o:Out} {E:Ends} {x:V} {N:St->Hp->Prop}
  (r:RS K β F H σ ρ) (hw1:∀ i∈W1,β.P i=false) (hw2:∀ i∈W2,β.P i=false) (q:Rep K F x d) (h:aqtp gD bD (d :: aqt6) ρ=some o) (k:EndS K β E o)
  (hN:∀ F' H' σ' ρ',aqu9 F F'->RS K β F' H' σ' ρ'->aqtp gD bD aqt6 ρ'=some o->N σ' H'):tG K W1 gD x σ H fun σ2 H2=>tS K W2 bD { E with nx:=N,ct:=N,bk:=E.nx } σ2 H2:=by
 obtain ⟨ρ1,h1,h2⟩:=bind_some h;refine ⟨β.re F,F,ρ,d,ρ1,r.rebase,hw1,q,h1,fun σ' r'=>?_⟩;cases hb1:bD ρ1 with
 | none=>rw [hb1] at h2; cases h2
 | some o1 =>
  rw [hb1] at h2;refine ⟨β.re F,F,ρ1,o1,r',hw2,hb1,?_⟩;cases o1 with
  | nx ρ2=>exact fun F' H' σ2 r2=>hN F' H' σ2 ρ2 r2.ext.ff (RS.unbase r.ext r2) h2
  | ct ρ2=>exact fun F' H' σ2 r2=>hN F' H' σ2 ρ2 r2.ext.ff (RS.unbase r.ext r2) h2
  | bk ρ2=>cases h2; exact fun F' H' σ2 r2=>k F' H' σ2 (RS.unbase r.ext r2)
  | rt d ρ2=>cases h2; exact fun F' H' σ2 v r2=>k F' H' σ2 v (RT.unbase r.ext r2)
  | ex d ρ2=>cases h2; exact k
theorem drop_cons {α:Type} {l:List α} {i:Nat} (h:i < l.length):l.drop i=l[i] :: l.drop (i + 1):=(List.getElem_cons_drop h).symm
theorem aqbo {tg iter:Expr} {body:List Stmt} {S:List Bool} {f:FE} {gD:GD} {bD:Blk} (hp:PassesOwn (model X.prog X.w) X.A X.env X.xe) (hc:X.calm=true) (hi:DE X iter f) (hg:DG X tg W1 gD) (hb:DSs X body W2 bD)
  (hs:∀ x,Cd iter X.env x=pure x:=by intro _; rfl):DS X (.For tg iter body [] pos) (W1++W2) (aqu3 S f gD bD):=by
 refine PS.imp (aX4 hp hc (aJ hi) hg hb hs) fun E σ H q=>?_;obtain ⟨β,F,ρ,o,r,hw,h,k⟩:=q;obtain ⟨d,hd,h⟩:=bind_some h;rw [aZ7] at h;split at h
 ·rename_i ds
  obtain ⟨G,l,re,rz⟩:=r.look S;refine ⟨G,frz S ρ,.lst ds,l.gh,re,hd,fun v F' H' e q=>?_⟩;cases q with
  | lst q t =>
   rename_i a vs;refine ⟨a,rfl,⟨vs,(aqt1 e.fh q).l⟩,fun i m σ H=>∃ F ρ,RS X.K β F H σ ρ/\SqE X.K F a vs/\Reps X.K F vs ds/\i <= ds.length/\m=ds.length - i/\aqtp gD bD (ds.drop i) ρ=some o,
    ⟨_,F',fz S ρ,rz.ext' e,q,t,zero_le _,rfl,h⟩,?_⟩
   rintro i m σ1 H1 ⟨F1,ρ1,r1,q1,t1,hi,rfl,h1⟩
   by_cases hl:i < ds.length
   ·have hv:i < vs.length:=by rw [t1.length]; exact hl
    refine .inr ⟨⟨vs,vs[i],(aqt1 r1.ext.fh q1).l,by simp [hv]⟩,fun σ' H'=>∃ F ρ,RS X.K β F H' σ' ρ/\SqE X.K F a vs/\Reps X.K F vs ds/\aqtp gD bD (ds.drop (i + 1)) ρ=some o,fun σ' H' ⟨F2,ρ2,r2,q2,t2,h2⟩=>⟨_,by omega,F2,ρ2,r2,q2,t2,hl,rfl,h2⟩,fun x H2 y=>?_⟩;obtain ⟨rfl,y⟩:=y;obtain ⟨d,hd1,hd2⟩:=t1.get (y vs (aqt1 r1.ext.fh q1).l);have ed:ds[i]=d:=by rw [getElem?_eq_getElem hl] at hd1; exact Option.some.inj hd1
    rw [drop_cons hl,ed] at h1;exact aqiv r1 (aqfw hw) (mem_r hw) hd2 h1 k fun F' H' σ' ρ' s r' h'=>⟨F',ρ',r',aqt1 s q1,t1.mono s,h'⟩
   ·refine .inl ⟨⟨vs,(aqt1 r1.ext.fh q1).l,by rw [t1.length]; omega⟩,?_⟩
    rw [drop_of_length_le (by omega)] at h1;cases h1;exact k F1 H1 σ1 r1
 ·cases h
theorem aZy {c:Expr} {body:List Stmt} {cD:FT} {bD:Blk} (hp:PassesOwn (model X.prog X.w) X.A X.env X.xe) (hc:DT X c cD) (hb:DSs X body W bD):DS X (.While c body [] pos) W (az4 cD bD):=by
 refine PS.imp (aY8 hp hc hb) fun E σ H q=>?_;obtain ⟨β,F,ρ,o,r,hw,h,k⟩:=q;obtain ⟨n,h⟩:=aKb h;refine ⟨fun m σ H=>∃ F ρ,RS X.K β F H σ ρ/\aZt cD bD m ρ=some o,⟨n,F,ρ,r,h⟩,?_⟩;rintro m σ1 H1 ⟨F1,ρ1,r1,h1⟩;cases m with
 | zero=>cases h1
 | succ m =>
  unfold aZt at h1;obtain ⟨t,ht,h1⟩:=bind_some h1;obtain ⟨G,l,re⟩:=r1.lookAll;refine ⟨G,DL.all ρ1,t,l.gh,re,ht,fun F' H' e=>?_⟩;have r2:=r1.back l e;cases t with
  | false =>
   rw [if_neg An] at h1;cases h1;exact aqti (k _ H' σ1 r2)
  | true =>
   rw [if_pos rfl] at h1;refine iteT ⟨fun σ' H'=>∃ F ρ,RS X.K β F H' σ' ρ/\aZt cD bD m ρ=some o,fun σ' H' q=>⟨m,lt_succ_self _,q⟩,?_⟩;cases hb1:bD ρ1 with
   | none=>rw [hb1] at h1; cases h1
   | some o1 =>
    rw [hb1] at h1;refine ⟨β,_,ρ1,o1,r2,hw,hb1,?_⟩;cases o1 with
    | nx ρ2=>exact fun F' H' σ2 r2=>⟨F',ρ2,r2,h1⟩
    | ct ρ2=>exact fun F' H' σ2 r2=>⟨F',ρ2,r2,h1⟩
    | bk ρ2=>cases h1; exact k
    | rt d ρ2=>cases h1; exact k
    | ex d ρ2=>cases h1; exact k
end
theorem aqod {K:Frag} {F H:Hp} {N:List Str} {vs:List V} {ds:List D} (s:aqu9 F H) (r:Reps K F vs ds):RS K ⟨F,H,fun _=>false,[]⟩ F H (L2.start N vs) (ini N.length ds) where
 ext:=Ext.refl s
 len:=by simp [L2.start,ini,r.length]
 pin:=fun i h=>by cases h
 own:=by
  refine ⟨fun _ _=>False,fun i o h=>?_,fun _ _ z=>z.elim,fun _ _ _ z=>z.elim⟩;unfold ini at h
  by_cases hi:i < ds.length
  ·rw [C9 (by simpa using hi),getElem?_map] at h
   cases q:ds[i]? with
   | none=>rw [q] at h; cases h
   | some d' =>
    rw [q] at h;cases h;obtain ⟨v,h1,h2⟩:=r.getD q;refine ⟨v,?_,.sh h2 fun _ z=>z⟩;unfold L2.start;rw [C9 (by rw [length_map,r.length]; exact hi),getElem?_map,h1];rfl
  ·rw [Hh (by simpa using hi)] at h
   have:=mem_of_getElem? h
   simp at this
section
variable {P:Ak} {w:World} {K:Frag} {mg:Str->Option Value} {base:Heap}
theorem fnO {x qual:Str} {st:Stmt} {f:Addr} {fd:Am} {N ps:List Str} {k n m:Nat} {W:List Nat} {b:Blk} (F:Fun K x qual st f fd) (S:FnScope N ps (af st)) (hn:ps.length=n) (hm:N.length=m)
  (hb:∀ (cdv:Value) (A:Around) (outer:List Env) (s:Shared) (H:Hp) (E:XK),Room k (A.deeper (Ja qual (af st) s.heap.objs.size f cdv))->DSs (cxOf CX0 P w K mg base N qual (af st) f cdv A outer s H E).nox (aqu st) W b) :
  FnOk P w K mg base CX0 (k + 1) f fd ps (spO K n (aqt2 m b)):=by
 subst hn hm;refine F.ok S (fun vs H Q E h=>?_) (fun cdv A outer s H vs Q E hr h=>⟨_,hb cdv A outer s H E hr,?_⟩)
 ·obtain ⟨F,ds,d,_,r,hl,_⟩:=h
  rw [r.length,hl]
 ·obtain ⟨F,ds,o,s,r,hl,h,k⟩:=h
  unfold aqt2 at h;cases hb1:b (ini N.length ds) with
  | none=>rw [hb1] at h; cases h
  | some o1 =>
   rw [hb1] at h;refine ⟨_,F,_,o1,aqod s r,fun _ _=>rfl,hb1,?_⟩;cases o1 with
   | nx ρ=>cases h; exact fun F' H' σ' r'=>k _ F' H' (fun _=>False) r'.ext (.sh .non fun _ z=>z) fun _ z=>z.elim
   | rt o' ρ =>
    cases h;intro F' H' σ' v r';obtain ⟨A,T,_,q,n,_⟩:=r'.own;exact k v F' H' T r'.ext q n
   | bk ρ=>cases h
   | ct ρ=>cases h
   | ex c ρ=>cases h
theorem FnOk.d {f:Addr} {fd:Am} {ps:List Str} {k n:Nat} {g:List D->Option O} (F:FnOk P w K mg base CX0 k f fd ps (spO K n g)):FnOk P w K mg base CX0 k f fd ps (spD K n fun ds=>(g ds).bind oD) :=
 F.imp fun vs H Q E h=>by
  obtain ⟨F,ds,d,s,r,hl,hg,k⟩:=h;obtain ⟨o,ho,hd⟩:=bind_some hg;exact ⟨F,ds,o,s,r,hl,ho,fun v F' H' A e q hA=>k v (aqu5 F' H' A) H' (aVh e hA) (q.rep (akb fun b z=>(hA b z).1) hd fun b z=>axv z)⟩
end
theorem aqp5 {K:Frag} {g:List D->Option D} {H:Hp} {a:Addr} {ns:List Int} (h:g [.lst (ns.map .int)]=some (.bl true)) (hS:SqE K H a (ns.map V.int)):spD K 1 g [.ref a] H (fun v _=>v=.bl true) fun _ _ _=>False :=
 ⟨H,[.lst (ns.map .int)],.bl true,aqu9.refl _,.cons (.lst hS (aR ns)) .nil,rfl,h,fun v F' H' _ r=>by cases r; rfl⟩
theorem law_call {P:Ak} {w:World} {K:Frag} {mg mb:Str->Option Value} {CX:CXT} {k:Nat} {fa a:Addr} {fd:Am} {x:Str} {sp:Sp} {s₁:Shared} {vs:List Value} {ns:List Int}
  (KX:K.In s₁.heap) (hns:s₁.heap.Ns Aq mg) (hb:s₁.heap.Ns K5 mb) (hbb:∀ x:Str,x ≠ "__name__"->mb x=A6 x) (hlim:s₁.heap.NoLimit) (hg:s₁.gens=#[])
  (ha:s₁.heap.get? a=some { cls:=.type "list",data:=.seq vs.toArray }) (hi:IntsAre vs ns) (hl:ns.length <= Aj) (hr:Room k G7)
  (F:∀ base:Heap,K.In base->base.Ns Aq mg->FnOk P w K mg base CX k fa fd [x] sp) (hbind:∀ (s:Shared) (u:Value),Ia s fd ⟨[u],[]⟩ [(x,u)])
  (hsp:∀ H:Hp,SqE K H a (ns.map V.int)->sp [.ref a] H (fun v _=>v=.bl true) fun _ _ _=>False)
  (hCX:∀ H e s',CX [] H s₁ (fun _ _ _=>False) e s'->False) :
  Dp (model P w) G7 (.call (.ref fa) ⟨[.ref a],[]⟩) (fun r s'=>r=.ok (.ret (.bool true))/\OldK s₁.heap s'.heap/\s'.os=s₁.os/\G5 s'.gens) s₁:=by
 refine L2.law_call KX hns hb hbb hlim hg ha hi hl hr F hbind (fun H _ hS=>hsp H ?_) hCX;rcases hS with h | ⟨o,its,n,hk,hc,hd,hs,hz,r⟩
 ·exact .inl h
 ·have e:=KX a o hk
  rw [ha] at e;cases e;exact .inr ⟨vs,_,hk,by rw [length_map]; exact hl,aQe hi⟩
theorem aqey {l:Gv} {n k:Nat} {q:Ak} {loose:List Str} {XP:(Str->Option Value)->Heap->Prop} {YP:World->Heap->Prop} {d:DefRec} {K:Params->Frag} {CX:World->CXT} {sp:World->Sp} {x:Str}
  (hn:l.most=some n) (hn2:n <= Aj) (hdf:d.params.defaults=[]) (hr:Room k G7)
  (hY:∀ (w:World) (h:Heap),YP w h->(K w.params).In h)
  (F:∀ (w:World) (mg:Str->Option Value) (fa:Addr) (h:Heap),(K w.params).In h->h.Ns Aq mg->mg d.name=some (.ref fa) ->
   ∃ fd:Am,(∀ (s:Shared) (u:Value),Ia s fd ⟨[u],[]⟩ [(x,u)]) /\
    ∀ base:Heap,(K w.params).In base->base.Ns Aq mg->FnOk l.prog w (K w.params) mg base (CX w) k fa fd [x] (sp w))
  (hsp:∀ (w:World) (H:Hp) (a:Addr) (ns:List Int),ns.length <= n->SqE (K w.params) H a (ns.map V.int)->sp w [.ref a] H (fun v _=>v=.bl true) fun _ _ _=>False)
  (hCX:∀ (w:World) (H:Hp) (s:Shared) (e:Value) (s':Shared),CX w [] H s (fun _ _ _=>False) e s'->False) :
  Kx q loose XP YP l.row.toRowW d [] (fun f vs=>PySem.call f vs):=by
 refine Att.attach_call hn hdf fun w s₀ s₁ mg mb fa o pm cd doc a vs ns G Y ho hd hcd hmg hobj hints hlen hg=>?_;have KX:=hY w _ Y;obtain ⟨fd,hb,hF⟩:=F w mg fa _ KX G.T.g hmg;exact law_call KX G.T.g G.T.b G.T.builtins G.T.nolimit hg hobj hints (le_trans hlen hn2) hr hF hb (fun H hS=>hsp w H a ns hlen hS) fun H e s'=>hCX w H s₁ e s'
def Fn (P:Ak) (w:World) (K:Frag) (mg:Str->Option Value) (base:Heap) (k:Nat) (x:Str) (ps:List Str) (sp:Sp):Prop :=
 ∃ f fd,FnOk P w K mg base CX0 k f fd ps sp/\mg x=some (.ref f)/\Gr K (.ref f)=true/\Binds K fd ps []
section
variable {X:Cx} {k n:Nat} {x:Str} {ps:List Str} {a:Expr} {es:List Expr} {p pos:Pos}
theorem ajv {g:List D->Option D} {h:FA} (G:Fn X.prog X.w X.K X.mg X.base k x ps (spD X.K n g)) (hr:Room k X.A) (hg:Gl X x) (ha:DA X (a :: es) h)
  (hdb:(x == ("__debug__":Str))=false:=by decide) (he:Ap (a :: es) X.env=(false,eval a X.env) :: Ap es X.env:=by rfl) (hpl:(C1 pos (Ap es X.env)).any (·.1)=false:=by rfl) :
  DE X (.Call (.Name x p) (a :: es) [] pos) (aq1 n g h):=by
 obtain ⟨f,fd,F,hm,hk,hb⟩:=G;exact aqmz F hr hg hm hk hb ha hdb he hpl
theorem aqja {g:List D->Option O} {h:FA} (G:Fn X.prog X.w X.K X.mg X.base k x ps (spO X.K n g)) (hr:Room k X.A) (hg:Gl X x) (ha:DA X (a :: es) h)
  (hdb:(x == ("__debug__":Str))=false:=by decide) (he:Ap (a :: es) X.env=(false,eval a X.env) :: Ap es X.env:=by rfl) (hpl:(C1 pos (Ap es X.env)).any (·.1)=false:=by rfl) :
  DO X (.Call (.Name x p) (a :: es) [] pos) (aqcr n g h):=by
 obtain ⟨f,fd,F,hm,hk,hb⟩:=G;exact aqmt F hr hg hm hk hb ha hdb he hpl
end
theorem aqq7 {α:Type} (xs:List α) (i:Int):atP xs i=atI xs i:=rfl
theorem aqpb {n j:Nat} {i:Int} (h:ixP n i=some j):j < n:=(aqb8 h).2.1
inductive At (F H:Hp):V->List Stp->V->Prop
 | nil {v:V}:At F H v [] v
 | lst {a:Addr} {vs:List V} {i:Int} {n:Nat} {w v':V} {p:List Stp} (h:H a=some (.lst vs)) (hn:ixP vs.length i=some n) (hv:vs[n]?=some w) (t:At F H w p v'):At F H (.ref a) (.ix i :: p) v'
 | tup {a:Addr} {vs:List V} {i:Int} {n:Nat} {w v':V} {p:List Stp} (h:F a=some (.tup vs)) (hn:ixP vs.length i=some n) (hv:vs[n]?=some w) (t:At F H w p v'):At F H (.ref a) (.ix i :: p) v'
section
variable {K:Frag} {β:Bs} {F F' H H':Hp} {σ:St} {ρ:Cs}
theorem At.mono (sF:aqu9 F F') (sH:aqu9 H H') {v v':V} {p:List Stp} (h:At F H v p v'):At F' H' v p v':=by
 induction h with
 | nil=>exact .nil
 | lst h hn hv _ ih=>exact .lst (sH _ _ h) hn hv ih
 | tup h hn hv _ ih=>exact .tup (sF _ _ h) hn hv ih
theorem At.uniq (s:aqu9 F H) {v v1 v2:V} {p:List Stp} (h:At F H v p v1) (h':At F H v p v2):v1=v2:=by
 induction h with
 | nil=>cases h'; rfl
 | lst h hn hv _ ih =>
  cases h' with
  | lst g gn gv t =>
   rw [h] at g; cases g;rw [hn] at gn; cases gn;rw [hv] at gv; cases gv;exact ih t
  | tup g _ _ _=>have:=s _ _ g; rw [h] at this; cases this
 | tup h hn hv _ ih =>
  cases h' with
  | lst g _ _ _=>have:=s _ _ h; rw [g] at this; cases this
  | tup g gn gv t =>
   rw [h] at g; cases g;rw [hn] at gn; cases gn;rw [hv] at gv; cases gv;exact ih t
theorem At.snoc {v w v':V} {p:List Stp} {s:Stp} (h:At F H v p w) (h':At F H w [s] v'):At F H v (p++[s]) v':=by
 induction h with
 | nil=>exact h'
 | lst h hn hv _ ih=>exact .lst h hn hv (ih h')
 | tup h hn hv _ ih=>exact .tup h hn hv (ih h')
def putO (o':O) (p:List Stp) (o:O):Option O:=atO (fun _=>some o') p o
theorem Own.focus:∀ {p:List Stp} {v:V} {c o:O} {A:AS},Own K F H v c A->aqtn p c=some o ->
  ∃ (v':V) (A1 A2:AS),At F H v p v'/\Own K F H v' o A1/\(∀ b,A b ↔ A1 b \/ A2 b)/\(∀ b,A1 b->¬ A2 b) /\
   ∀ (F' H':Hp) (o':O) (A1':AS),aqu9 F F'->(∀ b,A2 b->H' b=H b)->Own K F' H' v' o' A1'->(∀ b,A1' b->¬ A2 b)->∃ c',putO o' p c=some c'/\Own K F' H' v c' fun b=>A1' b \/ A2 b
 | [],v,c,o,A,h,e=>by
  cases e;exact ⟨v,A,fun _=>False,.nil,h,fun b=>⟨.inl,fun z=>z.elim id Az⟩,fun _ _ z=>z,fun F' H' o' A1' _ _ q _=>⟨o',rfl,q.congr fun b=>⟨.inl,fun z=>z.elim id Az⟩⟩⟩
 | s :: p,v,c,o,A,h,e=>by
  have ex:∃ n k,plc c s=some n/\(kids c)[n]?=some k/\aqtn p k=some o:=by
   unfold aqtn at e;obtain ⟨n,hn,e⟩:=bind_some e;obtain ⟨k,hk,e⟩:=bind_some e;exact ⟨n,k,hn,hk,e⟩
  clear e;obtain ⟨n,k,hn,hk,e⟩:=ex;cases h with
  | sh _ _=>cases s <;> cases hn
  | lst h0 n0 r hA =>
   rename_i a vs os A';cases s with
   | fl x=>cases hn
   | ix i =>
    obtain ⟨w,B1,B2,h1,h2,h3,h4,h5⟩:=r.split (n:=n) (o:=k) hk;obtain ⟨v',A1,A2,g1,g2,g3,g4,g5⟩:=Own.focus (p:=p) h2 e;have hn':ixP vs.length i=some n:=by rw [r.length]; exact hn
    refine ⟨v',A1,fun b=>b=a \/ A2 b \/ B2 b,.lst h0 hn' h1 g1,g2,fun b=>?_,fun b x y=>?_,fun F' H' o' A1' sF kk q dd=>?_⟩
    ·rw [hA b,h3 b,g3 b]
     exact ⟨fun z=>z.elim (fun y=>.inr (.inl y)) fun y=>y.elim (fun x=>x.elim .inl fun w=>.inr (.inr (.inl w))) fun w=>.inr (.inr (.inr w)),fun z=>z.elim (fun y=>.inr (.inl (.inl y))) fun y=>y.elim .inl fun x=>x.elim (fun w=>.inr (.inl (.inr w))) fun w=>.inr (.inr w)⟩
    ·rcases y with rfl | y | y
     ·exact n0 ((h3 b).mpr (.inl ((g3 b).mpr (.inl x))))
     ·exact g4 b x y
     ·exact h4 b ((g3 b).mpr (.inl x)) y
    ·obtain ⟨c',e1,e2⟩:=g5 F' H' o' A1' sF (fun b z=>kk b (.inr (.inl z))) q fun b x y=>dd b x (.inr (.inl y))
     have e3:=h5 F' H' w c' (fun b=>A1' b \/ A2 b) sF (fun b z=>kk b (.inr (.inr z))) e2 fun b x y=>by
      rcases x with x | x
      ·exact dd b x (.inr (.inr y))
      ·exact h4 b ((g3 b).mpr (.inr x)) y
     have ev:vs.set n w=vs:=by
      apply Ic ; intro j
      by_cases hj:j=n
      ·subst hj
       rw [h1,getElem?_set_self (Ai.mp h1).1]
      ·rw [getElem?_set_ne (B4 hj)]
     rw [ev] at e3;refine ⟨.lst (os.set n c'),?_,.lst ((kk a (.inl rfl)).trans h0) (A':=fun b=>(A1' b \/ A2 b) \/ B2 b) ?_ e3 fun b=>?_⟩
     ·have:os[n]?=some k:=hk
      unfold putO at e1 ⊢;simp only [atO,hn,this,e1,Option.bind_some,Option.map_some,reset,kids]
     ·rintro ((z | z) | z)
      ·exact dd a z (.inl rfl)
      ·exact n0 ((h3 a).mpr (.inl ((g3 a).mpr (.inr z))))
      ·exact n0 ((h3 a).mpr (.inr z))
     ·exact ⟨fun z=>z.elim (fun y=>.inr (.inl (.inl y))) fun y=>y.elim .inl fun x=>x.elim (fun w=>.inr (.inl (.inr w))) fun w=>.inr (.inr w),fun z=>z.elim (fun y=>.inr (.inl y)) fun y=>y.elim (fun x=>x.elim .inl fun w=>.inr (.inr (.inl w))) fun w=>.inr (.inr (.inr w))⟩
  | tup h0 r =>
   rename_i a vs os;cases s with
   | fl x=>cases hn
   | ix i =>
    obtain ⟨w,B1,B2,h1,h2,h3,h4,h5⟩:=r.split (n:=n) (o:=k) hk;obtain ⟨v',A1,A2,g1,g2,g3,g4,g5⟩:=Own.focus (p:=p) h2 e;have hn':ixP vs.length i=some n:=by rw [r.length]; exact hn
    refine ⟨v',A1,fun b=>A2 b \/ B2 b,.tup h0 hn' h1 g1,g2,fun b=>?_,fun b x y=>?_,fun F' H' o' A1' sF kk q dd=>?_⟩
    ·rw [h3 b,g3 b,or_assoc]
    ·rcases y with y | y
     ·exact g4 b x y
     ·exact h4 b ((g3 b).mpr (.inl x)) y
    ·obtain ⟨c',e1,e2⟩:=g5 F' H' o' A1' sF (fun b z=>kk b (.inl z)) q fun b x y=>dd b x (.inl y)
     have e3:=h5 F' H' w c' (fun b=>A1' b \/ A2 b) sF (fun b z=>kk b (.inr z)) e2 fun b x y=>by
      rcases x with x | x
      ·exact dd b x (.inr y)
      ·exact h4 b ((g3 b).mpr (.inr x)) y
     have ev:vs.set n w=vs:=by
      apply Ic ; intro j
      by_cases hj:j=n
      ·subst hj
       rw [h1,getElem?_set_self (Ai.mp h1).1]
      ·rw [getElem?_set_ne (B4 hj)]
     rw [ev] at e3;refine ⟨.tup (os.set n c'),?_,.tup (sF _ _ h0) (e3.congr fun b=>or_assoc)⟩
     have:os[n]?=some k:=hk
     unfold putO at e1 ⊢;simp only [atO,hn,this,e1,Option.bind_some,Option.map_some,reset,kids]
theorem aJi {g:O->Option O}:∀ {p:List Stp} {c c':O},atO g p c=some c'->∃ o o',aqtn p c=some o/\g o=some o'/\putO o' p c=some c'
 | [],c,c',h=>⟨c,c',rfl,h,rfl⟩
 | s :: p,c,c',h=>by
  unfold atO at h;obtain ⟨n,hn,h⟩:=bind_some h;obtain ⟨k,hk,h⟩:=bind_some h;obtain ⟨k',h',rfl⟩:=map_some h;obtain ⟨o,o',e1,e2,e3⟩:=aJi h';refine ⟨o,o',by simp only [aqtn,hn,hk,Option.bind_some,e1],e2,?_⟩;unfold putO at e3 ⊢;simp only [atO,hn,hk,e3,Option.bind_some,Option.map_some]
theorem RT.frame {v:V} {o:O} (r:RT K β F H σ ρ v o):∃ B',RS K ⟨β.F₀,B',β.P,β.σ₀⟩ F H σ ρ/\∀ (F' H':Hp) (σ':St) (ρ':Cs),aqu9 F F'->RS K ⟨β.F₀,B',β.P,β.σ₀⟩ F' H' σ' ρ'->RT K β F' H' σ' ρ' v o:=by
 obtain ⟨A,T,⟨h1,h2,h3⟩,q,n,d⟩:=r.own;have hT:∀ b,T b->∃ u,H b=some u:=fun b z=>by obtain ⟨u,h,_⟩:=q.there b z; exact ⟨u,h⟩
 have e:=r.ext;refine ⟨aqu5 β.B H T,⟨⟨e.ff,e.fh,aqcq e.hh,fun b u z=>?_⟩,r.len,r.pin,A,h1,fun i b z=>?_,h3⟩,fun F' H' σ' ρ' sF r'=>⟨⟨r'.ext.ff,r'.ext.fh,fun b u z=>?_,fun b u z=>?_⟩,r'.len,r'.pin,?_⟩⟩
 ·rcases e.nw b u z with y | y
  ·exact .inl y
  ·refine .inr ((ajp fun t=>?_).trans y)
   rw [(n b t).1] at z; cases z
 ·obtain ⟨e1,e2,e3⟩:=h2 i b z
  exact ⟨e1,(ajp (d i b z)).trans e2,e3⟩
 ·refine r'.ext.hh b u ((ajp fun t=>?_).trans z)
  rw [(n b t).2] at z; cases z
 ·rcases r'.ext.nw b u z with y | y
  ·exact .inl y
  ·by_cases t:T b
   ·exact .inr (n b t).2
   ·have y':aqu5 β.B H T b=none:=y
    rw [ajp t] at y'; exact .inr y'
 ·obtain ⟨A',g1,g2,g3⟩:=r'.own
  have nB:∀ b,T b->aqu5 β.B H T b ≠ none:=fun b t z=>by
   rw [axv t] at z;obtain ⟨u,hu⟩:=hT b t;rw [hu] at z; cases z
  refine ⟨A',T,⟨g1,fun i b z=>?_,g3⟩,q.stay sF fun b t=>?_,fun b t=>⟨?_,(n b t).2⟩,fun i b x t=>nB b t (g2 i b x).2.1⟩
  ·obtain ⟨e1,e2,e3⟩:=g2 i b z
   refine ⟨e1,?_,e3⟩;have e2':aqu5 β.B H T b=none:=e2;rw [ajp fun t=>nB b t e2'] at e2';exact e2'
  ·obtain ⟨u,hu⟩:=hT b t
   rw [hu];exact r'.ext.hh b u ((axv t).trans hu)
  ·cases z:F' b with
   | none=>rfl
   | some u =>
    exfalso;rcases r'.ext.nw b u z with y | y
    ·have:=e.ff b u y
     rw [(n b t).1] at this; cases this
    ·exact nB b t y
theorem RT.change {v1:V} {o1:O} (r:RT K β F H σ ρ v1 o1) {i:Nat} {c:O} (hc:ρ[i]?=some (some c)) {p:List Stp} {o:O} (ho:aqtn p c=some o) :
  ∃ (v0 v:V) (A1 T:AS),σ[i]?=some (some v0)/\At F H v0 p v/\Own K F H v o A1/\Own K F H v1 o1 T/\(∀ b,A1 b->¬ T b) /\
   ∀ (x:Addr) (u:HO) (A1':AS) (o' c':O),A1 x->(∀ b,A1' b->A1 b \/ T b)->Own K F (upd H x u) v o' A1'->putO o' p c=some c'->RS K β F (upd H x u) σ (ρ.set i (some c')):=by
 obtain ⟨A,T,⟨h1,h2,h3⟩,qT,hT,hd⟩:=r.own;obtain ⟨v0,e1,q⟩:=h1 i c hc;obtain ⟨v,A1,A2,g1,g2,g3,g4,g5⟩:=q.focus ho;refine ⟨v0,v,A1,T,e1,g1,g2,qT,fun b z=>hd i b ((g3 b).mpr (.inl z)),fun x u A1' o' c' hx hs q' hp=>?_⟩;have xi:A i x:=(g3 x).mpr (.inl hx);have xF:=h2 i x xi;have sH:∀ b w,b ≠ x->H b=some w->upd H x u b=some w:=fun b w ne e=>by rw [ae ne]; exact e
 obtain ⟨c2,f1,f2⟩:=g5 F (upd H x u) o' A1' (aqu9.refl _) (fun b z=>ae (by rintro rfl; exact g4 b hx z)) q' fun b z y=>by
  rcases hs b z with t | t
  ·exact g4 b t y
  ·exact hd i b ((g3 b).mpr (.inr y)) t
 rw [hp] at f1; cases f1;refine ⟨⟨r.ext.ff,fun b w e=>sH b w (ac e xF.1) (r.ext.fh b w e),fun b w e=>sH b w (ac e xF.2.1) (r.ext.hh b w e),r.ext.nw⟩,by simpa using r.len,r.pin,fun j b=>(j ≠ i/\A j b) \/ (j=i/\(A1' b \/ A2 b)),fun j o1 h=>?_,fun j b h=>?_,fun j k b a1 a2=>?_⟩
 ·rcases aqbg h with ⟨rfl,e,_⟩ | ⟨ne,h⟩
  ·cases e
   exact ⟨v0,e1,f2.congr fun b=>⟨fun z=>.inr ⟨rfl,z⟩,fun z=>z.elim (fun y=>absurd rfl y.1) (·.2)⟩⟩
  ·obtain ⟨v',k1,k2⟩:=h1 j o1 h
   refine ⟨v',k1,(k2.stay (aqu9.refl _) (H':=upd H x u) fun b z=>ae ?_).congr fun b=>⟨fun z=>.inl ⟨ne,z⟩,fun z=>z.elim (·.2) fun y=>absurd y.1 ne⟩⟩;rintro rfl;exact ne (h3 j i b z xi)
 ·rcases h with ⟨ne,h⟩ | ⟨rfl,h⟩
  ·obtain ⟨k1,k2,o1,k3⟩:=h2 j b h
   exact ⟨k1,k2,o1,by rw [getElem?_set_ne (B4 ne)]; exact k3⟩
  ·have hb:F b=none/\β.B b=none:=by
    rcases h with h | h
    ·rcases hs b h with t | t
     ·exact ⟨(h2 j b ((g3 b).mpr (.inl t))).1,(h2 j b ((g3 b).mpr (.inl t))).2.1⟩
     ·exact hT b t
    ·exact ⟨(h2 j b ((g3 b).mpr (.inr h))).1,(h2 j b ((g3 b).mpr (.inr h))).2.1⟩
   exact ⟨hb.1,hb.2,c',getElem?_set_self (Ai.mp hc).1⟩
 ·have key:∀ {j b},j ≠ i->A j b->¬ (A1' b \/ A2 b):=fun {j b} ne h z=>by
   rcases z with z | z
   ·rcases hs b z with t | t
    ·exact ne (h3 j i b h ((g3 b).mpr (.inl t)))
    ·exact hd j b h t
   ·exact ne (h3 j i b h ((g3 b).mpr (.inr z)))
  rcases a1 with ⟨n1,a1⟩ | ⟨rfl,a1⟩ <;> rcases a2 with ⟨n2,a2⟩ | ⟨rfl,a2⟩
  ·exact h3 j k b a1 a2
  ·exact absurd a2 (key n1 a1)
  ·exact absurd a1 (key n2 a2)
  ·rfl
end
def tP (K:Frag) (i:Nat) (S:List Bool) (p:FP):TE:=fun σ H Q=>∃ β F ρ q c o,RS K β F H σ ρ/\p (frz S ρ)=some q/\ρ[i]?=some (some c)/\aqtn q c=some o /\
 ∀ v0 v F' H',σ[i]?=some (some v0)->aqu9 F F'->aqu9 H H'->RS K β F' H' σ ρ->At F' H' v0 q v->Q v H'
def DP (X:Cx) (e:Expr) (i:Nat) (S:List Bool) (p:FP):Prop:=PE X e (tP X.K i S p)
section
variable {X:Cx} {e k:Expr} {pos:Pos} {i:Nat} {S:List Bool} {p:FP}
theorem aXb {x:Str} (h:PE X (.Name x pos) (aqsw i)):DP X (.Name x pos) i S pNil:=by
 refine PE.imp h fun σ H Q q=>?_;obtain ⟨β,F,ρ,q,c,o,r,hq,hc,ho,k⟩:=q;cases hq;obtain ⟨A,h1,_⟩:=r.own;obtain ⟨v,e1,_⟩:=h1 i c hc;exact ⟨v,e1,k v v F H e1 (aqu9.refl _) (aqu9.refl _) r .nil⟩
theorem at_of {K:Frag} {β:Bs} {F H F' H':Hp} {σ:St} {ρ:Cs} {v v1:V} {o1 c o:O} {v0:V} {q:List Stp} (rt:RT K β F' H' σ ρ v1 o1) (hc:ρ[i]?=some (some c)) (ho:aqtn q c=some o) (e0:σ[i]?=some (some v0)) (sF:aqu9 F F') (sH:aqu9 H H') (h:At F H v0 q v) :
  ∃ (A1 T:AS),Own K F' H' v o A1/\Own K F' H' v1 o1 T/\(∀ b,A1 b->¬ T b)/\∀ (x:Addr) (u:HO) (A1':AS) (o' c':O),A1 x->(∀ b,A1' b->A1 b \/ T b)->Own K F' (upd H' x u) v o' A1'->putO o' q c=some c'->RS K β F' (upd H' x u) σ (ρ.set i (some c')):=by
 obtain ⟨v0',v',A1,T,e1,a1,q1,q2,d,k⟩:=rt.change hc ho;rw [e0] at e1; cases e1
 have:=(h.mono sF sH).uniq rt.ext.fh a1
 subst this;exact ⟨A1,T,q1,q2,d,k⟩
theorem some_of {c:Option (Option O)} {o:O} (h:c.bind id=some o):c=some (some o):=by
 cases c with
 | none=>cases h
 | some c=>cases c with
  | none=>cases h
  | some o'=>cases h; rfl
theorem aqj7 {f:FM} {st:Stmt} (hp:PS X st (tDrop (tBM X.K "list" aqfg (tP X.K i S p) (az6 (tM X.K f) aqsx)))):DS X st [] (bMut i S p f gApp):=by
 refine PS.imp hp fun E σ H z=>?_;obtain ⟨β,F,ρ,o,r,hw,h,k⟩:=z;obtain ⟨q,hq,h⟩:=bind_some h;obtain ⟨c0,hc0,h⟩:=bind_some h;have hc0:=some_of hc0;obtain ⟨m0,ho0',h⟩:=bind_some h;split at h
 ·rename_i hm0
  obtain ⟨os0,rfl⟩:∃ os0,m0=.lst os0:=by cases m0 <;> first | exact ⟨_,rfl⟩ | cases hm0
  have ho0:=ho0';obtain ⟨rr,hf,h⟩:=bind_some h;obtain ⟨c1,hc1,h⟩:=bind_some h;obtain ⟨c',hc',rfl⟩:=map_some h;obtain ⟨m,m',g1,g2,g3⟩:=aJi hc';have hc1:=some_of hc1;refine ⟨β,F,ρ,q,c0,.lst os0,r,hq,hc0,ho0,fun v0 v F1 H1 e0 s1 s2 r1 at1=>⟨?_,β,F1,ρ,rr,r1,hf,fun w F2 H2 sF sH rt=>?_⟩⟩
  ·obtain ⟨A,h1,_⟩:=r1.own
   obtain ⟨v0',e0',qq⟩:=h1 i c0 hc0;rw [e0] at e0'; cases e0';obtain ⟨v',Aa,Ab,a1,a2,a3⟩:=qq.focus ho0
   have:=at1.uniq r1.ext.fh a1
   subst this;cases a2 with
   | lst h0 _ _ _=>exact .inl ⟨rfl,_,SqL.of h0⟩
  ·obtain ⟨A1,T,q1,q2,d,fin⟩:=at_of rt hc1 g1 e0 sF sH at1
   unfold gApp at g2;split at g2
   ·rename_i os
    split at g2
    ·rename_i hlen
     cases g2;cases q1 with
     | lst h0 n0 rv hA =>
      rename_i a vs A';have nT:¬ T a:=d a ((hA a).mpr (.inl rfl));refine ⟨a,vs,w,rfl,rfl,h0,by rw [rv.length]; exact lt_of_lt_of_le hlen (az0 (le_refl _)),?_⟩;refine k F2 _ σ (fin a _ (fun b=>b=a \/ (A' b \/ T b)) _ c' ((hA a).mpr (.inl rfl)) (fun b z=>?_) (.lst aa (A':=fun b=>A' b \/ T b) (fun z=>z.elim n0 nT) ?_ fun _=>Lq) g3)
      ·rcases z with z | z | z
       ·exact .inl ((hA b).mpr (.inl z))
       ·exact .inl ((hA b).mpr (.inr z))
       ·exact .inr z
      ·refine (rv.stay (aqu9.refl _) (H':=upd H2 a (.lst (vs++[w]))) fun b z=>ae (by rintro rfl; exact n0 z)).append (.cons (q2.stay (aqu9.refl _) (H':=upd H2 a (.lst (vs++[w]))) fun b z=>ae (by rintro rfl; exact nT z)) (.nil (A:=fun _=>False) fun _ z=>z) (fun _ _ z=>z) fun b=>⟨.inl,fun z=>z.elim id Az⟩) fun b z y=>?_
       exact d b ((hA b).mpr (.inr z)) y
    ·cases g2
   ·cases g2
 ·cases h
theorem aqps {kx:FE} {f:FM} {st:Stmt} (hp:PS X st (tAsg (tM X.K f) (gSub (tP X.K i S p) (tD X.K kx) rSetL))):DS X st [] (bPut i S p kx f):=by
 refine PS.imp hp fun E σ H z=>?_;obtain ⟨β,F,ρ,o,r,hw,h,k⟩:=z;obtain ⟨rr,hf,ha⟩:=bind_some h;obtain ⟨q,hq,hb⟩:=bind_some ha;obtain ⟨dk,hdk,hc⟩:=bind_some hb;obtain ⟨c0,hc0',hd⟩:=bind_some hc;have hc0:=some_of hc0';clear h ha hb hc hc0';have h:=hd;clear hd;split at h
 ·rename_i j
  obtain ⟨c',hc',rfl⟩:=map_some h;obtain ⟨m,m',g1,g2,g3⟩:=aJi hc';refine ⟨β,F,ρ,rr,r,hf,fun w F1 H1 _ _ rt=>?_⟩;obtain ⟨B',rs,back⟩:=rt.frame;refine ⟨_,F1,rr.2,q,c0,m,rs,hq,hc0,g1,fun v0 v F2 H2 e0 s1 s2 r2 at2=>?_⟩;obtain ⟨G,l,re,rz⟩:=r2.look S;refine ⟨G,frz S rr.2,_,l.gh,re,hdk,fun y F3 H3 e3 q3=>?_⟩;cases q3;have r3:=r2.back l e3;have rt3:=back _ H3 σ rr.2 (s1.trans aq9) r3;obtain ⟨A1,T,q1,q2,d,fin⟩:=at_of rt3 hc0 g1 e0 (aq9 (F:=F2) (H:=H2) (F':=F3)) e3.hh at2;unfold gSetI at g2;split at g2
  ·rename_i os
   obtain ⟨n,hn,rfl⟩:=map_some g2;cases q1 with
   | lst h0 n0 rv hA =>
    rename_i a vs A';have nT:¬ T a:=d a ((hA a).mpr (.inl rfl));have hn':ixP vs.length j=some n:=by rw [rv.length]; exact hn
    have hlt:n < os.length:=aqpb hn;obtain ⟨w0,B1,B2,b1,b2,b3,b4,b5⟩:=rv.split (n:=n) (o:=os[n]) (getElem?_eq_getElem hlt);refine ⟨a,vs,j,n,rfl,rfl,h0,hn',?_⟩;have own':=b5 (az5 F2 H2 F3) (upd H3 a (.lst (vs.set n w))) w rr.1 T (aqu9.refl _) (fun b z=>ae (by rintro rfl; exact n0 ((b3 b).mpr (.inr z)))) (q2.stay (aqu9.refl _) fun b z=>ae (by rintro rfl; exact nT z)) fun b z y=>d b ((hA b).mpr (.inr ((b3 b).mpr (.inr y)))) z;refine k (az5 F2 H2 F3) _ σ (fin a _ (fun b=>b=a \/ (T b \/ B2 b)) _ c' ((hA a).mpr (.inl rfl)) (fun b z=>?_) (.lst aa (A':=fun b=>T b \/ B2 b) ?_ own' fun _=>Lq) g3)
    ·rcases z with z | z | z
     ·exact .inl ((hA b).mpr (.inl z))
     ·exact .inr z
     ·exact .inl ((hA b).mpr (.inr ((b3 b).mpr (.inr z))))
    ·rintro (z | z)
     ·exact nT z
     ·exact n0 ((b3 a).mpr (.inr z))
  ·cases g2
 ·cases h
end
end DL
namespace DL
open PySem PySem.Spec PyProof.Rows L2 PySem.SeqAt
theorem aqn6 {g:Int->Int->Int} {x y d:D} (h:dI g x y=some d):∃ i j,x=.int i/\y=.int j/\d=.int (g i j):=by
 unfold dI at h;split at h
 ·cases h; exact ⟨_,_,rfl,rfl,rfl⟩
 ·cases h
theorem aqn7 {g:Int->Int->Bool} {x y d:D} (h:dB g x y=some d):∃ i j,x=.int i/\y=.int j/\d=.bl (g i j):=by
 unfold dB at h;split at h
 ·cases h; exact ⟨_,_,rfl,rfl,rfl⟩
 ·cases h
section
variable {K:Frag} {X:Cx}
theorem aqon {g:Int->Int->Int}:OpD K (rI0 fun i j=>.int (g i j)) (dI g):=by
 intro x y d F H v u Q h s rx ry k;obtain ⟨i,j,rfl,rfl,rfl⟩:=aqn6 h;cases rx; cases ry;exact ⟨i,j,rfl,rfl,k _ F H (Ext.refl s) (.int _)⟩
theorem aqhn {g:Int->Int->Bool}:OpD K (rI0 fun i j=>.bl (g i j)) (dB g):=by
 intro x y d F H v u Q h s rx ry k;obtain ⟨i,j,rfl,rfl,rfl⟩:=aqn7 h;cases rx; cases ry;exact ⟨i,j,rfl,rfl,k _ F H (Ext.refl s) (.bl _)⟩
def rAddD:R2:=fun x y H Q=>(∃ i j,x=.int i/\y=.int j/\Q (.int (i + j)) H) \/ ∃ i j,x=.str i/\y=.str j/\i.length + j.length <= Aj/\Q (.str (i++j)) H
theorem aV8:OpR X (Dg .Add) rAddD:=OpR.or ax5 akr
theorem aV5:OpD K rAddD dAdd:=by
 intro x y d F H v u Q h s rx ry k;unfold dAdd at h;split at h
 ·cases h; cases rx; cases ry
  exact .inl ⟨_,_,rfl,rfl,k _ F H (Ext.refl s) (.int _)⟩
 ·split at h
  ·rename_i hl
   cases h; cases rx; cases ry;exact .inr ⟨_,_,rfl,rfl,az0 hl,k _ F H (Ext.refl s) (.str _)⟩
  ·cases h
 ·cases h
theorem aV2:OpD K (rI0 fun i j=>.int (i - j)) dSub:=aqon
theorem aqhl:OpD K (rI0 fun i j=>.bl (decide (i < j))) dLt:=aqhn
theorem aqla:OpD K (rI0 fun i j=>.bl (decide (i <= j))) dLe:=aqhn
theorem aqom:OpD K (rI0 fun i j=>.bl (decide (j <= i))) dGe:=aqhn
theorem aqgd {i:Int} (h:i.natAbs < BIG):Kq i <= 1000001:=by
 unfold BIG at h;exact Nat.le_succ_of_le (intBits_le_iff.mpr h)
theorem aXi {i:Int} (h:i.natAbs < SHORT):Kq i <= 64:=by
 unfold SHORT at h;exact Nat.le_succ_of_le (intBits_le_iff.mpr h)
theorem aqi2 {i j:Int} (h:aqfu i j):IntMulOk i j:=by
 rcases h with h | h | h
 ·exact IntMulOk.of_le (aqgd h.1) (aqgd h.2) (by decide)
 ·exact IntMulOk.of_left (aXi h)
 ·exact IntMulOk.of_right (aXi h)
theorem aN:OpR X (Dg .Mult) (rI aqfu fun i j=>.int (i * j)) :=
 opI fun i j _ _ _ _ _ hc q=>mul_int q (aqi2 hc)
theorem aV7:OpR X (Dg .FloorDiv) (rI (fun i j=>j ≠ 0/\j.natAbs < BIGD) fun i j=>.int (i.fdiv j)) :=
 opI fun i j _ _ _ _ _ hc q=>floordiv_int hc.1 q (.inl (PyProof.noPylong_of_log2 (by
  have h:=hc.2;unfold BIGD at h
  by_cases hz:j.natAbs=0
  ·rw [hz]; decide
  ·exact (Nat.log2_lt hz).mpr h)))
theorem aM:OpD K (rI aqfu fun i j=>.int (i * j)) aqtu:=by
 intro x y d F H v u Q h s rx ry k;unfold aqtu at h;split at h
 ·split at h
  ·rename_i hc
   cases h; cases rx; cases ry;exact ⟨_,_,rfl,rfl,hc,k _ F H (Ext.refl s) (.int _)⟩
  ·cases h
 ·cases h
theorem aV4:OpD K (rI (fun i j=>j ≠ 0/\j.natAbs < BIGD) fun i j=>.int (i.fdiv j)) aqtw:=by
 intro x y d F H v u Q h s rx ry k;unfold aqtw at h;split at h
 ·split at h
  ·rename_i hc
   cases h; cases rx; cases ry;exact ⟨_,_,rfl,rfl,hc,k _ F H (Ext.refl s) (.int _)⟩
  ·cases h
 ·cases h
theorem aqa8:OpD K (rI (fun _ j=>j ≠ 0) fun i j=>.int (i.fmod j)) dMod:=by
 intro x y d F H v u Q h s rx ry k;unfold dMod at h;split at h
 ·split at h
  ·rename_i hc
   cases h; cases rx; cases ry;exact ⟨_,_,rfl,rfl,hc,k _ F H (Ext.refl s) (.int _)⟩
  ·cases h
 ·cases h
theorem aqf2:UnD K (rU fun i=>.int (-i)) dNeg:=by
 intro x d F H v Q h s rx k;unfold dNeg at h;split at h
 ·cases h; cases rx
  exact ⟨_,rfl,k _ F H (Ext.refl s) (.int _)⟩
 ·cases h
mutual
def toP:D->PyData
 | .non=>.none
 | .bl b=>.bool b
 | .int i=>.int i
 | .str x=>.str x
 | .lst ds=>.list (aqsv ds)
 | .tup ds=>.tuple (aqsv ds)
def aqsv:List D->List PyData
 | []=>[]
 | d :: ds=>toP d :: aqsv ds
end
mutual
theorem aqg0:∀ {n:Nat} {d:D},shp n d=true->(toP d).canLay0=true/\(toP d).depth <= n
 | n,.non,_=>by simp [toP,Ev,PyData.depth]
 | n,.bl _,_=>by simp [toP,Ev,PyData.depth]
 | n,.int _,_=>by simp [toP,Ev,PyData.depth]
 | n,.str x,h=>by
  refine ⟨?_,by simp [toP,PyData.depth]⟩;unfold shp at h;simpa [toP,Ev,PyData.strOk] using h
 | 0,.lst _,h=>by simp [shp] at h
 | n + 1,.lst xs,h=>by
  obtain ⟨h1,h2⟩:=azi (n:=n) (ds:=xs) (by simpa [shp] using h);exact ⟨by simpa [toP,Ev] using h1,by simpa [toP,PyData.depth] using h2⟩
 | 0,.tup _,h=>by simp [shp] at h
 | n + 1,.tup xs,h=>by
  obtain ⟨h1,h2⟩:=azi (n:=n) (ds:=xs) (by simpa [shp] using h);exact ⟨by simpa [toP,Ev] using h1,by simpa [toP,PyData.depth] using h2⟩
theorem azi:∀ {n:Nat} {ds:List D},aqt0 n ds=true->Ie (aqsv ds)=true/\Jo (aqsv ds) <= n
 | n,[],_=>by simp [aqsv,Ie,Jo]
 | n,d :: ds,h=>by
  have h':shp n d=true/\aqt0 n ds=true:=by simpa [aqt0] using h
  obtain ⟨a1,a2⟩:=aqg0 h'.1;obtain ⟨b1,b2⟩:=azi h'.2;exact ⟨by simp [aqsv,Ie,a1,b1],by simp [aqsv,Jo]; omega⟩
end
theorem aY {d:D} (h:shp 20 d=true):SeqAt.shaped (toP d)=true:=by
 obtain ⟨h1,h2⟩:=aqg0 h;unfold SeqAt.shaped;simp [h1]; omega
mutual
theorem aKn:∀ {n m:Nat} {x y:D},shp n x=true->shp m y=true->Fz (toP x) (toP y)=eqD x y
 | n,m,x,y,hx,hy=>by
  cases x with
  | lst xs =>
   cases y with
   | lst ys =>
    cases n with
    | zero=>simp [shp] at hx
    | succ n=>cases m with
     | zero=>simp [shp] at hy
     | succ m =>
      simp only [toP,Fz,eqD];exact aZw (n:=n) (m:=m) (by simpa [shp] using hx) (by simpa [shp] using hy)
   | _=>simp [toP,Fz,eqD]
  | tup xs =>
   cases y with
   | tup ys =>
    cases n with
    | zero=>simp [shp] at hx
    | succ n=>cases m with
     | zero=>simp [shp] at hy
     | succ m =>
      simp only [toP,Fz,eqD];exact aZw (n:=n) (m:=m) (by simpa [shp] using hx) (by simpa [shp] using hy)
   | _=>simp [toP,Fz,eqD]
  | _ =>
   cases y with
   | _=>simp [toP,Fz,eqD]
theorem aZw:∀ {n m:Nat} {xs ys:List D},aqt0 n xs=true->aqt0 m ys=true->Ge (aqsv xs) (aqsv ys)=aqtt xs ys
 | n,m,[],[],_,_=>by simp [aqsv,Ge,aqtt]
 | n,m,[],_ :: _,_,_=>by simp [aqsv,Ge,aqtt]
 | n,m,_ :: _,[],_,_=>by simp [aqsv,Ge,aqtt]
 | n,m,x :: xs,y :: ys,hx,hy=>by
  have hx':shp n x=true/\aqt0 n xs=true:=by simpa [aqt0] using hx
  have hy':shp m y=true/\aqt0 m ys=true:=by simpa [aqt0] using hy
  simp only [aqsv,Ge,aqtt];rw [aKn hx'.1 hy'.1,aZw hx'.2 hy'.2]
end
def rEqD (K:Frag) (neg:Bool):R2:=fun x y H Q=>∃ F dx dy,aqu9 F H/\Rep K F x dx/\Rep K F y dy/\shp 20 dx=true/\shp 20 dy=true/\Q (.bl (if neg=true then !eqD dx dy else eqD dx dy)) H
variable {pins:List (Addr × Obj)} {σ:L2.St} {H F:Hp} {s:Shared}
theorem aVw (I:Inv X pins σ H s) (e:aqu9 F H):(∀ {v:V} {d:D},Rep X.K F v d->∀ {n:Nat},shp n d=true->∀ {u:Value},RelV v u->∃ as,Reads s.heap u (toP d) as)/\∀ {vs:List V} {ds:List D},Reps X.K F vs ds->∀ {n:Nat},aqt0 n ds=true->∀ {us:List Value},aqu8 vs us->∃ as,Mn s.heap us (aqsv ds) as:=by
 refine ⟨@Rep.rec X.K F (fun v d _=>∀ {n:Nat},shp n d=true->∀ {u:Value},RelV v u->∃ as,Reads s.heap u (toP d) as) (fun v d _=>∀ {n:Nat},aqt0 n d=true->∀ {us:List Value},aqu8 v us->∃ as,Mn s.heap us (aqsv d) as) ?n ?b ?i ?s ?l ?t ?m ?c,@Reps.rec X.K F (fun v d _=>∀ {n:Nat},shp n d=true->∀ {u:Value},RelV v u->∃ as,Reads s.heap u (toP d) as) (fun v d _=>∀ {n:Nat},aqt0 n d=true->∀ {us:List Value},aqu8 v us->∃ as,Mn s.heap us (aqsv d) as) ?n ?b ?i ?s ?l ?t ?m ?c⟩
 case n=>intro n _ u r; cases r; exact ⟨_,.none⟩
 case b=>intro b n _ u r; cases r; exact ⟨_,.bool b⟩
 case i=>intro i n _ u r; obtain ⟨t,rfl⟩:=r; exact ⟨_,.int i t⟩
 case s=>intro x n _ u r; obtain ⟨t,rfl⟩:=r; exact ⟨_,.str x t⟩
 case l =>
  intro a vs ds h q ih n hs u r;cases n with
  | zero=>simp [shp] at hs
  | succ n =>
   cases r;obtain ⟨its,_,rv,h1,_⟩:=Inv.listE I (aqt1 e h);obtain ⟨as,z⟩:=ih (n:=n) (by simpa [shp] using hs) rv;exact ⟨_,.list h1 rfl rfl (by simpa using z)⟩
 case t =>
  intro a vs ds h q ih n hs u r;cases n with
  | zero=>simp [shp] at hs
  | succ n =>
   cases r;obtain ⟨its,rv,⟨o,h1,h2,_,h3⟩,_⟩:=I.tuple (seqT e h);obtain ⟨as,z⟩:=ih (n:=n) (by simpa [shp] using hs) rv;exact ⟨_,.tuple h1 h2 h3 (by simpa using z)⟩
 case m=>intro n _ us r; cases r; exact ⟨_,.nil⟩
 case c =>
  intro v d vs ds h q ih it n hs us r;cases r with
  | cons r1 r2 =>
   have hs':shp n d=true/\aqt0 n ds=true:=by simpa [aqt0] using hs
   obtain ⟨as,z⟩:=ih hs'.1 r1;obtain ⟨bs,z2⟩:=it hs'.2 r2;exact ⟨_,.cons z z2⟩
theorem Rep.reads (I:Inv X pins σ H s) (e:aqu9 F H) {v:V} {d:D} {n:Nat} (h:Rep X.K F v d) (hs:shp n d=true) {u:Value} (r:RelV v u):∃ as,Reads s.heap u (toP d) as:=(aVw I e).1 h hs r
theorem Reps.reads (I:Inv X pins σ H s) (e:aqu9 F H) {vs:List V} {ds:List D} {n:Nat} (h:Reps X.K F vs ds) (hs:aqt0 n ds=true) {us:List Value} (r:aqu8 vs us):∃ as,Mn s.heap us (aqsv ds) as:=(aVw I e).2 h hs r
theorem aqho (hu:X.A.units + 64 < cLine):OpR X (Bm .Eq) (rEqD X.K false):=by
 intro pins s σ H x y v u Q I rx ry h;obtain ⟨F,dx,dy,e,r1,r2,h1,h2,q⟩:=h;obtain ⟨as,z1⟩:=r1.reads I e h1 rx;obtain ⟨bs,z2⟩:=r2.reads I e h2 ry;exact eq_dataH z1 z2 (aY h1) (aY h2) hu (by rw [aKn h1 h2]; exact ⟨.bl _,H,I,rfl,q⟩)
theorem aqdq (hu:X.A.units + 64 < cLine):OpR X (Bm .NotEq) (rEqD X.K true):=by
 intro pins s σ H x y v u Q I rx ry h;obtain ⟨F,dx,dy,e,r1,r2,h1,h2,q⟩:=h;obtain ⟨as,z1⟩:=r1.reads I e h1 rx;obtain ⟨bs,z2⟩:=r2.reads I e h2 ry;exact ne_dataH z1 z2 (aY h1) (aY h2) hu (by rw [aKn h1 h2]; exact ⟨.bl _,H,I,rfl,q⟩)
theorem aqhm:OpD K (rEqD K false) dEq:=by
 intro x y d F H v u Q h s rx ry k;unfold dEq at h;split at h
 ·rename_i hc
  cases h;exact ⟨F,x,y,s,rx,ry,hc.1,hc.2,k _ F H (Ext.refl s) (.bl _)⟩
 ·cases h
theorem aqoj:OpD K (rEqD K true) dNe:=by
 intro x y d F H v u Q h s rx ry k;unfold dNe at h;split at h
 ·rename_i hc
  cases h;exact ⟨F,x,y,s,rx,ry,hc.1,hc.2,k _ F H (Ext.refl s) (.bl _)⟩
 ·cases h
theorem awe {n m:Nat} {x:D} (hx:shp n x=true):∀ {ds:List D},aqt0 m ds=true->(aqsv ds).any (fun y=>Fz y (toP x))=ds.any fun y=>eqD y x
 | [],_=>by simp [aqsv]
 | d :: ds,h=>by
  have h':shp m d=true/\aqt0 m ds=true:=by simpa [aqt0] using h
  simp only [aqsv,any_cons];rw [aKn h'.1 hx,awe hx h'.2]
def rInD (K:Frag) (neg:Bool):R2:=fun x y H Q=>∃ F dx ds b,aqu9 F H/\Rep K F x dx/\Rep K F y (if b=true then .tup ds else .lst ds)/\shp 20 dx=true/\shp 20 (if b=true then D.tup ds else .lst ds)=true/\Q (.bl (if neg=true then !(ds.any fun y=>eqD y dx) else ds.any fun y=>eqD y dx)) H
theorem aqac (hu:X.A.units + 64 + 1 < cLine):OpR X (Bm .In) (rInD X.K false):=by
 intro pins s σ H x y v u Q I rx ry h;obtain ⟨F,dx,ds,b,e,r1,r2,h1,h2,q⟩:=h;obtain ⟨as,z1⟩:=r1.reads I e h1 rx;obtain ⟨bs,z2⟩:=r2.reads I e h2 ry;cases b with
 | false =>
  have h2':aqt0 19 ds=true:=by simpa [shp] using h2
  have z2':Reads s.heap u (.list (aqsv ds)) bs:=by simpa [toP] using z2
  exact in_list_reads z2' z1 (azi h2').1 (D5 (aY h1)) (Hi (aY h1) (by omega)) (by rw [awe h1 h2']; exact ⟨.bl _,H,I,rfl,q⟩)
 | true =>
  have h2':aqt0 19 ds=true:=by simpa [shp] using h2
  have z2':Reads s.heap u (.tuple (aqsv ds)) bs:=by simpa [toP] using z2
  exact in_tuple_reads z2' z1 (azi h2').1 (D5 (aY h1)) (Hi (aY h1) (by omega)) (by rw [awe h1 h2']; exact ⟨.bl _,H,I,rfl,q⟩)
theorem aV6 (hu:X.A.units + 64 + 1 < cLine):OpR X (Bm .NotIn) (rInD X.K true):=by
 intro pins s σ H x y v u Q I rx ry h;obtain ⟨F,dx,ds,b,e,r1,r2,h1,h2,q⟩:=h;obtain ⟨as,z1⟩:=r1.reads I e h1 rx;obtain ⟨bs,z2⟩:=r2.reads I e h2 ry;cases b with
 | false =>
  have h2':aqt0 19 ds=true:=by simpa [shp] using h2
  have z2':Reads s.heap u (.list (aqsv ds)) bs:=by simpa [toP] using z2
  exact notIn_list_reads z2' z1 (azi h2').1 (D5 (aY h1)) (Hi (aY h1) (by omega)) (by rw [awe h1 h2']; exact ⟨.bl _,H,I,rfl,q⟩)
 | true =>
  have h2':aqt0 19 ds=true:=by simpa [shp] using h2
  have z2':Reads s.heap u (.tuple (aqsv ds)) bs:=by simpa [toP] using z2
  exact notIn_tuple_reads z2' z1 (azi h2').1 (D5 (aY h1)) (Hi (aY h1) (by omega)) (by rw [awe h1 h2']; exact ⟨.bl _,H,I,rfl,q⟩)
theorem aqlb:OpD K (rInD K false) dIn:=by
 intro x y d F H v u Q h s rx ry k;unfold dIn at h;split at h
 ·split at h
  ·rename_i hc
   cases h;exact ⟨F,_,_,false,s,rx,ry,hc.1,hc.2,k _ F H (Ext.refl s) (.bl _)⟩
  ·cases h
 ·split at h
  ·rename_i hc
   cases h;exact ⟨F,_,_,true,s,rx,ry,hc.1,hc.2,k _ F H (Ext.refl s) (.bl _)⟩
  ·cases h
 ·cases h
theorem aV3:OpD K (rInD K true) aXc:=by
 intro x y d F H v u Q h s rx ry k;unfold aXc at h;split at h
 ·split at h
  ·rename_i hc
   cases h;exact ⟨F,_,_,false,s,rx,ry,hc.1,hc.2,k _ F H (Ext.refl s) (.bl _)⟩
  ·cases h
 ·split at h
  ·rename_i hc
   cases h;exact ⟨F,_,_,true,s,rx,ry,hc.1,hc.2,k _ F H (Ext.refl s) (.bl _)⟩
  ·cases h
 ·cases h
def rIsB:R2:=fun x y H Q=>(∃ a b,x=.bl a/\y=.bl b/\Q (.bl (a == b)) H) \/ (y=.non/\Q (.bl (decide (x=.non))) H)
def rIsNB:R2:=fun x y H Q=>(∃ a b,x=.bl a/\y=.bl b/\Q (.bl (a != b)) H) \/ (y=.non/\Q (.bl (!decide (x=.non))) H)
theorem aqor:OpR X (Bm .Is) rIsB:=by
 intro pins s σ H x y v u Q I rx ry h;rcases h with ⟨a,b,rfl,rfl,q⟩ | h
 ·cases rx; cases ry
  exact is_bool ⟨.bl _,H,I,rfl,q⟩
 ·exact aqoq pins s σ H x y v u Q I rx ry h
theorem aqab:OpR X (Bm .IsNot) rIsNB:=by
 intro pins s σ H x y v u Q I rx ry h;rcases h with ⟨a,b,rfl,rfl,q⟩ | h
 ·cases rx; cases ry
  exact isnot_bool ⟨.bl _,H,I,rfl,q⟩
 ·exact aqld pins s σ H x y v u Q I rx ry h
theorem aqfe {v:V} {d:D} (r:Rep K F v d):decide (v=.non)=(match d with | .non=>true | _=>false):=by
 cases r <;> simp
theorem aqol:OpD K rIsB dIs:=by
 intro x y d F H v u Q h s rx ry k;unfold dIs at h;split at h
 ·cases h; cases rx; cases ry
  exact .inl ⟨_,_,rfl,rfl,k _ F H (Ext.refl s) (.bl _)⟩
 ·cases ry
  refine .inr ⟨rfl,?_⟩;rw [aqfe rx];split at h
  ·cases h; exact k _ F H (Ext.refl s) (.bl _)
  ·rename_i hx
   cases h;cases x with
   | non=>exact absurd rfl hx
   | _=>exact k _ F H (Ext.refl s) (.bl _)
 ·cases h
theorem aqa9:OpD K rIsNB aqtv:=by
 intro x y d F H v u Q h s rx ry k;unfold aqtv at h;split at h
 ·cases h; cases rx; cases ry
  exact .inl ⟨_,_,rfl,rfl,k _ F H (Ext.refl s) (.bl _)⟩
 ·cases ry
  refine .inr ⟨rfl,?_⟩;rw [aqfe rx];split at h
  ·cases h; exact k _ F H (Ext.refl s) (.bl _)
  ·rename_i hx
   cases h;cases x with
   | non=>exact absurd rfl hx
   | _=>exact k _ F H (Ext.refl s) (.bl _)
 ·cases h
def rIxD (K:Frag):R2:=fun x y H Q=>rIxL K x y H Q \/ rIxT K x y H Q
theorem ix_D:IxR X (rIxD X.K):=aJ5.or aqe8
theorem aqgf {vs:List V} {ds:List D} {i:Int} {d:D} (r:Reps K F vs ds) (h:atP ds i=some d):∃ v,atI vs i=some v/\Rep K F v d:=by
 rw [aqq7] at h;unfold atI at h ⊢;rw [r.length];obtain ⟨j,h1,h2⟩:=bind_some h;obtain ⟨v,h3,h4⟩:=r.getD h2;exact ⟨v,by rw [h1]; exact h3,h4⟩
theorem aqok:OpD K (rIxD K) dIx:=by
 intro x y d F H v u Q h s rx ry k;unfold dIx at h;split at h
 ·cases rx with
  | lst q r =>
   cases ry;obtain ⟨w,h1,h2⟩:=aqgf r h;exact .inl ⟨_,_,_,w,rfl,rfl,(aqt1 s q).l,h1,k w F H (Ext.refl s) h2⟩
 ·cases rx with
  | tup q r =>
   cases ry;obtain ⟨w,h1,h2⟩:=aqgf r h;exact .inr ⟨_,_,_,w,rfl,rfl,seqT s q,h1,k w F H (Ext.refl s) h2⟩
 ·cases h
theorem aqv {a b:Expr} {pos:Pos} {fa fb:FE} (ha:DE X a fa) (hb:DE X b fb) (hs:aqgg b):DE X (.Subscript a b pos) (f2 dIx fa fb) :=
 PE.imp (aZa ix_D ha hb hs) fun _ _ _ q=>d_op aqok q
section
variable {a b c:Expr} {pos:Pos} {op op':CmpOp} {r r':R2} {g g':D->D->Option D} {fa fb fc:FE}
end
theorem aJb:aqno K (fun xs H Q=>∃ p ys,xs=[.ref p]/\(SqL K H p ys \/ SqT K H p ys)/\Q (.int ys.length) H) dLen:=by
 intro ds d F H vs Q h s r k;unfold dLen at h;split at h
 ·cases h
  cases r with | cons r r' =>
  cases r';cases r with | lst q t=>exact ⟨_,_,rfl,.inl (aqt1 s q).l,k _ F H (Ext.refl s) (by rw [t.length]; exact .int _)⟩
 ·cases h
  cases r with | cons r r' =>
  cases r';cases r with | tup q t=>exact ⟨_,_,rfl,.inr (seqT s q),k _ F H (Ext.refl s) (by rw [t.length]; exact .int _)⟩
 ·cases h
theorem aKz:aqno K (fun xs H Q=>∃ i,xs=[.int i]/\Q (.int (if i < 0 then -i else i)) H) dAbs:=by
 intro ds d F H vs Q h s r k;unfold dAbs at h;split at h
 ·cases h
  cases r with | cons r r' =>
  cases r'; cases r;exact ⟨_,rfl,k _ F H (Ext.refl s) (.int _)⟩
 ·cases h
theorem aXe:CallO K (fun xs H Q=>∃ p ys,xs=[.ref p]/\(SqL K H p ys \/ SqT K H p ys)/\∀ l,H l=none->Q (.ref l) (upd H l (.lst ys))) aqg1:=by
 intro ds es F H vs Q h s r k;unfold aqg1 at h;split at h
 ·cases h
  cases r with | cons r r' =>
  cases r';cases r with | lst q t=>exact ⟨_,_,rfl,.inl (aqt1 s q).l,fun l hl=>k l _ F _ (Ext.laidH s hl) aa (s.free hl) hl t⟩
 ·cases h
  cases r with | cons r r' =>
  cases r';cases r with | tup q t=>exact ⟨_,_,rfl,.inr (seqT s q),fun l hl=>k l _ F _ (Ext.laidH s hl) aa (s.free hl) hl t⟩
 ·cases h
def rCatE (K:Frag):R2:=fun x y H Q=>∃ l b xs zs,x=.ref l/\y=.ref b/\SqE K H l xs/\SqE K H b zs/\xs.length + zs.length <= Aj/\∀ p,H p=none->Q (.ref p) (upd H p (.lst (xs++zs)))
theorem aqad:OpR X (Dg .Add) (rCatE X.K):=by
 intro pins s σ H x y v u Q I rx ry h;obtain ⟨l,b,xs,zs,rfl,rfl,hH,hB,hz,q⟩:=h;cases rx;cases ry;obtain ⟨its,n,r,e,z⟩:=Inv.listE I hH;obtain ⟨its2,n2,r2,e2,z2⟩:=Inv.listE I hB;have hl:=r.length;have hl2:=r2.length;refine PySem.P.add_list e e2 ?_ (by rw [size_toArray,size_toArray]; omega);have ea:its.toArray++its2.toArray=(its++its2).toArray:=by simp
 rw [ea];exact ⟨.ref _,_,I.lnew (t':=s.toks) (r.append r2) (by rw [length_append]; omega),rfl,q _ I.fresh⟩
theorem aqfr:OpO K (rCatE K) dCat:=by
 intro x y es F H v u Q h s rx ry k;unfold dCat at h;split at h
 ·split at h
  ·rename_i hl
   cases h;cases rx with
   | lst q1 t1 =>
    cases ry with
    | lst q2 t2=>exact ⟨_,_,_,_,rfl,rfl,aqt1 s q1,aqt1 s q2,by rw [t1.length,t2.length]; exact az0 hl,fun p hp=>k p _ F _ (Ext.laidH s hp) aa (s.free hp) hp (t1.append t2)⟩
  ·cases h
 ·cases h
theorem PO.imp {e:Option Expr} {t t':TO} (h:PO X e t) (i:∀ σ H Q,t' σ H Q->t σ H Q):PO X e t':=fun pins s σ H Q I q=>h pins s σ H Q I (i σ H Q q)
def kitB (T:String):Prop:=∀ (K:Frag) (d:D),PySem.W.kitOne K (.type (tyD d)) (.type T)=some (isT d T)
theorem aqji {T:String} (hT:kitB T):awh X (.builtin "isinstance") (fun xs H Q=>∃ v d F,xs=[v,.ty T]/\aqu9 F H/\Rep X.K F v d/\Q (.bl (isT d T)) H):=by
 intro pins s σ H xs us Q I r h;obtain ⟨v,d,F,rfl,sm,rp,q⟩:=h;cases r with
 | cons r1 r =>
  cases r with
  | cons r2 r =>
   cases r;obtain rfl:=(show _=Value.type T from r2);have fin:∀ tk,EP X pins σ Q (.bool (isT d T)) { s with toks:=tk }:=fun tk=>⟨.bl _,H,I.tok tk,rfl,q⟩;have e:=hT X.K d;cases rp with
   | non=>cases r1; exact Ed PySem.W.kitx_none I.kIn True.intro e (fun z=>nomatch z) fin
   | bl b=>cases r1; exact Ed PySem.W.kitx_bool I.kIn True.intro e (fun z=>nomatch z) fin
   | int i=>obtain ⟨t,rfl⟩:=r1; exact Ed PySem.W.kitx_int I.kIn True.intro e (fun z=>nomatch z) fin
   | str x=>obtain ⟨t,rfl⟩:=r1; exact Ed PySem.W.kitx_str I.kIn True.intro e (fun z=>nomatch z) fin
   | lst h t =>
    cases r1;obtain ⟨its,n,rv,h1,_⟩:=Inv.listE I (aqt1 sm h);exact Ed PySem.W.kitx_list I.kIn ⟨_,h1,rfl⟩ e (fun z=>nomatch z) fin
   | tup h t =>
    cases r1;obtain ⟨its,rv,⟨o,h1,h2,n,h3⟩,_⟩:=I.tuple (seqT sm h);exact Ed PySem.W.kitx_tuple I.kIn ⟨o,h1,h2⟩ e (fun z=>nomatch z) fin
end
theorem aqih:kitB "list":=fun K d=>by cases d <;> exact rfl
end DL
set_option maxHeartbeats 2000000
namespace DL
open PySem PySem.Spec PyProof.Rows L2
theorem aZ3 {prog:Ak} {w:World} {A:Around} {R:L3->Shared->Prop} {s:Shared} {elt target iter:Expr} {ifs:List Expr} {scope:Scope} {pos:Pos} {it acc:Value} {env:Env} (I:Nat->Shared->Prop)
  (turn:∀ n s,I n s->wpAny (model prog w) A (Dt it) (fun r s₁=>match r with
   | none=>R (.ok .next) s₁
   | some v=>wpAny (model prog w) A (Gq target it v) (fun _ s₀=>wpAny (model prog w) A (Il target env v) (fun _ s₂ =>
     wpAny (model prog w) A (forIn ifs true fun c r=>if r=true then do let ok <- Mm c env (eval c env); pure (ForInStep.yield ok) else pure (ForInStep.yield r)) (fun ok s₃ =>
      if ok=true then wpAny (model prog w) A (eval elt env) (fun x s₄ =>
       wpAny (model prog w) A (call (.builtin "list.append") [acc,x]) (fun _ s₅=>∃ m,m < n/\I m s₅) (fun _ _=>False) s₄) (fun _ _=>False) s₃
      else ∃ m,m < n/\I m s₃) (fun _ _=>False) s₂) (fun _ _=>False) s₀) (fun _ _=>False) s₁) (fun _ _=>False) s)
  (n:Nat) (h:I n s) :
  Dp (model prog w) A (.compLoop (.ListComp elt [⟨target,iter,ifs,0⟩] scope pos) 0 it acc env) R s:=by
 refine codeAny_loop rfl I (fun n s hI=>?_) n h;show wpAny _ A ((compTurn (.ListComp elt [⟨target,iter,ifs,0⟩] scope pos) 0 it acc env).onRaise (fun x=>do noteFrame x env; theTreesLotGoes x)) _ _ s;refine wpAny_noted (Bj (E:=fun _ _=>False) ?_ (fun _ _ q=>q) fun _ _ z=>z.elim);rw [compTurn_list];refine Ac (Ku (Ac (Bj (turn n s hI) (fun r s₁ h₁=>?_) fun _ _ h'=>h')));cases r with
 | none=>exact Ad h₁
 | some v =>
  refine Ac (Bj h₁ (fun _ s₀ h₀=>?_) fun _ _ h'=>h');refine Ac (Bj h₀ (fun _ s₂ h₂=>Ac (Bj h₂ (fun ok s₃ h₃=>?_) fun _ _ h'=>h')) fun _ _ h'=>h');cases ok with
  | false=>exact Ad ⟨rfl,h₃⟩
  | true =>
   exact Ac (Ac (Bj h₃ (fun x s₄ h₄=>Ac (Bj h₄ (fun _ s₅ h₅=>Ad (Ad ⟨rfl,h₅⟩)) fun _ _ h'=>h')) fun _ _ h'=>h'))
def aP (X:Cx) (N':List Str) (scope:Scope) (cl:List (Str × Addr)) (C:Addr) (s₀:Shared) (H₀:Hp) (ex:List Addr) (pn:List (Addr × Obj)):Cx :=
 { X with N:=N',s₀:=s₀,H₀:=H₀,env:=Mo scope cl C X.env,outer:=X.stack,stack:=X.stack,ex:=ex,fn:=fun _=>false,pn:=pn,xe:=fun _ _=>False }
def azo (X:Cx) (scope:Scope) (cl:List (Str × Addr)):List (Option Nat)->List Str->Prop
 | [],[]=>True
 | none :: js,_ :: N=>azo X scope cl js N
 | some j :: js,x :: N=>(X.N[j]?=some x/\(X.env.kindOf x=some .cell \/ X.env.kindOf x=some .free)/\cl.lookup x=X.env.cells.lookup x/\((Cq scope X.env).names.lookup x=some .cell \/ (Cq scope X.env).names.lookup x=some .free))/\azo X scope cl js N
 | _,_=>False
def mkS {α:Type} (js:List (Option Nat)) (σ:List (Option α)):List (Option α):=js.map fun o=>o.bind fun j=>(σ[j]?).bind id
theorem azo.len {X:Cx} {scope:Scope} {cl:List (Str × Addr)}:∀ {js:List (Option Nat)} {N:List Str},azo X scope cl js N->js.length=N.length
 | [],[],_=>rfl
 | none :: js,_ :: N,h=>by simp [azo.len (js:=js) (N:=N) h]
 | some j :: js,x :: N,h=>by simp [azo.len h.2]
 | [],_ :: _,h=>h.elim
 | none :: _,[],h=>h.elim
 | some _ :: _,[],h=>h.elim
theorem azo.get {X:Cx} {scope:Scope} {cl:List (Str × Addr)}:∀ {js:List (Option Nat)} {N:List Str} {i j:Nat} {x:Str},azo X scope cl js N->js[i]?=some (some j)->N[i]?=some x ->
  X.N[j]?=some x/\(X.env.kindOf x=some .cell \/ X.env.kindOf x=some .free)/\cl.lookup x=X.env.cells.lookup x/\((Cq scope X.env).names.lookup x=some .cell \/ (Cq scope X.env).names.lookup x=some .free)
 | [],_,_,_,_,_,h,_=>by simp at h
 | none :: js,_ :: N,0,_,_,_,h,_=>by simp at h
 | none :: js,_ :: N,i + 1,_,_,f,h,h'=>azo.get (js:=js) (N:=N) (i:=i) f (by simpa using h) (by simpa using h')
 | some j :: js,x :: N,0,_,_,f,h,h'=>by simp at h h'; subst h h'; exact f.1
 | some j :: js,x :: N,i + 1,_,_,f,h,h'=>azo.get (js:=js) (N:=N) (i:=i) f.2 (by simpa using h) (by simpa using h')
 | none :: _,[],_,_,_,f,_,_=>f.elim
 | some _ :: _,[],_,_,_,f,_,_=>f.elim
def aqd0 (wi:TI) (g:TG) (tc:TT) (te:TE) (js:List (Option Nat)):TE:=fun σ H Q=>wi σ H fun J H1=>∀ l,H1 l=none->∃ W:Nat->Nat->St->Hp->Prop,(∃ m,W 0 m (mkS js σ) (upd H1 l (.lst [])))/\∀ i m σ H,W i m σ H ->
 (J.stop i H/\Q (.ref l) H) \/ (J.go i H/\∀ x H',J.yld i H x H'->g x σ H' fun σ2 H2=>tc σ2 H2 fun b H3 =>
  if b=true then te σ2 H3 fun y H4=>∃ acc,H4 l=some (.lst acc)/\acc.length < Aj/\∃ m',m' < m/\W (i + 1) m' σ2 (upd H4 l (.lst (acc++[y]))) else ∃ m',m' < m/\W (i + 1) m' σ2 H3)
def awi:TT:=fun _ H Q=>Q true H
def PIfs (X:Cx) (ifs:List Expr) (t:TT):Prop:=(ifs=[]/\∀ σ H Q,t σ H Q->Q true H) \/ ∃ c,ifs=[c]/\PT X c t
theorem aXd {X:Cx} {pins:List (Addr × Obj)} {σ:St} {H2:Hp} {s2:Shared} {E:Value->Shared->Prop} {elt target iter:Expr} {ifs:List Expr} {scope:Scope} {pos:Pos} {cl:List (Str × Addr)} {N':List Str} {js:List (Option Nat)}
  {g:TG} {tc:TT} {te:TE} {it:Addr} {fp:List Addr} {tn:Nat->Heap->Prop} {J:It} {RR:Value->Addr->L3->Shared->Prop} {Q:VK}
  (hc:X.calm=true) (hfr:azo X scope cl js N') (hcl:∀ x c,cl.lookup x=some c->X.env.cells.lookup x=some c)
  (hhas:∀ x,((Cq scope X.env).names.lookup x=some .cell \/ (Cq scope X.env).names.lookup x=some .free)->∃ c,cl.lookup x=some c)
  (hcell:∀ y∈scope.names,y.2 ≠ .cell) (hkind:scope.kind=.function)
  (hg:∀ C s₀ H₀ ex pn,PG (aP X N' scope cl C s₀ H₀ ex pn) target g) (ht:∀ C s₀ H₀ ex pn,PIfs (aP X N' scope cl C s₀ H₀ ex pn) ifs tc) (he:∀ C s₀ H₀ ex pn,PE (aP X N' scope cl C s₀ H₀ ex pn) elt te)
  (I2:Inv X pins σ H2 s2) (T:Turn X.prog X.w X.K target J fp it tn) (st2:tn 0 s2.heap) (f2:∀ b∈fp,FpOk X pins H2 b)
  (h:∀ l,H2 l=none->∃ W:Nat->Nat->St->Hp->Prop,(∃ m,W 0 m (mkS js σ) (upd H2 l (.lst [])))/\∀ i m σ H,W i m σ H ->
   (J.stop i H/\Q (.ref l) H) \/ (J.go i H/\∀ x H',J.yld i H x H'->g x σ H' fun σ2 H2=>tc σ2 H2 fun b H3 =>
    if b=true then te σ2 H3 fun y H4=>∃ acc,H4 l=some (.lst acc)/\acc.length < Aj/\∃ m',m' < m/\W (i + 1) m' σ2 (upd H4 l (.lst (acc++[y]))) else ∃ m',m' < m/\W (i + 1) m' σ2 H3))
  (hRR:∀ D C s' H' m',Inv X pins σ H' s'->s'.heap.Ns C m'->H' C=none->s2.heap.objs.size <= C->Q (.ref D) H'->RR (.ref D) C (.ok .next) s') :
  wpAny (model X.prog X.w) X.A (Mh []) (fun acc s₃=>wpAny (model X.prog X.w) X.A (newFunctionEnv scope X.env.globals cl [] X.env.qual none .none (some X.env)) (fun cenv s₄ =>
   Dp (model X.prog X.w) X.A (.compStart (.ListComp elt [⟨target,iter,ifs,0⟩] scope pos) 0 (.ref it) acc { cenv with scope:=Cq scope X.env }) (RR acc cenv.locals) s₄) E s₃) E s2:=by
 refine A8 (wpAny_newFunctionEnv hcell (by intro y hy; simp at hy) (fun h₁ hns₁ hsb₁=>?_) hkind);dsimp only at hns₁ hsb₁ ⊢;generalize hS3:({ s2 with heap:=s2.heap.push { cls:=.type "list",dict:=none,data:=.seq ([]:List Value).toArray } }:Shared)=s3;have hH3:s3.heap=s2.heap.push { cls:=.type "list",dict:=none,data:=.seq ([]:List Value).toArray }:=by rw [<- hS3]
 rw [<- hH3] at hns₁ hsb₁ ⊢;have hC:s3.heap.objs.size=s2.heap.objs.size + 1:=by rw [hH3,By]
 have hDn:H2 s2.heap.objs.size=none:=I2.hok.fresh (le_refl _);obtain ⟨W,⟨m0,w0⟩,turn⟩:=h s2.heap.objs.size hDn;have old3:∀ b o,s3.heap.get? b=some o->h₁.get? b=some o:=fun b o e=>hsb₁.extBut b o (ne_of_lt (Af e)) (Ae _ e);have old2:∀ b o,s2.heap.get? b=some o->s3.heap.get? b=some o:=fun b o e=>by rw [hH3]; exact Ae _ e
 have I3:Inv X pins σ (upd H2 s2.heap.objs.size (.lst [])) s3:=by rw [<- hS3]; exact I2.lnew (its:=[]) (ys:=[]) (t':=s2.toks) .nil (zero_le _)
 have blk:∀ tk,Inv (aP X N' scope cl s3.heap.objs.size s3 (upd H2 s2.heap.objs.size (.lst [])) fp (X.pn++pins)) [] (mkS js σ) (upd H2 s2.heap.objs.size (.lst [])) { s3 with heap:=h₁,toks:=tk }:=fun tk=>by
  have hCn:(upd H2 s2.heap.objs.size (.lst [])) s3.heap.objs.size=none:=I3.hok.fresh (le_refl _);have cellOld:∀ x c,cl.lookup x=some c->∃ v,s3.heap.IsCell c v:=fun x c e=>I3.cell x c (hcl x c e);have fsSub:∀ b∈frs X.stack,b ≠ s3.heap.objs.size:=fun b hb e=>by
   rcases Al.mp (I3.stkSub b hb) with z | z
   ·exact absurd I3.lt (by rw [<- z,e]; exact lt_irrefl _)
   ·exact I3.nofs (le_refl _) (e ▸ z)
  refine ⟨⟨I3.ok.mod,hkind,I3.ok.glob,I3.ok.blt,le_refl _,fun x y c h1 h2=>I3.ok.inj x y c (hcl x c h1) (hcl y c h2),fun x hx=>hhas x hx,fun x c hf _=>absurd hf (by simp [aP]),I3.ok.hd,I3.ok.frames,.inl rfl,fun b hb=>⟨?_,fun x c e z=>?_⟩,
   I3.bs,le_trans I3.ok.bsz I3.sz,fun b o e hb=>?_,fun b hb hb2=>?_,I3.stack,I3.stkFree⟩,rfl,I3.bare,Un.kept old3,⟨_,hns₁,fun i x v h1 h2 h3=>?_⟩,fun x c e=>?_,hCn,fun x c e=>?_,fun p hp=>?_,I3.hok.kept old3,?_⟩
  ·
   obtain ⟨o,ho,_⟩:=T.obj 0 _ st2 b hb;intro z;exact absurd (Af (old2 b o ho)) (by rw [z]; exact lt_irrefl _)
  ·obtain ⟨_,_,_,_,f5,_⟩:=f2 b hb
   exact f5 x c (hcl x c e) z
  ·
   have q:=(I2.bs b o e);obtain ⟨_,_,_,f4,_,_⟩:=f2 b hb;rcases f4 with z | z
   ·exact I2.ok.noex b o e z
   ·exact absurd (lt_of_lt_of_le (Af (I2.ok.bs b o e).1) z) (lt_irrefl _)
  ·obtain ⟨_,f1,f3,_⟩:=f2 b hb
   rcases Al.mp (I3.stkSub b hb2) with z | z
   ·exact f1 z
   ·exact f3 z
  ·
   have hj:∃ j,js[i]?=some (some j)/\σ[j]?=some (some v):=by
    unfold mkS at h2;rw [getElem?_map] at h2;cases q:js[i]? with
    | none=>rw [q] at h2; cases h2
    | some oj =>
     rw [q] at h2;cases oj with
     | none=>simp at h2
     | some j =>
      refine ⟨j,rfl,?_⟩;cases z:σ[j]? with
      | none=>simp [z] at h2
      | some ov=>simp [z] at h2; rw [h2]
   obtain ⟨j,hj,hv⟩:=hj;obtain ⟨g1,g2,g3,g4⟩:=hfr.get hj (show N'[i]?=some x from h1);obtain ⟨m,hn,hl⟩:=I3.loc;have vis:Vis X.env.scope x:=by
    rcases g2 with z | z
    ·exact .inr (.inl z)
    ·exact .inr (.inr z)
   obtain ⟨u,r,lk⟩:=hl j x v g1 hv vis;refine ⟨u,r,?_⟩;rcases lk with ⟨kl,_⟩ | ⟨_,c,e,z⟩
   ·rcases g2 with z | z
    ·rw [z] at kl; cases kl
    ·rw [z] at kl; cases kl
   ·obtain ⟨o,ho,hd⟩:=z
    exact .inr ⟨g4,c,g3.trans e,o,old3 c o ho,hd⟩
  ·obtain ⟨v,o,ho,hd⟩:=cellOld x c e
   exact ⟨v,o,old3 c o ho,hd⟩
  ·exact I3.freeC x c (hcl x c e)
  ·have hp':p∈X.pn++pins:=by
    have:p∈(X.pn++pins)++[]:=hp
    simpa using this
   obtain ⟨e,n,ne,nf,d⟩:=I3.pin p hp';refine ⟨old3 _ _ e,n,ne_of_lt (Af e),fun hb=>?_,d⟩;rcases Al.mp (I3.stkSub _ hb) with z | z
   ·exact ne z
   ·exact nf z
  ·show (mkS js σ).length=N'.length
   rw [<- hfr.len]; simp [mkS]
 have fpX:∀ {H':Hp} {ps:List (Addr × Obj)},(∀ b∈fp,H' b=none)->(∀ p∈ps,∀ b∈fp,p.1 ≠ b)->∀ b∈fp,FpOk (aP X N' scope cl s3.heap.objs.size s3 (upd H2 s2.heap.objs.size (.lst [])) fp (X.pn++pins)) ps H' b:=fun {H' ps} hn hps b hb=>by
  obtain ⟨_,f1,f3,f4,f5,f6⟩:=f2 b hb;obtain ⟨o,ho,_⟩:=T.obj 0 _ st2 b hb;refine ⟨hn b hb,fun z=>absurd (Af (old2 b o ho)) (by rw [z]; exact lt_irrefl _),fun hb2=>?_,.inl hb,fun x c e=>f5 x c (hcl x c e),fun p hp=>?_⟩
  ·rcases Al.mp (I3.stkSub b hb2) with z | z
   ·exact f1 z
   ·exact f3 z
  ·have hp':p∈(X.pn++pins)++ps:=hp
   rcases Dd.mp hp' with z | z
   ·exact f6 p z
   ·exact hps p z b hb
 have st4:tn 0 h₁:=T.keep 0 _ _ st2 fun b _ o e=>old3 b o (old2 b o e);have fr4:∀ b∈fp,(upd H2 s2.heap.objs.size (.lst [])) b=none:=fun b hb=>by
  obtain ⟨o,ho,_⟩:=T.obj 0 _ st2 b hb;rw [ae (ne_of_lt (Af ho))];exact (f2 b hb).1
 have loop:∀ s4:Shared,s4.heap=h₁->Inv (aP X N' scope cl s3.heap.objs.size s3 (upd H2 s2.heap.objs.size (.lst [])) fp (X.pn++pins)) [] (mkS js σ) (upd H2 s2.heap.objs.size (.lst [])) s4 ->
   Dp (model X.prog X.w) X.A (.compLoop (.ListComp elt [⟨target,iter,ifs,0⟩] scope pos) 0 (.ref it) (.ref s2.heap.objs.size) (Mo scope cl s3.heap.objs.size X.env)) (RR (.ref s2.heap.objs.size) s3.heap.objs.size) s4:=by
  intro s4 e4 I4;refine aZ3 (fun n s'=>∃ i σ' H',Inv (aP X N' scope cl s3.heap.objs.size s3 (upd H2 s2.heap.objs.size (.lst [])) fp (X.pn++pins)) [] σ' H' s'/\tn i s'.heap/\(∀ b∈fp,H' b=none)/\W i n σ' H') ?_ m0
   ⟨0,_,_,I4,by rw [e4]; exact st4,fr4,w0⟩
  rintro n s5 ⟨i,σ5,H5,I5,st5,fr5,w5⟩;rcases turn i n σ5 H5 w5 with ⟨stop,q⟩ | ⟨go,step⟩
  ·refine thn (T.done (aP X N' scope cl s3.heap.objs.size s3 (upd H2 s2.heap.objs.size (.lst [])) fp (X.pn++pins)) rfl rfl rfl hc i [] s5 _ H5 _ I5 (fpX fr5 (by simp)) st5 stop) fun r s6 hQ=>?_
   obtain ⟨hr,I6⟩:=hQ;subst hr;have un:Un (frs X.stack) fp H2 H5 s2.heap s6.heap:=by
    have u:=I6.base;refine ⟨fun b o e n hb hx=>u.keep b o (old2 b o e) (by show upd H2 _ _ b=none; rw [ae (ne_of_lt (Af e))]; exact n) hb hx,fun b o e n hb hx=>u.slot b o (old2 b o e) (by show upd H2 _ _ b=none; rw [ae (ne_of_lt (Af e))]; exact n) hb hx,
     fun b o e n hx=>u.free b o (old2 b o e) (by show upd H2 _ _ b=none; rw [ae (ne_of_lt (Af e))]; exact n) hx,fun b o e hx=>u.there b o (old2 b o e) hx,fun b xs e=>u.tups b xs (by show upd H2 _ _ b=_; rw [ae (ac e hDn)]; exact e),
     fun b o u' e=>u.frzs b o u' (by show upd H2 _ _ b=_; rw [ae (ac e hDn)]; exact e),fun b ps e=>u.tbls b ps (by show upd H2 _ _ b=_; rw [ae (ac e hDn)]; exact e)⟩
   have os:s6.os=s2.os:=by rw [I6.os]; show s3.os=s2.os; rw [<- hS3]
   have Iout:Inv X pins σ H5 s6:=I2.call' (ch:=fp) os un I6.hok I6.bare fun b hb=>by
    obtain ⟨_,f1,_,f4,f5,f6⟩:=f2 b hb;exact ⟨f4,f1,f5,f6⟩
   obtain ⟨m',hn',_⟩:=I6.loc;exact hRR _ _ s6 H5 m' Iout hn' I6.free (by rw [hC]; exact le_succ _) q
  ·refine thn (T.item (aP X N' scope cl s3.heap.objs.size s3 (upd H2 s2.heap.objs.size (.lst [])) fp (X.pn++pins)) rfl rfl rfl hc i [] s5 _ H5 _ I5 (fpX fr5 (by simp)) st5 go) fun r s6 hQ=>?_
   obtain ⟨u,hr,h6⟩:=hQ;subst hr;refine thn h6 fun _ s7 hQ=>?_;obtain ⟨x,H7,I7,r7,y7,st7,fr7⟩:=hQ;have I7':=I7.pinned (fpX fr7 (by simp)) (T.obj _ _ st7);have keepT:∀ {σ':St} {H':Hp} {s':Shared},Inv (aP X N' scope cl s3.heap.objs.size s3 (upd H2 s2.heap.objs.size (.lst [])) fp (X.pn++pins)) ([]++aX7 fp s7.heap) σ' H' s'->tn (i + 1) s'.heap/\∀ b∈fp,H' b=none:=fun {σ' H' s'} I'=>by
    refine ⟨T.keep _ _ _ st7 fun b hb o e=>(I'.pin (b,o) (mem_append_right _ (mem_append_right _ (azx hb e)))).1,fun b hb=>?_⟩;obtain ⟨o,e,d⟩:=T.obj _ _ st7 b hb;exact (I'.pin (b,o) (mem_append_right _ (mem_append_right _ (azx hb e)))).2.1
   have again:∀ {σ':St} {H':Hp} {s':Shared},Inv (aP X N' scope cl s3.heap.objs.size s3 (upd H2 s2.heap.objs.size (.lst [])) fp (X.pn++pins)) ([]++aX7 fp s7.heap) σ' H' s'->(∃ m',m' < n/\W (i + 1) m' σ' H') ->
     ∃ m,m < n/\∃ i σ' H',Inv (aP X N' scope cl s3.heap.objs.size s3 (upd H2 s2.heap.objs.size (.lst [])) fp (X.pn++pins)) [] σ' H' s'/\tn i s'.heap/\(∀ b∈fp,H' b=none)/\W i m σ' H':=fun {σ' H' s'} I' ⟨m',hm,w'⟩=>by
    obtain ⟨k1,k2⟩:=keepT I';exact ⟨m',hm,i + 1,σ',H',I'.unpinned,k1,k2,w'⟩
   refine thn (hg _ _ _ _ _ _ s7 σ5 H7 x u _ I7' r7 (step x H7 y7)) fun _ s8 hQ=>?_;obtain ⟨σ8,H8,I8,q8⟩:=hQ;have test:wpAny (model X.prog X.w) X.A (forIn ifs true fun c r=>if r=true then do let ok <- Mm c (Mo scope cl s3.heap.objs.size X.env) (eval c (Mo scope cl s3.heap.objs.size X.env)); pure (ForInStep.yield ok) else pure (ForInStep.yield r))
     (fun ok s9=>∃ H9,Inv (aP X N' scope cl s3.heap.objs.size s3 (upd H2 s2.heap.objs.size (.lst [])) fp (X.pn++pins)) ([]++aX7 fp s7.heap) σ8 H9 s9/\(if ok=true then te σ8 H9 fun y H4=>∃ acc,H4 s2.heap.objs.size=some (.lst acc)/\acc.length < Aj/\∃ m',m' < n/\W (i + 1) m' σ8 (upd H4 s2.heap.objs.size (.lst (acc++[y]))) else ∃ m',m' < n/\W (i + 1) m' σ8 H9)) (fun _ _=>False) s8:=by
    rcases ht s3.heap.objs.size s3 (upd H2 s2.heap.objs.size (.lst [])) fp (X.pn++pins) with ⟨e1,e2⟩ | ⟨c,e1,e2⟩
    ·subst e1
     exact wpAny_tests_nil ⟨H8,I8,e2 _ _ _ q8⟩
    ·subst e1
     exact wpAny_tests_one (e2 _ s8 σ8 H8 _ I8 q8)
   refine thn test fun ok s9 hQ=>?_;obtain ⟨H9,I9,q9⟩:=hQ;cases ok with
   | false =>
    rw [if_neg An] at q9 ⊢;exact again I9 q9
   | true =>
    rw [if_pos rfl] at q9 ⊢;refine thn (he _ _ _ _ _ _ s9 σ8 H9 _ I9 q9) fun y s10 hQ=>?_;obtain ⟨yv,H10,I10,r10,acc,a1,a2,a3⟩:=hQ;refine thn (aj2 (X:=aP X N' scope cl s3.heap.objs.size s3 (upd H2 s2.heap.objs.size (.lst [])) fp (X.pn++pins)) _ s10 σ8 H10 (.ref s2.heap.objs.size) [yv] (.ref s2.heap.objs.size) [y] (fun _ H'=>∃ m',m' < n/\W (i + 1) m' σ8 H') I10 rfl (.cons r10 .nil) ⟨_,acc,yv,rfl,rfl,a1,a2,a3⟩) fun _ s11 hQ=>?_;obtain ⟨_,H11,I11,_,q11⟩:=hQ;exact again I11 q11
 have e4:∀ tk,({ s2 with heap:=h₁,toks:=tk }:Shared)={ s3 with heap:=h₁,toks:=tk }:=fun tk=>by rw [<- hS3]
 exact codeAny_compStart_list (loop _ rfl (by rw [e4]; exact blk _)) (T.self _ 0 _ _ _ st4 (loop _ rfl (by rw [e4]; exact blk _)))
theorem Inv.letgo {X:Cx} {pins:List (Addr × Obj)} {σ:St} {H2 H':Hp} {s2 s':Shared} {C:Addr} {h':Heap} (I2:Inv X pins σ H2 s2) {σ':St} (I:Inv X pins σ' H' s') (hn:H' C=none) (hC:s2.heap.objs.size <= C) (hs:Heap.SameBut C s'.heap h'):Inv X pins σ' H' { s' with heap:=h' } :=
 I.turned (t':=s'.toks) (fun b o hb e=>hs.extBut b o hb e) hn (ne_of_gt (lt_of_lt_of_le I2.lt hC)) (.inr (le_trans I2.sz hC)) (fun x c e z=>by
  obtain ⟨v,q⟩:=I2.cell x c e;exact absurd (lt_of_lt_of_le q.lt (by rw [z]; exact hC)) (lt_irrefl _)) (fun p hp z=>absurd (lt_of_lt_of_le (Af (I2.pin p hp).1) (by rw [z]; exact hC)) (lt_irrefl _))
section
variable {X:Cx} {elt target iter:Expr} {ifs:List Expr} {scope:Scope} {pos:Pos} {cl:List (Str × Addr)} {N':List Str} {js:List (Option Nat)} {wi:TI} {g:TG} {tc:TT} {te:TE}
theorem aqfl (hc:X.calm=true) (hi:PI X target iter wi) (hclos:K9 scope X.env=pure cl) (hfr:azo X scope cl js N') (hcl:∀ x c,cl.lookup x=some c->X.env.cells.lookup x=some c)
  (hhas:∀ x,((Cq scope X.env).names.lookup x=some .cell \/ (Cq scope X.env).names.lookup x=some .free)->∃ c,cl.lookup x=some c)
  (hcell:∀ y∈scope.names,y.2 ≠ .cell) (hkind:scope.kind=.function) (hnames:∀ x∈scope.names,x.2=.local->scope.names.lookup x.1=some .local)
  (hg:∀ C s₀ H₀ ex pn,PG (aP X N' scope cl C s₀ H₀ ex pn) target g) (ht:∀ C s₀ H₀ ex pn,PIfs (aP X N' scope cl C s₀ H₀ ex pn) ifs tc) (he:∀ C s₀ H₀ ex pn,PE (aP X N' scope cl C s₀ H₀ ex pn) elt te)
  (hs:∀ x,Cd iter X.env x=pure x:=by intro _; rfl) :
  PE X (.ListComp elt [⟨target,iter,ifs,0⟩] scope pos) (aqd0 wi g tc te js):=by
 intro pins s σ H Q I h;rw [eval_ListComp];refine Io (use:=none) rfl hs hclos hkind hnames (thn (hi pins s σ H _ I h) fun v s1 h1=>thn h1 fun itv s2 h2=>?_);obtain ⟨it,fp,tn,J,H2,rfl,I2,T,st2,f2,q⟩:=h2;refine aXd (RR:=fun acc C=>compPost (model X.prog X.w) X.A X.xe none (EP X pins σ Q) acc C) hc hfr hcl hhas hcell hkind hg ht he I2 T st2 f2 q ?_;intro D C s' H' m' I' hn hC hle q';exact ⟨m',hn,fun h' hs'=>⟨.ref D,H',Inv.letgo I2 I' hC hle hs',rfl,q'⟩⟩
theorem aqfi {i:Nat} {y:Str} {py spos:Pos} (hN:X.N.Nodup) (hi':X.N[i]?=some y) (hy:X.env.scope.names.lookup y=some .local)
  (hsw:Hc (.ListComp elt [⟨target,iter,ifs,0⟩] scope pos) (some (.Name y py)) spos.line X.env=pure true)
  (hc:X.calm=true) (hi:PI X target iter wi) (hclos:K9 scope X.env=pure cl) (hfr:azo X scope cl js N') (hcl:∀ x c,cl.lookup x=some c->X.env.cells.lookup x=some c)
  (hhas:∀ x,((Cq scope X.env).names.lookup x=some .cell \/ (Cq scope X.env).names.lookup x=some .free)->∃ c,cl.lookup x=some c)
  (hcell:∀ y∈scope.names,y.2 ≠ .cell) (hkind:scope.kind=.function) (hnames:∀ x∈scope.names,x.2=.local->scope.names.lookup x.1=some .local)
  (hg:∀ C s₀ H₀ ex pn,PG (aP X N' scope cl C s₀ H₀ ex pn) target g) (ht:∀ C s₀ H₀ ex pn,PIfs (aP X N' scope cl C s₀ H₀ ex pn) ifs tc) (he:∀ C s₀ H₀ ex pn,PE (aP X N' scope cl C s₀ H₀ ex pn) elt te)
  (hs:∀ x,Cd iter X.env x=pure x:=by intro _; rfl) :
  PS X (.Assign [.Name y py] (.ListComp elt [⟨target,iter,ifs,0⟩] scope pos) spos) (tAsg (aqd0 wi g tc te js) (azj i)):=by
 intro pins s σ H E I h;rw [exec_Assign_Name_used _ _ _ _ hsw];refine Ac (Ku (Ac ?_));show wpAny _ X.A (do let _ <- comprehension (.ListComp elt [⟨target,iter,ifs,0⟩] scope pos) scope X.env _ (Mh []) false (eval iter X.env) (some (Il (.Name y py) X.env))) _ _ s;refine Ac (Bj (Io (use:=some (Il (.Name y py) X.env)) (Q:=fun _ s'=>SP X pins E .next s') rfl hs hclos hkind hnames
  (thn (hi pins s σ H _ I h) fun v s1 h1=>thn h1 fun itv s2 h2=>?_)) (fun _ s' hq=>Ad (Ad hq)) fun _ _ e=>e)
 obtain ⟨it,fp,tn,J,H2,rfl,I2,T,st2,f2,q⟩:=h2;refine aXd (RR:=fun acc C=>compPost (model X.prog X.w) X.A X.xe (some (Il (.Name y py) X.env)) (fun _ s'=>SP X pins E .next s') acc C) (Q:=fun x H1=>azj i x σ H1 E.nx) hc hfr hcl hhas hcell hkind hg ht he I2 T st2 f2 q ?_;intro D C s' H' m' I' hn hC hle q';show wpAny _ X.A (Il (.Name y py) X.env (.ref D)) _ _ _;refine wpAny_assign_Name (aVq I' hN hi' (.inl hy) (v:=.ref D) rfl (fun s'' I'' hQ=>?_) (.inr hy));obtain ⟨a,hsb,ha⟩:=hQ;have hCa:C ≠ a:=by
  rintro rfl;rcases ha with z | z
  ·exact absurd (lt_of_lt_of_le I2.lt (by rw [<- z]; exact hle)) (lt_irrefl _)
  ·obtain ⟨v,q⟩:=I2.cell _ _ z
   exact absurd (lt_of_lt_of_le q.lt hle) (lt_irrefl _)
 exact ⟨m',hn.sameBut hsb hCa,fun h' hs'=>⟨_,H',Inv.letgo I2 I'' hC hle hs',q'⟩⟩
end
def tGE (K:Frag) (g:GE):TG:=fun v σ H Q=>∃ F ρ d ρ',aqu9 F H/\RE K F σ ρ/\ρ.length=σ.length/\Rep K F v d/\g d ρ=some ρ'/\∀ σ',RE K F σ' ρ'->ρ'.length=σ'.length->Q σ' H
def tGEs (K:Frag) (g:List D->aquj->Option aquj):TGs:=fun vs σ H Q=>∃ F ρ ds ρ',aqu9 F H/\RE K F σ ρ/\ρ.length=σ.length/\Reps K F vs ds/\g ds ρ=some ρ'/\∀ σ',RE K F σ' ρ'->ρ'.length=σ'.length->Q σ' H
def DGE (X:Cx) (tg:Expr) (g:GE):Prop:=PG X tg (tGE X.K g)
def DGEs (X:Cx) (ts:List Expr) (gs:List GE):Prop:=PGs X ts (tGEs X.K (geT gs))
section
variable {X:Cx} {pos:Pos}
theorem aA (i:Nat) {tg:Expr} (h:PG X tg (azj i)):DGE X tg (geN i):=by
 refine PG.imp h fun v σ H Q q=>?_;obtain ⟨F,ρ,d,ρ',s,re,hl,q,h,k⟩:=q;cases h;refine k _ (fun j d' h=>?_) (by simpa using hl);rcases aqbg h with ⟨rfl,e,hl'⟩ | ⟨ne,h⟩
 ·cases e
  exact ⟨v,getElem?_set_self (by rw [<- hl]; exact hl'),q⟩
 ·rw [getElem?_set_ne (B4 ne)]
  exact re j d' h
theorem aqg5:∀ {gs:List GE} {ds:List D} {ρ ρ':aquj},geT gs ds ρ=some ρ'->ds.length=gs.length
 | [],[],_,_,_=>rfl
 | g :: gs,d :: ds,ρ,ρ',h=>by
  obtain ⟨r1,_,h2⟩:=bind_some h;simp [aqg5 h2]
 | [],_ :: _,_,_,h=>by simp [geT] at h
 | _ :: _,[],_,_,h=>by simp [geT] at h
theorem aQ8:DGEs X [] []:=by
 intro pins s σ H vs us Q I rv q;refine aJu pins s σ H vs us Q I rv ?_;obtain ⟨F,ρ,ds,ρ',s,re,hl,q,h,k⟩:=q;cases q with
 | nil=>cases h; exact ⟨rfl,k _ re hl⟩
 | cons=>cases h
theorem ajh {t:Expr} {ts:List Expr} {g:GE} {gs:List GE} (h1:DGE X t g) (h2:DGEs X ts gs)
  (hs:(B6 (t :: ts) X.env).map (·.2)=Il t X.env :: (B6 ts X.env).map (·.2):=by rfl):DGEs X (t :: ts) (g :: gs):=by
 intro pins s σ H vs us Q I rv q;refine axl h1 h2 hs pins s σ H vs us Q I rv ?_;obtain ⟨F,ρ,ds,ρ',s,re,hl,q,h,k⟩:=q;cases q with
 | nil=>cases h
 | cons q1 q2 =>
  obtain ⟨ρ1,h1,h2⟩:=bind_some h;exact ⟨_,_,rfl,F,ρ,_,ρ1,s,re,hl,q1,h1,fun σ' re' hl'=>⟨F,ρ1,_,ρ',s,re',hl',q2,h2,k⟩⟩
theorem aKr {ts:List Expr} {gs:List GE} {kk:Nat} (hc:X.calm=true) (h:DGEs X ts gs) (hn:(B6 ts X.env).length=gs.length:=by rfl) (hst:(B6 ts X.env).findIdx? (·.1)=none:=by rfl):DGE X (.Tuple ts kk pos) (aqto gs):=by
 refine PG.imp (aqdl hc h hn hst) fun v σ H Q q=>?_;obtain ⟨F,ρ,d,ρ',s,re,hl,q,h,k⟩:=q;unfold aqto at h;split at h
 ·rename_i ds
  cases q with
  | tup q t=>exact ⟨_,_,rfl,seqT s q,by rw [t.length]; exact aqg5 h,F,ρ,ds,ρ',s,re,hl,t,h,k⟩
 ·cases h
end
theorem re_mk {K:Frag} {F F1:Hp} {σ:L2.St} {ρ:aquj} {js:List (Option Nat)} (re:RE K F σ ρ) (e1:aqu9 F F1):RE K F1 (mkS js σ) (mkD js ρ):=fun i d h=>by
 unfold mkD at h;rw [getElem?_map] at h;cases q:js[i]? with
 | none=>rw [q] at h; cases h
 | some oj =>
  rw [q] at h;cases oj with
  | none=>simp at h
  | some j =>
   have hj:ρ[j]?=some (some d):=by
    cases z:ρ[j]? with
    | none=>simp [z] at h
    | some od=>cases od with
     | none=>simp [z] at h
     | some d'=>simp [z] at h; rw [h]
   obtain ⟨v,h1,h2⟩:=re j d hj;refine ⟨v,?_,h2.mono e1⟩;unfold mkS;rw [getElem?_map,q];simp [h1]
structure CI (K:Frag) (F1 H1 F H:Hp) (σ:L2.St) (ρ:aquj) (l:Addr) (done:List O):Prop where
 ext:Ext F1 H1 F H
 re:RE K F σ ρ
 len:ρ.length=σ.length
 fl:F l=none
 hl:∃ acc A,H l=some (.lst acc)/\Owns K F H acc done A/\∀ b,A b->F b=none/\H1 b=none/\b ≠ l
theorem CI.more {K:Frag} {F1 H1 F H F' H':Hp} {σ:L2.St} {ρ:aquj} {l:Addr} {done:List O} (c:CI K F1 H1 F H σ ρ l done) (e:Ext F H F' H'):CI K F1 H1 F' H' σ ρ l done:=by
 obtain ⟨acc,A,h1,h2,h3⟩:=c.hl;have keep:∀ b,F b=none->(∃ u,H b=some u)->F' b=none:=fun b hf ⟨u,hu⟩=>by
  cases z:F' b with
  | none=>rfl
  | some o =>
   rcases e.nw b o z with y | y
   ·rw [hf] at y; cases y
   ·rw [hu] at y; cases y
 refine ⟨c.ext.trans e,c.re.mono e.ff,c.len,keep l c.fl ⟨_,h1⟩,acc,A,e.hh _ _ h1,h2.ext e.ff e.hh,fun b z=>?_⟩;obtain ⟨g1,g2,g3⟩:=h3 b z;obtain ⟨u,hu,_⟩:=h2.there b z;exact ⟨keep b g1 ⟨u,hu⟩,g2,g3⟩
theorem aKt {K:Frag} {F1 H1 F H:Hp} {σ:L2.St} {ρ:aquj} {g:GE} {c:FT} {e:FO} {d:D} {aqt6:List D} {done ys:List O} {x:V} {l:Addr} {N:L2.St->Hp->Prop}
  (ci:CI K F1 H1 F H σ ρ l done) (hB:H1 l=none) (q:Rep K F x d) (hz:done.length < Aj)
  (h:av0 g c e (d :: aqt6) ρ=some ys)
  (hN:∀ F' H' σ' ρ' new ys',aqu9 F F'->CI K F1 H1 F' H' σ' ρ' l (done++new)->new.length <= 1->av0 g c e aqt6 ρ'=some ys'->ys=new++ys'->N σ' H') :
  tGE K g x σ H fun σ2 H2=>tDT K c σ2 H2 fun b H3=>if b=true then tO K e σ2 H3 fun y H4=>∃ acc,H4 l=some (.lst acc)/\acc.length < Aj/\N σ2 (upd H4 l (.lst (acc++[y]))) else N σ2 H3:=by
 obtain ⟨ρ1,h1,h⟩:=bind_some h;obtain ⟨b,hb,h⟩:=bind_some h;refine ⟨F,ρ,d,ρ1,ci.ext.fh,ci.re,ci.len,q,h1,fun σ2 re2 hl2=>?_⟩;have ci2:CI K F1 H1 F H σ2 ρ1 l done:=⟨ci.ext,re2,hl2,ci.fl,ci.hl⟩;refine ⟨F,ρ1,b,ci.ext.fh,re2,hb,fun F3 H3 e3=>?_⟩;have ci3:=ci2.more e3;cases b with
 | false =>
  rw [if_neg An] at h;exact aqti (hN F3 H3 σ2 ρ1 [] ys e3.ff (by simpa using ci3) (by simp) h (by simp))
 | true =>
  rw [if_pos rfl] at h;refine iteT ?_;obtain ⟨y,hy,h⟩:=bind_some h;obtain ⟨ys',hys,rfl⟩:=map_some h;refine ⟨F3,ρ1,y,e3.fh,ci3.re,hy,fun v F4 H4 A4 e4 r4 n4=>?_⟩;have ci4:=ci3.more e4;obtain ⟨acc3,A3,k1,k2,k3⟩:=ci3.hl;have t4:H4 l=some (.lst acc3):=e4.hh _ _ k1;have k2':=k2.ext e4.ff e4.hh;refine ⟨acc3,t4,by rw [k2.length]; exact hz,?_⟩;have nl:¬ A4 l:=fun z=>by have:=(n4 l z).2; rw [k1] at this; cases this
  have h1l:∀ b u,H1 b=some u->b ≠ l:=fun b u hb=>ac hb hB;refine hN F4 _ σ2 ρ1 [y] ys' (e3.ff.trans e4.ff) ⟨⟨ci4.ext.ff,fun b u hb=>by rw [ae (ac hb ci4.fl)]; exact ci4.ext.fh _ _ hb,fun b u hb=>by rw [ae (h1l b u hb)]; exact ci4.ext.hh _ _ hb,ci4.ext.nw⟩,ci4.re,ci4.len,ci4.fl,acc3++[v],fun b=>A3 b \/ A4 b,aa,?_,fun b z=>?_⟩ (by simp) hys (by simp)
  ·refine (k2'.stay (aqu9.refl _) (H':=upd H4 l (.lst (acc3++[v]))) fun b z=>ae (k3 b z).2.2).append (.cons (r4.stay (aqu9.refl _) (H':=upd H4 l (.lst (acc3++[v]))) fun b z=>ae (by rintro rfl; exact nl z)) (.nil (A:=fun _=>False) fun _ z=>z) (fun _ _ z=>z) fun b=>⟨.inl,fun z=>z.elim id Az⟩) fun b z y=>?_
   obtain ⟨u,hu,_⟩:=k2.there b z;rw [(n4 b y).2] at hu; cases hu
  ·rcases z with z | z
   ·obtain ⟨g1,g2,g3⟩:=k3 b z
    obtain ⟨u,hu,_⟩:=k2.there b z;refine ⟨?_,g2,g3⟩;cases w:F4 b with
    | none=>rfl
    | some o =>
     rcases e4.nw b o w with y | y
     ·rw [g1] at y; cases y
     ·rw [hu] at y; cases y
   ·exact ⟨(n4 b z).1,ci3.ext.hh.free (n4 b z).2,by rintro rfl; exact nl z⟩
theorem CI.own {K:Frag} {F1 H1 F H:Hp} {σ:L2.St} {ρ:aquj} {l:Addr} {done:List O} (c:CI K F1 H1 F H σ ρ l done) (hB:H1 l=none):∃ A,Own K F H (.ref l) (.lst done) A/\∀ b,A b->F b=none/\H1 b=none:=by
 obtain ⟨acc,A,h1,h2,h3⟩:=c.hl;refine ⟨_,aqhk h1 (fun z=>(h3 l z).2.2 rfl) h2,fun b z=>?_⟩;rcases z with rfl | z
 ·exact ⟨c.fl,hB⟩
 ·exact ⟨(h3 b z).1,(h3 b z).2.1⟩
theorem aqc1 {K:Frag} {F H F1 H1:Hp} {σ:L2.St} {ρ:aquj} {js:List (Option Nat)} {l:Addr} (re:RE K F σ ρ) (e1:Ext F H F1 H1) (hl:H1 l=none):CI K F1 H1 F1 (upd H1 l (.lst [])) (mkS js σ) (mkD js ρ) l [] :=
 ⟨Ext.laidH e1.fh hl,re_mk re e1.ff,by simp [mkD,mkS],e1.fh.free hl,[],fun _=>False,aa,.nil fun _ z=>z,fun _ z=>z.elim⟩
section
variable {X:Cx} {js:List (Option Nat)} {g:GE} {c:FT} {e:FO}
theorem aE {K:Frag} {f:FE} {σ:L2.St} {H:Hp} {Q:VK} (h:tO K (azv js f g c e) σ H Q):aqd0 (aqmh K (tD K f)) (tGE K g) (tDT K c) (tO K e) js σ H Q:=by
 obtain ⟨F,ρ,total,s,re,hf,k⟩:=h;obtain ⟨d,hd,hf⟩:=bind_some hf;rw [aZ7] at hf;split at hf
 ·rename_i xs
  split at hf
  ·rename_i hlen
   obtain ⟨total,hf2,rfl⟩:=map_some hf;have hf:=hf2;clear hf2;refine ⟨F,ρ,.lst xs,s,re,hd,fun v F1 H1 e1 r1=>?_⟩;cases r1 with
   | lst q t =>
    rename_i a vs;refine ⟨a,rfl,⟨vs,(aqt1 e1.fh q).l⟩,fun l hl=>⟨fun i m σ' H'=>∃ F' ρ' done ys,CI K F1 H1 F' H' σ' ρ' l done/\SqE K F' a vs/\Reps K F' vs xs/\i <= xs.length/\m=xs.length - i/\done.length <= i/\av0 g c e (xs.drop i) ρ'=some ys/\total=done++ys,
     ⟨_,F1,mkD js ρ,[],total,aqc1 re e1 hl,q,t,zero_le _,rfl,le_refl _,hf,rfl⟩,?_⟩⟩
    rintro i m σ' H' ⟨F',ρ',done,ys,ci,q',t',hi,rfl,hdn,hc,ht⟩
    by_cases hlt:i < xs.length
    ·have hv:i < vs.length:=by rw [t'.length]; exact hlt
     refine .inr ⟨⟨vs,vs[i],(aqt1 ci.ext.fh q').l,by simp [hv]⟩,fun x H2 y=>?_⟩;obtain ⟨rfl,y⟩:=y;obtain ⟨d,hd1,hd2⟩:=t'.get (y vs (aqt1 ci.ext.fh q').l);have ed:xs[i]=d:=by rw [getElem?_eq_getElem hlt] at hd1; exact Option.some.inj hd1
     rw [drop_cons hlt,ed] at hc;refine aKt (N:=fun σ2 H2=>∃ m',m' < xs.length - i/\_) ci hl hd2 (lt_of_lt_of_le (lt_of_le_of_lt hdn hlt) (az0 hlen)) hc fun F2 H2 σ2 ρ2 new ys' s2 ci2 hn2 hc2 he2=>?_;exact ⟨_,by omega,F2,ρ2,done++new,ys',ci2,aqt1 s2 q',t'.mono s2,hlt,rfl,by simp; omega,hc2,by rw [ht,he2]; simp⟩
    ·refine .inl ⟨⟨vs,(aqt1 ci.ext.fh q').l,by rw [t'.length]; omega⟩,?_⟩
     rw [drop_of_length_le (by omega)] at hc;cases hc
     have:total=done:=by simpa using ht
     subst this;obtain ⟨A,o1,o2⟩:=ci.own hl;exact k (.ref l) F' H' A (e1.trans ci.ext) o1 fun b z=>⟨(o2 b z).1,e1.hh.free (o2 b z).2⟩
  ·cases hf
 ·cases hf
end
def DIfs (X:Cx) (ifs:List Expr) (c:FT):Prop:=PIfs X ifs (tDT X.K c)
theorem aQ7 {X:Cx} {e:Expr} {c:FT} (h:DT X e c):DIfs X [e] c:=.inr ⟨e,rfl,h⟩
theorem aqr {X:Cx}:DIfs X [] qT:=.inl ⟨rfl,fun σ H Q q=>by
 obtain ⟨F,ρ,b,s,re,hf,k⟩:=q;cases hf;exact k F H (Ext.refl s)⟩
def clo (env:Env):List (Str × NameKind)->List (Str × Addr)->Option (List (Str × Addr))
 | [],cs=>some cs
 | (n,k) :: r,cs=>if (k == .free)=true then (env.cells.lookup n).bind fun c=>clo env r ((n,c) :: cs) else clo env r cs
theorem aqc0 {env:Env}:∀ {ns:List (Str × NameKind)} {cs cl:List (Str × Addr)},clo env ns cs=some cl->(forIn (m:=Sem) ns cs fun (x:Str × NameKind) cs=>if (x.2 == .free)=true then do let c <- cellOf env x.1; pure (ForInStep.yield ((x.1,c) :: cs)) else pure (ForInStep.yield cs))=pure cl
 | [],cs,cl,h=>by cases h; rfl
 | (n,k) :: r,cs,cl,h=>by
  unfold clo at h;rw [forIn_cons]
  by_cases hk:(k == .free)=true
  ·rw [if_pos hk] at h
   obtain ⟨c,hc,h⟩:=bind_some h;have e:cellOf env n=pure c:=by unfold cellOf; rw [hc]
   simp only [hk,if_true,e,pure_bind];exact aqc0 h
  ·rw [if_neg hk] at h
   simp only [hk,if_false,pure_bind];exact aqc0 h
theorem ax2 {scope:Scope} {env:Env} {cl:List (Str × Addr)} (h:clo env scope.names []=some cl):K9 scope env=pure cl:=by
 have:=aqc0 h
 simp only [K9];rw [this];rfl
theorem aKw {env:Env}:∀ {ns:List (Str × NameKind)} {cs cl:List (Str × Addr)},clo env ns cs=some cl->∀ x c,(x,c)∈cl->(x,c)∈cs \/ env.cells.lookup x=some c
 | [],cs,cl,h,x,c,hx=>by cases h; exact .inl hx
 | (n,k) :: r,cs,cl,h,x,c,hx=>by
  unfold clo at h
  by_cases hk:(k == .free)=true
  ·rw [if_pos hk] at h
   obtain ⟨a,ha,h⟩:=bind_some h;rcases aKw h x c hx with z | z
   ·rcases Al.mp z with y | y
    ·cases y; exact .inr ha
    ·exact .inl y
   ·exact .inr z
  ·rw [if_neg hk] at h
   exact aKw h x c hx
theorem aKx {env:Env}:∀ {ns:List (Str × NameKind)} {cs cl:List (Str × Addr)},clo env ns cs=some cl->(∀ x c,(x,c)∈cs->(x,c)∈cl)/\∀ x,(x,NameKind.free)∈ns->∃ c,(x,c)∈cl
 | [],cs,cl,h=>by cases h; exact ⟨fun _ _ z=>z,fun x z=>by simp at z⟩
 | (n,k) :: r,cs,cl,h=>by
  unfold clo at h
  by_cases hk:(k == .free)=true
  ·rw [if_pos hk] at h
   obtain ⟨a,ha,h⟩:=bind_some h;obtain ⟨h1,h2⟩:=aKx h;refine ⟨fun x c z=>h1 x c (mem_cons_of_mem _ z),fun x z=>?_⟩;rcases Al.mp z with y | y
   ·cases y; exact ⟨a,h1 _ _ mem_cons_self⟩
   ·exact h2 x y
  ·rw [if_neg hk] at h
   obtain ⟨h1,h2⟩:=aKx h;refine ⟨h1,fun x z=>?_⟩;rcases Al.mp z with y | y
   ·cases y; exact absurd rfl hk
   ·exact h2 x y
theorem mem_lookup {α:Type}:∀ {l:List (Str × α)} {x:Str} {c:α},l.lookup x=some c->(x,c)∈l
 | [],_,_,h=>by cases h
 | (y,d) :: l,x,c,h=>by
  unfold Dh at h;split at h
  ·rename_i e
   cases h;rw [beq_iff_eq] at e;subst e;exact mem_cons_self
  ·exact mem_cons_of_mem _ (mem_lookup h)
theorem akw {α:Type}:∀ {l:List (Str × α)} {x:Str} {c:α},(x,c)∈l->∃ d,l.lookup x=some d
 | (y,d) :: l,x,c,h=>by
  by_cases e:(x == y)=true
  ·exact ⟨d,by unfold Dh; rw [e]⟩
  ·rcases Al.mp h with z | z
   ·cases z; simp at e
   ·obtain ⟨d',hd⟩:=akw z
    refine ⟨d',?_⟩;unfold Dh;cases q:x == y with
    | true=>exact absurd q e
    | false=>exact hd
theorem aX2 {scope:Scope} {env:Env} (hcell:∀ y∈scope.names,y.2 ≠ .cell) {x:Str} (h:(Cq scope env).names.lookup x=some .cell \/ (Cq scope env).names.lookup x=some .free):(x,NameKind.free)∈scope.names:=by
 have h':∃ k,(x,k)∈(Cq scope env).names/\(k=.cell \/ k=.free):=by
  rcases h with h | h
  ·exact ⟨_,mem_lookup h,.inl rfl⟩
  ·exact ⟨_,mem_lookup h,.inr rfl⟩
 obtain ⟨k,hk,hkk⟩:=h';unfold Cq at hk;obtain ⟨⟨n,k'⟩,hm,he⟩:=Ah.mp hk;dsimp only at he;split at he
 ·rename_i hc
  cases he;simp only [C0,beq_iff_eq] at hc;rw [<- hc.1.1]; exact hm
 ·cases he
  rcases hkk with rfl | rfl
  ·exact absurd rfl (hcell _ hm)
  ·exact hm
section
variable {X:Cx} {elt target iter:Expr} {ifs:List Expr} {scope:Scope} {pos:Pos} {cl:List (Str × Addr)} {N':List Str} {js:List (Option Nat)} {g:GE} {c:FT} {e:FO}
structure CompOk (X:Cx) (scope:Scope) (cl:List (Str × Addr)) (N':List Str) (js:List (Option Nat)):Prop where
 calm:X.calm=true
 clo:clo X.env scope.names []=some cl
 free:azo X scope cl js N'
 cell:∀ y∈scope.names,y.2 ≠ .cell
 kind:scope.kind=.function
 names:∀ x∈scope.names,x.2=.local->scope.names.lookup x.1=some .local
theorem CompOk.hcl (k:CompOk X scope cl N' js):∀ x c,cl.lookup x=some c->X.env.cells.lookup x=some c:=fun x c h=>by
 rcases aKw k.clo x c (mem_lookup h) with z | z
 ·simp at z
 ·exact z
theorem CompOk.hhas (k:CompOk X scope cl N' js):∀ x,((Cq scope X.env).names.lookup x=some .cell \/ (Cq scope X.env).names.lookup x=some .free)->∃ c,cl.lookup x=some c:=fun x h=>by
 obtain ⟨c,hc⟩:=(aKx k.clo).2 x (aX2 k.cell h);exact akw hc
theorem aqp4 {K:Frag} {S:List Bool} {f:FO} {σ:L2.St} {H:Hp} {Q:VK} (q:tM K (mO S f) σ H Q):tO K f σ H Q:=by
 obtain ⟨β,F,ρ,p,r,hf,k⟩:=q;obtain ⟨o,ho,rfl⟩:=map_some hf;obtain ⟨G,l,re,rz⟩:=r.look S;refine ⟨G,frz S ρ,o,l.gh,re,ho,fun v F' H' A e q n=>?_⟩
 by_cases hi:oim o=true
 ·rw [if_pos hi] at k
  exact k v _ H' aq9 e.hh (r.push (l.ext e r.ext.fh) (l.own e r.ext.fh hi q) fun b z=>⟨(aQ2 r.ext.fh (n b z).2).trans (n b z).1,(n b z).2⟩)
 ·rw [if_neg hi] at k
  exact k v F' H' (l.fg.trans e.ff) e.hh (rz.push e q n)
section
variable {wi:TI} {f:FO} (k:CompOk X scope cl N' js) (hi:PI X target iter wi) (hw:∀ σ H Q,tO X.K f σ H Q->aqd0 wi (tGE X.K g) (tDT X.K c) (tO X.K e) js σ H Q)
 (hg:∀ C s₀ H₀ ex pn,DGE (aP X N' scope cl C s₀ H₀ ex pn) target g) (ht:∀ C s₀ H₀ ex pn,DIfs (aP X N' scope cl C s₀ H₀ ex pn) ifs c) (he:∀ C s₀ H₀ ex pn,DO (aP X N' scope cl C s₀ H₀ ex pn) elt e)
include k hi hw hg ht he
theorem aW (hs:∀ x,Cd iter X.env x=pure x:=by intro _; rfl):DO X (.ListComp elt [⟨target,iter,ifs,0⟩] scope pos) f :=
 PE.imp (aqfl (g:=tGE X.K g) (tc:=tDT X.K c) (te:=tO X.K e) k.calm hi (ax2 k.clo) k.free k.hcl k.hhas k.cell k.kind k.names hg ht he hs) hw
theorem aqj6 {i:Nat} {S:List Bool} {y:Str} {py spos:Pos} (hN:X.N.Nodup) (hi':X.N[i]?=some y) (hy:X.env.scope.names.lookup y=some .local)
  (hsw:Hc (.ListComp elt [⟨target,iter,ifs,0⟩] scope pos) (some (.Name y py)) spos.line X.env=pure true) (hs:∀ x,Cd iter X.env x=pure x:=by intro _; rfl) :
  DS X (.Assign [.Name y py] (.ListComp elt [⟨target,iter,ifs,0⟩] scope pos) spos) [i] (aqtz i (mO S f)) :=
 cC i (PS.imp (aqfi (g:=tGE X.K g) (tc:=tDT X.K c) (te:=tO X.K e) hN hi' hy hsw k.calm hi (ax2 k.clo) k.free k.hcl k.hhas k.cell k.kind k.names hg ht he hs) fun E σ H q=>hw _ _ _ (aqp4 q))
end
end
end DL
set_option maxHeartbeats 1000000
namespace DL
open PySem PySem.Spec PyProof.Rows L2
theorem aqg3 {k:Nat} {A:Around} (r:Room k A):A.units + 64 + 1 < cLine:=by have:=r.un; omega
section
variable {X:Cx} {K:Frag} {F:Hp}
theorem aJc (hc:X.calm=true):awh X (.builtin "sum") (fun xs H Q=>∃ (p:Addr) (ns:List Int),xs=[.ref p]/\SqL X.K H p (ns.map V.int)/\Q (.int ns.sum) H):=by
 intro pins s σ H xs us Q I r h;obtain ⟨p,ns,rfl,hq,q⟩:=h;cases r with
 | cons r1 r =>
  cases r;cases r1;obtain ⟨its,rv,ht,hz⟩:=I.list hq;have ia:=intsAre_of rv;have hall:=ia.allInts;obtain ⟨ys,hys⟩:=hall.items;have hl:=ht.isList;rw [hys] at hl;refine sum_intListG (I.ok.hd hc) hl fun h' tk t' hk=>?_;have en:(ys.toList.map (·.1))=ns:=by rw [<- nums_intItems,<- hys]; simpa using ia.numsOf
  rw [preSum_eq,D6 (by simp),en];exact ⟨.int _,H,I.kept (t':=tk) hk,⟨_,rfl⟩,q⟩
theorem aqkg (ns:List Int) (a:Int):sumD (ns.map D.int) a=some (a + ns.sum):=by
 induction ns generalizing a with
 | nil=>simp [sumD]
 | cons n ns ih=>simp [sumD,ih,Int.add_assoc]
theorem aVo:∀ {ds:List D} {a b:Int},sumD ds a=some b->∃ ns:List Int,ds=ns.map D.int
 | [],_,_,_=>⟨[],rfl⟩
 | d :: ds,a,b,h=>by
  cases d with
  | int i =>
   obtain ⟨ns,e⟩:=aVo (ds:=ds) (a:=a + i) (b:=b) h;exact ⟨i :: ns,by rw [e]; rfl⟩
  | _=>simp [sumD] at h
theorem aZ:∀ {vs:List V} {ns:List Int},Reps K F vs (ns.map D.int)->vs=ns.map V.int
 | [],[],_=>rfl
 | [],_ :: _,r=>by cases r
 | _ :: _,[],r=>by cases r
 | v :: vs,n :: ns,r=>by
  cases r with
  | cons h t=>cases h; rw [aZ t]; rfl
theorem aJa:aqno K (fun xs H Q=>∃ (p:Addr) (ns:List Int),xs=[.ref p]/\SqL K H p (ns.map V.int)/\Q (.int ns.sum) H) dSum:=by
 intro ds d F H vs Q h s r k;unfold dSum at h;split at h
 ·obtain ⟨n,hn,rfl⟩:=map_some h
  obtain ⟨ns,rfl⟩:=aVo hn;rw [aqkg] at hn;cases hn;cases r with | cons r r' =>
  cases r';cases r with | lst q t =>
  have:=aZ t
  subst this;exact ⟨_,ns,rfl,(aqt1 s q).l,k _ F H (Ext.refl s) (by rw [Int.zero_add]; exact .int _)⟩
 ·cases h
theorem blVals:∀ {bs:List Bool} {us:List Value},aqu8 (bs.map V.bl) us->us=bs.map Value.bool
 | [],_,r=>by cases r; rfl
 | b :: bs,_,r=>by
  cases r with
  | cons h t=>cases h; rw [blVals t]; rfl
theorem aqil {A:Around} {E:Value->Shared->Prop} {s:Shared} {l:Addr} {its:Array Value} {Q:Value->Shared->Prop} {prog:Ak} {w:World} (hl:s.heap.IsList l its)
  (h:∀ s₂:Shared,(∀ b o,s.heap.get? b=some o->s₂.heap.get? b=some o)->s₂.toks=s.toks->s₂.os=s.os->s₂.gens=s.gens->s₂={ s with heap:=s₂.heap }->(s₂.heap.IsListIter s.heap.objs.size l 0/\s₂.heap.IsList l its)->l ≠ s.heap.objs.size->Q (.ref s.heap.objs.size) s₂) :
  wpAny (model prog w) A (J2 (.ref l)) Q E s:=by
 have hlt:l < s.heap.objs.size:=by obtain ⟨_,e,_⟩:=hl; exact Af e
 exact Hw hl (h _ (fun b o e=>Ae _ e) rfl rfl rfl rfl ⟨⟨_,Ag _ rfl,rfl,rfl⟩,hl.push _⟩ (ne_of_lt hlt))
theorem aK9 {prog:Ak} {w:World} {A:Around} (bs:List Bool):TruthOf prog w A (fun i v=>(bs.map Value.bool).toArray[i]?=some v) fun i=>bs.getD i false:=by
 intro i v s Q E hP hQ;rw [List.getElem?_toArray,getElem?_map] at hP;obtain ⟨b,hb,rfl⟩:=map_some hP
 have:bs.getD i false=b:=by simp [List.getD,hb]
 exact El (by rw [<- this]; exact hQ)
theorem aqdf (bs:List Bool):((Ar bs.length).all fun i=>bs.getD i false)=bs.all id:=by
 rw [A5]; simp only [F9,A0];constructor
 ·intro h b hb
  obtain ⟨i,hi,rfl⟩:=List.mem_iff_getElem.mp hb;simpa [hi] using h i hi
 ·intro h i hi
  have:=h bs[i] (getElem_mem hi)
  simpa [hi] using this
theorem aK0 (hc:X.calm=true):awh X (.builtin "all") (fun xs H Q=>∃ (p:Addr) (bs:List Bool),xs=[.ref p]/\SqL X.K H p (bs.map V.bl)/\Q (.bl (bs.all id)) H):=by
 intro pins s σ H xs us Q I r h;obtain ⟨p,bs,rfl,hq,q⟩:=h;cases r with
 | cons r1 r =>
  cases r;cases r1;obtain ⟨its,rv,ht,hz⟩:=I.list hq;obtain rfl:=blVals rv;refine call_all_walk (aqil ht.isList fun s₂ ks et eo eg es st ne=>?_);refine ⟨_,_,_,_,_,_,fun i=>bs.getD i false,rfl,Walks.list (A:=X.A.in1) (I.ok.hd hc) _ p ne (bs.map Value.bool).toArray,st,aK9 bs,fun h' tk hk=>?_⟩;have e:(bs.map Value.bool).toArray.size=bs.length:=by simp
  rw [e,aqdf];rw [es];refine ⟨.bl _,H,I.kept (t':=tk) (h':=h') fun b o eb=>hk b o ?_ (ks b o eb),rfl,q⟩;intro hb;simp at hb;subst hb;exact absurd (Af eb) (lt_irrefl _)
theorem aXh:∀ {ds:List D} {bs:List Bool},aqjl ds=some bs->ds=bs.map D.bl
 | [],_,h=>by cases h; rfl
 | d :: ds,bs,h=>by
  cases d with
  | bl b =>
   obtain ⟨r,hr,rfl⟩:=map_some (show (aqjl ds).map (fun r=>b :: r)=some bs from h);rw [aXh hr]; rfl
  | _=>simp [aqjl] at h
theorem awy:∀ {vs:List V} {ns:List Bool},Reps K F vs (ns.map D.bl)->vs=ns.map V.bl
 | [],[],_=>rfl
 | [],_ :: _,r=>by cases r
 | _ :: _,[],r=>by cases r
 | v :: vs,n :: ns,r=>by
  cases r with
  | cons h t=>cases h; rw [awy t]; rfl
theorem aqep:aqno K (fun xs H Q=>∃ (p:Addr) (bs:List Bool),xs=[.ref p]/\SqL K H p (bs.map V.bl)/\Q (.bl (bs.all id)) H) dAll:=by
 intro ds d F H vs Q h s r k;unfold dAll at h;split at h
 ·obtain ⟨bs,hb,rfl⟩:=map_some h
  have e:=aXh hb;subst e;cases r with | cons r r' =>
  cases r';cases r with | lst q t =>
  have:=awy t
  subst this;exact ⟨_,bs,rfl,(aqt1 s q).l,k _ F H (Ext.refl s) (.bl _)⟩
 ·cases h
end
theorem Inv.turnedT {X:Cx} {pins:List (Addr × Obj)} {σ:L2.St} {H:Hp} {s:Shared} {h':Heap} {t':Nat} {fp:List Addr} {T:Addr} {o:HO} (I:Inv X pins σ H s) (k:∀ b u,b ∉ fp->s.heap.get? b=some u->h'.get? b=some u) (hf:∀ b∈fp,FpOk X pins H b)
  (hT:s.heap.objs.size <= T) (new:azn X.prog X.w (upd H T o) h' T o):Inv X pins σ (upd H T o) { s with heap:=h',toks:=t' }:=by
 have hn:H T=none:=I.hok.fresh hT;have lt:∀ b u,s.heap.get? b=some u->b ≠ T:=fun b u e z=>absurd (Af e) (by rw [z]; exact La.mpr hT);have nfp:∀ b u,H b=some u->b ∉ fp:=fun b u e z=>by rw [(hf b z).1] at e; cases e
 refine I.step (g':=s.gens) (d':=s.drawn) (ch:=fp) (fun b hb=>?_) (fun b u _ _ hc e _=>k b u hc e) (fun b u _ _ hc e _=>⟨u.slots,k b u hc e⟩) (fun b u _ e n=>by rw [ae (lt b u e)]; exact n)
  (fun b u hc e=>⟨u,k b u hc e⟩) (fun b xs e=>by rw [ae (ac e hn)]; exact e) (fun b u w e=>by rw [ae (ac e hn)]; exact e) (fun b ps e=>⟨#[],by rw [ae (ac e hn),e]; simp⟩) (fun m hm=>?_) (fun b u e=>?_) I.bare
 ·obtain ⟨f0,f1,f2,f3,f4,f5⟩:=hf b hb
  exact ⟨f3,f1,f4,f5⟩
 ·obtain ⟨u,es,ep,ho,r⟩:=hm
  refine ⟨u,es,ep,k _ u (fun z=>(hf _ z).2.1 rfl) ho,r⟩
 ·by_cases hb:b=T
  ·subst hb; rw [aa] at e; cases e; exact new
  ·rw [ae hb] at e
   refine (I.hok b u e).stay (fun c v hc q=>k c v ?_ q) (fun c q=>by rw [ae (ac q hn)]; exact q) fun c xs q=>by rw [ae (ac q hn)]; exact q
   rcases hc with z | z
   ·rw [z]; exact nfp b u e
   ·exact nfp c _ z
theorem Inv.turnedL {X:Cx} {pins:List (Addr × Obj)} {σ:L2.St} {H:Hp} {s:Shared} {h':Heap} {t':Nat} {fp:List Addr} (I:Inv X pins σ H s) (k:∀ b u,b ∉ fp->s.heap.get? b=some u->h'.get? b=some u) (hf:∀ b∈fp,FpOk X pins H b):Inv X pins σ H { s with heap:=h',toks:=t' }:=by
 have nfp:∀ b u,H b=some u->b ∉ fp:=fun b u e z=>by rw [(hf b z).1] at e; cases e
 refine I.step (g':=s.gens) (d':=s.drawn) (ch:=fp) (fun b hb=>?_) (fun b u _ _ hc e _=>k b u hc e) (fun b u _ _ hc e _=>⟨u.slots,k b u hc e⟩) (fun b u _ e n=>n)
  (fun b u hc e=>⟨u,k b u hc e⟩) (fun b xs e=>e) (fun b u w e=>e) (fun b ps e=>⟨#[],by rw [e]; simp⟩) (fun m hm=>?_) (fun b u e=>?_) I.bare
 ·obtain ⟨f0,f1,f2,f3,f4,f5⟩:=hf b hb
  exact ⟨f3,f1,f4,f5⟩
 ·obtain ⟨u,es,ep,ho,r⟩:=hm
  refine ⟨u,es,ep,k _ u (fun z=>(hf _ z).2.1 rfl) ho,r⟩
 ·refine (I.hok b u e).stay (fun c v hc q=>k c v ?_ q) (fun c q=>q) fun c xs q=>q
  rcases hc with z | z
  ·rw [z]; exact nfp b u e
  ·exact nfp c _ z
def Ite (K:Frag) (a:Addr):It :=
 ⟨fun i H=>∃ xs x,SqL K H a xs/\xs[i]?=some x,fun i H x H'=>∃ T v,x=.ref T/\H T=none/\H'=upd H T (.tup [.int (i:Int),v])/\∀ xs,SqL K H a xs->xs[i]?=some v,fun i H=>∃ xs,SqL K H a xs/\xs.length=i⟩
theorem aqcx {P:Ak} {w:World} {K:Frag} {elts:List Expr} {kk:Nat} {tp:Pos} (a e it:Addr) (hei:e ≠ it) (hae:a ≠ e) (hai:a ≠ it):Turn P w K (.Tuple elts kk tp) (Ite K a) [e,it] e (fun i h=>(∃ old,IsEnum h e it i old)/\h.IsListIter it a i) where
 mem:=by simp
 obj:=fun i h st b hb=>by
  obtain ⟨⟨old,he⟩,⟨o,eo,c,d⟩⟩:=st;have hb':b=e \/ b=it:=by simpa using hb
  rcases hb' with rfl | rfl
  ·exact ⟨_,he,fun v z=>by cases z⟩
  ·exact ⟨o,eo,fun v z=>by rw [d] at z; cases z⟩
 keep:=fun i h h' st k=>by
  obtain ⟨⟨old,he⟩,hi⟩:=st;exact ⟨⟨old,k e (by simp) _ he⟩,hi.at fun o q=>k it (by simp) o q⟩
 item:=by
  intro X hP hw hK hc i pins s σ H E I hf st hg;subst hP hw hK;obtain ⟨xs,x,hq,hx⟩:=hg;obtain ⟨its,rv,p,hz⟩:=I.list hq;obtain ⟨u,hu,ru⟩:=rv.get hx;have W:=WalksT.enumerateD (prog:=X.prog) (w:=X.w) (A:=X.A) (Draws.list (A:=X.A.in1) (I.ok.hd hc) it a hai its.toArray) e hei (by simp; exact ⟨hei,B4 hae⟩) (by simp);have hlt:i < its.toArray.size:=by simp; exact (Ai.mp hu).1
  refine W.item i s _ E hlt ⟨st.1,st.2,p.isList⟩ fun T vals h' tk hP hT htup hmid hk=>⟨.ref T,rfl,?_⟩;refine W.go elts kk tp i T _ _ E hmid fun h'' hst'' hk''=>?_;obtain ⟨t,x',hx',rfl⟩:=hP;have ex:x'=u:=by
   have h1:its[i]?=some x':=by simpa using hx'
   rw [hu] at h1; cases h1; rfl
  subst ex;have nT:T ∉ [e,it]:=W.apart i T h' hmid;obtain ⟨oT,hoT,hcT,nT2,hdT⟩:=id htup;have kall:∀ b u,b ∉ [e,it]->s.heap.get? b=some u->h''.get? b=some u:=fun b u hb e=>hk'' b u hb (hk b u hb e);have new:azn X.prog X.w (upd H T (.tup [.int (i:Int),x])) h'' T (.tup [.int (i:Int),x]):=by
   refine ⟨by simp [Ao],[.int (i:Int) t,x'],.cons ⟨_,rfl⟩ (.cons ru .nil),?_⟩;exact ⟨oT,hk'' T oT nT hoT,hcT,nT2,hdT⟩
  have I2:=DL.Inv.turnedT I (h':=h'') (t':=tk) kall hf hT new;refine ⟨.ref T,_,I2,rfl,⟨T,x,rfl,I.hok.fresh hT,rfl,fun ys hy=>by rw [I.list_inj hy hq]; exact hx⟩,⟨hst''.1,hst''.2.1⟩,fun b hb=>?_⟩;rw [ae (by rintro rfl; exact nT hb)];exact (hf b hb).1
 done:=by
  intro X hP hw hK hc i pins s σ H E I hf st hg;subst hP hw hK;obtain ⟨xs,hq,hx⟩:=hg;obtain ⟨its,rv,p,hz⟩:=I.list hq;have W:=WalksT.enumerateD (prog:=X.prog) (w:=X.w) (A:=X.A) (Draws.list (A:=X.A.in1) (I.ok.hd hc) it a hai its.toArray) e hei (by simp; exact ⟨hei,B4 hae⟩) (by simp);have hl:its.toArray.size=i:=by rw [<- hx,rv.length]; simp
  refine W.done s _ E (by rw [hl]; exact ⟨st.1,st.2,p.isList⟩) fun h' tk hk=>⟨rfl,DL.Inv.turnedL I (fp:=[e,it]) hk hf⟩
 self:=fun _ _ _ _ _ st h=>by
  obtain ⟨⟨old,he⟩,_⟩:=st;exact wpAny_pyIter_enum he h
section
variable {X:Cx} {elts:List Expr} {kk:Nat} {tp p pos:Pos} {a b:Expr}
theorem sq_lt {pins:List (Addr × Obj)} {σ:L2.St} {H:Hp} {s:Shared} {l:Addr} {xs:List V} (I:Inv X pins σ H s) (h:SqL X.K H l xs):l < s.heap.objs.size:=by
 obtain ⟨its,rv,p,hz⟩:=I.list h;obtain ⟨o,e,_⟩:=p.isList;exact Af e
def iEnum (K:Frag) (tl:TE):TI:=fun σ H R=>tl σ H fun x H1=>∃ a,x=.ref a/\(∃ xs,SqL K H1 a xs)/\R (Ite K a) H1
theorem aqa1 {tl:TE} (hg:Gl X "enumerate") (hm:X.mg "enumerate"=none) (hl:PE X a tl) (hs:Ap [a] X.env=[(false,eval a X.env)]:=by rfl):PI X (.Tuple elts kk tp) (.Call (.Name "enumerate" p) [a] [] pos) (iEnum X.K tl):=by
 intro pins s σ H R I h;refine Call_ (awo I hg hm aZ6 (Bp (thn ((gd hl cn (by rw [hs]; rfl)) pos pins s σ H (fun vs H1=>∃ x,vs=[x]/\∃ a,x=.ref a/\(∃ xs,SqL X.K H1 a xs)/\R (Ite X.K a) H1) I (by
  show tl σ H fun x H1=>_;exact (show (fun x H1=>∃ a,x=V.ref a/\(∃ xs,SqL X.K H1 a xs)/\R (Ite X.K a) H1)=(fun x H1=>∃ x',[x]=[x']/\∃ a,x'=V.ref a/\(∃ xs,SqL X.K H1 a xs)/\R (Ite X.K a) H1) from by
   funext x H1
   apply propext;exact ⟨fun z=>⟨x,rfl,z⟩,fun ⟨x',e,z⟩=>by cases e; exact z⟩) ▸ h)) fun us s1 ⟨vs,H1,I1,r1,q1⟩=>?_) hs rfl))
 obtain ⟨x,rfl,l,rfl,⟨xs,hq⟩,q⟩:=q1;cases r1 with
 | cons r rr =>
  cases rr;cases r;obtain ⟨its,rv,pl,hz⟩:=I1.list hq;refine call_enumerate_list pl.isList fun h' he hit hsz hk=>?_;have hlt:=sq_lt I1 hq;refine wpAny_pyIter_enum he ?_;have I2:Inv X pins σ H1 { s1 with heap:=h' }:=I1.kept (t':=s1.toks) hk;refine ⟨s1.heap.objs.size + 1,[s1.heap.objs.size + 1,s1.heap.objs.size],_,_,H1,rfl,I2,aqcx l _ _ (Nat.succ_ne_self _) (ne_of_lt (lt_succ_of_lt hlt)) (ne_of_lt hlt),⟨⟨_,by simpa using he⟩,hit⟩,fun b hb=>?_,q⟩;have hb':b=s1.heap.objs.size + 1 \/ b=s1.heap.objs.size:=by simpa using hb
  rcases hb' with rfl | rfl
  ·exact I1.fpOk (le_succ _) (I1.hok.fresh (le_succ _))
  ·exact I1.fpOk (le_refl _) (I1.hok.fresh (le_refl _))
theorem aZx {ds:List D}:(aqbn ds).length=ds.length:=by simp [aqbn]
theorem aqj1 {ds:List D} {i:Nat} (h:i < ds.length):(aqbn ds)[i]'(by rw [aZx]; exact h)=.tup [.int (i:Int),ds[i]]:=by simp [aqbn]
variable {js:List (Option Nat)} {g:GE} {c:FT} {e:FO}
theorem aKu {K:Frag} {f:FE} {σ:L2.St} {H:Hp} {Q:VK} (h:tO K (aqak js f g c e) σ H Q):aqd0 (iEnum K (tD K f)) (tGE K g) (tDT K c) (tO K e) js σ H Q:=by
 obtain ⟨F,ρ,total,s,re,hf,k⟩:=h;obtain ⟨d,hd,hf⟩:=bind_some hf;rw [aZ7] at hf;split at hf
 ·rename_i xs
  split at hf
  ·rename_i hlen
   obtain ⟨total,hf2,rfl⟩:=map_some hf;have hf:=hf2;clear hf2;refine ⟨F,ρ,.lst xs,s,re,hd,fun v F1 H1 e1 r1=>?_⟩;cases r1 with
   | lst q t =>
    rename_i a vs;refine ⟨a,rfl,⟨vs,(aqt1 e1.fh q).l⟩,fun l hl=>⟨fun i m σ' H'=>∃ F' ρ' done ys,CI K F1 H1 F' H' σ' ρ' l done/\SqE K F' a vs/\Reps K F' vs xs/\i <= xs.length/\m=xs.length - i/\done.length <= i/\av0 g c e ((aqbn xs).drop i) ρ'=some ys/\total=done++ys,
     ⟨_,F1,mkD js ρ,[],total,aqc1 re e1 hl,q,t,zero_le _,rfl,le_refl _,hf,rfl⟩,?_⟩⟩
    rintro i m σ' H' ⟨F',ρ',done,ys,ci,q',t',hi,rfl,hdn,hc,ht⟩
    by_cases hlt:i < xs.length
    ·have hv:i < vs.length:=by rw [t'.length]; exact hlt
     refine .inr ⟨⟨vs,vs[i],(aqt1 ci.ext.fh q').l,by simp [hv]⟩,fun x H2 y=>?_⟩;obtain ⟨T,v',rfl,hT,rfl,y⟩:=y;obtain ⟨d,hd1,hd2⟩:=t'.get (y vs (aqt1 ci.ext.fh q').l);have ed:xs[i]=d:=by rw [getElem?_eq_getElem hlt] at hd1; exact Option.some.inj hd1
     rw [drop_cons (by rw [aZx]; exact hlt),aqj1 hlt,ed] at hc;have hFT:=ci.ext.fh.free hT;have eT:=Ext.laid (o:=.tup [.int (i:Int),v']) ci.ext.fh hT;refine aKt (N:=fun σ2 H2=>∃ m',m' < xs.length - i/\_) (ci.more eT) hl (.tup (.inl (.inl aa)) (.cons (.int _) (.cons (hd2.mono (ai hFT)) .nil))) (lt_of_lt_of_le (lt_of_le_of_lt hdn hlt) (az0 hlen)) hc fun F2 H2 σ2 ρ2 new ys' s2 ci2 hn2 hc2 he2=>?_;exact ⟨_,by omega,F2,ρ2,done++new,ys',ci2,aqt1 (eT.ff.trans s2) q',t'.mono (eT.ff.trans s2),hlt,rfl,by simp; omega,hc2,by rw [ht,he2]; simp⟩
    ·refine .inl ⟨⟨vs,(aqt1 ci.ext.fh q').l,by rw [t'.length]; omega⟩,?_⟩
     rw [drop_of_length_le (by rw [aZx]; omega)] at hc;cases hc
     have:total=done:=by simpa using ht
     subst this;obtain ⟨A,o1,o2⟩:=ci.own hl;exact k (.ref l) F' H' A (e1.trans ci.ext) o1 fun b z=>⟨(o2 b z).1,e1.hh.free (o2 b z).2⟩
  ·cases hf
 ·cases hf
end
section
variable {X:Cx} {elts:List Expr} {kk:Nat} {tp p pos:Pos} {a b:Expr}
theorem aqoa (n l1 l2:Nat) (h1:l1 < n) (h2:l2 < n):J5 (n + 4) (n + 2) (n + 3) n (n + 1) l1 l2:=by
 constructor <;> (show (_:Nat) ≠ _; omega)
variable {js:List (Option Nat)} {g:GE} {c:FT} {e:FO}
end
end DL
namespace DL
open PySem
def aWx:List D->Option (List Int)
 | []=>some []
 | .int n :: ds=>(aWx ds).map (n :: ·)
 | _=>none
theorem axs:∀ {ds:List D} {ns:List Int},aWx ds=some ns->ds=ns.map D.int
 | [],_,h=>by cases h; rfl
 | d :: ds,ns,h=>by
  cases d with
  | int i =>
   simp only [aWx] at h;cases q:aWx ds with
   | none=>rw [q] at h; cases h
   | some ms=>rw [q] at h; cases h; rw [axs q]; rfl
  | _=>cases h
@[simp] theorem av7:∀ (ns:List Int),aWx (ns.map D.int)=some ns
 | []=>rfl
 | n :: ns=>by simp [aWx,av7 ns]
def insU (x:Int):List Int->List Int
 | []=>[x]
 | y :: ys=>if x < y then x :: y :: ys else if x=y then y :: ys else y :: insU x ys
def aI (ns:List Int):List Int:=ns.foldr insU []
theorem aZj (x z:Int):∀ l:List Int,z∈insU x l ↔ z=x \/ z∈l
 | []=>by simp [insU]
 | y :: ys=>by
  unfold insU;split
  ·simp
  ·split
   ·rename_i e; subst e; simp
   ·simp [aZj x z ys]
    constructor
    ·rintro (h | h | h)
     ·exact .inr (.inl h)
     ·exact .inl h
     ·exact .inr (.inr h)
    ·rintro (h | h | h)
     ·exact .inr (.inl h)
     ·exact .inl h
     ·exact .inr (.inr h)
theorem aJp (x:Int):∀ l:List Int,l.Pairwise (· < ·)->(insU x l).Pairwise (· < ·)
 | [],_=>by simp [insU]
 | y :: ys,h=>by
  rw [pairwise_cons] at h;unfold insU;split
  ·rename_i hx
   rw [pairwise_cons];refine ⟨fun z hz=>?_,Fb.mpr h⟩;rcases Al.mp hz with rfl | hz
   ·exact hx
   ·exact Int.lt_trans hx (h.1 z hz)
  ·split
   ·exact Fb.mpr h
   ·rename_i h1 h2
    rw [pairwise_cons];refine ⟨fun z hz=>?_,aJp x ys h.2⟩;rcases (aZj x z ys).mp hz with rfl | hz
    ·omega
    ·exact h.1 z hz
theorem axy (z:Int):∀ ns:List Int,z∈aI ns ↔ z∈ns
 | []=>by simp [aI]
 | n :: ns=>by
  have:=axy z ns
  simp only [aI] at this;simp only [aI,List.foldr_cons,aZj,mem_cons,this]
theorem aje:∀ ns:List Int,(aI ns).Pairwise (· < ·)
 | []=>by simp [aI]
 | n :: ns=>by
  have:=aje ns
  simp only [aI] at this ⊢;exact aJp n _ this
theorem ax1:∀ {l m:List Int},l.Pairwise (· < ·)->m.Pairwise (· < ·)->(∀ x,x∈l ↔ x∈m)->l=m
 | [],[],_,_,_=>rfl
 | [],y :: ys,_,_,h=>absurd ((h y).mpr (by simp)) (by simp)
 | x :: xs,[],_,_,h=>absurd ((h x).mp (by simp)) (by simp)
 | x :: xs,y :: ys,h1,h2,h=>by
  rw [pairwise_cons] at h1 h2;have e:x=y:=by
   rcases Al.mp ((h x).mp (by simp)) with e | e
   ·exact e
   ·rcases Al.mp ((h y).mpr (by simp)) with e' | e'
    ·exact e'.symm
    ·have a1:=h2.1 x e
     have a2:=h1.1 y e';omega
  subst e;rw [ax1 h1.2 h2.2 fun z=>?_];constructor
  ·intro hz
   rcases Al.mp ((h z).mp (mem_cons_of_mem _ hz)) with e | e
   ·subst e; exact absurd (h1.1 z hz) (Int.lt_irrefl _)
   ·exact e
  ·intro hz
   rcases Al.mp ((h z).mpr (mem_cons_of_mem _ hz)) with e | e
   ·subst e; exact absurd (h2.1 z hz) (Int.lt_irrefl _)
   ·exact e
def aQz:List D->Option (List D)
 | [.lst xs]=>(aWx xs).bind fun ns=>if ns.length < 4000/\(aI ns).length < 64 then some ((aI ns).map .int) else none
 | _=>none
def insL (x:Int):List Int->List Int
 | []=>[x]
 | y :: ys=>if x <= y then x :: y :: ys else y :: insL x ys
def aJk (ns:List Int):List Int:=ns.foldr insL []
theorem aQt (x:Int):∀ l:List Int,(insL x l).Perm (x :: l)
 | []=>.refl _
 | y :: ys=>by
  unfold insL;split
  ·exact .refl _
  ·exact ((aQt x ys).cons y).trans (List.Perm.swap _ _ _)
theorem azr:∀ ns:List Int,(aJk ns).Perm ns
 | []=>.refl _
 | n :: ns=>(aQt n _).trans ((azr ns).cons n)
theorem aJr (x:Int):∀ l:List Int,l.Pairwise (· <= ·)->(insL x l).Pairwise (· <= ·)
 | [],_=>by simp [insL]
 | y :: ys,h=>by
  rw [pairwise_cons] at h;unfold insL;split
  ·rename_i hx
   rw [pairwise_cons];refine ⟨fun z hz=>?_,Fb.mpr h⟩;rcases Al.mp hz with rfl | hz
   ·exact hx
   ·exact Fi hx (h.1 z hz)
  ·rename_i hx
   rw [pairwise_cons];refine ⟨fun z hz=>?_,aJr x ys h.2⟩;rcases Al.mp ((aQt x ys).mem_iff.mp hz) with rfl | hz
   ·omega
   ·exact h.1 z hz
theorem awx:∀ ns:List Int,(aJk ns).Pairwise (· <= ·)
 | []=>.nil
 | n :: ns=>aJr n _ (awx ns)
theorem aqj0 {ns ns':List Int} (hp:ns'.Perm ns) (hs:ns'.Pairwise (· <= ·)):ns'=aJk ns :=
 Ip (fun _ _ _ _ a b=>Int.le_antisymm a b) hs (awx ns) (hp.trans (azr ns).symm)
def aqjy:List D->Option (List D)
 | [.lst xs]=>(aWx xs).bind fun ns=>if ns.length < 64 then some ((aJk ns).map .int) else none
 | _=>none
end DL
namespace SetW
open PySem
def Ris (xs:Array Nat):Prop:=∀ (i k:Nat),i < k->∀ (a b:Nat),xs[i]?=some a->xs[k]?=some b->a < b
theorem aqmk {xs:Array Nat} {i d a:Nat} (h:xs[i]?=some a):xs.getD i d=a:=by
 rw [Em,h]; rfl
theorem awb {xs:Array Nat} {i:Nat} (h:i < xs.size):∃ a,xs[i]?=some a:=⟨xs[i],by rw [Da h]⟩
theorem aZ9 {xs:Array Nat} {j:Nat} (hx:Ris xs):∀ (fuel lo hi:Nat),hi - lo <= fuel->lo <= hi->hi <= xs.size->(∀ i a,i < lo->xs[i]?=some a->a < j)->(∀ i a,hi <= i->xs[i]?=some a->j <= a) ->
  Fj xs j fuel lo hi <= xs.size/\(∀ i a,i < Fj xs j fuel lo hi->xs[i]?=some a->a < j)/\(∀ i a,Fj xs j fuel lo hi <= i->xs[i]?=some a->j <= a)
 | 0,lo,hi,h1,h2,h3,h4,h5=>by
  have:lo=hi:=by omega
  subst this;exact ⟨h3,h4,h5⟩
 | fuel + 1,lo,hi,h1,h2,h3,h4,h5=>by
  unfold Fj
  by_cases hl:lo < hi
  ·rw [if_pos hl]
   obtain ⟨m,hm⟩:∃ m,xs[(lo + hi) / 2]?=some m:=awb (by omega);dsimp only;rw [aqmk hm]
   by_cases hj:m < j
   ·rw [if_pos hj]
    refine aZ9 hx fuel _ hi (by omega) (by omega) h3 (fun i a hi' ha=>?_) h5
    by_cases e:i=(lo + hi) / 2
    ·subst e; rw [hm] at ha; cases ha; exact hj
    ·exact lt_trans (hx i _ (by omega) a m ha hm) hj
   ·rw [if_neg hj]
    refine aZ9 hx fuel lo _ (by omega) (by omega) (by omega) h4 (fun i a hi' ha=>?_)
    by_cases e:i=(lo + hi) / 2
    ·subst e; rw [hm] at ha; cases ha; omega
    ·have:=hx _ i (by omega) m a hm ha; omega
  ·rw [if_neg hl]
   have:lo=hi:=by omega
   subst this;exact ⟨h3,h4,h5⟩
theorem ak8 {xs:Array Nat} (hx:Ris xs) (j:Nat):SetTable.below xs j <= xs.size/\(∀ i a,i < SetTable.below xs j->xs[i]?=some a->a < j)/\(∀ i a,SetTable.below xs j <= i->xs[i]?=some a->j <= a) :=
 aZ9 hx xs.size 0 xs.size (by omega) (by omega) (le_refl _) (fun i a h=>absurd h (Nat.not_lt_zero _)) fun i a h ha=>by
  rw [getElem?_eq_none h] at ha; cases ha
theorem aqce {xs:Array Nat} (hx:Ris xs) {i a:Nat} (h:xs[i]?=some a):SetTable.below xs (a + 1)=i + 1:=by
 obtain ⟨h1,h2,h3⟩:=ak8 hx (a + 1);have hi:i < xs.size:=by
  by_cases c:i < xs.size
  ·exact c
  ·rw [getElem?_eq_none (by omega)] at h; cases h
 generalize SetTable.below xs (a + 1)=r at h1 h2 h3;have g1:i < r:=by
  by_cases c:i < r
  ·exact c
  ·have:=h3 i a (by omega) h; omega
 by_cases g2:i + 1 < r
 ·obtain ⟨b,hb⟩:=awb (xs:=xs) (i:=i + 1) (by omega)
  have c1:=h2 (i + 1) b g2 hb;have c2:=hx i (i + 1) (by omega) a b h hb;omega
 ·omega
theorem aqcd {xs:Array Nat} (hx:Ris xs):SetTable.below xs 0=0:=by
 obtain ⟨h1,h2,h3⟩:=ak8 hx 0;generalize SetTable.below xs 0=r at h1 h2 h3;cases r with
 | zero=>rfl
 | succ r =>
  obtain ⟨a,ha⟩:=awb (xs:=xs) (i:=0) (by omega)
  have:=h2 0 a (by omega) ha
  omega
theorem aqdd {xs:Array Nat}:Ris xs ↔ xs.toList.Pairwise (· < ·):=by
 rw [Bu];constructor
 ·intro h i j hi hj hij
  exact h i j hij _ _ (by rw [<- getElem?_toList]; exact getElem?_eq_getElem hi) (by rw [<- getElem?_toList]; exact getElem?_eq_getElem hj)
 ·intro h i k hik a b ha hb
  rw [<- getElem?_toList] at ha hb;obtain ⟨hi,rfl⟩:=Ai.mp ha;obtain ⟨hk,rfl⟩:=Ai.mp hb;exact h i k hi hk hik
theorem aqks:Ris #[]:=by intro i k _ a b h; simp at h
theorem aqdc (n:Nat):Ris (Array.range n):=by
 rw [aqdd,Array.toList_range]; exact Fk
theorem aqkr {xs:Array Nat} (hx:Ris xs) {j:Nat} (hj:xs[SetTable.below xs j]? ≠ some j):Ris (SetTable.insertAt xs (SetTable.below xs j) j):=by
 obtain ⟨h1,h2,h3⟩:=ak8 hx j;generalize SetTable.below xs j=r at h1 h2 h3 hj;have hp:=aqdd.mp hx;rw [aqdd,SetTable.toList_insertAt,List.pairwise_append,pairwise_cons];have hd:∀ b∈xs.toList.drop r,j < b:=by
  intro b hb;obtain ⟨k,hk⟩:=J6 hb;rw [List.getElem?_drop,getElem?_toList] at hk;have c1:=h3 (r + k) b (by omega) hk;cases k with
  | zero =>
   have:b ≠ j:=by rintro rfl; exact hj hk
   omega
  | succ k =>
   have hlt:r + (k + 1) < xs.size:=by
    by_cases c:r + (k + 1) < xs.size
    ·exact c
    ·rw [getElem?_eq_none (by omega)] at hk; cases hk
   obtain ⟨m,hm⟩:=awb (xs:=xs) (i:=r) (by omega);have c2:=h3 r m (le_refl _) hm;have c3:=hx r (r + (k + 1)) (by omega) m b hm hk;omega
 have ht:∀ a∈xs.toList.take r,a < j:=by
  intro a ha;obtain ⟨k,hk⟩:=J6 ha;have hkr:k < r:=by
   by_cases c:k < r
   ·exact c
   ·rw [Lb,if_neg c] at hk; cases hk
  rw [Lb,if_pos hkr,getElem?_toList] at hk;exact h2 k a hkr hk
 refine ⟨hp.sublist (List.take_sublist _ _),⟨hd,hp.sublist (List.drop_sublist _ _)⟩,fun a ha b hb=>?_⟩;rcases Al.mp hb with rfl | hb
 ·exact ht a ha
 ·exact lt_trans (ht a ha) (hd b hb)
theorem aqd4 {t:SetTable} {j:Nat} (h:∀ i,t.slot j ≠ .live i):t.place[SetTable.below t.place j]? ≠ some j:=by
 intro e;refine h (SetTable.below t.place j) ?_;simp [SetTable.slot,e]
theorem akn {t:SetTable} {f:Nat->Int} {h:Int}:∀ (fuel:Nat) (p:SetTable.Probe),(∀ d,p.dummy=some d->∀ i,t.slot d ≠ .live i)->∀ j d,SetTable.probe.go t f h fuel p=some (.empty j d)->∀ i,t.slot (d.getD j) ≠ .live i
 | 0,p,_,j,d,e=>by cases e
 | fuel + 1,p,hp,j,d,e=>by
  have had:∀ q:SetTable.Probe,(t.advance q).dummy=q.dummy:=by
   intro q; unfold SetTable.advance; split <;> rfl
  unfold SetTable.probe.go at e;split at e
  ·rename_i hs
   cases e;cases hd:p.dummy with
   | none=>intro i; rw [Option.getD_none,hs]; exact Hs
   | some d=>rw [Option.getD_some]; exact hp d hd
  ·rename_i hs
   refine akn fuel _ (fun d hd=>?_) j d e;rw [had] at hd;cases hd;intro i; rw [hs]; exact Hs
  ·split at e
   ·cases e
   ·exact akn fuel _ (fun d hd=>hp d (by rw [had] at hd; exact hd)) j d e
def aws (led:Bool) (t:SetTable):Prop:=Ris t.place/\t.led=led
theorem aws.standIn {led:Bool} {t:SetTable} (h:aws led t) (n:Nat):aws led (t.standIn n):=⟨aqdc n,h.2⟩
theorem aws.plainOff {led:Bool} {t:SetTable} (h:aws led t):aws led { t with plain:=false }:=h
theorem aws.lay {led:Bool} {t:SetTable} (h:aws led t) (es:Array (Int × Value)) (n:Int) (x:Value):aws led (layNew t es n x).2.1:=by
 unfold layNew;split
 ·rename_i slot wd hf
  have hs:t.place[SetTable.below t.place slot]? ≠ some slot:=by
   unfold SetTable.freeSlot at hf;split at hf
   ·rename_i j d hq
    cases hf;exact aqd4 (akn _ _ (fun d e=>by cases e) _ _ hq)
   ·cases hf
  have hput:aws led (t.put slot).1:=⟨aqkr h.1 hs,h.2⟩;dsimp only;unfold SetTable.orStandIn;split
  ·exact hput
  ·exact hput.standIn _
 ·exact h.standIn _
theorem fm_pw {f:Nat->Option (Nat × Nat)} (hf:∀ j q,f j=some q->q.1=j):∀ (l:List Nat),l.Pairwise (· < ·)->((l.filterMap f).map (·.1)).Pairwise (· < ·)
 | [],_=>.nil
 | a :: l,h=>by
  rw [pairwise_cons] at h;rw [filterMap_cons];split
  ·exact fm_pw hf l h.2
  ·rename_i q hq
   rw [map_cons,pairwise_cons];refine ⟨fun b hb=>?_,fm_pw hf l h.2⟩;obtain ⟨z,hz,rfl⟩:=Ah.mp hb;obtain ⟨k,hk,hz'⟩:=D0.mp hz;rw [hf _ _ hq,hf _ _ hz'];exact h.1 k hk
theorem aws.relay {led:Bool} {t:SetTable} (h:aws led t) (es:Array (Int × Value)) (n:Nat):aws led (J7 t es n).2.1:=by
 unfold J7;split
 ·rename_i t' order hr
  dsimp only;split
  ·unfold SetTable.relaid SetTable.laid at hr
   cases ho:SetTable.layClean (SetTable.sizeAbove n - 1) (es.map (·.1)) with
   | none=>rw [ho] at hr; cases hr
   | some owner =>
    rw [ho] at hr;have hr':=Option.some.inj hr;have e:=congrArg Prod.fst hr';dsimp only at e;rw [<- e];refine ⟨?_,h.2⟩;rw [aqdd,List.toList_toArray];refine fm_pw (fun j q hq=>?_) _ Fk;obtain ⟨z,_,rfl⟩:=D7.mp hq;rfl
  ·exact h.standIn _
 ·exact h.standIn _
theorem aws.fresh (led:Bool):aws led (.fresh 0 0 led):=⟨aqks,rfl⟩
end SetW
namespace SetW
open PySem PySem.Spec PyProof.Rows
def aqtx (w:World):Bool:=w.params.followText "set-order"
section
variable {prog:Ak} {w:World} {A:Around} {E:Value->Shared->Prop} {s:Shared}
def aJj (prog:Ak) (w:World) (h:Heap) (a:Addr) (S:Int->Bool) (n:Nat):Prop :=
 ∃ o es ep t,h.get? a=some o/\o.ExactSet/\o.data=.set es ep t/\Mi (Cm prog w) es.toList/\(∀ k,S k=true ↔ ∃ e∈es.toList,(Cm prog w).is k e.2=true)
 /\es.size < E2/\t.fits es.size=true/\es.size=n/\aws (!aqtx w) t
theorem aJj.congr {h:Heap} {a:Addr} {S S':Int->Bool} {n n':Nat} (hS:aJj prog w h a S n) (e:∀ k,S k=S' k) (en:n=n'):aJj prog w h a S' n':=by
 have:S=S':=funext e
 subst this; subst en; exact hS
theorem aJj.at {h h':Heap} {a:Addr} {S:Int->Bool} {n:Nat} (hS:aJj prog w h a S n) (e:∀ o,h.get? a=some o->h'.get? a=some o):aJj prog w h' a S n:=by
 obtain ⟨o,es,ep,t,ho,r⟩:=hS;exact ⟨o,es,ep,t,e o ho,r⟩
theorem aJj.store {h:Heap} {a:Addr} {o:Obj} {es:Array (Int × Value)} {ep:Nat} {t:SetTable} (ho:h.get? a=some o) (hex:o.ExactSet) (hd:o.data=.set es ep t)
  {es':Array (Int × Value)} {t':SetTable} {S':Int->Bool} (hel:Mi (Cm prog w) es'.toList) (hmem:∀ k,S' k=true ↔ ∃ e∈es'.toList,(Cm prog w).is k e.2=true) (hb:es'.size < E2) (hf:t'.fits es'.size=true) (ht:aws (!aqtx w) t') :
  (h.update a (Obj.putSet es' t')).get? a=some { o with data:=.set es' (ep + 1) t' }/\aJj prog w (h.update a (Obj.putSet es' t')) a S' es'.size:=by
 have q:=(SetOf_store (knd:=Cm prog w) ho hex hd hel hmem hb hf).1;exact ⟨q,_,es',ep + 1,t',q,hex,rfl,hel,hmem,hb,hf,rfl,ht⟩
theorem aqd5 {a:Addr} {S:Int->Bool} {n:Nat} {k:Int} {x:Value} {Q:Bool->Shared->Prop} (hkey:(Cm prog w).is k x=true) (hsc:x.scannable=true) (hS:aJj prog w s.heap a S n)
  (hroom:n + 1 < E2)
  (h:∀ h',Heap.SameBut a s.heap h'->aJj prog w h' a (fun k'=>S k' || decide (k'=k)) (if S k then n else n + 1)->Q (!S k) { s with heap:=h' }) :
  wpAny (model prog w) A (setAddHashed a x ((Cm prog w).hash k)) Q E s:=by
 obtain ⟨o,es,ep,t,ho,hex,hd,hel,hmem,hb,hf,hn,ht⟩:=hS;unfold setAddHashed setAddHashedIn;refine Ba (Ac (Bx ho hd hf ?_));dsimp only;rw [byScan_of hsc hb hel];simp only [↓reduceIte];unfold setAddByScan;refine Ac (Ac (Dm (Ac (wpAny_setScan_of hkey ho hd hf hel ?_))));cases hr:List.findIdx? (fun e=>(Cm prog w).is k e.2) es.toList with
 | some j =>
  dsimp only;obtain ⟨hj,hpj,_⟩:=List.findIdx?_eq_some_iff_getElem.mp hr;have hSk:S k=true:=(hmem k).mpr ⟨es.toList[j],getElem_mem hj,hpj⟩;refine Ad (Ad ?_)
  have:=h s.heap (Heap.SameBut.refl a s.heap) ⟨o,es,ep,t,ho,hex,hd,hel,fun k'=>by
   rw [Jp,decide_eq_true_eq,<- hmem k'];exact ⟨fun hk=>hk.elim id (fun e=>e ▸ hSk),.inl⟩,hb,hf,by rw [hSk]; exact hn,ht⟩
  rw [hSk] at this;exact this
 | none =>
  dsimp only;have hSk:S k=false:=by
   cases hk:S k with
   | false=>rfl
   | true=>obtain ⟨e,he,hp⟩:=(hmem k).mp hk; have:=List.findIdx?_eq_none_iff.mp hr e he; rw [hp] at this; exact Bool.noConfusion this
  have hperm:=layNew_perm t es ((Cm prog w).hash k) x;have hfits:=layNew_fits t es ((Cm prog w).hash k) x;have hok:=ht.lay es ((Cm prog w).hash k) x;generalize hL:layNew t es ((Cm prog w).hash k) x=L at hperm hfits hok ⊢;obtain ⟨es1,t1,wasDummy,gave⟩:=L;dsimp only at hperm hfits hok ⊢;rw [Array.toList_push] at hperm;have hel1:Mi (Cm prog w) es1.toList:=(hel.push hkey hsc).perm hperm;have hmem1:∀ k',(S k' || decide (k'=k))=true ↔ ∃ e∈es1.toList,(Cm prog w).is k' e.2=true:=mem_push_iff hkey hmem hperm;have hsz1:es1.size=n + 1:=by rw [<- length_toList,hperm.length_eq,length_append,length_toList,hn]; rfl
  have hb1:es1.size < E2:=by rw [hsz1]; exact hroom
  have hgw:∀ (b:Bool) {s₁:Shared} {Q':Unit->Shared->Prop},Q' () s₁->wpAny (model prog w) A (match b with | true=>rule "set.scan.the-table-gave-way" | false=>pure ()) Q' E s₁ :=
   fun b s₁ Q' hq=>by cases b <;> first | exact Ad hq | exact Dm hq
  have hend:∀ h',Heap.SameBut a s.heap h'->aJj prog w h' a (fun k'=>S k' || decide (k'=k)) es1.size->Q true { s with heap:=h' }:=by
   intro h' hsb hS'
   have:=h h' hsb
   rw [hSk] at this;rw [hsz1] at hS';exact this hS'
  refine Ac (hgw _ ?_);have fin:∀ t2:SetTable,t2.fits es1.size=true->aws (!aqtx w) t2->∀ (g:Bool->Sem Unit),(∀ (b:Bool) (s₁:Shared) (Q':Unit->Shared->Prop),Q' () s₁->wpAny (model prog w) A (g b) Q' E s₁) ->
    wpAny (model prog w) A (do
     storeSet a es1 t2
     if (!wasDummy && t2.tooFull) = true then do
         g (J7 t2 es1 (Du es1.size)).2.2
         storeSet a (J7 t2 es1 (Du es1.size)).1 (J7 t2 es1 (Du es1.size)).2.1
         pure (some true)
      else pure (some true)) (fun r s'=>wpAny (model prog w) A (match r with | some added=>pure added | none=>setAddHashedIn a x ((Cm prog w).hash k) 99999) Q E s') E s:=by
   intro t2 f2 k2 g hg;refine Ac (wpAny_storeSet_of ho hd ?_ (fits_of_scanBound hb1));obtain ⟨ho1,hS1⟩:=aJj.store (prog:=prog) ho hex hd hel1 hmem1 hb1 f2 k2;have hsb1:=Cg s.heap a (Obj.putSet es1 t2);split
   ·have hp:=relayAll_perm t2 es1 (Du es1.size)
    have hfr:=relayAll_fits t2 es1 (Du es1.size);have hkr:=k2.relay es1 (Du es1.size);generalize hRl:J7 t2 es1 (Du es1.size)=Rl at hp hfr hkr ⊢;obtain ⟨es2,t3,gave2⟩:=Rl;dsimp only at hp hfr hkr ⊢;have hel2:Mi (Cm prog w) es2.toList:=hel1.perm hp;have hmem2:∀ k',(S k' || decide (k'=k))=true ↔ ∃ e∈es2.toList,(Cm prog w).is k' e.2=true:=fun k'=>(hmem1 k').trans ⟨fun ⟨e,he,q⟩=>⟨e,hp.mem_iff.mpr he,q⟩,fun ⟨e,he,q⟩=>⟨e,hp.mem_iff.mp he,q⟩⟩;have hsz:es2.size=es1.size:=by rw [<- length_toList,hp.length_eq,length_toList]
    have hb2:es2.size < E2:=by rw [hsz]; exact hb1
    refine Ac (hg _ _ _ ?_);refine Ac (wpAny_storeSet_of ho1 rfl ?_ (fits_of_scanBound hb2));obtain ⟨_,hS2⟩:=aJj.store (prog:=prog) ho1 hex rfl hel2 hmem2 hb2 hfr hkr;rw [hsz] at hS2;exact Ad (Ad (hend _ (hsb1.trans (Cg _ a _)) hS2))
   ·exact Ad (Ad (hend _ hsb1 hS1))
  split
  ·refine Ac ?_
   rw [hashByValue_scannable 8 hsc];refine Ad ?_;refine fin _ ?_ ?_ _ ?_
   ·split
    ·exact hfits
    ·exact SetTable.fits_plain_off hfits
   ·split
    ·exact hok
    ·exact hok.plainOff
   ·intro b s₁ Q' hq; cases b <;> first | exact Ad hq | exact Dm hq
  ·refine Ac (Ad ?_)
   simp only [↓reduceIte];refine fin _ hfits hok _ ?_;intro b s₁ Q' hq; cases b <;> first | exact Ad hq | exact Dm hq
theorem aqcv {R:L3->Shared->Prop} {I:Addr} {fp wr:List Addr} {G:Array Ml->Array Ml->Prop} {n:Nat} {P:Nat->Value->Prop} {St:Nat->Shared->Prop} (W:WalksS prog w A.in1 I fp wr G n P St) (S:Addr) (hSf:S ∉ fp)
  (val:Nat->Int) (hval:∀ i v,P i v->∃ t,v=.int (val i) t) (hb:n + 1 < E2) :
  ∀ (k i:Nat) (s:Shared),n - i=k->i <= n->St i s->aJj prog w s.heap S (fun k'=>(firstMet val i).any (· == k')) (firstMet val i).length ->
   (∀ s',Moved (S :: wr) G s s'->aJj prog w s'.heap S (fun k'=>(firstMet val n).any (· == k')) (firstMet val n).length->R (.ok (.ret .none)) s') ->
   Dp (model prog w) A (.builtin "set.update.loop" ⟨[.ref S,.ref I],[]⟩) R s:=by
 have hSw:S ∉ wr:=fun h=>hSf (W.sub _ h);have hsub:∀ b∈wr,b∈S :: wr:=fun b hb=>mem_cons_of_mem _ hb;intro k
 induction k with
 | zero =>
  intro i s hk hi hst hS hR;have hin:i=n:=by omega
  subst hin;refine Bn Ir ?_;rw [Bc Fe _];show wpAny _ A.in1 (Dt (.ref I) >>= _) _ _ s;refine Ac (W.done s _ _ hst fun s' hm=>?_);show wpAny _ A.in1 (ret Value.none) _ _ s';exact Ad (hR s' (hm.mono hsub) (hS.at fun o e=>hm.heap S _ hSw e))
 | succ k ih =>
  intro i s hk hi hst hS hR;have hlt:i < n:=by omega
  refine Bn Ir ?_;rw [Bc Fe _];show wpAny _ A.in1 (Dt (.ref I) >>= _) _ _ s;refine Ac (W.item i s _ _ hlt hst fun v s' hP hst' hm=>?_);obtain ⟨t,rfl⟩:=hval i v hP;have hS':=hS.at (h':=s'.heap) fun o e=>hm.heap S _ hSw e;show wpAny _ A.in1 (I0 [Value.int (val i) t] (setAdd S (.int (val i) t)) >>= _) _ _ s';refine Ac (Ba ?_);unfold setAdd;refine Ba ?_;refine Ac ((Cm prog w).pyHash (k:=val i) (intKind_is _ _ _ _) ?_);have hroom:(firstMet val i).length + 1 < E2:=by have:=firstMet_length_le val i; omega
  refine aqd5 (s:={ s' with toks:=s'.toks + 1 }) (intKind_is _ _ _ _) rfl hS' hroom fun h' hsb hS2=>?_;have hSi:aJj prog w h' S (fun k'=>(firstMet val (i + 1)).any (· == k')) (firstMet val (i + 1)).length :=
   hS2.congr (fun k'=>by rw [Ky,step_any]) (by rw [Ky,step_length])
  refine Ad ⟨Cz Fe _,ih (i + 1) _ (by omega) hlt (W.frame _ s' _ _ hst' (le_succ _) fun b hb o e=>?_) hSi fun s'' hm'' hS''=>?_⟩
  ·rw [hsb.2 b (fun h:b=S=>hSf (by rw [<- h]; exact hb))]; exact e
  ·refine hR s'' (Moved.trans W.gtrans ((hm.mono hsub).then_heap (le_succ _) fun b o hb e=>?_) hm'') hS''
   rw [hsb.2 b (fun h:b=S=>hb (by rw [h]; exact mem_cons_self))]; exact e
end
section
variable {prog:Ak} {w:World} {A:Around} {E:Value->Shared->Prop} {s:Shared}
theorem aYp (a:Value) {Q₁:Value->Shared->Prop}
  (h:Q₁ (.ref s.heap.objs.size) { s with heap:=s.heap.push { cls:=.type "set",dict:=none,data:=.set #[] 0 (.fresh 0 0 (!aqtx w)) } }) :
  Dp (model prog w) A (.call (.builtin "set.__new__") ⟨[.type "set",a],[]⟩) (wants Q₁ E) s:=by
 refine codeAny_of_tree ?_;show wpAny _ A.in1 (do checkBuiltinCall "set.__new__" ⟨[.type "set",a],[]⟩; again (.builtin "set.__new__" ⟨[.type "set",a],[]⟩)) _ _ s;refine Ac (J8 (F.newCall_set_1 a) (Ad ⟨Cz F.plain_set_new _,Bn F.entry_set_new ?_⟩));rw [Bc F.plain_set_new _];unfold Builtin.«set.__new__» Builtin.Frozenset.newClass;have hsub:=sub_set_self;obtain ⟨hp,g,d,tk,os⟩:=s;dsimp only
 wp_walk
 refine Ch (Ad ?_);dsimp only;simp only [newObj];refine Ac (wpAny_alloc (Ad ?_));exact Ad h
set_option maxHeartbeats 3200000 in
theorem aWu {l:Addr} {items:Array Value} {ns:List Int} {Q:Value->Shared->Prop}
  (hh:A.handled=none) (hl:s.heap.IsList l items) (hi:PyProof.Rows.IntsAre items.toList ns) (hb:items.size + 1 < E2)
  (h:∀ (h':Heap) (tk:Nat),aJj prog w h' s.heap.objs.size (fun k'=>(C7 (fun i=>ns.getD i 0) items.size).any (· == k')) (C7 (fun i=>ns.getD i 0) items.size).length ->
   (∀ b o,b < s.heap.objs.size->s.heap.get? b=some o->h'.get? b=some o)->Q (.ref s.heap.objs.size) { s with heap:=h',toks:=tk }) :
  wpAny (model prog w) A (call (.type "set") [.ref l]) Q E s:=by
 obtain ⟨c,tl,hmro⟩:=D8.mro;have hmade:=D8.made;have hsub:=D8.sub;refine wpAny_call (codeAny_of_tree ?_);show wpAny _ _ (callAny (.type "set") _) _ _ _;refine Ad ⟨Code.quiet_builtin _ (by decide +kernel),Bn F.entry_type_call ?_⟩;rw [Around.under_plain (weight_type_call_type "set" [.ref l] []) rfl];have h1:=D8.notType;have h2:=D8.canCreate;have hct:=F.typeCall_set_1 (.ref l)
 repeat (any_goals (first | assumption | wp_step))
 refine Cn (aYp (.ref l) (E:=E) (Q₁:=fun obj s₁=>obj=.ref s.heap.objs.size/\s₁={ s with heap:=s.heap.push { cls:=.type "set",dict:=none,data:=.set #[] 0 (.fresh 0 0 (!aqtx w)) } }) ⟨rfl,rfl⟩) fun r s₁ hr=>?_;cases r with
 | error e=>exact hr
 | ok fl =>
  cases fl with
  | ret obj =>
   obtain ⟨rfl,rfl⟩:=hr;have hS:(s.heap.push { cls:=.type "set",dict:=none,data:=.set #[] 0 (.fresh 0 0 (!aqtx w)) }).get? s.heap.objs.size=some { cls:=.type "set",dict:=none,data:=.set #[] 0 (.fresh 0 0 (!aqtx w)) }:=Ag _ rfl;have hT:Gg { s with heap:=s.heap.push { cls:=.type "set",dict:=none,data:=.set #[] 0 (.fresh 0 0 (!aqtx w)) } } (.ref s.heap.objs.size) "set":=⟨_,hS,rfl⟩;have hli:=D8.init.lookup;have hbi:=D8.init.bind (.ref s.heap.objs.size)
   repeat (any_goals (first | assumption | wp_step))
   refine Cn (codeAny_call_builtin (R:=wants (fun r s₂=>r=.none/\∃ h' tk,s₂={ s with heap:=h',toks:=tk } /\
     aJj prog w h' s.heap.objs.size (fun k'=>(C7 (fun i=>ns.getD i 0) items.size).any (· == k')) (C7 (fun i=>ns.getD i 0) items.size).length /\
     (∀ b o,b < s.heap.objs.size->s.heap.get? b=some o->h'.get? b=some o)) E) D8.init.plain F.entry_set_init (check_set_init_1 hT ?_)) fun r₂ s₂ hr₂=>?_
   ·obtain ⟨ol,hol,hcl,nl,hdl⟩:=hl
    obtain ⟨ocls,odict,odata,oslots⟩:=ol;simp only at hcl hdl;subst hcl; subst hdl;have hol':(s.heap.push { cls:=.type "set",dict:=none,data:=.set #[] 0 (.fresh 0 0 (!aqtx w)) }).get? l=some { cls:=.type "list",dict:=odict,data:=.seq items nl,slots:=oslots }:=Ae _ hol;have hsls:=F.sub_list_set;have hslf:=F.sub_list_frozenset;have hne:(Value.type "list" == Value.type "dict")=false:=by decide
    have hl1:(s.heap.push { cls:=.type "set",dict:=none,data:=.set #[] 0 (.fresh 0 0 (!aqtx w)) }).IsList l items:=⟨_,hol',rfl,nl,rfl⟩;unfold Builtin.«set.__init__» noKeywords Builtin.Frozenset.updateFrom;generalize hPI:J2=PI
    wp_walk
    subst hPI;refine Hw hl1 ?_;refine Ac (Hj ?_);have hlS:l < s.heap.objs.size:=Af hol;have hh3:A.in1.in1.in1.handled=none:=by simp [hh]
    have hneI:l ≠ (s.heap.push { cls:=.type "set",dict:=none,data:=.set #[] 0 (.fresh 0 0 (!aqtx w)) }).objs.size:=by
     rw [By]; exact ne_of_lt (lt_succ_of_lt hlS)
    have hSf:s.heap.objs.size ∉ [(s.heap.push { cls:=.type "set",dict:=none,data:=.set #[] 0 (.fresh 0 0 (!aqtx w)) }).objs.size,l]:=by
     rw [By]; simp only [mem_cons,D9,not_mem_nil,or_false,not_or];exact ⟨ne_of_lt (lt_succ_self _),ne_of_gt hlS⟩
    have hval:∀ (i:Nat) (v:Value),items[i]?=some v->∃ t,v=.int ((fun i=>ns.getD i 0) i) t:=fun i v hv =>
     PyProof.Rows.IntsAre.int_at hi i v (by rw [getElem?_toList]; exact hv)
    refine aqcv ((Walks.list hh3 _ l hneI items).toS) s.heap.objs.size
     hSf (fun i=>ns.getD i 0) hval hb (items.size - 0) 0 _ (by omega) (zero_le _)
     ⟨⟨_,Ag _ rfl,rfl,rfl⟩,(hl1.push _)⟩ ?hS0 ?hR
    case hS0 =>
     have hget:((s.heap.push { cls:=.type "set",dict:=none,data:=.set #[] 0 (.fresh 0 0 (!aqtx w)) }).push { cls:=.type "list_iterator",data:=.fields #[.ref l,.int 0 0] }).get? s.heap.objs.size
      =some { cls:=.type "set",dict:=none,data:=.set #[] 0 (.fresh 0 0 (!aqtx w)) }:=Ae _ hS
     exact ⟨_,#[],0,_,hget,⟨rfl,rfl,rfl⟩,rfl,fun e he=>by simp at he,fun k=>by simp [C7],by unfold E2; decide,by rfl,rfl,aws.fresh _⟩
    case hR =>
     intro s' hm hS';obtain ⟨h',g',d',tk',os'⟩:=s';have eg:g'=s.gens:=hm.gens;have ed:d'=s.drawn:=hm.drawn;have eo:os'=s.os:=hm.os;subst eg; subst ed; subst eo;show wpAny _ _ _ _ _ _;refine Ad ?_;show wpAny _ _ (ret Value.none) _ _ _;refine Ad ⟨rfl,h',tk',rfl,hS',fun b o hb e=>?_⟩;have hb1:b ≠ s.heap.objs.size:=ne_of_lt hb;have hb2:b ≠ (s.heap.push { cls:=.type "set",dict:=none,data:=.set #[] 0 (.fresh 0 0 (!aqtx w)) }).objs.size:=by
      rw [By]; exact ne_of_lt (lt_succ_of_lt hb)
     exact hm.heap b o (by simp only [mem_cons,D9,not_mem_nil,or_false,not_or]; exact ⟨hb1,hb2⟩) (Ae _ (Ae _ e))
   ·cases r₂ with
    | error e=>exact hr₂
    | ok fl₂ =>
     cases fl₂ with
     | ret r =>
      obtain ⟨rfl,h',tk,rfl,hS',hk'⟩:=hr₂
      repeat (any_goals (first | assumption | wp_step))
      exact h _ _ hS' hk'
     | next=>exact Az hr₂
     | brk=>exact Az hr₂
     | cont=>exact Az hr₂
  | next=>exact Az hr
  | brk=>exact Az hr
  | cont=>exact Az hr
end
theorem ak3 {α:Type}:∀ {l:List α} {i:Nat} (h:i < l.length),(l[i] :: l.eraseIdx i).Perm l
 | a :: l,0,h=>.refl _
 | a :: l,i + 1,h=>by
  have:=ak3 (l:=l) (i:=i) (by simpa using h)
  simp only [List.getElem_cons_succ,Ff];exact (List.Perm.swap _ _ _).trans (this.cons a)
theorem ako {α:Type} (next:Nat->Nat):∀ (fuel k:Nat) (left:List α) (out:Array α),left.length=fuel->(Lr next fuel k left out).toList.Perm (out.toList++left)
 | 0,k,left,out,h=>by
  have:left=[]:=Ca.mp h
  subst this;simp [Lr]
 | fuel + 1,k,left,out,h=>by
  unfold Lr;have hlt:next k % left.length < left.length:=mod_lt _ (by omega);rw [getElem?_eq_getElem hlt];dsimp only;refine (ako next fuel (k + 1) _ _ (by rw [Hk hlt]; omega)).trans ?_;rw [Array.toList_push,If];exact List.Perm.append_left _ (ak3 hlt)
theorem aQr {α:Type} (next:Nat->Nat) (xs:Array α):(pickOrder next xs).toList.Perm xs.toList:=by
 have:=ako next xs.size 0 xs.toList #[] (by simp)
 simpa [pickOrder] using this
section
variable {prog:Ak} {w:World} {A:Around} {E:Value->Shared->Prop} {s:Shared}
theorem aXm {src:Source} {n:Nat} {Q:Nat->Shared->Prop} (hn:n ≠ 0) (h:∀ i,i < n->Q i { s with drawn:=s.drawn.bump src }):wpAny (model prog w) A (choose src n) Q E s:=by
 intro Γ p hΓ;unfold choose;rw [Sem.wp_choose];exact ⟨hn,h _ (mod_lt _ (Lc hn))⟩
theorem avy {α:Type}:∀ (n:Nat) (xs:List α) (s:Shared) (Q:List α->Shared->Prop),xs.length=n->(∀ ys d,ys.Perm xs->Q ys { s with drawn:=d })->wpAny (model prog w) A (drawOrder n xs) Q E s
 | 0,xs,s,Q,hl,h=>by
  have:xs=[]:=Ca.mp hl
  subst this;exact Ad (h [] s.drawn (.refl _))
 | n + 1,[],s,Q,hl,h=>by cases hl
 | n + 1,x :: xs,s,Q,hl,h=>by
  show wpAny _ _ (choose .order (x :: xs).length >>= _) _ _ s;refine Ac (aXm (by simp) fun i hi=>?_);rw [getElem?_eq_getElem hi];dsimp only;refine Ac (avy n _ _ _ (by rw [Hk hi]; omega) fun ys d hp=>Ad ?_);exact h _ d ((hp.cons _).trans (ak3 hi))
def aVi (h:Heap) (a:Addr) (es:Array (Int × Value)) (ep:Nat) (t:SetTable):Prop:=∃ o,h.get? a=some o/\o.ExactSet/\o.data=.set es ep t/\t.fits es.size=true
def aquh (h:Heap) (I a:Addr) (first:Value) (i n ep:Nat):Prop:=∃ o,h.get? I=some o/\o.cls=.type "set_iterator"/\o.data=.fields #[first,.int i 0,.ref a,.int n 0,.int ep 0]
variable {es:Array (Int × Value)} {ep:Nat} {t:SetTable} {a I:Addr} {first:Value} {i n:Nat}
theorem aVi.at {h h':Heap} (x:aVi h a es ep t) (e:∀ o,h.get? a=some o->h'.get? a=some o):aVi h' a es ep t:=let ⟨o,ho,r⟩:=x; ⟨o,e o ho,r⟩
theorem aquh.at {h h':Heap} (x:aquh h I a first i n ep) (e:∀ o,h.get? I=some o->h'.get? I=some o):aquh h' I a first i n ep:=let ⟨o,ho,r⟩:=x; ⟨o,e o ho,r⟩
theorem aquh.typeIs (x:aquh s.heap I a first i n ep):s.TypeIs (.ref I) "set_iterator":=let ⟨o,ho,hc,_⟩:=x; ⟨o,ho,hc⟩
theorem aVi.typeIs (x:aVi s.heap a es ep t):s.TypeIs (.ref a) "set":=let ⟨o,ho,hc,_⟩:=x; ⟨o,ho,hc.1⟩
theorem ax:Slot "set_iterator" "__next__" "set_iterator.__next__" :=
 .of (owner:="set_iterator") (n:="__next__") (by rw [Gw,Ej]; kernel_rfl) (by decide +kernel) (by decide +kernel) (by decide +kernel)
  (by first | exact .inl (by decide +kernel) | exact .inr (by decide +kernel)) (by rw [Hl]; kernel_rfl)
theorem ajg:Mp table "set_iterator.__next__"=some Builtin.«set_iterator.__next__»:=entryFor_of_tree (by kernel_rfl)
theorem aqa6:Manifest.owners.lookup (String.ofList ['r','o','t','a','r','e','t','i','_','t','e','s'].reverse)=some Manifest.sig_set_iterator:=by kernel_rfl
theorem aj8 (a:Value):argsOk "set_iterator.__next__" ⟨[a],[]⟩:=by
 unfold argsOk; rw [signature?_of (id:="set_iterator.__next__") (n:=['_','_','t','x','e','n','_','_']) (o:=['r','o','t','a','r','e','t','i','_','t','e','s']) (by kernel_rfl) aqa6]; kernel_rfl
theorem akj:Slot "set_iterator" "__iter__" "set_iterator.__iter__" :=
 .of (owner:="set_iterator") (n:="__iter__") (by rw [Gw,Ej]; kernel_rfl) (by decide +kernel) (by decide +kernel) (by decide +kernel)
  (by first | exact .inl (by decide +kernel) | exact .inr (by decide +kernel)) (by rw [Hl]; kernel_rfl)
theorem aJ9:Mp table "set_iterator.__iter__"=some Builtin.«dict_keyiterator.__iter__» :=
 J9 (id':="dict_keyiterator.__iter__") (by kernel_rfl) rfl (by decide +kernel) (by kernel_rfl)
theorem aVg (a:Value):argsOk "set_iterator.__iter__" ⟨[a],[]⟩:=by
 unfold argsOk; rw [signature?_of (id:="set_iterator.__iter__") (n:=['_','_','r','e','t','i','_','_']) (o:=['r','o','t','a','r','e','t','i','_','t','e','s']) (by kernel_rfl) aqa6]; kernel_rfl
theorem awq:Mp table "set.__iter__"=some Builtin.«frozenset.__iter__» :=
 J9 (id':="frozenset.__iter__") (by kernel_rfl) rfl (by decide +kernel) (by kernel_rfl)
theorem aKh {Q:Value->Shared->Prop} (x:aquh s.heap I a first i n ep) (h:Q (.ref I) s):wpAny (model prog w) A (J2 (.ref I)) Q E s:=by
 refine En x.typeIs akj (Ax akj x.typeIs aJ9 ?_ (aVg _));show wpAny _ _ (ret (.ref I)) _ _ s;exact Ad ⟨_,rfl,"set_iterator",_,x.typeIs,ax.lookup,h⟩
def Seen (w:World) (a:Addr) (es:Array (Int × Value)) (ep:Nat):List (Int × Value):=if aqtx w=true then (pickOrder (w.params.setOrder a ep) es).toList else es.toList
def At (w:World) (t:SetTable) (i sl:Nat):Prop:=aqtx w=true \/ SetTable.below t.place sl=i
def Plain (w:World) (es:Array (Int × Value)) (t:SetTable):Prop:=aqtx w=true \/ (¬ (!t.plain && decide (es.size > 1))=true/\Ris t.place/\t.led=true)
theorem aqeg (h:t.fits es.size=true):t.place.size=es.size:=by
 simp [SetTable.fits] at h; exact h.1
theorem aqm3 (p3:t.led=true) {Q:Unit->Shared->Prop} (h:Q () s):wpAny (model prog w) A (if (!t.led && !es.isEmpty)=true then Ig "set:maker-not-led" else pure ()) Q E s:=by
 rw [p3];exact Ad h
theorem aqdy (S:aVi s.heap a es ep t) (pl:Plain w es t) {sl:Nat} (g:At w t i sl) {e:Int × Value} (he:(Seen w a es ep)[i]?=some e) {Q:Option (Value × Nat)->Shared->Prop}
  (h:∀ sl',At w t (i + 1) sl'->Q (some (e.2,sl')) s):wpAny (model prog w) A (setNext a sl i ep) Q E s:=by
 obtain ⟨o,ho,hex,hd,hf⟩:=S;unfold setNext;refine Ac (Bx ho hd hf ?_);refine Ac ?_;unfold Jd;refine Ac (Ch (Ad ?_));dsimp only;unfold Seen at he
 by_cases hb:aqtx w=true
 ·rw [if_pos hb] at he
  rw [if_pos (show (model prog w).w.params.followText "set-order"=true from hb)];refine As (fun hab=>absurd hab (by simp)) fun _=>?_;unfold setWalk;refine Ac (Ac (Bx ho hd hf ?_));refine Ac ?_;unfold Jd;refine Ac (Ch (Ad ?_));dsimp only;rw [if_pos (show (model prog w).w.params.followText "set-order"=true from hb)];refine Ac (Ch (Ad ?_));refine Ad ?_;rw [<- getElem?_toList]
  have:(pickOrder ((model prog w).w.params.setOrder a ep) es).toList[i]?=some e:=he
  rw [this];exact h sl (.inl hb)
 ·rw [if_neg hb] at he
  rw [if_neg (show ¬ (model prog w).w.params.followText "set-order"=true from hb)];obtain ⟨p1,p2,p3⟩:=pl.resolve_left hb;have g':=g.resolve_left hb;refine As (fun hab=>absurd hab p1) fun _=>?_;refine Ac (aqm3 p3 ?_);have hlt:i < es.size:=by
   by_cases c:i < es.size
   ·exact c
   ·rw [Jx (by simpa using c)] at he; cases he
  obtain ⟨j,hj⟩:=awb (xs:=t.place) (i:=i) (by rw [aqeg hf]; exact hlt);rw [getElem?_toList] at he;rw [g',he,hj];exact Ad (h (j + 1) (.inr (aqce p2 hj)))
theorem aqdz (S:aVi s.heap a es ep t) (pl:Plain w es t) {sl:Nat} (g:At w t i sl) (he:(Seen w a es ep)[i]?=none) {Q:Option (Value × Nat)->Shared->Prop}
  (h:Q none s):wpAny (model prog w) A (setNext a sl i ep) Q E s:=by
 obtain ⟨o,ho,hex,hd,hf⟩:=S;unfold setNext;refine Ac (Bx ho hd hf ?_);refine Ac ?_;unfold Jd;refine Ac (Ch (Ad ?_));dsimp only;unfold Seen at he
 by_cases hb:aqtx w=true
 ·rw [if_pos hb] at he
  rw [if_pos (show (model prog w).w.params.followText "set-order"=true from hb)];refine As (fun hab=>absurd hab (by simp)) fun _=>?_;unfold setWalk;refine Ac (Ac (Bx ho hd hf ?_));refine Ac ?_;unfold Jd;refine Ac (Ch (Ad ?_));dsimp only;rw [if_pos (show (model prog w).w.params.followText "set-order"=true from hb)];refine Ac (Ch (Ad ?_));refine Ad ?_;rw [<- getElem?_toList]
  have:(pickOrder ((model prog w).w.params.setOrder a ep) es).toList[i]?=none:=he
  rw [this];exact h
 ·rw [if_neg hb] at he
  rw [if_neg (show ¬ (model prog w).w.params.followText "set-order"=true from hb)];obtain ⟨p1,p2,p3⟩:=pl.resolve_left hb;have g':=g.resolve_left hb;refine As (fun hab=>absurd hab p1) fun _=>?_;refine Ac (aqm3 p3 ?_);rw [getElem?_toList] at he;rw [g',he];exact Ad h
end
section
variable {prog:Ak} {w:World} {A:Around} {E:Value->Shared->Prop} {s:Shared}
variable {es:Array (Int × Value)} {ep:Nat} {t:SetTable} {a I:Addr} {first:Value} {i n:Nat}
theorem aquh.set {h:Heap} (x:aquh h I a first i n ep) {k:Nat} {v first':Value} {i':Nat} (e:(#[first,.int i 0,.ref a,.int n 0,.int ep 0]:Array Value).setIfInBounds k v=#[first',.int i' 0,.ref a,.int n 0,.int ep 0]):aquh (h.update I (Co (·.setIfInBounds k v))) I a first' i' n ep:=by
 obtain ⟨o,ho,hc,hd⟩:=x;exact ⟨_,Bf _ ho (Fv (Ea hd _)),(Obj.cls_mapFields ..).trans hc,by rw [Ea hd,e]⟩
theorem aYh (hh:A.handled=none) {h':Heap} {Q:Option Value->Shared->Prop} (hQ:∀ h'',(∀ b o,h'.get? b=some o->h''.get? b=some o)->Q none { s with heap:=h'' }) (P:Fin->Shared->Prop) :
  wpAny (model prog w) A.in1 (Mq (.type "StopIteration") [] >>= fun e=>(Mr e:Sem Fin)) P
   (fun e s'=>wpAny (model prog w) A (do let b <- isInstance e (.type "StopIteration"); if b=true then pure none else throw e) Q E s') { s with heap:=h' }:=by
 refine Ac ?_;simp only [Mq,newTuple];refine Ac (A8 ?_ (by size_fits));refine Ac (m:=Ew _ _) (J8 (a:=Value.none) (by first | rfl | (simp only [Ew]; rfl)) ?_);refine A8 ?_ (by size_fits);simp only [Mr];refine Ac (Kz ?_);rw [show A.in1.handled=none from hh];refine Ac (Ad (Mc ?_));refine Ac (Dv (T:="StopIteration") (b:=true) ⟨_,Ag _ rfl,rfl⟩ isSubtype_stop ?_);exact Ad (hQ _ fun b o e=>Ae _ (Ae _ e))
theorem aW0 (hh:A.handled=none) (hne:a ≠ I) (pl:Plain w es t) (hs:(Seen w a es ep).length=es.size) :
  Walks prog w A I [I,a] [I] (Seen w a es ep).length (fun i v=>∃ e,(Seen w a es ep)[i]?=some e/\v=e.2) (fun i h=>∃ sl:Nat,aquh h I a (.int sl 0) i es.size ep/\aVi h a es ep t/\At w t i sl) where
 sub:=fun b hb=>by simp at hb; simp [hb]
 frame:=fun _ _ _ ⟨sl,x,y,g⟩ hk=>⟨sl,x.at fun o e=>hk I (by simp) o e,y.at fun o e=>hk a (by simp) o e,g⟩
 item:=fun i s Q E hi ⟨sl,x,y,g⟩ hQ=>by
  obtain ⟨e,he⟩:∃ e,(Seen w a es ep)[i]?=some e:=⟨_,getElem?_eq_getElem hi⟩;obtain ⟨o,ho,hc,hd⟩:=id x;obtain ⟨oS,hoS,hex,hdS,hf⟩:=id y;unfold Dt;refine Ac (Eg (Bl (name:=Cu "__next__") x.typeIs ax (Ax ax x.typeIs ajg ?_ (aj8 _))));unfold Builtin.«set_iterator.__next__»;refine Ac (Ad ?_);refine Ac (C3 ho hd ?_);refine Ac (Dr hoS hdS hf ?_);dsimp only;refine As (fun hab=>absurd hab (by simp)) fun _=>?_;rw [A9,A9,A9];refine Ac (aqdy y pl g he fun sl' g'=>?_);dsimp only;refine Ac (Ce ho hd (by simp) ?_);have x1:=x.set (k:=0) (v:=B7 (sl':Int)) (first':=.int sl' 0) (i':=i) (by simp [B7]);obtain ⟨o1,ho1,hc1,hd1⟩:=id x1;refine Ac (Ce (s:={ s with heap:=s.heap.update I (Co (·.setIfInBounds 0 (B7 (sl':Int)))) }) ho1 hd1 (by simp) ?_);have x2:=x1.set (k:=1) (v:=B7 ((i:Int) + 1)) (first':=.int sl' 0) (i':=i + 1) (by simp [B7]);have hk:∀ b o,b ∉ [I]->s.heap.get? b=some o->((s.heap.update I (Co (·.setIfInBounds 0 (B7 (sl':Int))))).update I (Co (·.setIfInBounds 1 (B7 ((i:Int) + 1))))).get? b=some o:=fun b o hb e =>
   (Au _ _ (fun h=>hb (by simp [h]))).trans ((Au _ _ (fun h=>hb (by simp [h]))).trans e)
  refine Ad ⟨_,rfl,Ad (hQ _ _ s.toks ⟨e,he,rfl⟩ ⟨sl',x2,y.at fun o e=>hk a o (by simp [hne]) e,g'⟩ hk)⟩
 done:=fun s Q E ⟨sl,x,y,g⟩ hQ=>by
  have he:(Seen w a es ep)[(Seen w a es ep).length]?=none:=by simp
  obtain ⟨o,ho,hc,hd⟩:=id x;obtain ⟨oS,hoS,hex,hdS,hf⟩:=id y;unfold Dt;refine Ac (Eg (Bl (name:=Cu "__next__") x.typeIs ax (Ax ax x.typeIs ajg ?_ (aj8 _))));unfold Builtin.«set_iterator.__next__»;refine Ac (Ad ?_);refine Ac (C3 ho hd ?_);refine Ac (Dr hoS hdS hf ?_);dsimp only;refine As (fun hab=>absurd hab (by simp)) fun _=>?_;rw [A9,A9,A9];refine Ac (aqdz y pl g he ?_);dsimp only;refine Ac (Ce ho hd (by simp) ?_);exact aYh hh (fun h'' k=>hQ h'' s.toks fun b o hb e=>k b o ((Au _ _ (fun h=>hb (by simp [h]))).trans e)) _
 self:=fun _ _ _ _ ⟨sl,x,y,g⟩ hQ=>aKh x hQ
def Drw (es:Array (Int × Value)) (p:List Nat):List (Int × Value):=p.map fun k=>es.getD k (0,.none)
def TuAt (h:Heap) (T:Addr) (p:List Nat):Prop:=∃ o,h.get? T=some o/\o.data=.seq (p.map fun (i:Nat)=>B7 i).toArray 0
theorem aqbq (y:aVi s.heap a es ep t) {k:Nat} {e:Int × Value} (he:es[k]?=some e) {Q:Value->Shared->Prop} (h:Q e.2 s):wpAny (model prog w) A (setNextDrawn a k ep) Q E s:=by
 obtain ⟨oS,hoS,hex,hdS,hf⟩:=y;unfold setNextDrawn;refine Ac (Bx hoS hdS hf ?_);dsimp only;refine As (fun hab=>absurd hab (by simp)) fun _=>?_;rw [he];exact Ad h
theorem aW1 (hh:A.handled=none) {T:Addr} (hne:a ≠ I) (hT:T ≠ I) {p:List Nat} (hp:∀ k∈p,k < es.size) :
  Walks prog w A I [I,a,T] [I] (Drw es p).length (fun i v=>∃ e,(Drw es p)[i]?=some e/\v=e.2) (fun i h=>aquh h I a (.ref T) i es.size ep/\aVi h a es ep t/\TuAt h T p) where
 sub:=fun b hb=>by simp at hb; simp [hb]
 frame:=fun _ _ _ ⟨x,y,z⟩ hk=>⟨x.at fun o e=>hk I (by simp) o e,y.at fun o e=>hk a (by simp) o e,let ⟨o,ho,r⟩:=z; ⟨o,hk T (by simp) o ho,r⟩⟩
 item:=fun i s Q E hi ⟨x,y,z⟩ hQ=>by
  have hi':i < p.length:=by simpa [Drw] using hi
  obtain ⟨k,hk⟩:∃ k,p[i]?=some k:=⟨_,getElem?_eq_getElem hi'⟩;have hkl:=hp k (mem_of_getElem? hk);obtain ⟨e,he⟩:∃ e,es[k]?=some e:=⟨es[k],by rw [Da hkl]⟩;have hD:(Drw es p)[i]?=some e:=by simp [Drw,hk,Em,he]
  obtain ⟨o,ho,hc,hd⟩:=id x;obtain ⟨oS,hoS,hex,hdS,hf⟩:=id y;obtain ⟨oT,hoT,hdT⟩:=id z;unfold Dt;refine Ac (Eg (Bl (name:=Cu "__next__") x.typeIs ax (Ax ax x.typeIs ajg ?_ (aj8 _))));unfold Builtin.«set_iterator.__next__»;refine Ac (Ad ?_);refine Ac (C3 ho hd ?_);refine Ac (Dr hoS hdS hf ?_);dsimp only;refine As (fun hab=>absurd hab (by simp)) fun _=>?_;refine Ac ?_;unfold seqItems?;refine Ac (Fy hoT ?_);rw [hdT];refine Ad ?_;dsimp only;have hpl:(p.map fun (i:Nat)=>B7 i).toArray[((i:Nat):Int).toNat]?=some (B7 k):=by simp [hk]
  rw [hpl];dsimp only [B7];rw [A9,A9];refine Ac (aqbq y he ?_);refine Ac (Ce ho hd (by simp) ?_);have x2:=x.set (k:=1) (v:=B7 ((i:Int) + 1)) (first':=.ref T) (i':=i + 1) (by simp [B7]);have hkp:∀ b o,b ∉ [I]->s.heap.get? b=some o->(s.heap.update I (Co (·.setIfInBounds 1 (B7 ((i:Int) + 1))))).get? b=some o:=fun b o hb e =>
   (Au _ _ (fun h=>hb (by simp [h]))).trans e
  exact Ad ⟨_,rfl,Ad (hQ _ _ s.toks ⟨e,hD,rfl⟩ ⟨x2,y.at fun o e=>hkp a o (by simp [hne]) e,oT,hkp T oT (by simp [hT]) hoT,hdT⟩ hkp)⟩
 done:=fun s Q E ⟨x,y,z⟩ hQ=>by
  obtain ⟨o,ho,hc,hd⟩:=id x;obtain ⟨oS,hoS,hex,hdS,hf⟩:=id y;obtain ⟨oT,hoT,hdT⟩:=id z;unfold Dt;refine Ac (Eg (Bl (name:=Cu "__next__") x.typeIs ax (Ax ax x.typeIs ajg ?_ (aj8 _))));unfold Builtin.«set_iterator.__next__»;refine Ac (Ad ?_);refine Ac (C3 ho hd ?_);refine Ac (Dr hoS hdS hf ?_);dsimp only;refine As (fun hab=>absurd hab (by simp)) fun _=>?_;refine Ac ?_;unfold seqItems?;refine Ac (Fy hoT ?_);rw [hdT];refine Ad ?_;dsimp only;have hpl:(p.map fun (i:Nat)=>B7 i).toArray[(((Drw es p).length:Nat):Int).toNat]?=none:=by simp [Drw]
  rw [hpl];dsimp only;refine Ac (Ce ho hd (by simp) ?_);have hd1:=Ea hd (·.setIfInBounds 0 (B7 0));have ho1:=Bf (Co (·.setIfInBounds 0 (B7 0))) ho (Fv hd1);refine Ac (Ce (s:={ s with heap:=s.heap.update I (Co (·.setIfInBounds 0 (B7 0))) }) ho1 hd1 (by simp) ?_);exact aYh hh (fun h'' k=>hQ h'' s.toks fun b o hb e=>k b o ((Au _ _ (fun h=>hb (by simp [h]))).trans ((Au _ _ (fun h=>hb (by simp [h]))).trans e))) _
 self:=fun _ _ _ _ ⟨x,y,z⟩ hQ=>aKh x hQ
theorem aqj8 {p:List Nat} (hp:p.Perm (Ar es.size)):(Drw es p).Perm es.toList:=by
 have e:(Ar es.size).map (fun k=>es.getD k (0,.none))=es.toList:=by
  apply ext_getElem
  ·simp
  ·intro i h1 h2
   simp at h1;simp [Em,h1]
 rw [<- e];exact hp.map _
theorem aqij (hh:A.handled=none) (y:aVi s.heap a es ep t) (ok:aws (!aqtx w) t) (hz:es.size <= Aj) {Q:Value->Shared->Prop}
  (h:∀ (I:Addr) (fp:List Addr) (St:Nat->Heap->Prop) (order:List (Int × Value)) (s':Shared),order.Perm es.toList->Walks prog w A I fp [I] order.length (fun i v=>∃ e,order[i]?=some e/\v=e.2) St->St 0 s'.heap ->
   (∀ b o,s.heap.get? b=some o->s'.heap.get? b=some o)->s.heap.objs.size <= I->(∀ b∈fp,b=a \/ s.heap.objs.size <= b)->(∃ h' d',s'={ s with heap:=h',drawn:=d' })->Q (.ref I) s') :
  wpAny (model prog w) A (J2 (.ref a)) Q E s:=by
 obtain ⟨oS,hoS,hex,hdS,hf⟩:=id y;have hlt:a < s.heap.objs.size:=Af hoS;refine En y.typeIs F.slot_set_iter (Ax F.slot_set_iter y.typeIs awq ?_ (F.args_set_iter_1 _));unfold Builtin.«frozenset.__iter__»;refine Ac (Ad ?_);refine Ac ?_;unfold Builtin.Frozenset.sizeOf;refine Ac (Dr hoS hdS hf (Ad ?_));refine Ac ?_;unfold setDrawn;refine Ac (Bx hoS hdS hf ?_);dsimp only;refine Ac ?_;unfold Jd;refine Ac (Ch (Ad ?_));refine Ad ?_;refine As (fun hab=>?_) fun hab=>?_
 ·refine Ac (avy _ _ _ _ (by simp) fun p d hp=>?_)
  refine Ac (Fm ?_ (by rw [length_map,hp.length_eq,List.length_range]; exact hz));have hoS1:=Ae { cls:=.type "tuple",data:=.seq (p.map fun (i:Nat)=>B7 i).toArray } hoS;refine Ac ?_;unfold setEpoch;refine Ac (Bx hoS1 hdS hf (Ad ?_));refine Ac ?_;unfold newFields;refine A8 (Ad ⟨_,rfl,"set_iterator",_,⟨_,Ag _ rfl,rfl⟩,ax.lookup,?_⟩);have hI:s.heap.objs.size < (s.heap.push { cls:=.type "tuple",data:=.seq (p.map fun (i:Nat)=>B7 i).toArray }).objs.size:=by rw [By]; exact lt_succ_self _
  refine h _ _ _ (Drw es p) _ (aqj8 hp) (aW1 (t:=t) (ep:=ep) hh (T:=s.heap.objs.size) (ne_of_lt (lt_trans hlt hI)) (ne_of_lt hI) fun k hk=>by
   have:=hp.mem_iff.mp hk
   simpa using this) ?_ (fun b o e=>Ae _ (Ae _ e)) (le_of_lt hI) (fun b hb=>?_) ⟨_,_,rfl⟩
  ·exact ⟨⟨_,Ag _ rfl,rfl,by simp [B7]⟩,⟨_,Ae _ hoS1,hex,hdS,hf⟩,_,Ae _ (Ag _ rfl),rfl⟩
  ·simp only [mem_cons,not_mem_nil,or_false] at hb
   rcases hb with rfl | rfl | rfl
   ·exact .inr (le_of_lt hI)
   ·exact .inl rfl
   ·exact .inr (le_refl _)
 ·refine Ac (Ad ?_)
  refine Ac ?_;unfold setEpoch;refine Ac (Bx hoS hdS hf (Ad ?_));refine Ac ?_;unfold newFields;refine A8 (Ad ⟨_,rfl,"set_iterator",_,⟨_,Ag _ rfl,rfl⟩,ax.lookup,?_⟩);have pl:Plain w es t:=by
   by_cases hb:aqtx w=true
   ·exact .inl hb
   ·have hb':aqtx w=false:=by simpa using hb
    refine .inr ⟨fun hd=>hab ?_,ok.1,by rw [ok.2,hb']; rfl⟩;show (!aqtx w && (!t.plain && decide (es.size > 1)))=true;rw [hb',hd]; rfl
  have hord:(Seen w a es ep).Perm es.toList:=by
   unfold Seen;split
   ·exact aQr _ _
   ·exact .refl _
  refine h _ _ _ (Seen w a es ep) _ hord (aW0 (t:=t) (ep:=ep) hh (ne_of_lt hlt) pl (by rw [hord.length_eq,length_toList])) ?_ (fun b o e=>Ae _ e) (le_refl _) (fun b hb=>?_) ⟨_,_,rfl⟩
  ·refine ⟨0,⟨_,Ag _ rfl,rfl,by simp [B7]⟩,⟨_,Ae _ hoS,hex,hdS,hf⟩,?_⟩
   by_cases hb:aqtx w=true
   ·exact .inl hb
   ·exact .inr (aqcd ok.1)
  ·simp only [mem_cons,not_mem_nil,or_false] at hb
   rcases hb with rfl | rfl
   ·exact .inr (le_refl _)
   ·exact .inl rfl
theorem aqio {Q:Bool->Shared->Prop} (hT:s.TypeIs (.ref a) "set") (h:Q false s):wpAny (model prog w) A (Cv (.ref a)) Q E s:=by
 unfold Cv;refine Ac (Gx hT PySem.F.slot_set_len.lookup ?_);generalize hid:("set.__len__":String)=id0
 wp_delta
 rw [show splitId id0=some ("set","__len__") from by subst hid; decide +kernel];subst hid;refine Ac (Dv (T:="set") (b:=true) hT (by rw [Hl]; kernel_rfl) ?_);refine As (fun hab=>absurd hab (by decide)) (fun _=>?_);refine As (fun _=>?_) (fun hab=>absurd (by decide +kernel) hab);refine Ac (Ls hT ?_);exact Ad h
theorem aWt (hh:A.handled=none) (y:aVi s.heap a es ep t) (ok:aws (!aqtx w) t) (hz:es.size <= Aj) {Q:List Value->Shared->Prop}
  (h:∀ (order:List (Int × Value)) (s':Shared) ,order.Perm es.toList->(∀ b o,s.heap.get? b=some o->s'.heap.get? b=some o)->s.heap.objs.size < s'.heap.objs.size->(∃ h' d' tk,s'={ s with heap:=h',drawn:=d',toks:=tk })->Q (order.map (·.2)) s') :
  wpAny (model prog w) A (Lt (.ref a)) Q E s:=by
 have hlt:a < s.heap.objs.size:=let ⟨o,ho,_⟩:=y; Af ho;unfold Lt;refine Ac (Hj (Bn Gk ?_));rw [Bc Eo _];show wpAny _ A.in1 (Mh [] >>= fun l=>again (.builtin "list.__iadd__" ⟨[l,.ref a],[]⟩)) _ _ s;refine Ac (A8 ?_);refine Ad ⟨Cz Cb _,Bn Is ?_⟩;rw [Bc Cb _];have hS₁:(s.heap.push { cls:=.type "list",data:=.seq ([]:List Value).toArray }).get? s.heap.objs.size=some { cls:=.type "list",data:=.seq #[] }:=Ag _ rfl;show wpAny _ A.in1 (Cc (.ref s.heap.objs.size) (.ref a) (.ref s.heap.objs.size)) _ _ _;have y1:aVi (s.heap.push { cls:=.type "list",data:=.seq ([]:List Value).toArray }) a es ep t:=y.at fun o e=>Ae _ e;unfold Cc;refine Ac (Ls (T:="set") (aVi.typeIs (s:={ s with heap:=s.heap.push { cls:=.type "list",data:=.seq ([]:List Value).toArray } }) y1) ?_);have h1:Do (.ref s.heap.objs.size) (.ref a)=false:=by simp [Do]; exact ne_of_gt hlt
 simp only [h1,show (Value.type "set" == Value.type "list")=false from by decide,show (Value.type "set" == Value.type "tuple")=false from by decide,Kw,Aw,if_false];refine Ac (aqij (A:=A.in1) (s:={ s with heap:=s.heap.push { cls:=.type "list",data:=.seq ([]:List Value).toArray } }) hh y1 ok hz fun I fp St order s1 hord W st hk hI hfp hs1=>?_);obtain ⟨h1',d1',rfl⟩:=hs1;have hsz1:(s.heap.push { cls:=.type "list",data:=.seq ([]:List Value).toArray }).objs.size=s.heap.objs.size + 1:=By ..;have hSf:s.heap.objs.size ∉ fp:=fun hm=>by
  rcases hfp _ hm with e | e
  ·exact absurd hlt (by rw [e]; exact lt_irrefl _)
  ·exact absurd (show s.heap.objs.size + 1 <= s.heap.objs.size from hsz1 ▸ e) (Nat.not_succ_le_self _)
 have hbI:∀ b o,s.heap.get? b=some o->b ∉ s.heap.objs.size :: [I]:=fun b o e hm=>by
  have hb:=Af e;rcases Al.mp hm with e' | hm
  ·exact absurd hb (by rw [e']; exact lt_irrefl _)
  ·have e2:b=I:=D9.mp hm
   have:s.heap.objs.size + 1 <= I:=hsz1 ▸ hI
   rw [e2] at hb;exact absurd (lt_trans hb (Nat.lt_of_succ_le this)) (lt_irrefl _)
 have hno:order.length <= Aj:=by rw [hord.length_eq,length_toList]; exact hz
 have key:∀ (s1:Shared) (c₁:Nat),(∃ h d tk,s1={ s with heap:=h,drawn:=d,toks:=tk })->St 0 s1.heap->(∀ b o,s.heap.get? b=some o->s1.heap.get? b=some o) ->
   s1.heap.get? s.heap.objs.size=some { cls:=.type "list",data:=.seq #[] c₁ } ->
   Dp (model prog w) A (.builtin "list.extend.loop" ⟨[.ref s.heap.objs.size,.ref I,.ref s.heap.objs.size],[]⟩)
    (fun q s'=>∃ acc' c',q=.ok (.ret (.ref s.heap.objs.size))/\(∃ h' d' tk,s'={ s with heap:=h',drawn:=d',toks:=tk })/\(∀ b o,s.heap.get? b=some o->s'.heap.get? b=some o) /\
     s'.heap.get? s.heap.objs.size=some { cls:=.type "list",dict:=none,data:=.seq acc' c',slots:=#[] }/\acc'.toList=order.map (·.2)) s1:=by
  intro s1 c₁ hs1 hst hk1 hS1;refine codeAny_extend_loopS W.toS hno s.heap.objs.size hSf (.ref s.heap.objs.size) order.length 0 _ #[] c₁ rfl (zero_le _) hst hS1 (ItemsOf.nil _) fun s' acc' c' hm hS' hacc=>?_;refine ⟨acc',c',rfl,?_,fun b o e=>hm.heap b o (hbI b o e) (hk1 b o e),hS',?_⟩
  ·obtain ⟨h,d,tk,rfl⟩:=hs1
   rw [Moved.eq_with hm];exact ⟨_,_,_,rfl⟩
  ·apply ext_getElem
   ·rw [length_toList,length_map]; exact hacc.1
   ·intro j h1 h2
    obtain ⟨e,he,hv⟩:=hacc.2 j acc'.toList[j] (by rw [<- getElem?_toList,getElem?_eq_getElem h1]);rw [hv];rw [length_map] at h2;rw [getElem?_eq_getElem h2] at he;cases he
    simp
 refine Ac (Ba (aqio (aVi.typeIs (y1.at fun o e=>hk a o e)) ?_));have fin:∀ (s1:Shared) (c₁:Nat),(∃ h d tk,s1={ s with heap:=h,drawn:=d,toks:=tk })->St 0 s1.heap->(∀ b o,s.heap.get? b=some o->s1.heap.get? b=some o) ->
   s1.heap.get? s.heap.objs.size=some { cls:=.type "list",data:=.seq #[] c₁ } ->
   Dp (model prog w) A (.builtin "list.extend.loop" ⟨[.ref s.heap.objs.size,.ref I,.ref s.heap.objs.size],[]⟩)
    (fun q s'=>match q with
     | .ok (.ret v)=>wpAny (model prog w) A (match v with
      | .ref a=>do
       let o <- load a
       match o.data with
       | .seq xs _=>pure xs.toList
       | _=>Ig "internal:collect"
      | _=>Ig "internal:collect") Q E s'
     | .ok _=>False
     | .error e=>E e s') s1:=by
  intro s1 c₁ a1 a2 a3 a4;refine Cn (key s1 c₁ a1 a2 a3 a4) fun q s' hQ=>?_;obtain ⟨acc',c',hq,hs',hk',hS',hacc⟩:=hQ;subst hq;show wpAny _ A (load s.heap.objs.size >>= _) _ _ _;refine Ac (Fy hS' ?_);show wpAny _ A (pure acc'.toList) _ _ _;rw [hacc];exact Ad (h order s' hord hk' (Af hS') hs')
 have hS2:=hk _ _ hS₁;refine As (fun _=>?_) (fun _=>Ad ⟨Cz Bv _,?_⟩)
 ·refine Ac (Dm ?_)
  refine Ac ?_;show wpAny _ _ (L6 s.heap.objs.size (·.push .none) >>= fun _=>L6 s.heap.objs.size (·.pop)) _ _ _;refine Ac (Gy hS2 rfl ?_);have hS₂:=Bf (Bg (·.push Value.none)) hS2 rfl;refine Gy (hz:=by seq_fits) hS₂ rfl ?_;have hS₃:=Bf (Bg (·.pop)) hS₂ rfl;have oth:∀ b o,b ≠ s.heap.objs.size->h1'.get? b=some o->((h1'.update s.heap.objs.size (Bg (·.push Value.none))).update s.heap.objs.size (Bg (·.pop))).get? b=some o:=fun b o hb e =>
   (Au _ _ (B4 hb)).trans ((Au _ _ (B4 hb)).trans e)
  refine Ad ⟨Cz Bv _,?_⟩;refine Cn (fin _ _ ⟨_,_,_,rfl⟩ ?_ (fun b o e=>oth b o (ne_of_lt (Af e)) (hk b o (Ae _ e))) hS₃) fun q s' x=>x;exact W.frame 0 _ _ st fun b hb o e=>oth b o (fun h=>hSf (h ▸ hb)) e
 ·exact Cn (fin _ _ ⟨_,_,_,rfl⟩ st (fun b o e=>hk b o (Ae _ e)) hS2) fun q s' x=>x
end
end SetW
namespace DL
open PySem PySem.Spec PyProof.Rows L2
section
variable {X:Cx} {K:Frag} {F:Hp}
def aY5 (K:Frag):V->List V->Hp->VK->Prop:=fun x vs H Q=>∃ l b xs zs,x=.ref l/\vs=[.ref b]/\H l=some (.lst xs)/\SqE K H b zs/\xs.length + zs.length <= Aj/\Q .non (upd H l (.lst (xs++zs)))
theorem aqap:MtM X "list.extend" (aY5 X.K):=by
 intro pins s σ H x vs v us Q I rx rv h;obtain ⟨l,b,xs,zs,rfl,rfl,hH,hB,hz,q⟩:=h;cases rx;obtain ⟨u,rfl,ru⟩:=rv.one;cases ru;obtain ⟨z,its,n,r,hl,e⟩:=I.lstM hH;obtain ⟨its2,n2,r2,e2,z2⟩:=Inv.listE I hB;have hl2:=r2.length;have hsz:its.toArray.size + its2.toArray.size <= Aj:=by rw [size_toArray,size_toArray]; omega
 have hlong:¬ (!its.toArray.isEmpty && E6 (its.toArray.size + its2.toArray.size))=true:=by
  rw [notLongL hsz,Bool.and_false];exact An
 refine call_meets F.slot_list_extend ⟨_,e,rfl⟩ F.entry_list_extend (F.args_list_extend_2 _ _)
  (AutoSeq1.list_extend_list_list_0 l its.toArray n b its2.toArray n2 hlong (by rw [size_toArray]; omega) (by omega)) ⟨e,e2,?_⟩
 refine ⟨.non,_,I.lset (its':=its++its2) hH e (by simp) (r.append r2) ?_,rfl,q⟩;rw [length_append];omega
theorem aqpt {i:Nat} {S:List Bool} {p:FP} {f:FE} {st:Stmt} (hp:PS X st (tDrop (tBM X.K "list" (aY5 X.K) (tP X.K i S p) (az6 (tD X.K f) aqsx)))):DS X st [] (bExt i S p f):=by
 refine PS.imp hp fun E σ H z=>?_;obtain ⟨β,F,ρ,o,r,hw,h,k⟩:=z;obtain ⟨q,hq,h⟩:=bind_some h;obtain ⟨d,hd,h⟩:=bind_some h;obtain ⟨c,hc,h⟩:=bind_some h;have hc:=some_of hc;split at h
 ·rename_i ds
  split at h
  ·rename_i hi
   obtain ⟨c',hc',rfl⟩:=map_some h;obtain ⟨m,m',g1,g2,g3⟩:=aJi hc';unfold gExt at g2;split at g2
   ·rename_i os
    split at g2
    ·rename_i hlen
     cases g2;refine ⟨β,F,ρ,q,c,.lst os,r,hq,hc,g1,fun v0 v F1 H1 e0 s1 s2 r1 at1=>⟨?_,?_⟩⟩
     ·obtain ⟨A,h1,_⟩:=r1.own
      obtain ⟨v0',e0',qq⟩:=h1 i c hc;rw [e0] at e0'; cases e0';obtain ⟨v',Aa,Ab,a1,a2,a3⟩:=qq.focus g1
      have:=at1.uniq r1.ext.fh a1
      subst this;cases a2 with
      | lst h0 _ _ _=>exact .inl ⟨rfl,_,SqL.of h0⟩
     ·obtain ⟨G,l,re,rz⟩:=r1.look S
      refine ⟨G,frz S ρ,_,l.gh,re,hd,fun y F2 H2 e2 q2=>?_⟩;have r2:=r1.back l e2;have at2:=at1.mono (aq9 (F:=F1) (H:=H1) (F':=F2)) e2.hh;obtain ⟨A1,T,q1,qn,dj,fin⟩:=at_of (r2.sh .non) hc g1 e0 (aqu9.refl _) (aqu9.refl _) at2;cases q2 with
      | lst hq2 t =>
       have t2:=l.reps e2 r1.ext.fh hi t;cases q1 with
       | lst h0 n0 rv hA =>
        rename_i b zs a vs A';refine ⟨a,b,vs,zs,rfl,rfl,h0,aqt1 e2.fh hq2,by rw [rv.length,t.length]; exact az0 hlen,?_⟩;refine k _ _ σ (fin a _ (fun b=>b=a \/ A' b) _ c' ((hA a).mpr (.inl rfl)) (fun b z=>.inl ((hA b).mpr z)) (.lst aa (A':=A') n0 ?_ fun _=>Lq) g3);have o1:=rv.stay (aqu9.refl _) (H':=upd H2 a (.lst (vs++zs))) fun b z=>ae (by rintro rfl; exact n0 z);exact (o1.append (aqfo t2) fun _ _ z=>z).congr fun b=>⟨fun z=>z.elim id Az,.inl⟩
    ·cases g2
   ·cases g2
  ·cases h
 ·cases h
end
theorem Inv.drawn {pins:List (Addr × Obj)} {σ:St} {H:Hp} {s:Shared} {d':Drawn} {X:Cx} (I:Inv X pins σ H s):Inv X pins σ H { s with drawn:=d' } :=
 ⟨I.ok,I.os,I.bare,I.base,I.loc,I.cell,I.free,I.freeC,I.pin,I.hok,I.len⟩
theorem aYi {σ:List Int} {v:Int} (h:σ.Nodup):(step_dedup σ v).Nodup:=by
 unfold step_dedup;split
 ·exact h
 ·rename_i hn
  refine Ih.mpr ⟨h,by simp,fun a ha b hb=>?_⟩;have e:b=v:=by simpa using hb
  rintro rfl;exact hn (by rw [any_eq_true]; exact ⟨a,ha,by simp [e]⟩)
theorem aj4 (val:Nat->Int):∀ i,(firstMet val i).Nodup
 | 0=>by rw [firstMet_zero]; exact nodup_nil
 | i + 1=>by rw [Ky]; exact aYi (aj4 val i)
theorem aw0:∀ {σ l:List Int},σ.Nodup->(∀ x∈σ,x∈l)->l.length=σ.length->l.Perm σ
 | [],l,_,_,h=>by
  have:l=[]:=Ca.mp (by simpa using h)
  subst this; exact .refl _
 | x :: σ,l,hn,hs,h=>by
  rw [nodup_cons] at hn;have hx:=hs x (by simp);have p:=Ka hx;refine p.trans ((aw0 hn.2 (fun y hy=>?_) ?_).cons x)
  ·exact (Kb (by rintro rfl; exact hn.1 hy)).mpr (hs y (mem_cons_of_mem _ hy))
  ·have:=p.length_eq
   simp at this h ⊢;omega
theorem aw1:∀ {l σ:List Int},l.Nodup->σ.Nodup->(∀ x,x∈l ↔ x∈σ)->l.Perm σ
 | l,[],_,_,h=>by
  have:l=[]:=List.eq_nil_iff_forall_not_mem.mpr fun x hx=>absurd ((h x).mp hx) (by simp)
  subst this; exact .refl _
 | l,x :: σ,hl,hn,h=>by
  rw [nodup_cons] at hn;have p:=Ka ((h x).mpr (by simp));refine p.trans ((aw1 (hl.erase x) hn.2 fun y=>?_).cons x);rw [hl.mem_erase_iff,h y];constructor
  ·rintro ⟨a,b⟩
   exact (Al.mp b).resolve_left a
  ·intro hy
   exact ⟨by rintro rfl; exact hn.1 hy,mem_cons_of_mem _ hy⟩
theorem aky {prog:Ak} {w:World}:∀ {l:List (Int × Value)},Mi (Cm prog w) l->∃ ks:List Int,IntsAre (l.map (·.2)) ks/\∀ k,(∃ e∈l,(Cm prog w).is k e.2=true) ↔ k∈ks
 | [],_=>⟨[],.nil,fun k=>by simp⟩
 | e :: l,h=>by
  obtain ⟨ks,h1,h2⟩:=aky h.tail;obtain ⟨⟨k,hk,_⟩,_⟩:=h.head;obtain ⟨t,ht⟩:=Value.isInt_shape hk;refine ⟨k :: ks,by rw [map_cons,ht]; exact .cons k t h1,fun j=>?_⟩;rw [mem_cons,<- h2 j];constructor
  ·rintro ⟨e',he',hj⟩
   rcases Al.mp he' with rfl | he'
   ·exact .inl ((Cm prog w).inj _ _ _ hj hk)
   ·exact .inr ⟨e',he',hj⟩
  ·rintro (rfl | ⟨e',he',hj⟩)
   ·exact ⟨e,by simp,hk⟩
   ·exact ⟨e',mem_cons_of_mem _ he',hj⟩
theorem aKj {vs:List Value} {ns:List Int} (h:IntsAre vs ns):vs.map (fun v=>match v with | .int k _=>k | _=>0)=ns:=by
 induction h with
 | nil=>rfl
 | cons n t hr ih=>rw [map_cons,ih]
theorem azd:∀ {us:List Value} {ns:List Int},IntsAre us ns->aqu8 (ns.map V.int) us
 | _,_,.nil=>.nil
 | _,_,.cons n t hr=>.cons ⟨t,rfl⟩ (azd hr)
theorem aQf {prog:Ak} {w:World} {A:Around} {E:Value->Shared->Prop} {s:Shared} {a:Addr} {ns:List Int} (hh:A.handled=none)
  (hS:SetW.aJj prog w s.heap a (fun k'=>(firstMet (fun i=>ns.getD i 0) ns.length).any (· == k')) (firstMet (fun i=>ns.getD i 0) ns.length).length) (h64:(aI ns).length < 64) {Q:Value->Shared->Prop}
  (h:∀ (D:Addr) (out:List Value) (n:Nat) (s':Shared),IntsAre out (aI ns)->s.heap.objs.size <= D->s'.heap.get? D=some { cls:=.type "list",data:=.seq out.toArray n }->(∀ b o,s.heap.get? b=some o->s'.heap.get? b=some o) ->
   (∃ h' d' tk,s'={ s with heap:=h',drawn:=d',toks:=tk })->Q (.ref D) s') :
  wpAny (model prog w) A (call (.builtin "sorted") [.ref a]) Q E s:=by
 obtain ⟨o,es,ep,t,ho,hex,hd,hel,hmem,hb,hf,hn,ht⟩:=hS;obtain ⟨ks,hI,hks⟩:=aky hel;have hmet:∀ k,k∈firstMet (fun i=>ns.getD i 0) ns.length ↔ k∈ns:=by
  intro k;have e:=firstMet_any (fun i=>ns.getD i 0) ns.length k;have e2:(Ar ns.length).map (fun i=>ns.getD i 0)=ns:=by
   apply ext_getElem
   ·simp
   ·intro i h1 h2; simp at h1; simp [h1]
  rw [e2] at e
  have:=A5.mp e
  simpa [any_eq_true] using this
 have hk2:∀ k,k∈ks ↔ k∈firstMet (fun i=>ns.getD i 0) ns.length:=by
  intro k;rw [<- hks k,<- hmem k];simp [any_eq_true]
 have hlen:ks.length=(firstMet (fun i=>ns.getD i 0) ns.length).length:=by
  rw [<- hI.length,length_map,length_toList,hn]
 have hkp:ks.Perm (firstMet (fun i=>ns.getD i 0) ns.length):=aw0 (aj4 _ _) (fun x hx=>(hk2 x).mpr hx) hlen;have hkn:ks.Nodup:=hkp.symm.nodup (aj4 _ _);have fin:∀ ns':List Int,ns'.Perm ks->ns'.Pairwise (· <= ·)->ns'=aI ns:=by
  intro ns' hp hs;refine ax1 ?_ (aje ns) fun x=>?_
  ·have hnd:ns'.Nodup:=hp.symm.nodup hkn
   have:=List.Pairwise.and hs hnd
   exact this.imp fun ⟨a,b⟩=>by omega
  ·rw [hp.mem_iff,hk2,hmet,axy]
 have hsize:es.size=(aI ns).length:=by
  have:(aI ns).Perm ks:=aw1 ((aje ns).imp fun h=>Int.ne_of_lt h) hkn fun x=>by rw [axy,hk2,hmet]
  rw [this.length_eq,hlen,hn]
 refine Db Md Lu Lv (Lw _) ?_;unfold Builtin.«sorted»;refine Ac (m:=checkCount "sorted" 1 1 _) (Ad ?_);refine Ac (SetW.aWt (A:=A.in1) hh ⟨o,ho,hex,hd,hf⟩ ht (by rw [hsize,Ao]; omega) fun order s1 hord hk1 hsz1 hs1=>?_);obtain ⟨h1,d1,tk1,rfl⟩:=hs1;have hio:∃ ks',IntsAre (order.map (·.2)) ks'/\ks'.Perm ks:=by
  obtain ⟨ks',g1,g2⟩:=aky (hel.perm hord);refine ⟨ks',g1,?_⟩;have e1:=aKj g1;have e2:=aKj hI;rw [<- e1,<- e2];exact (hord.map _).map _
 obtain ⟨ks',g1,g2⟩:=hio;have hol:(order.map (·.2)).length < 64:=by rw [length_map,hord.length_eq,length_toList,hsize]; exact h64
 refine Ac (Gi ?_ (by rw [Ao]; omega));have hoL:(h1.push (Bq "list" (order.map (·.2)).toArray 0)).get? h1.objs.size=some (Bq "list" (order.map (·.2)).toArray 0):=Ag _ rfl;refine Ac (Ba (Ax Kc ⟨_,hoL,rfl⟩ Jq (list_sort_tree hoL g1 hol fun out ns' a1 a2 a3=>⟨_,rfl,?_⟩) (Kd _)));refine Ad ⟨_,rfl,?_⟩;obtain ⟨e,he⟩:=K0 (out:=out) hoL;have hsz:s.heap.objs.size <= h1.objs.size:=le_of_lt hsz1;refine h _ out.toList e _ (by rw [<- fin ns' (a2.trans g2) a3]; exact a1) hsz (by simpa [Bq] using he) (fun b o' hb'=>?_) ⟨_,_,_,rfl⟩;have hb1:=hk1 b o' hb';have hlt:=Af hb1;rw [Ke (ne_of_lt hlt) (by rw [Je]; exact lt_succ_of_lt hlt)];exact Ae _ hb1
theorem aX9 {X:Cx} {e:Expr} {te:TE} {p p2 p3 pos:Pos} (hc:X.calm=true) (hg1:Gl X "sorted") (hg2:Gl X "set") (hm1:X.mg "sorted"=none) (hm2:X.mg "set"=none) (he:PE X e te) (hs:Ap [e] X.env=(false,eval e X.env) :: Ap [] X.env:=by rfl) :
  PE X (.Call (.Name "sorted" p) [.Call (.Name "set" p2) [e] [] p3] [] pos) (fun σ H Q=>te σ H fun x H1=>∃ (a:Addr) (ns:List Int),x=.ref a/\SqL X.K H1 a (ns.map V.int)/\ns.length < 4000/\(aI ns).length < 64 /\
   ∀ l,H1 l=none->Q (.ref l) (upd H1 l (.lst ((aI ns).map V.int)))):=by
 intro pins s σ H Q I h;refine B9 (awo I hg1 hm1 aj7 ?_ (by decide) (by decide));refine callWith_builtin1 ?_ rfl rfl;show wpAny _ _ (spliced ((false,eval (.Call (.Name "set" p2) [e] [] p3) X.env) :: C1 pos (Ap [] X.env))) _ _ s;refine B8 ?_;refine B9 (awo I hg2 hm2 aqq1 ?_ (by decide) (by decide));have ha:=(gd he cn hs) p3 pins s σ H (fun xs H1=>∃ (a:Addr) (ns:List Int),xs=[.ref a]/\SqL X.K H1 a (ns.map V.int)/\ns.length < 4000/\(aI ns).length < 64 /\
   ∀ l,H1 l=none->Q (.ref l) (upd H1 l (.lst ((aI ns).map V.int)))) I (by
  refine (?_:te σ H _);refine cast (congrArg (te σ H) (funext fun x=>funext fun H1=>?_)) h;simp [aqsx])
 refine Bp (thn ha fun us s1 hQ=>?_) hs rfl;obtain ⟨vs,H1,I1,r1,a,ns,ev,hq,hl4,h64,q⟩:=hQ;subst ev;obtain ⟨u,rfl,ru⟩:=r1.one;cases ru;obtain ⟨its,rv,ht,hz⟩:=I1.list hq;have ia:=intsAre_of rv;have hil:its.length=ns.length:=ia.length;refine SetW.aWu (items:=its.toArray) (ns:=ns) (I1.ok.hd hc) ht.isList (by simpa using ia) (by rw [size_toArray,hil]; unfold E2; omega) fun h' tk hS hk=>?_;refine Di ?_;have hk':∀ b o,s1.heap.get? b=some o->h'.get? b=some o:=fun b o e=>hk b o (Af e) e;have hsz0:s1.heap.objs.size < h'.objs.size:=let ⟨o,_,_,_,ho,_⟩:=hS; Af ho;rw [show its.toArray.size=ns.length by rw [size_toArray,hil]] at hS;refine aQf (s:={ s1 with heap:=h',toks:=tk }) (I1.ok.hd hc) hS h64 fun D out n s' hout hD hget hk2 hs'=>?_;obtain ⟨h2,d2,tk2,rfl⟩:=hs';have hDs:s1.heap.objs.size <= D:=le_trans (le_of_lt hsz0) hD;have I2:=Inv.drawn (d':=d2) (I1.laid (h':=h2) (t':=tk2) (a:=D) (o:=.lst ((aI ns).map V.int)) (fun b u e=>hk2 b u (hk' b u e)) hDs ⟨by rw [length_map,Ao]; omega,out,n,azd hout,hget⟩);exact ⟨.ref D,_,I2,rfl,q D (I1.hok.fresh hDs)⟩
theorem aZ0 {X:Cx} {e:Expr} {f:FE} {p p2 p3 pos:Pos} (hc:X.calm=true) (hg1:Gl X "sorted") (hg2:Gl X "set") (hm1:X.mg "sorted"=none) (hm2:X.mg "set"=none) (he:DE X e f) (hs:Ap [e] X.env=(false,eval e X.env) :: Ap [] X.env:=by rfl) :
  DO X (.Call (.Name "sorted" p) [.Call (.Name "set" p2) [e] [] p3] [] pos) (aqte aQz (ak f aqu6)):=by
 refine PE.imp (aX9 hc hg1 hg2 hm1 hm2 he hs) fun σ H Q q=>?_;obtain ⟨F,ρ,o,s,re,hf,kk⟩:=q;obtain ⟨zs,hf2,rfl⟩:=map_some hf;obtain ⟨ds,hd,hf⟩:=bind_some hf2;obtain ⟨d,hd1,hd⟩:=bind_some hd;obtain ⟨ds',hd2,rfl⟩:=map_some hd;cases hd2;refine ⟨F,ρ,d,s,re,hd1,fun v F1 H1 e1 r1=>?_⟩;unfold aQz at hf;split at hf
 ·rename_i xs heq
  cases heq;obtain ⟨ns,hns,hf⟩:=bind_some hf;split at hf
  ·rename_i hcnd
   cases hf
   have:=axs hns
   subst this;cases r1 with
   | lst q t =>
    have hv:=aZ t;subst hv;refine ⟨_,ns,rfl,(aqt1 e1.fh q).l,hcnd.1,hcnd.2,fun l hl=>kk (.ref l) F1 _ _ (e1.trans (Ext.laidH e1.fh hl)) (aZb aa ?_) fun b z=>by subst z; exact ⟨e1.fh.free hl,e1.hh.free hl⟩⟩;exact aR _
  ·cases hf
 ·cases hf
section
variable {X:Cx} {K:Frag} {F:Hp}
theorem ak6:awh X (.builtin "sorted") (fun xs H Q=>∃ (p:Addr) (ns:List Int),xs=[.ref p]/\SqL X.K H p (ns.map V.int)/\ns.length < 64/\∀ l,H l=none->Q (.ref l) (upd H l (.lst ((aJk ns).map V.int)))):=by
 intro pins s σ H xs us Q I r h;obtain ⟨p,ns,rfl,hq,h64,q⟩:=h;cases r with
 | cons r1 r =>
  cases r;cases r1;obtain ⟨its,rv,ht,hz⟩:=I.list hq;have ia:=intsAre_of rv;have hil:its.length=ns.length:=ia.length;refine sorted_ints ht.isList ia (by rw [hil]; exact h64) fun out ns' a1 a2 a3=>?_;obtain ⟨e,he⟩:=sortedAll_at s.heap its out;have e':=aqj0 a2 a3;subst e';have hlen:(aJk ns).length=ns.length:=(azr ns).length_eq;exact ⟨.ref _,_,I.laid (t':=s.toks) (o:=.lst ((aJk ns).map V.int)) (fun b u e=>sortedAll_old e) (le_succ _) ⟨by rw [length_map,hlen,Ao]; omega,out.toList,e,azd a1,by simpa [Bq] using he⟩,rfl,q _ (I.hok.fresh (le_succ _))⟩
theorem ak5:CallO K (fun xs H Q=>∃ (p:Addr) (ns:List Int),xs=[.ref p]/\SqL K H p (ns.map V.int)/\ns.length < 64/\∀ l,H l=none->Q (.ref l) (upd H l (.lst ((aJk ns).map V.int)))) aqjy:=by
 intro ds es F H vs Q h s r k;unfold aqjy at h;split at h
 ·obtain ⟨ns,hns,h⟩:=bind_some h
  split at h
  ·rename_i h64
   cases h
   have:=axs hns
   subst this;cases r with
   | cons r r' =>
    cases r';cases r with
    | lst q t =>
     have hv:=aZ t;subst hv;exact ⟨_,ns,rfl,(aqt1 s q).l,h64,fun l hl=>k l _ F _ (Ext.laidH s hl) aa (s.free hl) hl (aR _)⟩
  ·cases h
 ·cases h
end
section
variable {X:Cx} {K:Frag} {F:Hp}
end
section
variable {prog:Ak} {w:World} {A:Around} {E:Value->Shared->Prop} {s:Shared}
end
section
variable {X:Cx} {K:Frag} {F:Hp}
end
section
variable {X:Cx} {K:Frag} {F:Hp}
end
end DL
namespace DL
open PySem
end DL
namespace DL
open PySem PySem.Spec PyProof.Rows L2
variable {X:Cx}
end DL
namespace DL
open PySem
def lexP (p q:Int × Int):Bool:=if p.1=q.1 then decide (p.2 < q.2) else decide (p.1 < q.1)
theorem aQx {p q:Int × Int}:lexP p q=true ↔ p.1 < q.1 \/ p.1=q.1/\p.2 < q.2:=by
 unfold lexP;split <;> simp <;> omega
def insP (x:Int × Int):List (Int × Int)->List (Int × Int)
 | []=>[x]
 | y :: ys=>if lexP x y=true then x :: y :: ys else y :: insP x ys
def aki (ps:List (Int × Int)):List (Int × Int):=ps.foldr insP []
theorem aQs (x:Int × Int):∀ l:List (Int × Int),(insP x l).Perm (x :: l)
 | []=>.refl _
 | y :: ys=>by
  unfold insP;split
  ·exact .refl _
  ·exact ((aQs x ys).cons y).trans (List.Perm.swap _ _ _)
theorem ajs:∀ ps:List (Int × Int),(aki ps).Perm ps
 | []=>.refl _
 | n :: ns=>(aQs n _).trans ((ajs ns).cons n)
theorem aJq (x:Int × Int):∀ l:List (Int × Int),l.Pairwise (fun a b=>lexP a b=true)->x ∉ l->(insP x l).Pairwise (fun a b=>lexP a b=true)
 | [],_,_=>by simp [insP]
 | y :: ys,h,hn=>by
  rw [pairwise_cons] at h;unfold insP;split
  ·rename_i hx
   rw [pairwise_cons];refine ⟨fun z hz=>?_,Fb.mpr h⟩;rcases Al.mp hz with rfl | hz
   ·exact hx
   ·have h2:=h.1 z hz
    rw [aQx] at *;omega
  ·rename_i hx
   rw [pairwise_cons];refine ⟨fun z hz=>?_,aJq x ys h.2 (fun m=>hn (by simp [m]))⟩;rcases Al.mp ((aQs x ys).mem_iff.mp hz) with rfl | hz
   ·have hne:z ≠ y:=fun e=>hn (by simp [e])
    rw [aQx] at *
    have:¬ (z.1=y.1/\z.2=y.2):=fun e=>hne (Prod.ext e.1 e.2)
    omega
   ·exact h.1 z hz
theorem avd:∀ ps:List (Int × Int),ps.Nodup->(aki ps).Pairwise (fun a b=>lexP a b=true)
 | [],_=>.nil
 | n :: ns,h=>by
  rw [nodup_cons] at h;exact aJq n _ (avd ns h.2) fun m=>h.1 ((ajs ns).mem_iff.mp m)
theorem aqiz {ps ps':List (Int × Int)} (hn:ps.Nodup) (hp:ps'.Perm ps) (hs:ps'.Pairwise (fun a b=>lexP a b=true)):ps'=aki ps :=
 Ip (fun a b _ _ h1 h2=>by rw [aQx] at h1 h2; omega) hs (avd ps hn) (hp.trans (ajs ps).symm)
def pairD (p:Int × Int):D:=.tup [.int p.1,.int p.2]
def aQy:List D->Option (List D)
 | [.lst xs,.lst ys]=>(aWx xs).bind fun ns=>(aWx ys).bind fun ms=>if ns.length=ms.length/\1 <= ns.length/\ns.length < 64/\(ns.zip ms).Nodup then some ((aki (ns.zip ms)).map pairD) else none
 | _=>none
end DL
namespace DL
open PySem PySem.Spec PyProof.Rows L2
variable {X:Cx} {tg:Expr}
variable {X:Cx}
section
variable {K:Frag} {β:Bs} {F H:Hp} {σ:St} {ρ:Cs}
end
section
variable {X:Cx} {pos:Pos} {W2:List Nat}
end
end DL
set_option maxHeartbeats 2000000
namespace DL
open PySem PySem.Spec PyProof.Rows L2
section
variable {X:Cx} {elt target iter:Expr} {ifs:List Expr} {scope:Scope} {pos:Pos} {cl:List (Str × Addr)} {kx:Str} {N':List Str} {js:List (Option Nat)}
structure CompOk2 (X:Cx) (scope:Scope) (kx:Str) (cl:List (Str × Addr)) (N':List Str) (js:List (Option Nat)):Prop where
 calm:X.calm=true
 clo:clo X.env scope.names []=some cl
 free:azo X scope cl js N'
 cf:∀ (n:Nat) (acc:List (Str × Addr)),L4 n scope.names acc=(kx,n) :: acc
 pc:∀ h:Heap,pushCells h scope.names=h.push { cls:=.type "cell",data:=.cell none }
 kN:∀ p∈js.zip N',p.1=none \/ p.2 ≠ kx
 cell:∀ y∈scope.names,y.2=.cell->y.1=kx
 kind:scope.kind=.function
 names:∀ x∈scope.names,x.2=.local->scope.names.lookup x.1=some .local
theorem CompOk2.hcl (k:CompOk2 X scope kx cl N' js):∀ x c,cl.lookup x=some c->X.env.cells.lookup x=some c:=fun x c h=>by
 rcases aKw k.clo x c (mem_lookup h) with z | z
 ·simp at z
 ·exact z
theorem CompOk2.hhas (k:CompOk2 X scope kx cl N' js):∀ x,((Cq scope X.env).names.lookup x=some .cell \/ (Cq scope X.env).names.lookup x=some .free)->x=kx \/ ∃ c,cl.lookup x=some c:=fun x h=>by
 have h':∃ k,(x,k)∈(Cq scope X.env).names/\(k=.cell \/ k=.free):=by
  rcases h with h | h
  ·exact ⟨_,mem_lookup h,.inl rfl⟩
  ·exact ⟨_,mem_lookup h,.inr rfl⟩
 obtain ⟨kk,hk,hkk⟩:=h';unfold Cq at hk;obtain ⟨⟨n,k'⟩,hm,he⟩:=Ah.mp hk;dsimp only at he;have fin:(x,NameKind.free)∈scope.names->x=kx \/ ∃ c,cl.lookup x=some c:=fun z=>by
  obtain ⟨c,hc⟩:=(aKx k.clo).2 x z;exact .inr (akw hc)
 split at he
 ·rename_i hc
  cases he;simp only [C0,beq_iff_eq] at hc;rw [hc.1.1] at hm;exact fin hm
 ·cases he
  rcases hkk with rfl | rfl
  ·exact .inl (k.cell _ hm rfl)
  ·exact fin hm
end
section
variable {env:Env} {es:List Expr} {p:Pos}
end
section
variable {X:Cx} {a:Expr} {es:List Expr} {pos:Pos} {x1:Nat} {f:FE} {g:FA} {o:FO} {u:FAO}
end
section
variable {X:Cx} {a e:Expr} {pos pos':Pos} {o:FO}
end
section
variable {P:Ak} {w:World} {K:Frag} {mg:Str->Option Value} {base:Heap}
end
end DL
set_option maxHeartbeats 1000000
namespace SortW
open PySem PySem.W PyProof.Rows
def aqt3 {α:Type} (lt:Nat->Nat->Bool):KasT α->α
 | .ret a=>a
 | .ask i j k=>aqt3 lt (k (lt i j))
theorem axx {α β:Type} (lt:Nat->Nat->Bool):∀ (t:KasT α) (f:α->KasT β),aqt3 lt (t.bind f)=aqt3 lt (f (aqt3 lt t))
 | .ret a,f=>by simp [L7,aqt3]
 | .ask i j k,f=>by
  rw [L7];show aqt3 lt ((k (lt i j)).bind f)=_;rw [axx lt (k (lt i j)) f];rfl
def at0 (p:Array Nat) (i:Nat):Nat:=p.getD i 0
theorem awd (p:Array Nat) (i:Nat):at0 p i=(p[i]?).getD 0:=by simp [at0]
structure Ord (n:Nat) (lt:Nat->Nat->Bool):Prop where
 trans:∀ a b c,lt a b=true->lt b c=true->lt a c=true
 asym:∀ a b,lt a b=true->lt b a=false
 total:∀ a b,a < n->b < n->a ≠ b->lt a b=false->lt b a=true
def SP (lt:Nat->Nat->Bool) (p:Array Nat) (k:Nat):Prop:=∀ i j,i < j->j < k->lt (at0 p i) (at0 p j)=true
section
variable {n:Nat} {lt:Nat->Nat->Bool} (O:Ord n lt)
def PA (n:Nat) (p:Array Nat):Prop:=p.Perm (Ar n).toArray
theorem PA.size {p:Array Nat} (h:PA n p):p.size=n:=by
 have:=h.size_eq
 simpa using this
theorem PA.bd {p:Array Nat} (h:PA n p) {i:Nat} (hi:i < n):at0 p i < n:=by
 have hs:i < p.size:=by rw [h.size]; exact hi
 have:p[i]∈(Ar n).toArray:=(Array.Perm.mem_iff h).mp (Array.getElem_mem hs)
 have e:at0 p i=p[i]:=by simp [at0,hs]
 rw [e];simpa using this
theorem PA.ne {p:Array Nat} (h:PA n p) {i j:Nat} (hi:i < n) (hj:j < n) (hij:i ≠ j):at0 p i ≠ at0 p j:=by
 have hl:p.toList.Perm (Ar n):=by simpa using h.toList
 have hn:p.toList.Nodup:=hl.nodup_iff.mpr Iu;have hsi:i < p.toList.length:=by rw [length_toList,h.size]; exact hi
 have hsj:j < p.toList.length:=by rw [length_toList,h.size]; exact hj
 have ei:at0 p i=p.toList[i]:=by simp [at0,show i < p.size by simpa using hsi]
 have ej:at0 p j=p.toList[j]:=by simp [at0,show j < p.size by simpa using hsj]
 rw [ei,ej];exact fun e=>hij ((getElem_inj hn).mp e)
include O
theorem flip {p:Array Nat} (h:PA n p) {i j:Nat} (hi:i < n) (hj:j < n) (hij:i ≠ j) (hf:lt (at0 p i) (at0 p j)=false):lt (at0 p j) (at0 p i)=true:=O.total _ _ (h.bd hi) (h.bd hj) (h.ne hi hj hij) hf
theorem SP.succ {p:Array Nat} {k:Nat} (hs:SP lt p k) (h1:1 <= k) (hl:lt (at0 p (k - 1)) (at0 p k)=true):SP lt p (k + 1):=by
 intro i j hij hj
 by_cases e:j=k
 ·subst e
  by_cases e2:i=j - 1
  ·subst e2; exact hl
  ·exact O.trans _ _ _ (hs i (j - 1) (by omega) (by omega)) hl
 ·exact hs i j hij (by omega)
theorem aqjq {p:Array Nat} (h:PA n p):∀ (f x:Nat),1 <= x->x + f <= n->SP lt p x->x <= aqt3 lt (Dj p f x)/\aqt3 lt (Dj p f x) <= x + f/\SP lt p (aqt3 lt (Dj p f x))/\(aqt3 lt (Dj p f x) < x + f->lt (at0 p (aqt3 lt (Dj p f x))) (at0 p (aqt3 lt (Dj p f x) - 1))=true)
 | 0,x,h1,h2,hs=>by
  rw [Dj];exact ⟨le_refl _,le_refl _,hs,fun z=>by simp [aqt3] at z⟩
 | f + 1,x,h1,h2,hs=>by
  rw [Dj];show _ <= aqt3 lt (if lt (at0 p x) (at0 p (x - 1))=true then KasT.ret x else Dj p f (x + 1))/\aqt3 lt (if lt (at0 p x) (at0 p (x - 1))=true then KasT.ret x else Dj p f (x + 1)) <= _/\SP lt p (aqt3 lt (if lt (at0 p x) (at0 p (x - 1))=true then KasT.ret x else Dj p f (x + 1)))/\(aqt3 lt (if lt (at0 p x) (at0 p (x - 1))=true then KasT.ret x else Dj p f (x + 1)) < _->lt (at0 p (aqt3 lt (if lt (at0 p x) (at0 p (x - 1))=true then KasT.ret x else Dj p f (x + 1)))) (at0 p (aqt3 lt (if lt (at0 p x) (at0 p (x - 1))=true then KasT.ret x else Dj p f (x + 1)) - 1))=true);cases hc:lt (at0 p x) (at0 p (x - 1)) with
  | true =>
   simp only [if_true,aqt3];exact ⟨le_refl _,by omega,hs,fun _=>hc⟩
  | false =>
   simp only [Aw,if_false];have hl:=flip O h (i:=x) (j:=x - 1) (by omega) (by omega) (by omega) hc;obtain ⟨a,b,c,d⟩:=aqjq h f (x + 1) (by omega) (by omega) (SP.succ O hs h1 hl);exact ⟨by omega,by omega,c,fun z=>d (by omega)⟩
def DP (lt:Nat->Nat->Bool) (p:Array Nat) (k:Nat):Prop:=∀ i j,i < j->j < k->lt (at0 p j) (at0 p i)=true
theorem aqga {p:Array Nat} (h:PA n p):∀ (f k:Nat),1 <= k->k + f <= n->DP lt p k->∃ m,aqt3 lt (Gm f p k 0)=(p,m,0)/\k <= m/\m <= k + f/\DP lt p m
 | 0,k,h1,h2,hd=>⟨k,by rw [Gm]; rfl,le_refl _,le_refl _,hd⟩
 | f + 1,k,h1,h2,hd=>by
  rw [Gm];show ∃ m,aqt3 lt (if lt (at0 p k) (at0 p (k - 1))=true then if 0 > 0 then _ else Gm f p (k + 1) 0 else KasT.ask (at0 p (k - 1)) (at0 p k) fun d=>if d=true then KasT.ret (p,k,0) else Gm f p (k + 1) (0 + 1))=_/\_;cases hc:lt (at0 p k) (at0 p (k - 1)) with
  | true =>
   simp only [if_true,lt_irrefl,gt_iff_lt,if_false];have hd':DP lt p (k + 1):=by
    intro i j hij hj
    by_cases e:j=k
    ·subst e
     by_cases e2:i=j - 1
     ·subst e2; exact hc
     ·exact O.trans _ _ _ hc (hd i (j - 1) (by omega) (by omega))
    ·exact hd i j hij (by omega)
   obtain ⟨m,m1,m2,m3,m4⟩:=aqga h f (k + 1) (by omega) (by omega) hd';exact ⟨m,m1,by omega,by omega,m4⟩
  | false =>
   simp only [Aw,if_false];have hl:=flip O h (i:=k) (j:=k - 1) (by omega) (by omega) (by omega) hc;refine ⟨k,?_,le_refl _,by omega,hd⟩;show aqt3 lt (if lt (at0 p (k - 1)) (at0 p k)=true then KasT.ret (p,k,0) else Gm f p (k + 1) (0 + 1))=_;rw [hl];rfl
omit O in
theorem aqkt {p:Array Nat} {m:Nat} (hm:m <= p.size) (k:Nat):at0 (Mj p 0 m) k=if k < m then at0 p (m - 1 - k) else at0 p k:=by
 rw [awd,awd,awd];unfold Mj;rw [getElem?_mirror_all hm];simp only [zero_le,true_and,Nat.zero_add];split <;> rfl
theorem aqkc {p:Array Nat} (h:PA n p) {m:Nat} (h1:1 <= m) (hm:m <= n) (hd:DP lt p m):∃ c q,aqt3 lt (L8 m n p)=(c,q)/\PA n q/\1 <= c/\c <= n/\SP lt q c:=by
 have hq:PA n (Mj p 0 m):=(mirror_perm _ _ _ _).trans h;have hs:SP lt (Mj p 0 m) m:=by
  intro i j hij hj;have hz:m <= p.size:=by rw [h.size]; exact hm
  rw [aqkt hz,aqkt hz,if_pos (by omega),if_pos hj];exact hd _ _ (by omega) (by omega)
 obtain ⟨a,b,c,_⟩:=aqjq O hq (n - m) m h1 (by omega) hs;refine ⟨_,_,?_,hq,?_,?_,c⟩
 ·unfold L8
  rw [axx];rfl
 ·omega
 ·omega
theorem aqje {p:Array Nat} (h:PA n p) (h1:1 <= n):∃ c q,aqt3 lt (L9 n p)=(c,q)/\PA n q/\1 <= c/\c <= n/\SP lt q c:=by
 have hs1:SP lt p 1:=fun i j hij hj=>by omega
 obtain ⟨a,b,c,d⟩:=aqjq O h (n - 1) 1 (le_refl _) (by omega) hs1;unfold L9;rw [axx];generalize aqt3 lt (Dj p (n - 1) 1)=m at *
 by_cases e:m=n
 ·rw [if_pos (by simpa using e)]
  exact ⟨m,p,rfl,h,a,by omega,c⟩
 ·rw [if_neg (by simpa using e)]
  by_cases e2:m > 1
  ·rw [if_pos e2]
   have hl:=c 0 (m - 1) (by omega) (by omega);refine ⟨m,p,?_,h,a,by omega,c⟩;show aqt3 lt (if lt (at0 p 0) (at0 p (m - 1))=true then _ else _)=_;rw [hl];rfl
  ·rw [if_neg e2]
   have em:m=1:=by omega
   subst em;have hl:=d (by omega);have hd:DP lt p 2:=fun i j hij hj=>by
    have:i=0/\j=1:=by omega
    obtain ⟨rfl,rfl⟩:=this;exact hl
   obtain ⟨m,m1,m2,m3,m4⟩:=aqga O h (n - (1 + 1)) (1 + 1) (by omega) (by omega) hd;unfold Lx;rw [axx,m1];simp only [gt_iff_lt,lt_irrefl,if_false];exact aqkc O h (by omega) (by omega) m4
theorem aX5 {p:Array Nat} (h:PA n p) {k:Nat} (hk:k < n) (hs:SP lt p k):∀ (f lo hi:Nat),lo <= hi->hi <= k->hi - lo <= f->(∀ i,i < lo->lt (at0 p i) (at0 p k)=true)->(∀ i,hi <= i->i < k->lt (at0 p k) (at0 p i)=true) ->
  aqt3 lt (Fg p k f lo hi) <= k/\(∀ i,i < aqt3 lt (Fg p k f lo hi)->lt (at0 p i) (at0 p k)=true)/\(∀ i,aqt3 lt (Fg p k f lo hi) <= i->i < k->lt (at0 p k) (at0 p i)=true)
 | 0,lo,hi,h1,h2,h3,ha,hb=>by
  rw [Fg]
  have:lo=hi:=by omega
  subst this;exact ⟨h2,ha,hb⟩
 | f + 1,lo,hi,h1,h2,h3,ha,hb=>by
  rw [Fg]
  by_cases e:lo ≥ hi
  ·rw [if_pos e]
   have:lo=hi:=by omega
   subst this;exact ⟨h2,ha,hb⟩
  ·rw [if_neg e]
   have hmid:(lo + hi) / 2 < hi/\lo <= (lo + hi) / 2:=by omega
   show aqt3 lt (if lt (at0 p k) (at0 p ((lo + hi) / 2))=true then _ else _) <= _/\_;simp only [aqt3];have eqd:lt (p.getD k 0) (p.getD ((lo + hi) / 2) 0)=lt (at0 p k) (at0 p ((lo + hi) / 2)):=rfl;rw [eqd];cases hc:lt (at0 p k) (at0 p ((lo + hi) / 2)) with
   | true =>
    simp only [if_true];refine aX5 h hk hs f lo ((lo + hi) / 2) hmid.2 (by omega) (by omega) ha fun i hi1 hi2=>?_
    by_cases e2:i=(lo + hi) / 2
    ·subst e2; exact hc
    ·exact O.trans _ _ _ hc (hs _ _ (by omega) hi2)
   | false =>
    simp only [Aw,if_false];have hl:=flip O h (i:=k) (j:=(lo + hi) / 2) hk (by omega) (by omega) hc;refine aX5 h hk hs f ((lo + hi) / 2 + 1) hi (by omega) h2 (by omega) (fun i hi1=>?_) hb
    by_cases e2:i=(lo + hi) / 2
    ·subst e2; exact hl
    ·exact O.trans _ _ _ (hs i ((lo + hi) / 2) (by omega) (by omega)) hl
theorem aqne:∀ (f:Nat) (p:Array Nat) (x:Nat),PA n p->x + f=n->SP lt p x->PA n (aqt3 lt (Km f p x))/\SP lt (aqt3 lt (Km f p x)) n
 | 0,p,x,h,hx,hs=>by
  rw [Km]
  have:x=n:=by omega
  subst this;exact ⟨h,hs⟩
 | f + 1,p,x,h,hx,hs=>by
  rw [Km,axx];obtain ⟨l1,l2,l3⟩:=aX5 O h (k:=x) (by omega) hs x 0 x (by omega) (le_refl _) (by omega) (fun i hi=>by omega) (fun i h1 h2=>by omega);generalize aqt3 lt (Fg p x x 0 x)=l at *;have hsz:x < p.size:=by rw [h.size]; omega
  have hat:∀ k,at0 (bubble p x (x - l)) k=if k=l then at0 p x else if l < k/\k <= x then at0 p (k - 1) else at0 p k:=by
   intro k;rw [awd,awd,awd,awd,getElem?_bubble hsz (x - l) (by omega),show x - (x - l)=l by omega];split
   ·rfl
   ·split <;> rfl
  refine aqne f (bubble p x (x - l)) (x + 1) ((bubble_perm _ _ _).trans h) (by omega) fun i j hij hj=>?_;rw [hat,hat]
  by_cases ei:i=l
  ·rw [if_pos ei,if_neg (by omega),if_pos (by omega)]
   exact l3 _ (by omega) (by omega)
  ·rw [if_neg ei]
   by_cases ej:j=l
   ·rw [if_pos ej,if_neg (by omega)]
    exact l2 i (by omega)
   ·rw [if_neg ej]
    by_cases ci:l < i/\i <= x
    ·rw [if_pos ci,if_pos (by omega)]
     exact hs _ _ (by omega) (by omega)
    ·rw [if_neg ci]
     by_cases cj:l < j/\j <= x
     ·rw [if_pos cj]
      exact hs _ _ (by omega) (by omega)
     ·rw [if_neg cj]
      exact hs _ _ hij (by omega)
theorem aqfb (h1:1 <= n):PA n (aqt3 lt (Hm n))/\SP lt (aqt3 lt (Hm n)) n:=by
 have h0:PA n (Ar n).toArray:=Array.Perm.refl _;obtain ⟨c,q,e,hq,c1,c2,hs⟩:=aqje O h0 h1;unfold Hm;rw [axx,e];dsimp only
 by_cases hc:c < n
 ·rw [if_pos hc,show max c 1=c by omega]
  exact aqne O (n - c) q c hq (by omega) hs
 ·rw [if_neg hc]
  have:c=n:=by omega
  subst this;exact ⟨hq,hs⟩
end
section
variable {prog:Ak} {w:World} {A:Around} {E:Value->Shared->Prop} {s:Shared}
theorem avv {a:Addr} {vs:List Value} {n:Nat} {P:Ma->Shared->Prop} (ho:s.heap.get? a=some (Bq "list" vs.toArray n)) (h64:vs.length < 64) (h2:2 <= vs.length)
  (h:wpAny (model prog w) A (keyKind' vs.toArray) (fun κ s'=>Ld (kas_ask prog w A κ vs) (Hm vs.length) (fun p s''=>s''=s'/\s'={ s with heap:=((s.heap.update a (Bg fun _=>#[])).push (Bq "tuple" vs.toArray 0)).push (Bq "list" #[] 0) }/\P (.done (.ret .none)) { s with heap:=Jf s.heap a vs ((p.toList.map fun i=>vs.getD i .none).toArray) }) s') (fun _ _=>False) { s with heap:=((s.heap.update a (Bg fun _=>#[])).push (Bq "tuple" vs.toArray 0)).push (Bq "list" #[] 0) }) :
  wpAny (model prog w) A (Builtin.«list.sort» { pos:=[Value.ref a] }) P E s:=by
 rw [list_sort_plain a];have ha:=Af ho;refine Ac (Ly ho rfl (Ac (Gj ho rfl ?_)));obtain ⟨e1,ho1⟩:∃ e1,(s.heap.update a (Bg fun _=>#[])).get? a=some (Bq "list" #[] e1):=⟨_,Jr ho fun _=>#[]⟩;refine Ac (Kf ho1 rfl (Ac (Fm (Ac (Gi (Ba ?_))))));have ho6:(((s.heap.update a (Bg fun _=>#[])).push (Bq "tuple" vs.toArray 0)).push (Bq "list" #[] 0)).get? a=some (Bq "list" #[] e1):=by
  rw [Ep _ _ _ (by rw [Je,Ci]; exact ne_of_lt (lt_succ_of_lt ha)),Ep _ _ _ (by rw [Ci]; exact ne_of_lt ha)];exact ho1
 have hsz:¬ vs.toArray.size < 2:=by simp; omega
 refine (?_:wpAny (model prog w) A (if vs.toArray.size < 2 then _ else _) P E { s with heap:=((s.heap.update a (Bg fun _=>#[])).push (Bq "tuple" vs.toArray 0)).push (Bq "list" #[] 0) });rw [if_neg hsz];refine Ac (Bj h (fun κ s' hk=>?_) (fun _ _ z=>z.elim));rw [if_neg hsz];refine Ac (Bj (kat_run (ks:=vs) (vs:=vs) (E:=E) (Q:=fun st' s''=>∃ p:Array Nat,p.size=vs.length/\arrOf st'=Kn (kas_item (vs.toArray.zip vs.toArray)) p/\failedOf st'=none/\_) rfl h2 h64 (fun p st' s'' hp harr hfail hG=>⟨p,hp,harr,hfail,hG⟩) hk) (fun r s'' hQ=>?_) (fun _ _ z=>z));obtain ⟨p,hps,harr,hfail,rfl,rfl,hP⟩:=hQ;have hs:=kat_snds (vs:=vs) (ks:=vs) rfl harr;obtain ⟨u,st'⟩:=r;dsimp only at hs harr hfail ⊢;refine Ac (Kf ho6 rfl ?_);have hz1:(Kn (fun x=>x.snd) (arrOf st')).size <= Aj + 1:=by rw [hs]; simp [hps,Ao]; omega
 refine Ac (Gj ho6 rfl ?_ (by simp) hz1);simp only [hfail,bne_self_eq_false,Aw,if_false];refine Ad ?_;rw [hs];exact hP
end
def inR {α:Type} (n:Nat) (G:α->Prop):KasT α->Prop
 | .ret a=>G a
 | .ask i j k=>i < n/\j < n/\∀ b,inR n G (k b)
theorem avi {α β:Type} {n:Nat} {G:α->Prop} {G':β->Prop}:∀ (t:KasT α) (f:α->KasT β),inR n G t->(∀ a,G a->inR n G' (f a))->inR n G' (t.bind f)
 | .ret a,f,h,k=>by rw [L7]; exact k a h
 | .ask i j g,f,h,k=>by
  rw [L7];exact ⟨h.1,h.2.1,fun b=>avi (g b) f (h.2.2 b) k⟩
theorem PA.all {n:Nat} {p:Array Nat} (h:PA n p) (hn:1 <= n) (i:Nat):p.getD i 0 < n:=by
 by_cases hi:i < n
 ·exact h.bd hi
 ·have:p.getD i 0=0:=by
   have hs:=h.size;simp [Array.getD,show ¬ i < p.size by omega]
  rw [this]; omega
section
variable {n:Nat} (hn:1 <= n)
include hn
theorem aqjr {p:Array Nat} (h:PA n p):∀ (f x:Nat),inR n (fun _=>True) (Dj p f x)
 | 0,x=>by rw [Dj]; trivial
 | f + 1,x=>by
  rw [Dj];refine ⟨h.all hn _,h.all hn _,fun b=>?_⟩;cases b
  ·simpa using aqjr h f (x + 1)
  ·trivial
theorem aY1 {p:Array Nat} (h:PA n p) (i j:Nat):PA n (Mj p i j):=(mirror_perm _ _ _ _).trans h
theorem aKs:∀ (f:Nat) (p:Array Nat) (k e:Nat),PA n p->inR n (fun r=>PA n r.1) (Gm f p k e)
 | 0,p,k,e,h=>by rw [Gm]; exact h
 | f + 1,p,k,e,h=>by
  rw [Gm];refine ⟨h.all hn _,h.all hn _,fun b=>?_⟩;cases b
  ·refine ⟨h.all hn _,h.all hn _,fun d=>?_⟩
   cases d
   ·simpa using aKs f p (k + 1) (e + 1) h
   ·exact h
  ·by_cases c:e > 0
   ·simp only [if_true,if_pos c]
    exact aKs f _ _ _ (aY1 hn h _ _)
   ·simp only [if_true,if_neg c]
    exact aKs f _ _ _ h
theorem aqf5 {p:Array Nat} (h:PA n p) (m nrem:Nat):inR n (fun r=>PA n r.2) (L8 m nrem p):=by
 unfold L8;exact avi _ _ (aqjr hn (aY1 hn h _ _) _ _) fun a _=>aY1 hn h _ _
theorem aQb {p:Array Nat} (h:PA n p) (m nrem:Nat):inR n (fun r=>PA n r.2) (Lx m nrem p):=by
 unfold Lx;refine avi _ _ (aKs hn _ _ _ _ h) fun r hr=>?_;split
 ·exact aqf5 hn (aY1 hn hr _ _) _ _
 ·exact aqf5 hn hr _ _
theorem aqjf {p:Array Nat} (h:PA n p) (nrem:Nat):inR n (fun r=>PA n r.2) (L9 nrem p):=by
 unfold L9;refine avi _ _ (aqjr hn h _ _) fun m _=>?_;split
 ·exact h
 ·split
  ·refine ⟨h.all hn _,h.all hn _,fun b=>?_⟩
   cases b
   ·simpa using aQb hn (aY1 hn h _ _) _ _
   ·exact h
  ·exact aQb hn h _ _
theorem aX6 {p:Array Nat} (h:PA n p) (k:Nat):∀ (f lo hi:Nat),inR n (fun _=>True) (Fg p k f lo hi)
 | 0,lo,hi=>by rw [Fg]; trivial
 | f + 1,lo,hi=>by
  rw [Fg];split
  ·trivial
  ·refine ⟨h.all hn _,h.all hn _,fun b=>?_⟩
   cases b
   ·simpa using aX6 h k f ((lo + hi) / 2 + 1) hi
   ·simpa using aX6 h k f lo ((lo + hi) / 2)
theorem aqnf:∀ (f:Nat) (p:Array Nat) (x:Nat),PA n p->inR n (fun r=>PA n r) (Km f p x)
 | 0,p,x,h=>by rw [Km]; exact h
 | f + 1,p,x,h=>by
  rw [Km];exact avi _ _ (aX6 hn h _ _ _ _) fun l _=>aqnf f _ _ ((bubble_perm _ _ _).trans h)
theorem aqfc:inR n (fun r=>PA n r) (Hm n):=by
 have h0:PA n (Ar n).toArray:=Array.Perm.refl _;unfold Hm;refine avi _ _ (aqjf hn h0 _) fun r hr=>?_;split
 ·exact aqnf hn _ _ _ hr
 ·exact hr
end
theorem aZs {α:Type} {n:Nat} {lt:Nat->Nat->Bool} {cmp:Nat->Nat->(Bool->Shared->Prop)->Shared->Prop} {s:Shared} (hc:∀ i j C,i < n->j < n->C (lt i j) s->cmp i j C s) {G':α->Prop} {G:α->Shared->Prop}:∀ (t:KasT α),inR n G' t->G (aqt3 lt t) s->Ld cmp t G s
 | .ret a,_,h=>by rw [Ld]; exact h
 | .ask i j k,hi,h=>by
  rw [Ld];exact hc i j _ hi.1 hi.2.1 (aZs hc (k (lt i j)) (hi.2.2 _) h)
def lexB (p q:Int × Int):Bool:=if p.1=q.1 then decide (p.2 < q.2) else decide (p.1 < q.1)
section
variable {prog:Ak} {w:World} {A:Around} {E:Value->Shared->Prop} {s:Shared}
theorem aql8 {x y:Addr} {ox oy:Obj} {n k:Nat} {a b c d:Int} {t1 t2 t3 t4:Tok} {C:Bool->Shared->Prop} (hx:s.heap.get? x=some ox) (dx:ox.data=.seq #[.int a t1,.int b t2] n) (hy:s.heap.get? y=some oy) (dy:oy.data=.seq #[.int c t3,.int d t4] k) (h:C (lexB (a,b) (c,d)) s) :
  wpAny (model prog w) A (keyLt' (tuples' true) (.ref x) (.ref y)) C E s:=by
 refine kat_lt hx dx hy dy ?_;show KatLex prog w A true _ C [(Value.int a t1,Value.int c t3),(Value.int b t2,Value.int d t4)] 0 s;rw [KatLex];refine Ez ?_;unfold lexB at h
 by_cases e1:a=c
 ·rw [if_pos (by simpa using e1),KatLex]
  simp only [e1,if_true] at h;refine Ez ?_
  by_cases e2:b=d
  ·rw [if_pos (by simpa using e2),KatLex]
   subst e2;simpa using h
  ·rw [if_neg (by simpa using e2)]
   refine kat_one _ _ ?_;exact G3 h
 ·rw [if_neg (by simpa using e1)]
  simp only [e1,if_false] at h;exact oneLt_int h
def aWw (h:Heap) (v:Value) (p:Int × Int):Prop:=∃ (x:Addr) (o:Obj) (n:Nat) (t1 t2:Tok),v=.ref x/\h.get? x=some o/\o.cls=.type "tuple"/\o.data=.seq #[.int p.1 t1,.int p.2 t2] n
theorem aqif {n:Nat} {key:Nat->Int × Int} (hinj:∀ i j,i < n->j < n->key i=key j->i=j):Ord n fun i j=>lexB (key i) (key j) where
 trans:=by
  intro a b c h1 h2;unfold lexB at *;generalize key a=x at *;generalize key b=y at *;generalize key c=z at *;split at h1 <;> split at h2 <;> split <;> simp at * <;> omega
 asym:=by
  intro a b h1;unfold lexB at *;generalize key a=x at *;generalize key b=y at *;split at h1 <;> split <;> simp at * <;> omega
 total:=by
  intro a b ha hb hab h1;have hne:key a ≠ key b:=fun e=>hab (hinj a b ha hb e);unfold lexB at *;generalize key a=x at *;generalize key b=y at *;obtain ⟨x1,x2⟩:=x;obtain ⟨y1,y2⟩:=y;simp at hne;split at h1 <;> split <;> simp at * <;> omega
theorem aqew {vs:List Value} {ps:List (Int × Int)} (hl:ps.length=vs.length) (hp:∀ i,i < vs.length->aWw s.heap (vs.getD i .none) (ps.getD i (0,0))) (i j:Nat) (C:Bool->Shared->Prop) (hi:i < vs.length) (hj:j < vs.length) (h:C (lexB (ps.getD i (0,0)) (ps.getD j (0,0))) s):kas_ask prog w A (tuples' true) vs i j C s:=by
 unfold kas_ask;obtain ⟨x,ox,n,t1,t2,e1,e2,_,e3⟩:=hp i hi;obtain ⟨y,oy,m,t3,t4,f1,f2,_,f3⟩:=hp j hj;rw [e1,f1];exact aql8 e2 e3 f2 f3 h
end
section
variable {prog:Ak} {w:World} {A:Around} {E:Value->Shared->Prop} {s:Shared}
def aqu7 (h:Heap) (z TI TO:Addr) (T:Nat) (b:Bool):Prop:=h.get? z=some { cls:=.type "zip",data:=.fields #[B7 (T:Int),.bool b,.bool false,.ref TI,.ref TO] }
theorem aqgi {M:Model} {a:Addr} {Q:Option Obj->Shared->Prop} (h:Q (s.heap.get? a) s):wpAny M A (Me a) Q E s:=fun Γ p i=>by
 unfold Me;rw [Sem.wp_loadIfAlive];exact (Ad (M:=M) (A:=A) (E:=E) h) Γ p i
theorem aqu7.flag {h:Heap} {z TI TO:Addr} {T:Nat} {b:Bool} (hz:aqu7 h z TI TO T b):aqu7 (h.update z (Co fun f=>f.setIfInBounds 1 (.bool true))) z TI TO T true:=by
 unfold aqu7 at *;rw [Bf _ hz rfl];rfl
theorem aqam {z TI TO T:Addr} {fb:Bool} {oT:Obj} {Q:Bool->Shared->Prop} (hz:aqu7 s.heap z TI TO T fb) (hT:s.heap.get? T=some oT)
  (hQ:∀ h':Heap,aqu7 h' z TI TO T true->h'.objs.size=s.heap.objs.size->(∀ c,c ≠ z->h'.get? c=s.heap.get? c)->Q false { s with heap:=h' }):wpAny (model prog w) A (E7 (.ref z)) Q E s:=by
 unfold E7;refine Ac (Dk hz rfl rfl ?_);refine (?_:wpAny (model prog w) A (Me ((T:Int).toNat) >>= _) Q E s);refine Ac (aqgi ?_);rw [A9,hT];refine As (fun h=>by simp at h) fun _=>?_;refine Ac (Dk hz rfl rfl ?_);refine As (fun _=>?_) (fun h=>?_)
 ·refine Ac (Ce hz rfl (by simp) ?_)
  exact Ad (hQ _ hz.flag (by rw [Ci]) fun c hc=>Au _ _ (B4 hc))
 ·refine Ad ?_
  have e:fb=true:=by
   cases fb with
   | true=>rfl
   | false=>exact absurd rfl h
  subst e;exact hQ s.heap hz rfl fun _ _=>rfl
theorem aqgh {z TI TO i1 i2 l1 l2 T:Addr} {fb:Bool} {oT:Obj} {k1 k2:Nat} {xs ys:Array Value} {x y:Value} {Q:Value->Shared->Prop} (ap:J5 z TI TO i1 i2 l1 l2) (hz:aqu7 s.heap z TI TO T fb) (hT:s.heap.get? T=some oT)
  (hTI:Ga s.heap TI (.ref i1) (.ref i2)) (h1:s.heap.IsListIter i1 l1 k1) (h2:s.heap.IsListIter i2 l2 k2) (hl1:s.heap.IsList l1 xs) (hl2:s.heap.IsList l2 ys) (hx:xs[k1]?=some x) (hy:ys[k2]?=some y)
  (hQ:∀ h':Heap,aqu7 h' z TI TO T true->h'.IsListIter i1 l1 (k1 + 1)->h'.IsListIter i2 l2 (k2 + 1)->Ga h' s.heap.objs.size x y->h'.objs.size=s.heap.objs.size + 1->(∀ c o,c ≠ z->c ≠ i1->c ≠ i2->s.heap.get? c=some o->h'.get? c=some o) ->
   Q (.ref s.heap.objs.size) { s with heap:=h' }) :
  wpAny (model prog w) A (Builtin.«zip.__next__» { pos:=[.ref z] }) (fun fin s'=>∃ v,fin=.done (.ret v)/\Q v s') E s:=by
 unfold Builtin.«zip.__next__»;refine Ac (Ad ?_);dsimp only;refine Ac (Dk hz rfl rfl ?_);refine Ac (Dk hz rfl rfl ?_);refine Ac (wpAny_seqItems hTI rfl ?_);refine As (fun h=>absurd h (by simp)) fun _=>?_;refine Ac (aqam hz hT fun h0 hz0 hsz0 hk0=>?_);refine As (fun h=>absurd h (by simp)) fun _=>?_;have h10:h0.IsListIter i1 l1 k1:=h1.at fun o e=>by rw [hk0 _ ap.i1z]; exact e
 have h20:h0.IsListIter i2 l2 k2:=h2.at fun o e=>by rw [hk0 _ ap.i2z]; exact e
 have hl10:h0.IsList l1 xs:=hl1.at fun o e=>by rw [hk0 _ ap.l1z]; exact e
 have hl20:h0.IsList l2 ys:=hl2.at fun o e=>by rw [hk0 _ ap.l2z]; exact e
 refine Ac ?_;rw [<- Le];show wpAny _ _ (forIn [Value.ref i1,Value.ref i2] _ _) _ _ _;rw [forIn_cons];refine Ac (Ac (Ba ?_));change wpAny _ _ (if _=true then _ else (E4 (.ref i1) >>= fun v=>pure (some v))) _ _ _;refine As (fun h=>(An h).elim) fun _=>?_;refine Ac (Jg (s:={ s with heap:=h0 }) h10 hl10 hx fun hA itA sbA=>Ad ?_);refine Ad ?_;show wpAny _ _ (forIn [Value.ref i2] _ _) _ _ _;rw [forIn_cons];have hkA:∀ c,c ≠ i1->hA.get? c=h0.get? c:=fun c hc=>sbA.2 c hc;have h2A:hA.IsListIter i2 l2 k2:=h20.at fun o e=>by rw [hkA _ ap.i12.symm]; exact e
 have hl2A:hA.IsList l2 ys:=hl20.at fun o e=>by rw [hkA _ ap.l2i1]; exact e
 refine Ac (Ac (Ba ?_));change wpAny _ _ (if _=true then _ else (E4 (.ref i2) >>= fun v=>pure (some v))) _ _ _;refine As (fun h=>(An h).elim) fun _=>?_;refine Ac (Jg (s:={ s with heap:=hA }) h2A hl2A hy fun hB itB sbB=>Ad ?_);refine Ad ?_;show wpAny _ _ (forIn ([]:List Value) _ _) _ _ _;rw [List.forIn_nil];refine Ad ?_;have hkB:∀ c,c ≠ i2->hB.get? c=hA.get? c:=fun c hc=>sbB.2 c hc;refine Ac (Fm ?_ (by simp [Ao]));refine Ad ⟨_,rfl,?_⟩;have hsz:hB.objs.size=s.heap.objs.size:=by
  have a1:=sbA.1;have a2:=sbB.1;rw [a2,a1]; exact hsz0
 rw [hsz];have all:∀ c,c ≠ z->c ≠ i1->c ≠ i2->hB.get? c=s.heap.get? c:=fun c c1 c2 c3=>by rw [hkB c c3,hkA c c2,hk0 c c1]
 have ltz:z < s.heap.objs.size:=Af hz;have lt1:i1 < s.heap.objs.size:=let ⟨o,ho,_⟩:=h1; Af ho;have lt2:i2 < s.heap.objs.size:=let ⟨o,ho,_⟩:=h2; Af ho;have np:∀ c,c < s.heap.objs.size->∀ o,(hB.push o).get? c=hB.get? c:=fun c hc o=>Ep _ _ _ (by rw [hsz]; exact ne_of_lt hc);refine hQ _ ?_ ?_ ?_ ?_ ?_ ?_
 ·unfold aqu7
  rw [np z ltz,hkB z ap.i2z.symm,hkA z ap.i1z.symm];exact hz0
 ·exact itA.at fun o e=>by
   rw [np i1 lt1,hkB i1 ap.i12]; exact e
 ·exact itB.at fun o e=>by rw [np i2 lt2]; exact e
 ·rw [<- hsz]
  exact Ag _ rfl
 ·rw [By,hsz]
 ·intro c o c1 c2 c3 e
  rw [np c (Af e),all c c1 c2 c3];exact e
end
section
variable {prog:Ak} {w:World} {A:Around} {E:Value->Shared->Prop} {s:Shared}
theorem aXl {z TI TO i1 i2 l1 l2 T:Addr} {fb:Bool} {oT:Obj} {k1:Nat} {xs:Array Value} {Q:Ma->Shared->Prop} (hh:A.handled=none) (ap:J5 z TI TO i1 i2 l1 l2) (hz:aqu7 s.heap z TI TO T fb) (hT:s.heap.get? T=some oT)
  (hTI:Ga s.heap TI (.ref i1) (.ref i2)) (h1:s.heap.IsListIter i1 l1 k1) (hl1:s.heap.IsList l1 xs) (hx:xs[k1]?=none)
  (hE:∀ (h':Heap) (e:Addr),(∀ c o,c ≠ z->c ≠ i1->s.heap.get? c=some o->h'.get? c=some o)->(∃ o,h'.get? e=some o/\o.cls=.type "StopIteration")->E (.ref e) { s with heap:=h' }) :
  wpAny (model prog w) A (Builtin.«zip.__next__» { pos:=[.ref z] }) Q E s:=by
 unfold Builtin.«zip.__next__»;refine Ac (Ad ?_);dsimp only;refine Ac (Dk hz rfl rfl ?_);refine Ac (Dk hz rfl rfl ?_);refine Ac (wpAny_seqItems hTI rfl ?_);refine As (fun h=>absurd h (by simp)) fun _=>?_;refine Ac (aqam hz hT fun h0 hz0 hsz0 hk0=>?_);refine As (fun h=>absurd h (by simp)) fun _=>?_;have h10:h0.IsListIter i1 l1 k1:=h1.at fun o e=>by rw [hk0 _ ap.i1z]; exact e
 have hl10:h0.IsList l1 xs:=hl1.at fun o e=>by rw [hk0 _ ap.l1z]; exact e
 refine Ac ?_;rw [<- Le];show wpAny _ _ (forIn [Value.ref i1,Value.ref i2] _ _) _ _ _;rw [forIn_cons];refine Ac (Ac (Ba ?_));change wpAny _ _ (if _=true then _ else (E4 (.ref i1) >>= fun v=>pure (some v))) _ _ _;refine As (fun h=>(An h).elim) fun _=>?_;refine Ac (wpAny_nextOf_list_end (s:={ s with heap:=h0 }) hh h10 hl10 hx fun hA e ex st=>?_);exact hE hA e (fun c o c1 c2 q=>ex c o c2 (by rw [hk0 c c1]; exact q)) st
theorem akx:isSubtype (.type "StopIteration") (.type "StopIteration")=pure true:=by rw [Hl]; kernel_rfl
theorem aw3 {z:Addr} {Q:Option Value->Shared->Prop} (ht:s.TypeIs (.ref z) "zip")
  (h:wpAny (model prog w) A.in1 (Builtin.«zip.__next__» { pos:=[.ref z] }) (fun fin s'=>∃ v,fin=.done (.ret v)/\Q (some v) s') (fun e s'=>s'.TypeIs e "StopIteration"/\Q none s') s) :
  wpAny (model prog w) A (Dt (.ref z)) Q E s:=by
 unfold Dt;refine Ac (Eg (Bl (name:=Cu "__next__") ht F.slot_zip_next (Ax F.slot_zip_next ht F.entry_zip_next ?_ (F.args_zip_next_1 _))));refine Bj h (fun fin s' hq=>?_) (fun e s' hq=>?_)
 ·obtain ⟨v,rfl,hq⟩:=hq
  exact ⟨v,rfl,Ad hq⟩
 ·obtain ⟨t,hq⟩:=hq
  refine Ac (Dv (T:="StopIteration") (b:=true) t akx ?_);exact Ad hq
end
section
variable {prog:Ak} {w:World} {A:Around} {E:Value->Shared->Prop} {s:Shared}
theorem aZm:K7 (.type "zip") "__len__"=pure none:=by rw [Gw,Ej]; kernel_rfl
theorem aJ2:K7 (.type "zip") "__length_hint__"=pure none:=by rw [Gw,Ej]; kernel_rfl
theorem aqin {r:Addr} {Q:Bool->Shared->Prop} (hT:s.TypeIs (.ref r) "zip") (h:Q true s):wpAny (model prog w) A (Cv (.ref r)) Q E s:=by
 unfold Cv;refine Ac (Gx hT aZm ?_);dsimp only;refine As (fun hab=>absurd hab (by decide)) (fun _=>?_);refine As (fun hab=>absurd hab (by decide)) (fun _=>?_);refine Ac (Gx hT aJ2 ?_);exact Ad h
theorem azh {a b:Addr} {n:Nat} (h1:n > a) (h2:n <= b):b ≠ a:=fun e=>absurd h1 (La.mpr (e ▸ h2))
structure ZSt (h:Heap) (z TI TO i1 i2 l1 l2 S:Addr) (xs ys:Array Value) (N0:Nat) (Ts:List Addr) (c:Nat):Prop where
 zs:(Ts=[]/\IsZip h z TI TO .none/\∃ a b,Ga h TO a b) \/ (∃ T fb oT,aqu7 h z TI TO T fb/\h.get? T=some oT/\N0 <= T)
 ti:Ga h TI (.ref i1) (.ref i2)
 a1:h.IsListIter i1 l1 Ts.length
 a2:h.IsListIter i2 l2 Ts.length
 la1:h.IsList l1 xs
 la2:h.IsList l2 ys
 ls:h.get? S=some { cls:=.type "list",data:=.seq (Ts.map Value.ref).toArray c }
 tup:∀ (j:Nat) (T:Addr),Ts[j]?=some T->N0 <= T/\∃ x y,xs[j]?=some x/\ys[j]?=some y/\Ga h T x y
theorem ZSt.type {h:Heap} {z TI TO i1 i2 l1 l2 S:Addr} {xs ys:Array Value} {N0:Nat} {Ts:List Addr} {c:Nat} (q:ZSt h z TI TO i1 i2 l1 l2 S xs ys N0 Ts c) (hs:s.heap=h):s.TypeIs (.ref z) "zip":=by
 subst hs;rcases q.zs with ⟨_,h,_⟩ | ⟨T,fb,oT,h,_⟩
 ·exact ⟨_,h,rfl⟩
 ·exact ⟨_,h,rfl⟩
theorem aqiy {z TI TO i1 i2 l1 l2 S:Addr} {xs ys:Array Value} {N0 n:Nat} {res:Value} {R:L3->Shared->Prop} (hh:A.handled=none) (ap:J5 z TI TO i1 i2 l1 l2) (hxs:xs.size=n) (hys:ys.size=n) (hn:n <= 1000) (h1n:1 <= n)
  (hS:S ≠ z/\S ≠ TI/\S ≠ TO/\S ≠ i1/\S ≠ i2/\S ≠ l1/\S ≠ l2) (hlt:N0 > z/\N0 > TO/\N0 > i1/\N0 > i2/\N0 > S) :
  ∀ (k:Nat) (s:Shared) (Ts:List Addr) (c:Nat),n - Ts.length=k->Ts.length <= n->N0 <= s.heap.objs.size->ZSt s.heap z TI TO i1 i2 l1 l2 S xs ys N0 Ts c ->
  (∀ (h':Heap) (Ts':List Addr) (c':Nat),Ts'.length=n->h'.get? S=some { cls:=.type "list",data:=.seq (Ts'.map Value.ref).toArray c' }->(∀ (j:Nat) (T:Addr),Ts'[j]?=some T->N0 <= T/\∃ x y,xs[j]?=some x/\ys[j]?=some y/\Ga h' T x y)->(∀ b o,b ∉ [S,z,TO,i1,i2]->s.heap.get? b=some o->h'.get? b=some o)->R (.ok (.ret res)) { s with heap:=h' }) ->
  Dp (model prog w) A (.builtin "list.extend.loop" ⟨[.ref S,.ref z,res],[]⟩) R s:=by
 intro k
 induction k with
 | zero =>
  intro s Ts c hk hle hsz q hR;have hTn:Ts.length=n:=by omega
  refine Bn Kr ?_;rw [Bc Bv _];show wpAny _ A.in1 (Dt (.ref z) >>= _) _ _ s;refine Ac (aw3 (A:=A.in1) (q.type rfl) ?_);have hx:xs[Ts.length]?=none:=by simp [hTn,hxs]
  rcases q.zs with ⟨e,_⟩ | ⟨T,fb,oT,hz,hT,hNT⟩
  ·subst e; simp at hTn; omega
  ·refine aXl (A:=A.in1.in1) hh ap hz hT q.ti q.a1 q.la1 hx fun h' e hk' st=>⟨?_,?_⟩
   ·obtain ⟨o,ho,hc⟩:=st
    exact ⟨o,ho,hc⟩
   ·refine Ad ?_
    refine hR h' Ts c hTn (hk' S _ hS.1 hS.2.2.2.1 q.ls) (fun j T' hj=>?_) (fun b o hb e=>hk' b o (fun z=>hb (by simp [z])) (fun z=>hb (by simp [z])) e);obtain ⟨g1,x,y,g2,g3,g4⟩:=q.tup j T' hj;exact ⟨g1,x,y,g2,g3,hk' T' _ (azh hlt.1 g1) (azh hlt.2.2.1 g1) g4⟩
 | succ k ih =>
  intro s Ts c hk hle hsz q hR;have hlt':Ts.length < n:=by omega
  obtain ⟨x,hx⟩:∃ x,xs[Ts.length]?=some x:=⟨xs[Ts.length]'(by omega),by simp [hxs,hlt']⟩;obtain ⟨y,hy⟩:∃ y,ys[Ts.length]?=some y:=⟨ys[Ts.length]'(by omega),by simp [hys,hlt']⟩;refine Bn Kr ?_;rw [Bc Bv _];show wpAny _ A.in1 (Dt (.ref z) >>= _) _ _ s;refine Ac (aw3 (A:=A.in1) (q.type rfl) ?_);have step:∀ h':Heap,(∃ T fb oT,aqu7 h' z TI TO T fb/\h'.get? T=some oT/\N0 <= T)->h'.IsListIter i1 l1 (Ts.length + 1)->h'.IsListIter i2 l2 (Ts.length + 1)->Ga h' s.heap.objs.size x y->h'.objs.size=s.heap.objs.size + 1 ->
    (∀ b o,b ≠ z->b ≠ TO->b ≠ i1->b ≠ i2->s.heap.get? b=some o->h'.get? b=some o) ->
    wpAny (model prog w) A.in1 (match some (Value.ref s.heap.objs.size) with | none=>ret res | some x=>do Builtin.List.listUpdate (.ref S) fun x_1=>x_1.push x; again (.builtin "list.extend.loop" ⟨[.ref S,.ref z,res],[]⟩)) (fun fin s'=>match fin with | .done f=>R (.ok f) s' | .again c'=>c'.quiet=true/\Dp (model prog w) A c' R s') (fun e s'=>R (.error e) s') { s with heap:=h' }:=by
   intro h' hzs b1 b2 bp bsz bk;have hS':h'.get? S=some { cls:=.type "list",data:=.seq (Ts.map Value.ref).toArray c }:=bk S _ hS.1 hS.2.2.1 hS.2.2.2.1 hS.2.2.2.2.1 q.ls;refine Ac (Gj (s:={ s with heap:=h' }) hS' rfl ?_ (by simp [Ao]; omega) (by simp [Ao]; omega));refine Ad ⟨Cz Bv _,?_⟩;have oth:∀ b,b ≠ S->(h'.update S (Bg fun a=>a.push (.ref s.heap.objs.size))).get? b=h'.get? b:=fun b hb=>Au _ _ (B4 hb);obtain ⟨c2,hS2⟩:∃ c2,(h'.update S (Bg fun a=>a.push (.ref s.heap.objs.size))).get? S=some { cls:=.type "list",data:=.seq ((Ts++[s.heap.objs.size]).map Value.ref).toArray c2 }:=by
    have e:((Ts++[s.heap.objs.size]).map Value.ref).toArray=(Ts.map Value.ref).toArray.push (.ref s.heap.objs.size):=by simp
    rw [e];exact ⟨_,Jr (n:=c) hS' fun a=>a.push (.ref s.heap.objs.size)⟩
   have sel:S ≠ s.heap.objs.size:=(azh hlt.2.2.2.2 hsz).symm;refine ih _ (Ts++[s.heap.objs.size]) c2 (by simp; omega) (by simp; omega) (by show N0 <= (h'.update S _).objs.size; rw [Ci,bsz]; omega) ⟨.inr ?_,?_,?_,?_,?_,?_,?_,fun j T hj=>?_⟩ fun h2 Ts2 c3 hl hs2 ht2 hk2=>?_
   ·obtain ⟨T,fb,oT,g1,g2,g3⟩:=hzs
    exact ⟨T,fb,oT,by unfold aqu7 at *; rw [oth z hS.1.symm]; exact g1,by rw [oth T (azh hlt.2.2.2.2 g3)]; exact g2,g3⟩
   ·rw [Ga,oth TI hS.2.1.symm]
    exact bk TI _ ap.TIz ap.TITO ap.TIi1 ap.TIi2 q.ti
   ·simpa using b1.at fun o e=>by rw [oth i1 hS.2.2.2.1.symm]; exact e
   ·simpa using b2.at fun o e=>by rw [oth i2 hS.2.2.2.2.1.symm]; exact e
   ·exact q.la1.at fun o e=>by rw [oth l1 hS.2.2.2.2.2.1.symm]; exact bk l1 o ap.l1z ap.l1TO ap.l1i1 ap.l1i2 e
   ·exact q.la2.at fun o e=>by rw [oth l2 hS.2.2.2.2.2.2.symm]; exact bk l2 o ap.l2z ap.l2TO ap.l2i1 ap.l2i2 e
   ·exact hS2
   ·by_cases hj':j < Ts.length
    ·rw [C9 hj'] at hj
     obtain ⟨g1,x,y,g2,g3,g4⟩:=q.tup j T hj;refine ⟨g1,x,y,g2,g3,?_⟩;rw [Ga,oth T (azh hlt.2.2.2.2 g1)];exact bk T _ (azh hlt.1 g1) (azh hlt.2.1 g1) (azh hlt.2.2.1 g1) (azh hlt.2.2.2.1 g1) g4
    ·have:j=Ts.length:=by
      have:=(Ai.mp hj).1
      simp at this; omega
     subst this;have hT:T=s.heap.objs.size:=by simpa using hj.symm
     subst hT;exact ⟨hsz,x,y,hx,hy,by rw [Ga,oth _ sel.symm]; exact bp⟩
   ·refine hR h2 Ts2 c3 hl hs2 ht2 fun b o hb e=>hk2 b o hb ?_
    simp only [mem_cons,not_mem_nil,or_false,not_or] at hb;show (h'.update S _).get? b=some o;rw [oth b hb.1];exact bk b o hb.2.1 hb.2.2.1 hb.2.2.2.1 hb.2.2.2.2 e
  rcases q.zs with ⟨e,hz,a,b,hTO⟩ | ⟨T,fb,oT,hz,hT,hNT⟩
  ·refine zip_next_item (A:=A.in1.in1) ap hz q.ti hTO q.a1 q.a2 q.la1 q.la2 hx hy fun h' z1 z2 z3 z4 z5 z6 z7=>?_
   exact step h' ⟨s.heap.objs.size,false,_,z1,z5,hsz⟩ z3 z4 z5 z6 fun b o b1 b2 b3 b4 e=>z7 b o b1 b2 b3 b4 e
  ·refine aqgh (A:=A.in1.in1) ap hz hT q.ti q.a1 q.a2 q.la1 q.la2 hx hy fun h' z1 z3 z4 z5 z6 z7=>?_
   exact step h' ⟨T,true,oT,z1,z7 T oT (azh hlt.1 hNT) (azh hlt.2.2.1 hNT) (azh hlt.2.2.2.1 hNT) hT,hNT⟩ z3 z4 z5 z6 fun b o b1 b2 b3 b4 e=>z7 b o b1 b3 b4 e
end
section
variable {prog:Ak} {w:World} {A:Around} {E:Value->Shared->Prop} {s:Shared}
structure ZNew (h:Heap) (z TI TO i1 i2 l1 l2:Addr) (xs ys:Array Value):Prop where
 zs:IsZip h z TI TO .none
 ti:Ga h TI (.ref i1) (.ref i2)
 to:∃ a b,Ga h TO a b
 a1:h.IsListIter i1 l1 0
 a2:h.IsListIter i2 l2 0
 la1:h.IsList l1 xs
 la2:h.IsList l2 ys
theorem aWr {z TI TO i1 i2 l1 l2:Addr} {xs ys:Array Value} {n:Nat} (hh:A.handled=none) (ap:J5 z TI TO i1 i2 l1 l2) (q:ZNew s.heap z TI TO i1 i2 l1 l2 xs ys) (hxs:xs.size=n) (hys:ys.size=n) (hn:n <= 1000) (h1n:1 <= n) {Q:List Value->Shared->Prop}
  (h:∀ (h':Heap) (Ts:List Addr),Ts.length=n->(∀ (j:Nat) (T:Addr),Ts[j]?=some T->s.heap.objs.size <= T/\∃ x y,xs[j]?=some x/\ys[j]?=some y/\Ga h' T x y)->s.heap.objs.size < h'.objs.size->(∀ b o,b ∉ [z,TO,i1,i2]->s.heap.get? b=some o->h'.get? b=some o)->Q (Ts.map Value.ref) { s with heap:=h' }) :
  wpAny (model prog w) A (Lt (.ref z)) Q E s:=by
 have ltz:z < s.heap.objs.size:=Af q.zs;have ltTI:TI < s.heap.objs.size:=Af q.ti;have ltTO:TO < s.heap.objs.size:=let ⟨a,b,h⟩:=q.to; Af h;have lt1:i1 < s.heap.objs.size:=let ⟨o,ho,_⟩:=q.a1; Af ho;have lt2:i2 < s.heap.objs.size:=let ⟨o,ho,_⟩:=q.a2; Af ho;have ltl1:l1 < s.heap.objs.size:=let ⟨o,ho,_⟩:=q.la1; Af ho;have ltl2:l2 < s.heap.objs.size:=let ⟨o,ho,_⟩:=q.la2; Af ho;unfold Lt;refine Ac (Hj (Bn Gk ?_));rw [Bc Eo _];show wpAny _ A.in1 (Mh [] >>= fun l=>again (.builtin "list.__iadd__" ⟨[l,.ref z],[]⟩)) _ _ s;refine Ac (A8 ?_);refine Ad ⟨Cz Cb _,Bn Is ?_⟩;rw [Bc Cb _];have hS₁:(s.heap.push { cls:=.type "list",data:=.seq ([]:List Value).toArray }).get? s.heap.objs.size=some { cls:=.type "list",data:=.seq #[] }:=Ag _ rfl;show wpAny _ A.in1 (Cc (.ref s.heap.objs.size) (.ref z) (.ref s.heap.objs.size)) _ _ _;have kp:∀ b o,s.heap.get? b=some o->(s.heap.push { cls:=.type "list",data:=.seq ([]:List Value).toArray }).get? b=some o:=fun b o e=>Ae _ e;have hz1:=kp _ _ q.zs;have tz:Gg { s with heap:=s.heap.push { cls:=.type "list",data:=.seq ([]:List Value).toArray } } (.ref z) "zip":=⟨_,hz1,rfl⟩;unfold Cc;refine Ac (Ls (T:="zip") tz ?_);have h1:Do (.ref s.heap.objs.size) (.ref z)=false:=by simp [Do]; exact ne_of_gt ltz
 simp only [h1,show (Value.type "zip" == Value.type "list")=false from by decide,show (Value.type "zip" == Value.type "tuple")=false from by decide,Kw,Aw,if_false];refine Ac (wpAny_pyIter_zip hz1 ?_);refine Ac (Ba (aqin tz ?_));have hsz1:(s.heap.push { cls:=.type "list",data:=.seq ([]:List Value).toArray }).objs.size=s.heap.objs.size + 1:=By ..;have ne:∀ a:Addr,a < s.heap.objs.size->s.heap.objs.size ≠ a:=fun a h=>ne_of_gt h;have key:∀ (h1':Heap) (c₁:Nat),h1'.objs.size=s.heap.objs.size + 1->(∀ b o,s.heap.get? b=some o->h1'.get? b=some o)->h1'.get? s.heap.objs.size=some { cls:=.type "list",data:=.seq #[] c₁ } ->
   Dp (model prog w) A (.builtin "list.extend.loop" ⟨[.ref s.heap.objs.size,.ref z,.ref s.heap.objs.size],[]⟩)
    (fun r s'=>match r with
     | .ok (.ret v)=>wpAny (model prog w) A (match v with
      | .ref a=>do
       let o <- load a
       match o.data with
       | .seq xs _=>pure xs.toList
       | _=>Ig "internal:collect"
      | _=>Ig "internal:collect") Q E s'
     | .ok _=>False
     | .error e=>E e s') { s with heap:=h1' }:=by
  intro h1' c₁ hsz hk1 hS1;refine aqiy (N0:=s.heap.objs.size + 1) (n:=n) (S:=s.heap.objs.size) hh ap hxs hys hn h1n ⟨ne _ ltz,ne _ ltTI,ne _ ltTO,ne _ lt1,ne _ lt2,ne _ ltl1,ne _ ltl2⟩ ⟨lt_succ_of_lt ltz,lt_succ_of_lt ltTO,lt_succ_of_lt lt1,lt_succ_of_lt lt2,lt_succ_self _⟩ (n - 0) _ [] c₁ rfl (zero_le _) (by show _ <= h1'.objs.size; omega)
   ⟨.inl ⟨rfl,hk1 _ _ q.zs,let ⟨a,b,h⟩:=q.to; ⟨a,b,hk1 _ _ h⟩⟩,hk1 _ _ q.ti,q.a1.at fun o e=>hk1 _ _ e,q.a2.at fun o e=>hk1 _ _ e,q.la1.at fun o e=>hk1 _ _ e,q.la2.at fun o e=>hk1 _ _ e,hS1,fun j T hj=>by simp at hj⟩ fun h2 Ts c2 hl hs2 ht2 hk2=>?_
  show wpAny _ A (load s.heap.objs.size >>= _) _ _ _;refine Ac (Fy (s:={ s with heap:=h2 }) hs2 ?_);refine Ad (h h2 Ts hl (fun j T hj=>?_) (Af hs2) (fun b o hb e=>hk2 b o ?_ (hk1 b o e)))
  ·obtain ⟨g1,g2⟩:=ht2 j T hj
   exact ⟨Nat.le_of_succ_le g1,g2⟩
  ·simp only [mem_cons,not_mem_nil,or_false,not_or] at hb ⊢
   exact ⟨ne_of_lt (Af e),hb⟩
 refine As (fun _=>?_) (fun hab=>absurd rfl hab);refine Ac (Dm ?_);refine Ac ?_;show wpAny _ _ (L6 s.heap.objs.size (·.push .none) >>= fun _=>L6 s.heap.objs.size (·.pop)) _ _ _;refine Ac (Gy hS₁ rfl ?_);have hS₂:=Bf (Bg (·.push Value.none)) hS₁ rfl;refine Gy (hz:=by seq_fits) hS₂ rfl ?_;have hS₃:=Bf (Bg (·.pop)) hS₂ rfl;refine Ad ⟨Cz Bv _,?_⟩;refine Cn (key _ _ ?_ (fun b o e=>?_) hS₃) fun q s' x=>x
 ·rw [Ci,Ci,hsz1]
 ·exact (Au _ _ (B4 (ne_of_lt (Af e)))).trans ((Au _ _ (B4 (ne_of_lt (Af e)))).trans (kp b o e))
end
section
variable {prog:Ak} {w:World} {A:Around} {E:Value->Shared->Prop} {s:Shared}
theorem avu {a:Addr} {v:Value} {n:Nat} {P:Ma->Shared->Prop} (ho:s.heap.get? a=some (Bq "list" #[v] n))
  (h:P (.done (.ret .none)) { s with heap:=Jf s.heap a [v] #[v] }) :
  wpAny (model prog w) A (Builtin.«list.sort» { pos:=[Value.ref a] }) P E s:=by
 rw [list_sort_plain a];have ha:=Af ho;refine Ac (Ly ho rfl (Ac (Gj ho rfl ?_)));obtain ⟨e1,ho1⟩:∃ e1,(s.heap.update a (Bg fun _=>#[])).get? a=some (Bq "list" #[] e1):=⟨_,Jr ho fun _=>#[]⟩;refine Ac (Kf ho1 rfl (Ac (Fm (Ac (Gi (Ba ?_))))));have ho6:(((s.heap.update a (Bg fun _=>#[])).push (Bq "tuple" #[v] 0)).push (Bq "list" #[] 0)).get? a=some (Bq "list" #[] e1):=by
  rw [Ep _ _ _ (by rw [Je,Ci]; exact ne_of_lt (lt_succ_of_lt ha)),Ep _ _ _ (by rw [Ci]; exact ne_of_lt ha)];exact ho1
 have hsz:(#[v]:Array Value).size < 2:=by simp
 refine (?_:wpAny (model prog w) A (if (#[v]:Array Value).size < 2 then _ else _) P E { s with heap:=((s.heap.update a (Bg fun _=>#[])).push (Bq "tuple" #[v] 0)).push (Bq "list" #[] 0) });rw [if_pos hsz];refine Ac (Ad ?_);dsimp only;rw [if_pos hsz];refine Ac ?_;refine (?_:wpAny _ _ (pure ((),_)) _ _ _);refine Ad ?_;have hs:Kn (fun x=>x.snd) (arrOf ((),SortSt.mk' Lz (#[v].zip #[v]) #[] 7 none).snd)=#[v]:=by
  show Kn (fun x=>x.snd) (#[v].zip #[v])=#[v]
  simp
 refine Ac (Kf ho6 rfl ?_);refine Ac (Gj ho6 rfl ?_ (by simp) (by rw [hs]; simp [Ao]));have hf:failedOf ((),SortSt.mk' Lz (#[v].zip #[v]) #[] 7 none).snd=none:=rfl;simp only [hf,bne_self_eq_false,Aw,if_false];refine Ad ?_;have hs':Kn (fun x=>x.snd) (arrOf (SortSt.mk' Lz (#[v].zip #[v]) #[] 7 none))=#[v]:=hs;rw [hs'];exact h
theorem aqnh:∀ {vs:List Value} {ps:List (Int × Int)},vs.length=ps.length->(∀ i,i < vs.length->aWw s.heap (vs.getD i .none) (ps.getD i (0,0)))->∃ fs,KatTups s.heap vs fs/\fs.length=vs.length/\∀ v∈fs,∃ k t,v=Value.int k t
 | [],[],_,_=>⟨[],KatTups.nil ..,rfl,by simp⟩
 | [],_ :: _,h,_=>by simp at h
 | _ :: _,[],h,_=>by simp at h
 | v :: vs,p :: ps,h,k=>by
  obtain ⟨fs,h1,h2,h3⟩:=aqnh (vs:=vs) (ps:=ps) (by simpa using h) fun i hi=>by have:=k (i + 1) (by simp; omega); simpa using this
  obtain ⟨x,o,n,t1,t2,e1,e2,e3,e4⟩:=k 0 (by simp);simp at e1;subst e1;exact ⟨_,KatTups.cons e2 e3 e4 (f:=Value.int p.1 t1) rfl h1,by simp [h2],fun v hv=>by
   rcases Al.mp hv with rfl | hv
   ·exact ⟨_,_,rfl⟩
   ·exact h3 v hv⟩
theorem aqa4 {vs:List Value} {ps:List (Int × Int)} {Q:Ms->Shared->Prop} (h0:0 < vs.length) (hl:vs.length=ps.length) (hp:∀ i,i < vs.length->aWw s.heap (vs.getD i .none) (ps.getD i (0,0))) (h:Q (tuples' true) s):wpAny (model prog w) A (keyKind' vs.toArray) Q E s:=by
 obtain ⟨fs,h1,h2,h3⟩:=aqnh hl hp;refine kat_kind (T:=.type "int") h1 (by omega) (fun v hv=>?_) (by decide) h;obtain ⟨k,t,rfl⟩:=h3 v hv;exact Looks.of_pure rfl
theorem aWb {vs:List Value} {ps:List (Int × Int)} {p:Array Nat} (hl:vs.length=ps.length) (hn:ps.Nodup) (pa:PA vs.length p) (sp:SP (fun i j=>lexB (ps.getD i (0,0)) (ps.getD j (0,0))) p vs.length) :
  (p.toList.map fun i=>ps.getD i (0,0))=DL.aki ps:=by
 have hp:p.toList.Perm (Ar vs.length):=by
  have:=pa
  unfold PA at this;exact C4.mp this
 refine DL.aqiz hn ?_ ?_
 ·have e:ps=(Ar vs.length).map fun i=>ps.getD i (0,0):=by
   apply ext_getElem
   ·simp [hl]
   ·intro i h1 h2; simp [h1]
  conv=>rhs; rw [e]
  exact hp.map _
 ·have hs:p.size=vs.length:=by have:=hp.length_eq; simpa using this
  rw [pairwise_map,Bu];intro i j hi hj hij
  have:=sp i j hij (by simpa [hs] using hj)
  simp at hi hj;have a0:∀ k,(hk:k < p.size)->at0 p k=p.toList[k]'(by simpa using hk):=fun k hk=>by simp [at0,hk]
  rw [a0 i hi,a0 j hj] at this;exact this
end
section
variable {prog:Ak} {w:World} {A:Around} {E:Value->Shared->Prop} {s:Shared}
theorem aYl {z TI TO i1 i2 l1 l2:Addr} {xs ys:Array Value} {ns ms:List Int} {Q:Value->Shared->Prop} (hh:A.handled=none) (ap:J5 z TI TO i1 i2 l1 l2) (q:ZNew s.heap z TI TO i1 i2 l1 l2 xs ys) (hx:IntsAre xs.toList ns) (hy:IntsAre ys.toList ms) (hl:ns.length=ms.length) (h1:1 <= ns.length) (h64:ns.length < 64) (hnd:(ns.zip ms).Nodup)
  (h:∀ (D:Addr) (out:List Addr) (n:Nat) (h':Heap),s.heap.objs.size <= D->h'.get? D=some { cls:=.type "list",data:=.seq (out.map Value.ref).toArray n }->out.length=(DL.aki (ns.zip ms)).length->(∀ j (hj:j < out.length),s.heap.objs.size <= out[j]/\D ≠ out[j]/\aWw h' (.ref out[j]) ((DL.aki (ns.zip ms)).getD j (0,0)))->(∀ b o,b ∉ [z,TO,i1,i2]->s.heap.get? b=some o->h'.get? b=some o)->Q (.ref D) { s with heap:=h' }) :
  wpAny (model prog w) A (call (.builtin "sorted") [.ref z]) Q E s:=by
 have hxl:=hx.length;have hyl:=hy.length;have hxs:xs.size=ns.length:=by simpa using hxl
 have hys:ys.size=ns.length:=by rw [hl]; simpa using hyl
 refine Db Md Lu Lv (Lw _) ?_;unfold Builtin.«sorted»;refine Ac (m:=checkCount "sorted" 1 1 _) (Ad ?_);refine Ac (aWr (A:=A.in1) hh ap q hxs hys (by omega) h1 fun h1' Ts hTl hT hsz1 hk1=>?_);have hps:∀ i,i < Ts.length->aWw h1' ((Ts.map Value.ref).getD i .none) ((ns.zip ms).getD i (0,0)):=by
  intro i hi;obtain ⟨_,x,y,e1,e2,e3⟩:=hT i Ts[i] (by simp [hi]);have g1:xs.toList[i]?=some x:=by rw [getElem?_toList]; exact e1
  have g2:ys.toList[i]?=some y:=by rw [getElem?_toList]; exact e2
  obtain ⟨t1,f1⟩:∃ t,x=.int (ns.getD i 0) t:=by
   exact IntsAre.int_at hx i x g1
  obtain ⟨t2,f2⟩:∃ t,y=.int (ms.getD i 0) t:=by
   exact IntsAre.int_at hy i y g2
  refine ⟨Ts[i],_,0,t1,t2,by simp [hi],e3,rfl,?_⟩;subst f1 f2
  have:i < ns.length:=by omega
  have:i < ms.length:=by omega
  simp [*]
 have hzl:(ns.zip ms).length=ns.length:=by simp [hl]
 refine Ac (Gi ?_ (by rw [Ao]; simp; omega));have hoL:(h1'.push (Bq "list" (Ts.map Value.ref).toArray 0)).get? h1'.objs.size=some (Bq "list" (Ts.map Value.ref).toArray 0):=Ag _ rfl;have fin:∀ (out:List Addr),out.length=(DL.aki (ns.zip ms)).length->(∀ j (hj:j < out.length),∃ i,∃ hi:i < Ts.length,out[j]=Ts[i]/\(DL.aki (ns.zip ms)).getD j (0,0)=(ns.zip ms).getD i (0,0)) ->
   Q (.ref h1'.objs.size) { s with heap:=Jf (h1'.push (Bq "list" (Ts.map Value.ref).toArray 0)) h1'.objs.size (Ts.map Value.ref) (out.map Value.ref).toArray }:=by
  intro out ho hout;obtain ⟨e,he⟩:=K0 (out:=(out.map Value.ref).toArray) hoL;have old:∀ b o,h1'.get? b=some o->(Jf (h1'.push (Bq "list" (Ts.map Value.ref).toArray 0)) h1'.objs.size (Ts.map Value.ref) (out.map Value.ref).toArray).get? b=some o:=fun b o hb=>by
   have hlt:=Af hb;rw [Ke (ne_of_lt hlt) (by rw [Je]; exact lt_succ_of_lt hlt)];exact Ae _ hb
  refine h _ out e _ (le_of_lt hsz1) (by simpa [Bq] using he) ho (fun j hj=>?_) (fun b o hb e=>old b o (hk1 b o hb e));obtain ⟨i,hi,e1,e2⟩:=hout j hj;obtain ⟨g1,_⟩:=hT i Ts[i] (by simp [hi]);obtain ⟨x,o,n,t1,t2,f1,f2,f3,f4⟩:=hps i hi;have ex:x=Ts[i]:=by simpa [hi] using f1.symm
  rw [e1,e2];refine ⟨g1,?_,⟨Ts[i],o,n,t1,t2,rfl,old _ _ (ex ▸ f2),f3,f4⟩⟩
  have:=Af f2
  rw [ex] at this;exact ne_of_gt this
 refine Ac (Ba (Ax Kc ⟨_,hoL,rfl⟩ Jq ?_ (Kd _)))
 by_cases h2:2 <= ns.length
 ·refine avv (vs:=Ts.map Value.ref) hoL (by simp; omega) (by simp; omega) ?_
  generalize hh6:(((h1'.push (Bq "list" (Ts.map Value.ref).toArray 0)).update h1'.objs.size (Bg fun _=>#[])).push (Bq "tuple" (Ts.map Value.ref).toArray 0)).push (Bq "list" #[] 0)=h6;have old6:∀ b o,h1'.get? b=some o->h6.get? b=some o:=fun b o hb=>by
   rw [<- hh6];refine Ae _ (Ae _ ?_);rw [Au _ _ (ne_of_gt (Af hb))];exact Ae _ hb
  have hp6:∀ i,i < (Ts.map Value.ref).length->aWw h6 ((Ts.map Value.ref).getD i .none) ((ns.zip ms).getD i (0,0)):=fun i hi=>by
   obtain ⟨x,o,n,t1,t2,f1,f2,f3,f4⟩:=hps i (by simpa using hi);exact ⟨x,o,n,t1,t2,f1,old6 _ _ f2,f3,f4⟩
  have hvl:(Ts.map Value.ref).length=(ns.zip ms).length:=by simp [hTl,hl]
  refine aqa4 (s:={ s with heap:=h6 }) (ps:=ns.zip ms) (by simp; omega) hvl hp6 ?_;have key:∀ i j,i < (Ts.map Value.ref).length->j < (Ts.map Value.ref).length->(ns.zip ms).getD i (0,0)=(ns.zip ms).getD j (0,0)->i=j:=fun i j hi hj e=>by
   rw [hvl] at hi hj;have e':(ns.zip ms)[i]=(ns.zip ms)[j]:=by
    rw [getD_eq_getElem?_getD,getD_eq_getElem?_getD,getElem?_eq_getElem hi,getElem?_eq_getElem hj] at e;exact e
   exact (getElem_inj hnd).mp e'
  have ord:=aqif (key:=fun i=>(ns.zip ms).getD i (0,0)) key;obtain ⟨pa,sp⟩:=aqfb ord (by simp; omega);refine aZs (n:=(Ts.map Value.ref).length) (lt:=fun i j=>lexB ((ns.zip ms).getD i (0,0)) ((ns.zip ms).getD j (0,0))) (fun i j C hi hj hC=>aqew hvl.symm hp6 i j C hi hj hC) _ (aqfc (by simp; omega)) ⟨rfl,rfl,_,rfl,Ad ⟨_,rfl,?_⟩⟩;generalize aqt3 _ (Hm (Ts.map Value.ref).length)=p at pa sp;have hsl:=aWb hvl hnd pa sp;have hpl:p.toList.Perm (Ar (Ts.map Value.ref).length):=C4.mp pa;have hpb:∀ i∈p.toList,i < Ts.length:=fun i hi=>by
   have:=A0.mp (hpl.mem_iff.mp hi)
   simpa using this
  have eo:(p.toList.map fun i=>(Ts.map Value.ref).getD i .none)=(p.toList.map fun i=>Ts.getD i 0).map Value.ref:=by
   rw [map_map];apply map_congr_left;intro i hi
   have:=hpb i hi
   simp [this]
  rw [eo];refine fin _ (by rw [<- hsl]; simp) fun j hj=>?_;have hj':j < p.toList.length:=by simpa using hj
  have hb:=hpb p.toList[j] (getElem_mem hj');refine ⟨p.toList[j],hb,by simp only [getElem_map]; rw [getD_eq_getElem?_getD,getElem?_eq_getElem hb]; rfl,?_⟩;rw [<- hsl,getD_eq_getElem?_getD,getElem?_map,getElem?_eq_getElem hj'];rfl
 ·have hT1:Ts.length=1:=by omega
  obtain ⟨T,rfl⟩:∃ T,Ts=[T]:=by
   match Ts,hT1 with
   | [T],_=>exact ⟨T,rfl⟩
  refine avu (v:=.ref T) hoL ⟨_,rfl,Ad ⟨_,rfl,?_⟩⟩;have hp1:DL.aki (ns.zip ms)=ns.zip ms:=by
   obtain ⟨p,hp⟩:∃ p,ns.zip ms=[p]:=by
    have:(ns.zip ms).length=1:=by omega
    match ns.zip ms,this with
    | [p],_=>exact ⟨p,rfl⟩
   rw [hp]; rfl
  refine fin [T] (by rw [hp1]; simp at hTl ⊢; omega) fun j hj=>⟨j,hj,rfl,by rw [hp1]⟩
end
end SortW
namespace DL
open PySem PySem.Spec PyProof.Rows L2
section
variable {X:Cx}
theorem aqec {pins:List (Addr × Obj)} {σ:St} {H H':Hp} {s:Shared} {h':Heap} {t':Nat} (I:Inv X pins σ H s) (k:∀ b u,s.heap.get? b=some u->h'.get? b=some u) (same:∀ b u,H b=some u->H' b=some u)
  (hn:∀ b u,H' b=some u->H b=some u \/ s.heap.objs.size <= b/\azn X.prog X.w H' h' b u):Inv X pins σ H' { s with heap:=h',toks:=t' }:=by
 refine I.un ⟨fun b u q _ _ _=>k b u q,fun b u q _ _ _=>⟨u.slots,k b u q⟩,fun b u q n _=>?_,fun b u q _=>⟨u,k b u q⟩,fun b xs q=>same _ _ q,fun b u xs q=>same _ _ q,fun b ps q=>⟨#[],by rw [same _ _ q]; simp⟩⟩ fun b u e=>?_
 ·cases e:H' b with
  | none=>rfl
  | some u' =>
   rcases hn b u' e with z | ⟨z,_⟩
   ·rw [n] at z; cases z
   ·exact absurd (Af q) (La.mpr z)
 ·rcases hn b u e with z | ⟨_,z⟩
  ·exact (I.hok b u z).stay (fun c v _ q=>k c v q) (fun c q=>same _ _ q) fun c xs q=>same _ _ q
  ·exact z
open Classical in
noncomputable def aqst (H:Hp) (out:List Addr) (ps:List (Int × Int)):Hp:=fun b=>if b∈out then some (.tup [.int (ps.getD (out.idxOf b) (0,0)).1,.int (ps.getD (out.idxOf b) (0,0)).2]) else H b
theorem akf {H:Hp} {out:List Addr} {ps:List (Int × Int)} {b:Addr} (h:b ∉ out):aqst H out ps b=H b:=by unfold aqst; rw [if_neg h]
theorem aXo {H:Hp} {out:List Addr} {ps:List (Int × Int)} {b:Addr} (h:b∈out):aqst H out ps b=some (.tup [.int (ps.getD (out.idxOf b) (0,0)).1,.int (ps.getD (out.idxOf b) (0,0)).2]):=by unfold aqst; rw [if_pos h]
def OneP (out:List Addr) (ps:List (Int × Int)):Prop:=∀ j,(hj:j < out.length)->ps.getD (out.idxOf out[j]) (0,0)=ps.getD j (0,0)
theorem aX8 {a b:Expr} {ta:TA} {p p2 p3 pos:Pos} (hc:X.calm=true) (hg1:Gl X "sorted") (hg2:Gl X "zip") (hm1:X.mg "sorted"=none) (hm2:X.mg "zip"=none) (ha:PA X [a,b] ta) (hs:Ap [a,b] X.env=[(false,eval a X.env),(false,eval b X.env)]:=by rfl) (hs2:Ap [b] X.env=[(false,eval b X.env)]:=by rfl) :
  PE X (.Call (.Name "sorted" p) [.Call (.Name "zip" p2) [a,b] [] p3] [] pos) (fun σ H Q=>ta σ H fun vs H1=>∃ (l1 l2:Addr) (ns ms:List Int),vs=[.ref l1,.ref l2]/\SqL X.K H1 l1 (ns.map V.int)/\SqL X.K H1 l2 (ms.map V.int)/\ns.length=ms.length/\1 <= ns.length/\ns.length < 64/\(ns.zip ms).Nodup /\
   ∀ (D:Addr) (out:List Addr),H1 D=none->(∀ b∈out,H1 b=none)->D ∉ out->out.length=(aki (ns.zip ms)).length->OneP out (aki (ns.zip ms))->Q (.ref D) (upd (aqst H1 out (aki (ns.zip ms))) D (.lst (out.map V.ref)))):=by
 intro pins s σ H Q I h;refine B9 (awo I hg1 hm1 aj7 ?_ (by decide) (by decide));refine callWith_builtin1 ?_ rfl rfl;show wpAny _ _ (spliced ((false,eval (.Call (.Name "zip" p2) [a,b] [] p3) X.env) :: C1 pos (Ap [] X.env))) _ _ s;refine B8 ?_;refine B9 (awo I hg2 hm2 aqq0 ?_ (by decide) (by decide));refine Bp (thn (ha p3 pins s σ H _ I h) fun us s1 hQ=>?_) (by rw [hs,hs2]) (by rw [hs2]; rfl);obtain ⟨vs,H1,I1,r1,l1,l2,ns,ms,ev,hq1,hq2,hl,h1,h64,hnd,q⟩:=hQ;subst ev;cases r1 with
 | cons r rr =>
  cases rr with
  | cons r' rr =>
   cases rr;cases r;cases r';obtain ⟨its1,rv1,p1,hz1⟩:=I1.list hq1;obtain ⟨its2,rv2,p2,hz2⟩:=I1.list hq2;have lt1:=sq_lt I1 hq1;have lt2:=sq_lt I1 hq2;refine call_zip_2 p1.isList p2.isList fun h' hz hTI hTO hi1 hi2 hsz hk=>?_;refine Di ?_;have ap:=aqoa s1.heap.objs.size l1 l2 lt1 lt2;refine SortW.aYl (s:={ s1 with heap:=h' }) (xs:=its1.toArray) (ys:=its2.toArray) (ns:=ns) (ms:=ms) (I1.ok.hd hc) ap ⟨hz,hTI,⟨_,_,hTO⟩,hi1,hi2,p1.isList.at fun o e=>hk _ _ e,p2.isList.at fun o e=>hk _ _ e⟩ (by simpa using intsAre_of rv1) (by simpa using intsAre_of rv2) hl h1 h64 hnd fun D out n h2 hD hget hol hout hk2=>?_;have hle:s1.heap.objs.size <= D:=le_trans (by show s1.heap.objs.size <= h'.objs.size; omega) hD;have hleo:∀ b∈out,s1.heap.objs.size <= b/\D ≠ b:=fun b hb=>by
    obtain ⟨j,hj,rfl⟩:=getElem_of_mem hb;obtain ⟨g1,g2,_⟩:=hout j hj;exact ⟨le_trans (by show s1.heap.objs.size <= h'.objs.size; omega) g1,g2⟩
   have hDo:D ∉ out:=fun m=>(hleo D m).2 rfl;have one:OneP out (aki (ns.zip ms)):=fun j hj=>by
    have hm:out[j]∈out:=getElem_mem hj;have hi:out.idxOf out[j] < out.length:=G8 hm;have e:out[out.idxOf out[j]]=out[j]:=Lf hi;obtain ⟨_,_,x,o,k,t1,t2,f1,f2,f3,f4⟩:=hout j hj;obtain ⟨_,_,x',o',k',t1',t2',f1',f2',f3',f4'⟩:=hout (out.idxOf out[j]) hi;rw [e] at f1';have ex:x=x':=by rw [<- (Value.ref.inj f1),<- (Value.ref.inj f1')]
    subst ex;rw [f2] at f2'; cases f2';rw [f4] at f4';injection f4' with g1 g2;injection g1 with g1;injection g1 with g3 g4;injection g3 with g3 _;injection g4 with g4 _;injection g4 with g4 _;exact (Prod.ext g3 g4).symm
   have hH:∀ b,s1.heap.objs.size <= b->H1 b=none:=fun b hb=>I1.hok.fresh hb;have kk:∀ b u,s1.heap.get? b=some u->h2.get? b=some u:=fun b u e=>hk2 b u (fun hm=>by
    have hlt:=Af e;simp only [mem_cons,not_mem_nil,or_false] at hm;rcases hm with z | z | z | z <;> (rw [z] at hlt; exact absurd hlt (La.mpr (by omega)))) (hk b u e)
   refine ⟨.ref D,_,(show L2.Inv X pins σ _ { s1 with heap:=h2 } from aqec (s:=s1) (h':=h2) (t':=s1.toks) I1 kk (fun b u e=>?_) (fun b u e=>?_)),rfl,q D out (hH D hle) (fun b hb=>hH b (hleo b hb).1) hDo hol one⟩
   ·have nb:b ≠ D:=fun z=>by rw [z,hH D hle] at e; cases e
    have nm:b ∉ out:=fun z=>by rw [hH b (hleo b z).1] at e; cases e
    rw [ae nb,akf nm]; exact e
   ·by_cases nb:b=D
    ·subst nb
     rw [aa] at e; cases e;refine .inr ⟨hle,by rw [length_map,hol,(ajs _).length_eq,Ao]; simp; omega,out.map Value.ref,n,?_,hget⟩;clear hget hol hout hk2 hleo hDo one kk q
     induction out with
     | nil=>exact .nil
     | cons x xs ih=>exact .cons rfl ih
    ·rw [ae nb] at e
     by_cases hm:b∈out
     ·rw [aXo hm] at e; cases e
      have hi:out.idxOf b < out.length:=G8 hm;have eb:out[out.idxOf b]=b:=Lf hi;obtain ⟨_,_,x,o,k,t1,t2,f1,f2,f3,f4⟩:=hout (out.idxOf b) hi;rw [eb] at f1;have ex:x=b:=(Value.ref.inj f1).symm;subst ex;refine .inr ⟨(hleo _ hm).1,by simp [Ao],_,.cons ⟨t1,rfl⟩ (.cons ⟨t2,rfl⟩ .nil),o,f2,f3,k,f4⟩
     ·rw [akf hm] at e
      exact .inl e
theorem aY3 {K:Frag} {F:Hp}:∀ {out:List Addr} {ps:List (Int × Int)},out.length=ps.length->(∀ j,(hj:j < out.length)->F out[j]=some (.tup [.int (ps.getD j (0,0)).1,.int (ps.getD j (0,0)).2]))->Reps K F (out.map V.ref) (ps.map pairD)
 | [],[],_,_=>.nil
 | [],_ :: _,h,_=>by simp at h
 | _ :: _,[],h,_=>by simp at h
 | a :: out,p :: ps,h,k=>by
  refine .cons ?_ (aY3 (by simpa using h) fun j hj=>by have:=k (j + 1) (by simp; omega); simpa using this)
  have:=k 0 (by simp)
  exact .tup (SqT.of this) (.cons (.int _) (.cons (.int _) .nil))
theorem aZz {a b:Expr} {f:FA} {p p2 p3 pos:Pos} (hc:X.calm=true) (hg1:Gl X "sorted") (hg2:Gl X "zip") (hm1:X.mg "sorted"=none) (hm2:X.mg "zip"=none) (ha:DA X [a,b] f) (hs:Ap [a,b] X.env=[(false,eval a X.env),(false,eval b X.env)]:=by rfl) (hs2:Ap [b] X.env=[(false,eval b X.env)]:=by rfl) :
  DO X (.Call (.Name "sorted" p) [.Call (.Name "zip" p2) [a,b] [] p3] [] pos) (aqte aQy f):=by
 refine PE.imp (aX8 hc hg1 hg2 hm1 hm2 ha hs hs2) fun σ H Q q=>?_;obtain ⟨F,ρ,o,s,re,hf,kk⟩:=q;obtain ⟨zs,hf2,rfl⟩:=map_some hf;obtain ⟨ds,hd,hf⟩:=bind_some hf2;refine ⟨F,ρ,ds,s,re,hd,fun vs F1 H1 e1 r1=>?_⟩;unfold aQy at hf;split at hf
 ·rename_i xs ys
  obtain ⟨ns,hns,hf⟩:=bind_some hf;obtain ⟨ms,hms,hf⟩:=bind_some hf;split at hf
  ·rename_i hcnd
   cases hf
   have:=axs hns
   subst this
   have:=axs hms
   subst this;cases r1 with
   | cons q1 r2 =>
    cases r2 with
    | cons q2 r3 =>
     cases r3;cases q1 with
     | lst g1 t1 =>
      cases q2 with
      | lst g2 t2 =>
       have hv1:=aZ t1;have hv2:=aZ t2;subst hv1 hv2;refine ⟨_,_,ns,ms,rfl,(aqt1 e1.fh g1).l,(aqt1 e1.fh g2).l,hcnd.1,hcnd.2.1,hcnd.2.2.1,hcnd.2.2.2,fun D out hD ho hDo hol one=>?_⟩;have hF:∀ b,H1 b=none->F1 b=none:=fun b hb=>e1.fh.free hb;have ntD:aqst F1 out (aki (ns.zip ms)) D=F1 D:=akf hDo;have sFF:aqu9 F1 (aqst F1 out (aki (ns.zip ms))):=fun b u e=>by
        rw [akf (fun m=>by rw [hF b (ho b m)] at e; cases e)]; exact e
       have sFH:aqu9 (aqst F1 out (aki (ns.zip ms))) (upd (aqst H1 out (aki (ns.zip ms))) D (.lst (out.map V.ref))):=fun b u e=>by
        have nb:b ≠ D:=fun z=>by rw [z,ntD,hF D hD] at e; cases e
        rw [ae nb]
        by_cases m:b∈out
        ·rw [aXo m] at e ⊢; exact e
        ·rw [akf m] at e ⊢; exact e1.fh b u e
       have sHH:aqu9 H1 (upd (aqst H1 out (aki (ns.zip ms))) D (.lst (out.map V.ref))):=fun b u e=>by
        have nb:b ≠ D:=fun z=>by rw [z,hD] at e; cases e
        rw [ae nb,akf (fun m=>by rw [ho b m] at e; cases e)]; exact e
       have ex:Ext F1 H1 (aqst F1 out (aki (ns.zip ms))) (upd (aqst H1 out (aki (ns.zip ms))) D (.lst (out.map V.ref))):=⟨sFF,sFH,sHH,fun b u e=>by
        by_cases m:b∈out
        ·exact .inr (ho b m)
        ·rw [akf m] at e; exact .inl e⟩
       refine kk (.ref D) _ _ _ (e1.trans ex) (aZb aa (aY3 hol fun j hj=>?_)) fun b z=>by
        subst z;exact ⟨by rw [ntD]; exact hF _ hD,e1.hh.free hD⟩
       rw [aXo (getElem_mem hj),one j hj]
  ·cases hf
 ·cases hf
end
end DL
namespace DL
open PySem
end DL
namespace DL
open PySem PySem.Spec PyProof.Rows L2
section
variable {K:Frag} {F H:Hp}
end
section
variable {X:Cx} {i j:Nat} {S:List Bool}
end
def veB:List Value:=[.type "ValueError",.type "Exception",.type "BaseException",.type "object"]
structure ExcC (K:Frag) (C:Addr):Prop where
 ex:∃ (nm q:Str) (N:Addr) (bs bm:List Value) (hdct:Bool) (sn:List Str) (sub:List Value) (ab:Bool) (col:Option Bool) (dd:Option Addr) (k0 k1 k2 k3 k5:Option Value),
  K.lookup C=some (excClassObj nm q C N bs bm hdct sn sub ab col dd k0 k1 k2 k3 k5 "ValueError.__new__")/\PySem.W.nsOkIn K N=true/\nsIn K N "__init__"=some none/\PySem.W.tailIn K veB bm=true
section
variable {P:Ak} {w:World} {K:Frag} {mg:Str->Option Value} {base:Heap} {N:List Str} {qual:Str} {scope:Scope} {f:Addr} {cd:Value} {A:Around} {outer:List Env} {s:Shared} {H:Hp} {E:XK} {C:Addr}
end
section
variable {X:Cx} {pins:List (Addr × Obj)} {σ:L2.St} {H:Hp} {s s':Shared} {a:Addr} {oe:Obj} {C C':Addr} {E:XK} {e:Value}
end
structure ExcH (K:Frag) (C C':Addr):Prop where
 ty:J3 K (.ref C')=some (.type "type")
 cl:(K1 K C').isSome=true
 be:Ef K C' (.type "BaseException")=some true
 su:Ef K C (.ref C')=some true
section
variable {X:Cx} {C C':Addr} {k:Nat} {f:Addr} {fd:Am} {ps:List Str} {sp:Sp}
end
end DL
namespace DL
open PySem PySem.Spec PyProof.Rows L2
open Builtin Builtin.ObjectAttr Builtin.Getset_descriptor
structure ExcI (K:Frag) (C:Addr):Prop where
 cl:(K1 K C).isSome=true
 ga:A7 K (.ref C) "__getattribute__"=some (some (.builtin "BaseException.__getattribute__"))
 kl:A7 K (.ref C) "__class__"=some (some (.builtin "object.__class__"))
 gt:Hz K (.builtin "object.__class__") "__get__"=some (some (.builtin "getset_descriptor.__get__"))
 tk:PySem.W.takesIn K (.builtin "object.__class__")=some true
 ob:Ef K C (.type "object")=some true
 be:Ef K C (.type "BaseException")=some true
 no:A7 K (.ref C) "__getattr__"=some none
section
variable {prog:Ak} {w:World} {A:Around} {E:Value->Shared->Prop} {K:Frag} {s:Shared} {a C:Addr} {oe:Obj}
end
section
variable {X:Cx} {a C:Addr} {oe:Obj}
end
section
variable {X:Cx} {C C':Addr} {k:Nat} {f:Addr} {fd:Am} {ps:List Str} {sp:Sp}
end
end DL
namespace DL
open PySem
def aqth:List Int->List Int->Bool
 | _,[]=>false
 | [],_ :: _=>true
 | a :: s,b :: t=>decide (a < b) || (decide (a=b) && aqth s t)
def aqtk (m:List Int):List (List Int)->List (List Int)
 | []=>[m]
 | k :: ks=>if m=k then k :: ks else if aqth m k=true then m :: k :: ks else k :: aqtk m ks
def ajc (l:List (List Int)):List (List Int):=l.foldr aqtk []
def wtK (h:List (Int × List Int)) (m:List Int):Int:=((h.filter fun p=>decide (p.2=m)).map fun p=>p.1).sum
def aJm (h:List (Int × List Int)):List (Int × List Int):=(ajc (h.map fun p=>p.2)).map fun m=>(wtK h m,m)
def kInt:D->Option Int
 | .int i=>some i
 | _=>none
def aqma:D->Option (List Int)
 | .lst xs=>xs.mapM kInt
 | _=>none
def aqm9:D->Option (Int × List Int)
 | .tup [.int w,m]=>(aqma m).map fun l=>(w,l)
 | _=>none
def aqk1:D->Option (List (Int × List Int))
 | .lst xs=>xs.mapM aqm9
 | _=>none
def aqa0 (p:Int × List Int):O:=.tup [.sh (.int p.1),ow (p.2.map D.int)]
def aqkb:List D->Option O
 | [d]=>(aqk1 d).bind fun h=>if h.length < 60/\(h.all fun p=>decide (p.2.length < 60))=true then some (.lst ((aJm h).map aqa0)) else none
 | _=>none
def lawD:List D->Option D
 | [d]=>(aqma d).bind fun ns=>if ns.length <= 63 then some (.bl true) else none
 | _=>none
theorem aqe3 (ns:List Int) (h:ns.length <= 63):lawD [.lst (ns.map .int)]=some (.bl true):=by
 have:∀ l:List Int,(l.map D.int).mapM kInt=some l:=by
  intro l
  induction l with
  | nil=>rfl
  | cons a l ih=>rw [map_cons,mapM_cons,ih]; rfl
 simp [lawD,aqma,this,h]
end DL
namespace DL
open PySem PySem.Spec PyProof.Rows L2
theorem fsc {N P:List Str} {sc:Scope} (a:sc.kind=.function:=by rfl) (b:sc.isCoroutine=false:=by rfl) (c:sc.isGenerator=false:=by rfl) (d:N.Nodup:=by decide +kernel) (e:N.take P.length=P:=by rfl) (f:∀ x∈P,sc.names.lookup x=some .local \/ sc.names.lookup x=some .cell:=by decide +kernel) (g:∀ y∈sc.names,y.2 ≠ .free:=by decide +kernel):FnScope N P sc:=⟨a,b,c,d,e,f,g⟩
theorem hm {k n:Nat} {A:Around} (h:Room n A) (d:k <= n:=by decide):Room k A:=h.mono d
theorem pgc {X:Cx} {N':List Str} {scope:Scope} {cl:List (Str × Addr)} {C:Addr} {s₀:Shared} {H₀:Hp} {ex:List Addr} {pn:List (Addr × Obj)} (i:Nat) {x:Str} {pos:Pos} (hN:N'.Nodup:=by decide) (hi:N'[i]?=some x:=by rfl) (hx:Loc (aP X N' scope cl C s₀ H₀ ex pn).env.scope x:=by first | exact .inl rfl | exact .inr rfl) (hf:(aP X N' scope cl C s₀ H₀ ex pn).fn x=true \/ (aP X N' scope cl C s₀ H₀ ex pn).env.scope.names.lookup x=some .local:=by first | exact .inl rfl | exact .inr rfl | assumption):PG (aP X N' scope cl C s₀ H₀ ex pn) (.Name x pos) (azj i):=aq0 hN hi hx hf
theorem pif0 {X:Cx} {N':List Str} {scope:Scope} {cl:List (Str × Addr)} (C:Addr) (s₀:Shared) (H₀:Hp) (ex:List Addr) (pn:List (Addr × Obj)):PIfs (aP X N' scope cl C s₀ H₀ ex pn) [] awi:=.inl ⟨rfl,fun _ _ _ h=>h⟩
end DL
namespace MB
open PySem DL
theorem aqcb {n k:Nat} (h:n < 2 ^ k) (hk:k <= 1000000):n < BIG:=by
 unfold BIG;exact lt_of_lt_of_le h (pow_le_pow_right (by decide) hk)
theorem aqca {n k:Nat} (h:n < 2 ^ k) (hk:k <= 9000):n < BIGD:=by
 unfold BIGD;exact lt_of_lt_of_le h (pow_le_pow_right (by decide) hk)
theorem aqqb (i:Int):(if i < 0 then -i else i)=(i.natAbs:Int):=by split <;> omega
theorem aqe1 {a b m n:Nat} (h:a < 2 ^ m) (h':b < 2 ^ n):a * b < 2 ^ (m + n):=by
 rw [pow_add];exact Nat.mul_lt_mul_of_lt_of_lt h h'
theorem aqpl {a b:Int} {k:Nat} (h:a.natAbs < 2 ^ k) (h':b.natAbs < 2 ^ k):Ds a b < 2 ^ k:=by
 by_cases ha:a=0
 ·subst ha; rw [Int.gcd_zero_left]; exact h'
 ·have:Ds a b ∣ a.natAbs:=Nat.gcd_dvd_left _ _
  exact lt_of_le_of_lt (K2 (by omega) this) h
def rng (n:Nat):Nat:=max 1 (min n 30)
def Sz (k:Nat) (v:Int):Prop:=v.natAbs < 2 ^ k
theorem Sz.mono {a b:Nat} {v:Int} (h:Sz a v) (hab:a <= b):Sz b v:=lt_of_lt_of_le h (pow_le_pow_right (by decide) hab)
theorem Sz.mul {a b:Nat} {x y:Int} (h:Sz a x) (h':Sz b y):Sz (a + b) (x * y):=by
 unfold Sz; rw [Fo]; exact aqe1 h h'
theorem Sz.add {a:Nat} {x y:Int} (h:Sz a x) (h':Sz a y):Sz (a + 1) (x + y):=by
 unfold Sz at *; rw [Nat.pow_succ]; omega
theorem Sz.sub {a:Nat} {x y:Int} (h:Sz a x) (h':Sz a y):Sz (a + 1) (x - y):=by
 unfold Sz at *; rw [Nat.pow_succ]; omega
theorem Sz.big {a:Nat} {x:Int} (h:Sz a x) (ha:a <= 1000000):x.natAbs < BIG:=aqcb h ha
theorem Sz.one:Sz 1 1:=by show (1:Int).natAbs < 2 ^ 1; decide
def nf1 (t b:Int):Int:=t / (Ds t b:Int)
def nf2 (t b:Int):Int:=b / (Ds t b:Int)
section
variable {t b:Int}
theorem aZv (hb:0 < b):0 < (Ds t b:Int):=by
 have:Ds t b ≠ 0:=fun h=>by have:=(Int.gcd_eq_zero_iff.mp h).2; omega
 omega
theorem aqlv:nf1 t b * (Ds t b:Int)=t:=Ks (Int.gcd_dvd_left t b)
theorem aqlu:nf2 t b * (Ds t b:Int)=b:=Ks (Int.gcd_dvd_right t b)
theorem aqp2 (hb:0 < b):(nf1 t b).natAbs <= t.natAbs:=by
 have h1:=congrArg Int.natAbs (aqlv (t:=t) (b:=b));rw [Fo] at h1;rw [<- h1]
 have:=aZv (t:=t) hb
 exact Iv _ (by omega)
theorem aqp1 (hb:0 < b):(nf2 t b).natAbs <= b.natAbs:=by
 have h1:=congrArg Int.natAbs (aqlu (t:=t) (b:=b));rw [Fo] at h1;rw [<- h1]
 have:=aZv (t:=t) hb
 exact Iv _ (by omega)
end
def fr (p q:Int):D:=.tup [.int p,.int q]
def frD (a:Rat):D:=.tup [.int a.num,.int a.den]
theorem aqmp {a b:Rat} (h:a.num=b.num) (h':(a.den:Int)=b.den):a=b:=Rat.ext h (by omega)
@[simp] theorem aqr1 (a:Rat):imm (frD a)=true:=by simp [frD]
@[simp] theorem aqqg {n:Nat} (a:Rat):shp (n + 1) (frD a)=true:=by simp [frD]
theorem aqg7 (a b:Rat):eqD (frD a) (frD b)=decide (a=b):=by
 rw [A5];simp only [frD,eqD,aqtt,Bool.and_true,C0,beq_iff_eq,decide_eq_true_eq];exact ⟨fun ⟨h,h'⟩=>aqmp h h',fun h=>by subst h; exact ⟨rfl,rfl⟩⟩
@[simp] theorem aqrg (a b:Rat):dEq (frD a) (frD b)=some (.bl (decide (a=b))):=by simp [dEq,aqg7]
@[simp] theorem aqrc (a b:Rat):dNe (frD a) (frD b)=some (.bl (!decide (a=b))):=by simp [dNe,aqg7]
theorem aqft {t:Int} {b:Nat} (hb:b ≠ 0):nf1 t b=(Rat.normalize t b hb).num/\nf2 t b=((Rat.normalize t b hb).den:Int):=by
 rw [Rat.normalize_eq];unfold nf1 nf2;have e:Ds t (b:Int)=t.natAbs.gcd b:=by simp [Ds]
 rw [e];exact ⟨rfl,by rw [Int.natCast_ediv]⟩
theorem nf_mk {t:Int} {b:Nat} (hb:b ≠ 0):D.tup [.int (nf1 t b),.int (nf2 t b)]=frD (mkRat t b):=by
 obtain ⟨h1,h2⟩:=aqft (t:=t) hb;rw [h1,h2,Cw]; rfl
theorem den_pos (a:Rat):0 < (a.den:Int):=by have:=a.den_pos; omega
theorem aqnn (a b:Rat):mkRat (a.num * b.den + b.num * a.den) (a.den * b.den)=a + b:=by rw [Rat.add_def,Cw]
theorem aqkh (a b:Rat):mkRat (a.num * b.den - b.num * a.den) (a.den * b.den)=a - b:=by rw [Rat.sub_def,Cw]
theorem aqlw (a b:Rat):mkRat (a.num * b.num) (a.den * b.den)=a * b:=by rw [Rat.mul_def,Cw]
def Bd (n d:Nat) (a:Rat):Prop:=a.num.natAbs < 2 ^ n/\a.den < 2 ^ d
theorem Bd.mono {n d n' d':Nat} {a:Rat} (h:Bd n d a) (hn:n <= n') (hd:d <= d'):Bd n' d' a:=⟨lt_of_lt_of_le h.1 (pow_le_pow_right (by decide) hn),lt_of_lt_of_le h.2 (pow_le_pow_right (by decide) hd)⟩
theorem Bd.num {n d:Nat} {a:Rat} (h:Bd n d a):Sz n a.num:=h.1
theorem Bd.den {n d:Nat} {a:Rat} (h:Bd n d a):Sz d (a.den:Int):=by show (a.den:Int).natAbs < 2 ^ d; rw [Bb]; exact h.2
theorem Bd.mk {n d:Nat} {t:Int} {b:Nat} (hb:b ≠ 0) (ht:Sz n t) (hd:b < 2 ^ d):Bd n d (mkRat t b):=by
 obtain ⟨h1,h2⟩:=aqft (t:=t) hb;rw [Cw] at h1 h2;have hp:(0:Int) < b:=by omega
 refine ⟨?_,?_⟩
 ·rw [<- h1]; exact lt_of_le_of_lt (aqp2 hp) ht
 ·have:=aqp1 (t:=t) hp
  rw [h2] at this;omega
theorem Bd.add {n d m e:Nat} {a b:Rat} (ha:Bd n d a) (hb:Bd m e b):Bd (max (n + e) (m + d) + 1) (d + e) (a + b):=by
 rw [<- aqnn];refine Bd.mk (mul_ne_zero a.den_nz b.den_nz) ?_ (aqe1 ha.2 hb.2);exact Sz.add ((ha.num.mul hb.den).mono (Jn _ _)) ((hb.num.mul ha.den).mono (Iq _ _))
theorem Bd.sub {n d m e:Nat} {a b:Rat} (ha:Bd n d a) (hb:Bd m e b):Bd (max (n + e) (m + d) + 1) (d + e) (a - b):=by
 rw [<- aqkh];refine Bd.mk (mul_ne_zero a.den_nz b.den_nz) ?_ (aqe1 ha.2 hb.2);exact Sz.sub ((ha.num.mul hb.den).mono (Jn _ _)) ((hb.num.mul ha.den).mono (Iq _ _))
theorem Bd.mul {n d m e:Nat} {a b:Rat} (ha:Bd n d a) (hb:Bd m e b):Bd (n + m) (d + e) (a * b):=by
 rw [<- aqlw];exact Bd.mk (mul_ne_zero a.den_nz b.den_nz) (ha.num.mul hb.num) (aqe1 ha.2 hb.2)
def ev {α:Type}:List α->List α
 | []=>[]
 | [x]=>[x]
 | x :: _ :: l=>x :: ev l
def od {α:Type}:List α->List α
 | []=>[]
 | [_]=>[]
 | _ :: y :: l=>y :: od l
abbrev aqud:=Int × List Int
def ay (l:List Int):D:=.lst (l.map .int)
def ax3 (p:aqud):D:=.tup [.int p.1,ay p.2]
def aF (h:List aqud):D:=.lst (h.map ax3)
@[simp] theorem aqo1 (l:List Int):imm (ay l)=false:=by simp [ay]
@[simp] theorem aqns {n:Nat} (l:List Int):shp (n + 1) (ay l)=true:=by simp [ay]
@[simp] theorem aqnr {n:Nat} (p:aqud):shp (n + 2) (ax3 p)=true:=by simp [ax3]
@[simp] theorem aqnt {n:Nat} (h:List aqud):shp (n + 3) (aF h)=true:=by
 simp only [aF,aqfd];exact aXq.mpr fun d m=>by obtain ⟨p,_,rfl⟩:=Ah.mp m; simp
@[simp] theorem aqo0 (p:aqud):imm (ax3 p)=false:=by simp [ax3]
@[simp] theorem aqo2 (h:List aqud):imm (aF h)=false:=by simp [aF]
theorem aQ6 (a b:List Int):eqD (ay a) (ay b)=decide (a=b):=by simp [ay,eqD,aqeh]
@[simp] theorem aqen (a b:List Int):dEq (ay a) (ay b)=some (.bl (decide (a=b))):=by simp [dEq,aQ6]
@[simp] theorem aqo3 (a b:List Int):dNe (ay a) (ay b)=some (.bl (!decide (a=b))):=by simp [dNe,aQ6]
theorem aqei (p q:aqud):eqD (ax3 p) (ax3 q)=decide (p=q):=by
 obtain ⟨a,l⟩:=p;obtain ⟨b,m⟩:=q;rw [A5];simp [ax3,eqD,aqtt,aQ6]
theorem aqbm {α:Type} [DecidableEq α] {inj:α->D} (h:∀ a b,eqD (inj a) (inj b)=decide (a=b)):∀ (xs ys:List α),aqtt (xs.map inj) (ys.map inj)=decide (xs=ys)
 | [],[]=>by simp [aqtt]
 | [],_ :: _=>by simp [aqtt]
 | _ :: _,[]=>by simp [aqtt]
 | x :: xs,y :: ys=>by rw [A5]; simp [aqtt,h,aqbm h xs ys]
theorem aKo (h k:List aqud):eqD (aF h) (aF k)=decide (h=k):=by
 simp only [aF,eqD];exact aqbm aqei h k
@[simp] theorem aqo8 (a b:List aqud):dEq (aF a) (aF b)=some (.bl (decide (a=b))):=by simp [dEq,aKo]
@[simp] theorem aqo4 (a b:List aqud):dNe (aF a) (aF b)=some (.bl (!decide (a=b))):=by simp [dNe,aKo]
def has (l:List Int) (c:Int):Bool:=l.contains c
theorem avw {l:List Int} {c:Int}:has l c=true ↔ c∈l:=by simp [has]
theorem awf (c:Int) (l:List Int):((l.map D.int).any fun y=>eqD y (.int c))=has l c:=by
 rw [A5,avw];simp [any_eq_true,eqD]
@[simp] theorem aqpy (c:Int) (l:List Int):dIn (.int c) (ay l)=some (.bl (has l c)):=by
 have:=awf c l
 simp only [ay,dIn,this]; simp
@[simp] theorem aqk2 (c:Int) (l:List Int):aXc (.int c) (ay l)=some (.bl (!has l c)):=by
 have:=awf c l
 simp only [ay,aXc,this]; simp
@[simp] theorem aqem (p:aqud):dIx (ax3 p) (.int 0)=some (.int p.1):=aqbw
@[simp] theorem aqo7 (p:aqud):dIx (ax3 p) (.int 1)=some (ay p.2):=aqjd
theorem aqbc (l:List Int):oD (ow (l.map .int))=some (ay l):=by simp [ay]
def atB {α:Type} (p:α->Bool):Option α->Bool
 | some x=>p x
 | none=>false
@[simp] theorem aqlz (l:List Int):aJl (ay l)=some (l.map .int):=rfl
@[simp] theorem aqm0 (h:List aqud):aJl (aF h)=some (h.map ax3):=rfl
@[simp] theorem aqo5 (l:List Int):dLen [ay l]=some (.int l.length):=by simp [ay]
@[simp] theorem aqo6 (h:List aqud):dLen [aF h]=some (.int h.length):=by simp [aF]
@[simp] theorem aqnw (l:List Int):aqtj "list" (ay l)=some (.bl true):=rfl
@[simp] theorem aqnx (l:List aqud):aqtj "list" (aF l)=some (.bl true):=rfl
@[simp] theorem aqnv (l:aqud):aqtj "tuple" (ax3 l)=some (.bl true):=rfl
@[simp] theorem aqph (l:List Int):isT (ay l) "list"=true:=rfl
@[simp] theorem aqm5 (l:List Int):aqg1 [ay l]=some (l.map .int):=rfl
def axq (m s:List Int):Bool:=s.all fun c=>has m c
def agr (h:List aqud) (s:List Int):List Int:=((Ar h.length).filter fun i=>atB (fun p:aqud=>axq p.2 s) h[i]?).map fun (i:Nat)=>(i:Int)
theorem aKp {α:Type} (inj:α->D) (h:List α):aqbn (h.map inj)=((Ar h.length).zip h).map fun q=>.tup [.int (q.1:Int),inj q.2]:=by
 unfold aqbn;rw [length_map];apply ext_getElem
 ·simp
 ·intro i h1 h2
  simp
theorem aWy {α:Type} (p:α->Bool) (h:List α):((((Ar h.length).zip h).filter fun q=>p q.2).map fun q=>q.1)=(Ar h.length).filter fun i=>atB p h[i]?:=by
 have key:∀ (l:List Nat) (h':List α),(∀ i∈l,i < h.length)->(l.zip h').length=l.length->(∀ j (hj:j < l.length),h'[j]?=h[l[j]]?)->(((l.zip h').filter fun q=>p q.2).map fun q=>q.1)=l.filter fun i=>atB p h[i]?:=by
  intro l
  induction l with
  | nil=>intro h' _ _ _; simp
  | cons i l ih =>
   intro h' hl hlen hget;cases h' with
   | nil=>simp at hlen
   | cons x h' =>
    have h0:=hget 0 (by simp);simp at h0;have ih':=ih h' (fun j m=>hl j (mem_cons_of_mem _ m)) (by simpa using hlen) (fun j hj=>by have:=hget (j + 1) (by simpa using hj); simpa using this);have e:atB p h[i]?=p x:=by rw [<- h0]; rfl
    rw [Hn,filter_cons,filter_cons];simp only [e];cases p x with
    | true=>simp [ih']
    | false=>simpa using ih'
 exact key (Ar h.length) h (fun i m=>A0.mp m) (by simp) (fun j hj=>by simp)
end MB
namespace MT
open MB DL
theorem lex_irr:∀ s,aqth s s=false:=by
 intro s
 induction s with
 | nil=>rfl
 | cons a s ih=>simp [aqth,ih]
theorem lex_tr:∀ {s t u},aqth s t=true->aqth t u=true->aqth s u=true:=by
 intro s
 induction s with
 | nil =>
  intro t u h1 h2;cases u with
  | nil=>cases t <;> simp [aqth] at h2
  | cons _ _=>rfl
 | cons a s ih =>
  intro t u h1 h2;cases t with
  | nil=>simp [aqth] at h1
  | cons b t =>
   cases u with
   | nil=>simp [aqth] at h2
   | cons c u =>
    simp only [aqth,Jp,C0,decide_eq_true_eq] at h1 h2 ⊢;rcases h1 with h1 | ⟨rfl,h1⟩ <;> rcases h2 with h2 | ⟨rfl,h2⟩
    ·left; omega
    ·left; exact h1
    ·left; exact h2
    ·right; exact ⟨rfl,ih h1 h2⟩
theorem lex_tot:∀ s t,aqth s t=false->s ≠ t->aqth t s=true:=by
 intro s
 induction s with
 | nil=>intro t h1 h2; cases t with
  | nil=>exact absurd rfl h2
  | cons _ _=>simp [aqth] at h1
 | cons a s ih =>
  intro t h1 h2;cases t with
  | nil=>rfl
  | cons b t =>
   simp only [aqth,Jp,C0,decide_eq_true_eq,Bool.or_eq_false_iff,Bool.and_eq_false_iff,decide_eq_false_iff_not] at h1 ⊢
   by_cases e:a=b
   ·subst e
    right
    refine ⟨rfl,ih t ?_ ?_⟩
    ·rcases h1.2 with h | h
     ·exact absurd rfl h
     ·exact h
    ·intro e; exact h2 (by rw [e])
   ·left; omega
theorem aqfx {m x:List Int} {ks:List (List Int)}:x∈aqtk m ks ↔ x=m \/ x∈ks:=by
 induction ks with
 | nil=>simp [aqtk]
 | cons k ks ih =>
  simp only [aqtk];split
  ·rename_i e; subst e; simp
  ·split
   ·simp
   ·simp only [mem_cons,ih]
    constructor
    ·rintro (h | h | h) <;> simp [h]
    ·rintro (h | h | h) <;> simp [h]
theorem mem_keys {x:List Int} {l:List (List Int)}:x∈ajc l ↔ x∈l:=by
 induction l with
 | nil=>simp [ajc]
 | cons a l ih=>simp only [ajc,List.foldr_cons,aqfx,mem_cons] at ih ⊢; rw [ih]
theorem aqg2 (m:List Int):∀ ks:List (List Int),(aqtk m ks).length <= ks.length + 1
 | []=>by simp [aqtk]
 | k :: ks=>by
  unfold aqtk
  have:=aqg2 m ks
  split
  ·simp
  ·split
   ·simp
   ·simp; omega
theorem keys_len (l:List (List Int)):(ajc l).length <= l.length:=by
 induction l with
 | nil=>simp [ajc]
 | cons a l ih =>
  have:=aqg2 a (ajc l)
  have e:ajc (a :: l)=aqtk a (ajc l):=rfl;rw [e]
  simp; omega
def Ris (ks:List (List Int)):Prop:=ks.Pairwise fun a b=>aqth a b=true
theorem aqme {m:List Int} {ks:List (List Int)} (h:Ris ks):Ris (aqtk m ks):=by
 induction ks with
 | nil=>simp [aqtk,Ris]
 | cons k ks ih =>
  simp only [Ris,pairwise_cons] at h ih;simp only [aqtk];split
  ·simpa [Ris] using h
  ·rename_i e
   split
   ·rename_i e2
    simp only [Ris,pairwise_cons,mem_cons];refine ⟨?_,h⟩;rintro x (rfl | hx)
    ·exact e2
    ·exact lex_tr e2 (h.1 x hx)
   ·rename_i e2
    simp only [Ris,pairwise_cons];refine ⟨?_,ih h.2⟩;intro x hx;rcases aqfx.mp hx with rfl | hx
    ·exact lex_tot _ _ (by simpa using e2) e
    ·exact h.1 x hx
theorem keys_ris (l:List (List Int)):Ris (ajc l):=by
 induction l with
 | nil=>simp [ajc,Ris]
 | cons a l ih=>exact aqme ih
theorem ris_eq:∀ {a b:List (List Int)},Ris a->Ris b->(∀ x,x∈a ↔ x∈b)->a=b:=by
 intro a
 induction a with
 | nil =>
  intro b _ _ h;cases b with
  | nil=>rfl
  | cons x _=>exact absurd ((h x).mpr (by simp)) (by simp)
 | cons x a ih =>
  intro b ha hb h;cases b with
  | nil=>exact absurd ((h x).mp (by simp)) (by simp)
  | cons y b =>
   simp only [Ris,pairwise_cons] at ha hb;have exy:x=y:=by
    rcases Al.mp ((h x).mp (by simp)) with e | hx
    ·exact e
    ·rcases Al.mp ((h y).mpr (by simp)) with e | hy
     ·exact e.symm
     ·have:=lex_tr (hb.1 x hx) (ha.1 y hy)
      rw [lex_irr] at this; exact absurd this (by simp)
   subst exy;congr 1;refine ih ha.2 hb.2 fun z=>?_;have nx:∀ {c:List (List Int)},(∀ w∈c,aqth x w=true)->x ∉ c:=fun hc hm=>by
    have:=hc x hm; rw [lex_irr] at this; exact absurd this (by simp)
   constructor
   ·intro hz
    rcases Al.mp ((h z).mp (by simp [hz])) with e | hz'
    ·subst e; exact absurd hz (nx ha.1)
    ·exact hz'
   ·intro hz
    rcases Al.mp ((h z).mpr (by simp [hz])) with e | hz'
    ·subst e; exact absurd hz (nx hb.1)
    ·exact hz'
theorem wt_none {h:List aqud} {m:List Int} (n:m ∉ h.map fun p=>p.2):wtK h m=0:=by
 have:(h.filter fun p=>decide (p.2=m))=[]:=by
  rw [List.filter_eq_nil_iff];intro p hp;simp only [decide_eq_true_eq];intro e;exact n (by rw [<- e]; exact List.mem_map_of_mem hp)
 simp [wtK,this]
theorem wt_append (h k:List aqud) (m:List Int):wtK (h++k) m=wtK h m + wtK k m:=by simp [wtK]
end MT
namespace L2
open PySem PySem.Spec PyProof.Rows
section
variable {κ:Type} [DecidableEq κ]
def aqsr (kvs:List (κ × V)) (k:κ):Option V:=(kvs.find? fun kv=>decide (kv.1=k)).map (·.2)
def aqt7 (kvs:List (κ × V)) (k:κ) (v:V):List (κ × V) :=
 if (kvs.any fun kv=>decide (kv.1=k))=true then kvs.map (fun kv=>if kv.1=k then (kv.1,v) else kv) else kvs++[(k,v)]
def aqct (kvs:List (κ × V)) (k:κ):List (κ × V):=kvs.filter fun kv=>decide (kv.1 ≠ k)
theorem aql {p:κ × V} {r:List (κ × V)} {k:κ} (e:p.1=k):aqsr (p :: r) k=some p.2:=by simp [aqsr,find?_cons,e]
theorem aqm {p:κ × V} {r:List (κ × V)} {k:κ} (e:¬ p.1=k):aqsr (p :: r) k=aqsr r k:=by simp [aqsr,find?_cons,e]
theorem axf (k:κ):∀ kvs:List (κ × V),(kvs.any fun kv=>decide (kv.1=k))=(aqsr kvs k).isSome
 | []=>rfl
 | p :: r=>by
  rw [any_cons]
  by_cases e:p.1=k
  ·simp only [aql e,decide_eq_true e,Bool.true_or,Option.isSome_some]
  ·rw [aqm e,decide_eq_false e,Bool.false_or]; exact axf k r
theorem aW6 (k j:κ) (y:V):∀ kvs:List (κ × V),aqsr (kvs.map fun kv=>if kv.1=k then (kv.1,y) else kv) j=(aqsr kvs j).map fun x=>if j=k then y else x
 | []=>rfl
 | p :: r=>by
  have ih:=aW6 k j y r;rw [map_cons]
  by_cases h:p.1=k
  ·rw [if_pos h]
   by_cases e:p.1=j
   ·rw [aql (p:=(p.1,y)) e,aql e,Option.map_some,if_pos (e.symm.trans h)]
   ·rw [aqm (p:=(p.1,y)) e,aqm e,ih]
  ·rw [if_neg h]
   by_cases e:p.1=j
   ·rw [aql (p:=p) e,aql e,Option.map_some,if_neg (fun z=>h (e.trans z))]
   ·rw [aqm (p:=p) e,aqm e,ih]
theorem aVm (k j:κ) (y:V):∀ kvs:List (κ × V),aqsr kvs k=none->aqsr (kvs++[(k,y)]) j=if j=k then some y else aqsr kvs j
 | [],_=>by
  by_cases e:k=j
  ·rw [if_pos e.symm]; exact aql (p:=(k,y)) e
  ·rw [if_neg (fun z=>e z.symm)]; exact aqm (p:=(k,y)) e
 | p :: r,hn=>by
  rw [List.cons_append];have hk:¬ p.1=k:=fun z=>by rw [aql z] at hn; cases hn
  rw [aqm hk] at hn;have ih:=aVm k j y r hn
  by_cases e:p.1=j
  ·rw [aql e,aql e,if_neg (fun z=>hk (e.trans z))]
  ·rw [aqm e,aqm e,ih]
theorem aW5 (kvs:List (κ × V)) (k j:κ) (y:V):aqsr (aqt7 kvs k y) j=if j=k then some y else aqsr kvs j:=by
 unfold aqt7
 by_cases a:(kvs.any fun kv=>decide (kv.1=k))=true
 ·rw [if_pos a,aW6]
  rw [axf] at a
  by_cases e:j=k
  ·obtain ⟨x,hx⟩:=Im.mp a
   rw [if_pos e,e,hx,Option.map_some,if_pos rfl]
  ·rw [if_neg e]
   cases aqsr kvs j with
   | none=>rfl
   | some x=>rw [Option.map_some,if_neg e]
 ·rw [if_neg a]
  refine aVm k j y kvs ?_;rw [axf] at a;cases q:aqsr kvs k with
  | none=>rfl
  | some x=>rw [q] at a; exact (a rfl).elim
theorem avh (kvs:List (κ × V)) (k:κ) (v:V):(aqt7 kvs k v).length <= kvs.length + 1:=by
 unfold aqt7;split
 ·rw [length_map]; omega
 ·rw [length_append,length_cons,List.length_nil]; omega
theorem aqub.isSome_eq {o:Option V} {u:Option Value} (r:aqub o u):o.isSome=u.isSome:=by
 cases o with
 | none=>cases u with
  | none=>rfl
  | some _=>exact (show False from r).elim
 | some _=>cases u with
  | none=>exact (show False from r).elim
  | some _=>rfl
theorem aqub.getD {o:Option V} {u:Option Value} {d:V} {d':Value} (r:aqub o u) (rd:RelV d d'):RelV (o.getD d) (u.getD d'):=by
 cases o with
 | none=>cases u with
  | none=>exact rd
  | some _=>exact (show False from r).elim
 | some _=>cases u with
  | none=>exact (show False from r).elim
  | some _=>exact r
theorem KV.val {kvs:List (κ × V)} {vs:List (κ × Value)} (r:KV kvs vs) (k:κ):aqub (aqsr kvs k) (Ko vs k):=by
 unfold KV at r
 induction r with
 | nil=>exact True.intro
 | @cons p q ps qs h t ih =>
  obtain ⟨h1,h2⟩:=h
  by_cases e:p.1=k
  ·have e':q.1=k:=h1.symm.trans e
   have b:Ko (q :: qs) k=some q.2:=by simp [Ko,find?_cons,e']
   rw [aql e,b]; exact h2
  ·have e':¬ q.1=k:=fun z=>e (h1.trans z)
   have b:Ko (q :: qs) k=Ko qs k:=by simp [Ko,find?_cons,e']
   rw [aqm e,b]; exact ih
theorem KV.any {kvs:List (κ × V)} {vs:List (κ × Value)} (r:KV kvs vs) (k:κ):(kvs.any fun kv=>decide (kv.1=k))=vs.any fun kv=>decide (kv.1=k):=by
 unfold KV at r
 induction r with
 | nil=>rfl
 | cons h t ih=>rw [any_cons,any_cons,ih,h.1]
theorem KV.repl {kvs:List (κ × V)} {vs:List (κ × Value)} (r:KV kvs vs) (k:κ) {y:V} {u:Value} (ry:RelV y u) :
  KV (kvs.map fun kv=>if kv.1=k then (kv.1,y) else kv) (vs.map fun kv=>if kv.1=k then (kv.1,u) else kv):=by
 unfold KV at r ⊢
 induction r with
 | nil=>exact .nil
 | @cons p q ps qs h t ih =>
  rw [map_cons,map_cons];refine .cons ?_ ih;obtain ⟨h1,h2⟩:=h
  by_cases e:p.1=k
  ·rw [if_pos e,if_pos (h1.symm.trans e)]; exact ⟨h1,ry⟩
  ·rw [if_neg e,if_neg (fun z=>e (h1.trans z))]; exact ⟨h1,h2⟩
theorem KV.put {kvs:List (κ × V)} {vs:List (κ × Value)} (r:KV kvs vs) (k:κ) {y:V} {u:Value} (ry:RelV y u):KV (aqt7 kvs k y) (stored vs k u):=by
 unfold aqt7 stored;rw [r.any k]
 by_cases e:(vs.any fun kv=>decide (kv.1=k))=true
 ·rw [if_pos e,if_pos e]; exact r.repl k ry
 ·rw [if_neg e,if_neg e]; exact Paired.snoc r ⟨rfl,ry⟩
theorem KV.drop {kvs:List (κ × V)} {vs:List (κ × Value)} (r:KV kvs vs) (k:κ):KV (aqct kvs k) (without vs k):=by
 unfold KV at r ⊢;unfold aqct without
 induction r with
 | nil=>exact .nil
 | @cons p q ps qs h t ih =>
  obtain ⟨h1,h2⟩:=h;rw [filter_cons,filter_cons]
  by_cases e:p.1=k
  ·have a:¬ decide (p.1 ≠ k)=true:=by simp [e]
   have b:¬ decide (q.1 ≠ k)=true:=by simp [h1.symm.trans e]
   rw [if_neg a,if_neg b]; exact ih
  ·have e':¬ q.1=k:=fun z=>e (h1.trans z)
   have a:decide (p.1 ≠ k)=true:=by simp [e]
   have b:decide (q.1 ≠ k)=true:=by simp [e']
   rw [if_pos a,if_pos b]; exact .cons ⟨h1,h2⟩ ih
theorem KV.length {kvs:List (κ × V)} {vs:List (κ × Value)} (r:KV kvs vs):kvs.length=vs.length:=Paired.length r
theorem aqj9 (kvs:List (κ × V)) (k:κ):(aqct kvs k).length <= kvs.length:=length_filter_le _ _
end
theorem aqk0 {P:Ak} {w:World} {k:Key} {u:Value} (r:RelV (kV k) u):(aqj P w).is k u=true:=by
 cases k with
 | inl i=>obtain ⟨t,e⟩:=(show ∃ t,u=Value.int i t from r); subst e; exact aWk P w i t
 | inr x=>obtain ⟨t,e⟩:=(show ∃ t,u=Value.str x t from r); subst e; exact aWj P w x t
theorem aKi {P:Ak} {w:World}:∀ {ks:List Key} {us:List Value},aqu8 (ks.map kV) us->ItemsAre (aqj P w) ks us
 | [],_,r=>by rw [map_nil] at r; cases r; exact .nil
 | k :: ks,_,r=>by
  rw [map_cons] at r;cases r with
  | cons h t=>exact .cons (aqk0 h) (aKi t)
abbrev KT (H:Hp):List (List Key × V)->List (List Key × Addr × Value)->Prop:=Paired fun p q=>p.1=q.1/\H q.2.1=some (.tup (p.1.map kV))/\RelV p.2 q.2.2
theorem KT.val {H:Hp} {kvs:List (List Key × V)} {xs:List (List Key × Addr × Value)} (r:KT H kvs xs) (k:List Key):aqub (aqsr kvs k) ((atKey xs k).map (·.2)):=by
 induction r with
 | nil=>exact True.intro
 | @cons p q ps qs h t ih =>
  obtain ⟨h1,_,h2⟩:=h
  by_cases e:p.1=k
  ·have e':q.1=k:=h1.symm.trans e
   have b:atKey (q :: qs) k=some q.2:=by simp [atKey,find?_cons,e']
   rw [aql e,b]; exact h2
  ·have e':¬ q.1=k:=fun z=>e (h1.trans z)
   have b:atKey (q :: qs) k=atKey qs k:=by simp [atKey,find?_cons,e']
   rw [aqm e,b]; exact ih
theorem KT.repl {H:Hp} {kvs:List (List Key × V)} {xs:List (List Key × Addr × Value)} (r:KT H kvs xs) (k:List Key) {y:V} {u:Value} (ry:RelV y u) :
  KT H (kvs.map fun kv=>if kv.1=k then (kv.1,y) else kv) (xs.map (putAt k u)):=by
 induction r with
 | nil=>exact .nil
 | @cons p q ps qs h t ih =>
  rw [map_cons,map_cons];refine .cons ?_ ih;obtain ⟨h1,h2,h3⟩:=h;unfold putAt
  by_cases e:p.1=k
  ·rw [if_pos e,if_pos (h1.symm.trans e)]; exact ⟨h1,h2,ry⟩
  ·rw [if_neg e,if_neg (fun z=>e (h1.trans z))]; exact ⟨h1,h2,h3⟩
theorem KT.put {H:Hp} {kvs:List (List Key × V)} {xs:List (List Key × Addr × Value)} (r:KT H kvs xs) (k:List Key) {b:Addr} {y:V} {u:Value} (hb:H b=some (.tup (k.map kV))) (ry:RelV y u) :
  KT H (aqt7 kvs k y) (storedH xs k b u):=by
 have e:(kvs.any fun kv=>decide (kv.1=k))=(atKey xs k).isSome:=by
  rw [axf,(r.val k).isSome_eq,isSome_map]
 unfold aqt7 storedH;rw [e]
 by_cases q:(atKey xs k).isSome=true
 ·rw [if_pos q,if_pos q]; exact r.repl k ry
 ·rw [if_neg q,if_neg q]; exact Paired.snoc r ⟨rfl,hb,ry⟩
theorem KT.keeps {H H':Hp} {kvs:List (List Key × V)} {xs:List (List Key × Addr × Value)} (r:KT H kvs xs) (ht:∀ b ys,H b=some (.tup ys)->H' b=some (.tup ys)):KT H' kvs xs :=
 Paired.mapP r fun _ _ z=>⟨z.1,ht _ _ z.2.1,z.2.2⟩
section
variable {P:Ak} {w:World} {H:Hp} {h:Heap} {a:Addr}
theorem rd_of {u:HO} (ok:HOk P w H h) (e:Rd H a u):azn P w H h a u:=e.ok ok
theorem aqjb {kvs:List (Key × V)} (ok:HOk P w H h) (e:Rd H a (.dK kvs)):kvs.length <= Aj/\(a == Bi)=false/\∃ vs,KV kvs vs/\h.DictOf (aqj P w) a vs :=
 show azn P w H h a (.dK kvs) from rd_of ok e
theorem dk_of {kvs:List (Key × V)} (ok:HOk P w H h) (e:H a=some (.dK kvs)):kvs.length <= Aj/\(a == Bi)=false/\∃ vs,KV kvs vs/\h.DictOf (aqj P w) a vs:=aqjb ok (.inl e)
theorem aZq {ks:List Key} (ok:HOk P w H h) (e:H a=some (.tup (ks.map kV))):(Fc (aqj P w)).is h ks a:=by
 obtain ⟨_,its,r,o,h1,h2,n,h3⟩:=(show azn P w H h a (.tup (ks.map kV)) from ok a _ e);exact ⟨o,its.toArray,n,h1,h2,h3,by simpa using aKi r⟩
theorem aqj3 {kvs:List (List Key × V)} (ok:HOk P w H h) (e:Rd H a (.dT kvs)):kvs.length <= Aj/\(a == Bi)=false /\
  ∃ xs,KT H kvs xs/\h.DictOfH (Fc (aqj P w)) a xs:=by
 obtain ⟨z,y,xs,r,o,es,ep,h1,h2,h3,h4,h5⟩:=(show azn P w H h a (.dT kvs) from rd_of ok e);refine ⟨z,y,xs,r,o,es,ep,h1,h2,h3,h4,fun x hx=>?_,h5⟩;have all:∀ {l:List (List Key × V)} {m:List (List Key × Addr × Value)},KT H l m->∀ x∈m,(Fc (aqj P w)).is h x.1 x.2.1:=by
  intro l m q
  induction q with
  | nil=>intro x hx; exact nomatch hx
  | @cons p q ps qs hq t ih =>
   intro x hx;rcases Al.mp hx with e | hx
   ·subst e
    exact aZq ok (by rw [<- hq.1]; exact hq.2.1)
   ·exact ih x hx
 exact all r x hx
theorem dt_of {kvs:List (List Key × V)} (ok:HOk P w H h) (e:H a=some (.dT kvs)):kvs.length <= Aj/\(a == Bi)=false /\
  ∃ xs,KT H kvs xs/\h.DictOfH (Fc (aqj P w)) a xs:=aqj3 ok (.inl e)
end
def aqui (H:Hp) (a:Addr) (y:V) (r:Option V):Prop :=
 (∃ kvs k,Rd H a (.dK kvs)/\y=kV k/\r=aqsr kvs k) \/ ∃ kvs k b,Rd H a (.dT kvs)/\y=.ref b/\H b=some (.tup (k.map kV))/\r=aqsr kvs k
def DPut (H:Hp) (a:Addr) (y v:V) (H':Hp):Prop :=
 (∃ kvs k,H a=some (.dK kvs)/\y=kV k/\kvs.length < Aj/\H'=upd H a (.dK (aqt7 kvs k v))) \/
 ∃ kvs k b,H a=some (.dT kvs)/\y=.ref b/\H b=some (.tup (k.map kV))/\kvs.length < Aj/\H'=upd H a (.dT (aqt7 kvs k v))
theorem aqui.t {H:Hp} {a b:Addr} {kvs:List (List Key × V)} {k:List Key} (e:H a=some (.dT kvs)) (eb:H b=some (.tup (k.map kV))):aqui H a (.ref b) (aqsr kvs k):=.inr ⟨kvs,k,b,.inl e,rfl,eb,rfl⟩
theorem DPut.t {H:Hp} {a b:Addr} {kvs:List (List Key × V)} {k:List Key} {v:V} (e:H a=some (.dT kvs)) (eb:H b=some (.tup (k.map kV))) (hl:kvs.length < Aj) :
  DPut H a (.ref b) v (upd H a (.dT (aqt7 kvs k v))):=.inr ⟨kvs,k,b,e,rfl,eb,hl,rfl⟩
section
variable {X:Cx} {pins:List (Addr × Obj)} {σ:St} {H:Hp} {s:Shared} {a:Addr} {y v:V} {u r:Value} {o:Option V} {A:Around} {E:Value->Shared->Prop}
theorem Inv.big (I:Inv X pins σ H s):Bi < s.heap.objs.size:=by
 have h:Aq < s.heap.objs.size:=(I.mod.glob.keeps I.bk).lt;exact lt_trans (by decide) h
theorem aqel {Q:Value->Shared->Prop} (hu:A.units + 1 < cLine) (I:Inv X pins σ H s) (g:aqui H a y (some v)) (ry:RelV y u) (h:∀ w' s',Inv X pins σ H s'->RelV v w'->Q w' s') :
  wpAny (model X.prog X.w) A (Lo (.ref a) u) Q E s:=by
 rcases g with ⟨kvs,k,e,ey,l⟩ | ⟨kvs,k,b,e,ey,eb,l⟩
 ·subst ey
  obtain ⟨z,hd,vs,rel,dd⟩:=aqjb I.hok e;obtain ⟨w',hw,rw'⟩:=aqub.some_of (v:=v) (o:=Ko vs k) (by rw [l]; exact rel.val k);exact wpAny_getItem_of (aqk0 ry) dd.mapOf hw (h w' _ (I.tok _) rw')
 ·subst ey
  cases (show u=Value.ref b from ry);obtain ⟨z,hd,xs,rel,dd⟩:=aqj3 I.hok e;obtain ⟨w',hw,rw'⟩:=aqub.some_of (v:=v) (o:=(atKey xs k).map (·.2)) (by rw [l]; exact rel.val k);obtain ⟨p,hp,hp2⟩:=D7.mp hw;refine wpAny_getItem_heap (Cj hu) (aZq I.hok eb) dd hp ?_;rw [hp2];exact h w' _ (I.tok _) rw'
theorem d_in {Q:Value->Shared->Prop} (hu:A.units + 1 < cLine) (I:Inv X pins σ H s) (g:aqui H a y o) (ry:RelV y u) (h:∀ s',Inv X pins σ H s'->Q (.bool o.isSome) s') :
  wpAny (model X.prog X.w) A (Bm .In u (.ref a)) Q E s:=by
 rcases g with ⟨kvs,k,e,ey,l⟩ | ⟨kvs,k,b,e,ey,eb,l⟩
 ·subst ey
  obtain ⟨z,hd,vs,rel,dd⟩:=aqjb I.hok e;refine wpAny_in_of (aqk0 ry) hd dd.mapOf ?_;rw [<- (rel.val k).isSome_eq,<- l];exact h _ (I.tok _)
 ·subst ey
  cases (show u=Value.ref b from ry);obtain ⟨z,hd,xs,rel,dd⟩:=aqj3 I.hok e;refine wpAny_in_heap (Cj hu) (aZq I.hok eb) hd dd ?_;have q:=(rel.val k).isSome_eq;rw [isSome_map] at q;rw [<- q,<- l];exact h _ (I.tok _)
theorem aqn2 {Q:Value->Shared->Prop} (hu:A.units + 1 < cLine) (I:Inv X pins σ H s) (g:aqui H a y o) (ry:RelV y u) (h:∀ s',Inv X pins σ H s'->Q (.bool (!o.isSome)) s') :
  wpAny (model X.prog X.w) A (Bm .NotIn u (.ref a)) Q E s:=by
 rcases g with ⟨kvs,k,e,ey,l⟩ | ⟨kvs,k,b,e,ey,eb,l⟩
 ·subst ey
  obtain ⟨z,hd,vs,rel,dd⟩:=aqjb I.hok e;refine wpAny_notIn_of (aqk0 ry) hd dd.mapOf ?_;rw [<- (rel.val k).isSome_eq,<- l];exact h _ (I.tok _)
 ·subst ey
  cases (show u=Value.ref b from ry);obtain ⟨z,hd,xs,rel,dd⟩:=aqj3 I.hok e;refine wpAny_notIn_heap (Cj hu) (aZq I.hok eb) hd dd ?_;have q:=(rel.val k).isSome_eq;rw [isSome_map] at q;rw [<- q,<- l];exact h _ (I.tok _)
theorem aqbu {h':Heap} {t':Nat} {ob:HO} (I:Inv X pins σ H s) (mu:Mut (H a)) (hs:Heap.SameBut a s.heap h') (he:∃ q,h'.get? a=some q) (new:azn X.prog X.w (upd H a ob) h' a ob) :
  Inv X pins σ (upd H a ob) { s with heap:=h',toks:=t' } :=
 I.write (x:=a) (e:=a) mu (.inl rfl) (fun b q hb z=>(hs.2 b hb).trans z) he new
theorem aqpu {P:Ak} {w:World} {H':Hp} {h':Heap} {kvs:List (Key × V)} {vs:List (Key × Value)} (z:kvs.length <= Aj) (hd:(a == Bi)=false) (rel:KV kvs vs) (dd:h'.DictOf (aqj P w) a vs) :
  azn P w H' h' a (.dK kvs):=⟨z,hd,vs,rel,dd⟩
theorem aqek {H':Hp} {Q:Unit->Shared->Prop} (hu:A.units + 1 < cLine) (I:Inv X pins σ H s) (g:DPut H a y v H') (ry:RelV y u) (rv:RelV v r) (h:∀ s',Inv X pins σ H' s'->Q () s') :
  wpAny (model X.prog X.w) A (setItem (.ref a) u r) Q E s:=by
 rcases g with ⟨kvs,k,e,ey,l,eH⟩ | ⟨kvs,k,b,e,ey,eb,l,eH⟩
 ·subst ey eH
  obtain ⟨z,hd,vs,rel,dd⟩:=dk_of I.hok e;have hz:vs.length <= Aj:=by rw [<- rel.length]; exact z
  have hl:(aqt7 kvs k v).length <= Aj:=by have:=avh kvs k v; omega
  refine wpAny_setItem_pairs (hsz:=hz) (aqk0 ry) dd fun h' dd' hs=>h _ ?_;have he:∃ q,h'.get? a=some q:=let ⟨q,_,_,hq,_⟩:=dd'; ⟨q,hq⟩;exact aqbu I (by rw [e]; exact True.intro) hs he (aqpu hl hd (rel.put k rv) dd')
 ·subst ey eH
  cases (show u=Value.ref b from ry);obtain ⟨z,hd,xs,rel,dd⟩:=dt_of I.hok e;have hz:xs.length <= Aj:=by rw [<- Paired.length rel]; exact z
  have hl:(aqt7 kvs k v).length <= Aj:=by have:=avh kvs k v; omega
  refine wpAny_setItem_heap (hsz:=hz) (Cj hu) (aZq I.hok eb) dd fun h' dd' hs=>h _ ?_;obtain ⟨q,es,ep,hq,h2,h3,h4,_,h5⟩:=dd';refine aqbu I (by rw [e]; exact True.intro) hs ⟨q,hq⟩ ⟨hl,hd,_,(rel.put k eb rv).keeps fun c ys ec=>?_,q,es,ep,hq,h2,h3,h4,h5⟩;rw [ae (azh ec e (fun z=>nomatch z))];exact ec
end
section
variable {X:Cx} {pins:List (Addr × Obj)} {σ:St} {H:Hp} {s:Shared} {a:Addr} {kvs:List (Key × V)} {k:Key} {u:Value} {A:Around} {E:Value->Shared->Prop}
end
def NoSl (i:Expr):Prop:=∀ ov iv,J4 i false ov iv=operate [ov,iv] (Lo ov iv)
theorem aqki {prog:Ak} {w:World} {A:Around} {E:Value->Shared->Prop} {s:Shared} {env:Env} {value slice:Expr} {pos:Pos} {T id:String} {Q:Value->Shared->Prop}
  (hl:K7 (.type T) "__getitem__"=pure (some (.builtin id))) (hs:NoSl slice)
  (h:wpAny (model prog w) A (eval value env) (fun o s₁=>wpAny (model prog w) A (eval slice env) (fun i s₂=>s₂.TypeIs o T/\wpAny (model prog w) A (Lo o i) Q E s₂) E s₁) E s) :
  wpAny (model prog w) A (eval (.Subscript value slice pos) env) Q E s:=by
 refine Subscript_ (Bj h (fun o s₁ h₁=>Bj h₁ (fun i s₂ h₂=>?_) fun _ _ x=>x) fun _ _ x=>x);obtain ⟨hT,h₂⟩:=h₂;unfold Kv;refine Ac ?_;rw [getitemInPython_of_ne hT.not_modules];refine Ac (Gx hT hl ?_);have fin:wpAny (model prog w) A (J4 slice false o i) (fun r s₃=>wpAny (model prog w) A (letTemporaryGo value o r >>= fun _=>pure r) Q E s₃) E s₂:=by
  rw [hs o i];exact wpAny_operating (Bj h₂ (fun r s₃ h₃=>Ac (wpAny_letTemporaryGo (Ad h₃))) fun _ _ x=>x)
 first
  | exact Ad (Ac fin)
  | exact Ac (Ad (Ac fin))
  | exact Ac fin
theorem aWo {X:Cx} {pins:List (Addr × Obj)} {σ:St} {H:Hp} {s:Shared} {a:Addr} {y:V} {o:Option V} (I:Inv X pins σ H s) (g:aqui H a y o):s.TypeIs (.ref a) "dict":=by
 rcases g with ⟨kvs,k,e,_,_⟩ | ⟨kvs,k,b,e,_,_,_⟩
 ·obtain ⟨_,_,vs,_,dd⟩:=aqjb I.hok e
  exact dd.typeIs
 ·obtain ⟨_,_,xs,_,dd⟩:=aqj3 I.hok e
  exact dd.typeIs
def aqjv (td ty:TE):TE:=fun σ H Q=>td σ H fun x H1=>ty σ H1 fun y H2=>∃ a v,x=.ref a/\aqui H2 a y (some v)/\Q v H2
def tDIn (ty td:TE):TE:=fun σ H Q=>ty σ H fun y H1=>td σ H1 fun x H2=>∃ a o,x=.ref a/\aqui H2 a y o/\Q (.bl o.isSome) H2
def tDNotIn (ty td:TE):TE:=fun σ H Q=>ty σ H fun y H1=>td σ H1 fun x H2=>∃ a o,x=.ref a/\aqui H2 a y o/\Q (.bl (!o.isSome)) H2
def sDPut (td ty tv:TE):TS:=fun D σ H=>tv σ H fun v H1=>td σ H1 fun x H2=>ty σ H2 fun y H3=>∃ a H4,x=.ref a/\DPut H3 a y v H4/\D.nx σ H4
section
variable {X:Cx} {o i e value:Expr} {pos pos' tpos:Pos} {td ty tv:TE}
theorem aJv (hu:X.A.units + 1 < cLine) (ho:PE X o td) (hi:PE X i ty) (hs:NoSl i):PE X (.Subscript o i pos) (aqjv td ty):=by
 intro pins s σ H Q I h;refine aqki PySem.F.slot_dict_getitem.lookup hs (thn (ho pins s σ H _ I h) fun u s1 ⟨x,H1,I1,rx,q1⟩=>thn (hi pins s1 σ H1 _ I1 q1) fun iv s2 hQ=>?_);obtain ⟨y,H2,I2,ry,a,v,ex,g,q2⟩:=hQ;subst ex;obtain rfl:u=Value.ref a:=rx;exact ⟨aWo I2 g,aqel hu I2 g ry fun w' s3 I3 rw'=>⟨v,H2,I3,rw',q2⟩⟩
theorem aql7 (hu:X.A.units + 1 < cLine) (hi:PE X i ty) (ho:PE X o td):PC X .In i o (tDIn ty td):=by
 intro pins s σ H Q I h;refine thn (hi pins s σ H _ I h) fun iv s1 ⟨y,H1,I1,ry,q1⟩=>thn (ho pins s1 σ H1 _ I1 q1) fun u s2 hQ=>?_;obtain ⟨x,H2,I2,rx,a,ov,ex,g,q2⟩:=hQ;subst ex;obtain rfl:u=Value.ref a:=rx;exact d_in hu I2 g ry fun s3 I3=>⟨.bl ov.isSome,H2,I3,rfl,q2⟩
theorem aqdo (hu:X.A.units + 1 < cLine) (hi:PE X i ty) (ho:PE X o td):PC X .NotIn i o (tDNotIn ty td):=by
 intro pins s σ H Q I h;refine thn (hi pins s σ H _ I h) fun iv s1 ⟨y,H1,I1,ry,q1⟩=>thn (ho pins s1 σ H1 _ I1 q1) fun u s2 hQ=>?_;obtain ⟨x,H2,I2,rx,a,ov,ex,g,q2⟩:=hQ;subst ex;obtain rfl:u=Value.ref a:=rx;exact aqn2 hu I2 g ry fun s3 I3=>⟨.bl (!ov.isSome),H2,I3,rfl,q2⟩
theorem aJt (hu:X.A.units + 1 < cLine) (ho:PE X o td) (hi:PE X i ty) (hv:PE X value tv) (hs:Hc value (some (.Subscript o i pos')) pos.line X.env=pure false) :
  PS X (.Assign [.Subscript o i pos'] value pos) (sDPut td ty tv):=by
 intro pins s σ H D I h;refine wpAny_Assign_Subscript (thn (hv pins s σ H _ I h) fun r s1 ⟨v,H1,I1,rv,q1⟩=>thn (ho pins s1 σ H1 _ I1 q1) fun u s2 ⟨x,H2,I2,rx,q2⟩=>thn (hi pins s2 σ H2 _ I2 q2) fun iv s3 hQ=>?_) hs;obtain ⟨y,H3,I3,ry,a,H4,ex,g,q3⟩:=hQ;subst ex;obtain rfl:u=Value.ref a:=rx;exact aqek hu I3 g ry rv fun s4 I4=>⟨σ,H4,I4,q3⟩
end
theorem aqj4 {P:Ak} {w:World} {H:Hp} (h:Heap) (hb:Bi < h.objs.size):azn P w H (h.push { cls:=.type "dict",data:=.dict #[] }) h.objs.size (.dT []) :=
 ⟨zero_le _,beq_eq_false_iff_ne.mpr (B4 (ne_of_lt hb)),[],.nil,_,#[],0,Ag _ rfl,⟨rfl,rfl,rfl⟩,rfl,rfl,nodup_nil⟩
def tDNewT:TE:=fun _ H Q=>∀ p,H p=none->Q (.ref p) (upd H p (.dT []))
section
variable {X:Cx} {pos:Pos}
theorem aQu:PE X (.Dict [] [] pos) tDNewT:=fun pins s σ H Q I h =>
 wpAny_Dict_empty ⟨.ref s.heap.objs.size,_,I.laid (a:=s.heap.objs.size) (o:=.dT []) (t':=s.toks) (fun _ _ q=>Ae _ q) (le_refl _) (aqj4 s.heap I.big),rfl,h _ (I.hok.fresh (le_refl _))⟩
end
structure M1 (X:Cx) (o:Expr) (m:Str) (apos:Pos) (e:Expr) (cpos:Pos):Prop where
 base:Ee o m X.env (eval o X.env)=eval o X.env
 few:((C1 cpos (Ap [e] X.env)).all (fun x=>!x.1) && (Ln cpos (Ib [] X.env)).all (fun x=>x.1.isSome)
  && decide (([e]:List Expr).length + ([]:List Kl).length + (if ([]:List Kl).isEmpty then 0 else 1) < 30))=true
 line:(apos.endLine == cpos.line)=true
 trees:C1 cpos (Ap [e] X.env)=[(false,eval e X.env)]
structure M2 (X:Cx) (o:Expr) (m:Str) (apos:Pos) (e f:Expr) (cpos:Pos):Prop where
 base:Ee o m X.env (eval o X.env)=eval o X.env
 few:((C1 cpos (Ap [e,f] X.env)).all (fun x=>!x.1) && (Ln cpos (Ib [] X.env)).all (fun x=>x.1.isSome)
  && decide (([e,f]:List Expr).length + ([]:List Kl).length + (if ([]:List Kl).isEmpty then 0 else 1) < 30))=true
 line:(apos.endLine == cpos.line)=true
 trees:C1 cpos (Ap [e,f] X.env)=[(false,eval e X.env),(false,eval f X.env)]
def IsD (H:Hp) (a:Addr):Prop:=(∃ kvs,Rd H a (.dK kvs)) \/ ∃ kvs,Rd H a (.dT kvs)
theorem aqim {X:Cx} {pins:List (Addr × Obj)} {σ:St} {H:Hp} {s:Shared} {a:Addr} (I:Inv X pins σ H s) (d:IsD H a) :
  s.TypeIs (.ref a) "dict"/\(∀ b,Value.ref a=.ref b->∃ ob,s.heap.get? b=some ob/\ob.dict=none)/\(a == Bi)=false:=by
 rcases d with ⟨kvs,e⟩ | ⟨kvs,e⟩
 ·obtain ⟨_,hd,vs,_,dd⟩:=aqjb I.hok e
  refine ⟨dd.typeIs,fun b q=>?_,hd⟩;cases q;obtain ⟨ob,_,_,h1,h2,_⟩:=dd;exact ⟨ob,h1,h2.2.1⟩
 ·obtain ⟨_,hd,xs,_,dd⟩:=aqj3 I.hok e
  refine ⟨dd.typeIs,fun b q=>?_,hd⟩;cases q;obtain ⟨ob,_,_,h1,h2,_⟩:=dd;exact ⟨ob,h1,h2.2.1⟩
section
variable {X:Cx} {pins:List (Addr × Obj)} {σ:St} {H:Hp} {s:Shared} {a:Addr} {y d:V} {u r:Value} {o:Option V} {A:Around} {E:Value->Shared->Prop}
theorem aqpw {Q:Value->Shared->Prop} (hu:A.units + 1 < cLine) (I:Inv X pins σ H s) (g:aqui H a y o) (ry:RelV y u) (rd:RelV d r) (h:∀ w' s',Inv X pins σ H s'->RelV (o.getD d) w'->Q w' s') :
  wpAny (model X.prog X.w) A (call (.builtin "dict.get") [.ref a,u,r]) Q E s:=by
 rcases g with ⟨kvs,k,e,ey,l⟩ | ⟨kvs,k,b,e,ey,eb,l⟩
 ·subst ey
  obtain ⟨z,hd,vs,rel,dd⟩:=aqjb I.hok e;refine call_meetsIn Fw dd.typeIs Jh (Iw _ _ _) (meets_dict_get_default (aqj X.prog X.w) a (aqk0 ry) hd r) ⟨_,dd.mapOf,h _ _ (I.tok _) ?_⟩;rw [l];exact (rel.val k).getD rd
 ·subst ey
  cases (show u=Value.ref b from ry);obtain ⟨z,hd,xs,rel,dd⟩:=aqj3 I.hok e;refine call_meetsIn Fw dd.typeIs Jh (Iw _ _ _) (meetsH_dict_get_default (Fc (aqj X.prog X.w)) a b hd r) ⟨Cj hu,k,xs,aZq I.hok eb,dd,h _ _ (I.tok _) ?_⟩;rw [l];exact (rel.val k).getD rd
end
def aqkf (td ty tx:TE):TE:=fun σ H Q=>td σ H fun x H1=>∃ a,x=.ref a/\IsD H1 a/\ty σ H1 fun y H2=>tx σ H2 fun z H3=>∃ o,aqui H3 a y o/\Q (o.getD z) H3
section
variable {X:Cx} {o e f:Expr} {apos cpos:Pos} {td ty tx:TE}
theorem akp (hu:X.A.units + 1 < cLine) (ho:PE X o td) (he:PE X e ty) (hf:PE X f tx) (m:M2 X o "get" apos e f cpos):PE X (.Call (.Attribute o "get" apos) [e,f] [] cpos) (aqkf td ty tx):=by
 intro pins s σ H Q I h;refine Fp m.base m.few m.line Dw Fw PySem.F.type_dict_get (thn (ho pins s σ H _ I h) fun u s1 hQ=>?_);obtain ⟨x,H1,I1,rx,a,ex,d,q1⟩:=hQ;subst ex;obtain rfl:u=Value.ref a:=rx;obtain ⟨t1,t2,_⟩:=aqim I1 d;refine ⟨t1,t2,?_⟩;rw [m.trees];refine Ct rfl (Eu (B8 (thn (he pins s1 σ H1 _ I1 q1) fun iv s2 ⟨y,H2,I2,ry,q2⟩ =>
  B8 (thn (hf pins s2 σ H2 _ I2 q2) fun fv s3 ⟨z,H3,I3,rz,ov,g,q3⟩=>Di ?_))))
 exact aqpw hu I3 g ry rz fun w' s4 I4 rw'=>⟨_,H3,I4,rw',q3⟩
end
section
variable {X:Cx} {pins:List (Addr × Obj)} {σ:St} {H:Hp} {s:Shared} {a:Addr} {kvs:List (Key × V)} {A:Around} {E:Value->Shared->Prop}
end
section
variable {X:Cx} {pins:List (Addr × Obj)} {σ:St} {H:Hp} {s:Shared} {a:Addr} {y:V} {u:Value} {A:Around} {E:Value->Shared->Prop}
end
end L2
namespace DL
open PySem PySem.W PyProof.Rows PySem.SeqAt MeetsSeq MeetsSeq2 MeetsSeq3 PySem.Spec
open AutoSeq1 (wpAny_loadPart')
theorem aqbb:∀ {vs:List Value} {ns:List Int} {i:Nat} {n:Int},IntsAre vs ns->ns[i]?=some n->∃ t,vs[i]?=some (.int n t)
 | _,_,_,_,.nil,h=>by simp at h
 | _,_,0,_,.cons n t _,h=>by simp at h; subst h; exact ⟨t,by simp⟩
 | _,_,i + 1,_,.cons n t r,h=>by
  obtain ⟨u,hu⟩:=aqbb (i:=i) r (by simpa using h);exact ⟨u,by simpa using hu⟩
theorem aqie {a b:List Int} {i:Nat} (h:i=a.length \/ i=b.length) (h1:i <= a.length) (h2:i <= b.length):aqth (a.drop i) (b.drop i)=decide (a.length < b.length):=by
 rcases h with h | h
 ·rw [drop_of_length_le (by omega)]
  cases q:b.drop i with
  | nil =>
   have:=congrArg List.length q
   simp at this;simp [aqth]; omega
  | cons x r =>
   have:=congrArg List.length q
   simp at this;simp [aqth]; omega
 ·rw [drop_of_length_le (l:=b) (by omega)]
  have:aqth (a.drop i) []=false:=by cases a.drop i <;> rfl
  rw [this]
  simp; omega
theorem aqm1 {a b:List Int} {i:Nat} {x y:Int} (hx:a[i]?=some x) (hy:b[i]?=some y):aqth (a.drop i) (b.drop i)=(decide (x < y) || (decide (x=y) && aqth (a.drop (i + 1)) (b.drop (i + 1)))):=by
 obtain ⟨h1,e1⟩:=Ai.mp hx;obtain ⟨h2,e2⟩:=Ai.mp hy;rw [Dc h1,Dc h2,e1,e2];rfl
end DL
namespace DL
open PySem PySem.Spec PyProof.Rows L2
section
variable {X:Cx} {K:Frag}
theorem aKe:∀ {ds:List D} {ns:List Int},ds.mapM kInt=some ns->ds=ns.map D.int
 | [],ns,h=>by simp at h; subst h; rfl
 | d :: ds,ns,h=>by
  rw [mapM_cons] at h;obtain ⟨n,hn,h⟩:=bind_some h;obtain ⟨r,hr,h⟩:=bind_some h;cases h;cases d <;> cases hn;rw [aKe hr]; rfl
theorem aJ4 {d:D} {ns:List Int} (h:aqma d=some ns):d=.lst (ns.map D.int):=by
 cases d <;> first | (cases h; done) | skip
 rw [aKe h]
end
end DL
namespace DL
open PySem PySem.W PyProof.Rows PySem.SeqAt MeetsSeq MeetsSeq2 MeetsSeq3 PySem.Spec
open AutoSeq1 (wpAny_loadPart')
theorem aqcy (l b:Addr) (its its2:List Value) (ns ms:List Int) (n n2:Nat) (dd dd2:Option Addr) (sl sl2:Array (Option Value)) (ia:IntsAre its ns) (ib:IntsAre its2 ms) :
  Meets (Builtin.«tuple.__lt__» ⟨[.ref l,.ref b],[]⟩)
   (fun A R s=>s.heap.get? l=some { cls:=.type "tuple",dict:=dd,data:=.seq its.toArray n,slots:=sl }/\s.heap.get? b=some { cls:=.type "tuple",dict:=dd2,data:=.seq its2.toArray n2,slots:=sl2 }/\R (.ok (.ret (.bool (aqth ns ms)))) s) :=
 .of_wp fun prog w A R s h=>by
  obtain ⟨hp,g,d,tk,os⟩:=s; obtain ⟨hl,hb,h⟩:=h;have l1:=ia.length;have l2:=ib.length;have f2:=AutoSeq1.sub_tuple_tuple
  wp_walk using wpAny_loadPart' hl,wpAny_loadPart' hb,wpAny_forIn_list _ (fun aqt6 b s'=>b.1=none/\s'=⟨hp,g,d,tk,os⟩/\∃ i,i <= ns.length/\i <= ms.length/\aqt6=(its.zip its2).drop i /\
   R (.ok (.ret (.bool (aqth (ns.drop i) (ms.drop i))))) ⟨hp,g,d,tk,os⟩) _
  case turn =>
   rintro ⟨y,x⟩ aqt6 b s' ⟨hb',rfl,i,hi,hj,hz,hR⟩;have hlt:i < (its.zip its2).length:=by
    rcases Nat.lt_or_ge i (its.zip its2).length with h' | h'
    ·exact h'
    ·rw [drop_of_length_le h'] at hz; cases hz
   have hm:i < ns.length/\i < ms.length:=by simp at hlt; omega
   rw [Dc hlt] at hz;injection hz with hyx hrest;obtain ⟨p,hp1⟩:∃ p,ns[i]?=some p:=⟨ns[i]'hm.1,by simp⟩;obtain ⟨q,hq1⟩:∃ q,ms[i]?=some q:=⟨ms[i]'hm.2,by simp⟩;obtain ⟨t,ht⟩:=aqbb ia hp1;obtain ⟨u,hu⟩:=aqbb ib hq1;have e:(its.zip its2)[i]=(Value.int p t,Value.int q u):=by
    obtain ⟨_,e1⟩:=Ai.mp ht;obtain ⟨_,e2⟩:=Ai.mp hu;simp [e1,e2]
   rw [e] at hyx;injection hyx with e1 e2;subst e1 e2;rw [aqm1 hp1 hq1] at hR;refine Ac (Ez ?_)
   by_cases e:p=q
   ·subst e
    simp only [beq_self_eq_true]
    wp_walk
    exact ⟨rfl,rfl,i + 1,hm.1,hm.2,hrest,by simpa using hR⟩
   ·have e':(p == q)=false:=by simpa using e
    rw [e'];simp only [Bool.not_false,if_true];refine Ac (Dm (Ac (G3 ?_)))
    wp_walk
    exact ⟨_,rfl,by simpa [e] using hR⟩
  case fin =>
   rintro ⟨b1,b2⟩ s' ⟨hb',rfl,i,hi,hj,hz,hR⟩;simp only at hb';subst hb';have hge:i=ns.length \/ i=ms.length:=by
    rcases Nat.lt_or_ge i (its.zip its2).length with h' | h'
    ·rw [Dc h'] at hz; cases hz
    ·simp at h'; omega
   rw [aqie hge hi hj] at hR
   wp_walk
   refine ⟨_,rfl,?_⟩;simpa [Builtin.Tuple.tupleCompareSizes,l1,l2] using hR
  case h =>
   exact ⟨rfl,rfl,0,zero_le _,zero_le _,rfl,by simpa using h⟩
end DL
namespace SortW
open PySem PySem.W PyProof.Rows DL
def TupAt (h:Heap) (x:Addr) (ns:List Int):Prop:=∃ (its:List Value) (n:Nat) (dd:Option Addr) (sl:Array (Option Value)),h.get? x=some { cls:=.type "tuple",dict:=dd,data:=.seq its.toArray n,slots:=sl }/\IntsAre its ns
theorem TupAt.keep {h h':Heap} {x:Addr} {ns:List Int} (t:TupAt h x ns) (k:∀ o,h.get? x=some o->h'.get? x=some o):TupAt h' x ns:=by
 obtain ⟨its,n,dd,sl,e,r⟩:=t;exact ⟨its,n,dd,sl,k _ e,r⟩
section
variable {prog:Ak} {w:World} {A:Around} {E:Value->Shared->Prop} {s:Shared}
theorem aw8 {fin:Bool} {C:Bool->Shared->Prop}:∀ {its its2:List Value} {ns ms:List Int} (i:Nat),IntsAre its ns->IntsAre its2 ms->fin=decide (ns.length < ms.length)->C (aqth ns ms) s->KatLex prog w A true fin C (its.zip its2) i s
 | _,_,_,_,i,.nil,.nil,hf,h=>by subst hf; exact kat_nil (by simpa [aqth] using h)
 | _,_,_,_,i,.nil,.cons _ _ _,hf,h=>by subst hf; exact kat_nil (by simpa [aqth] using h)
 | _,_,_,_,i,.cons _ _ _,.nil,hf,h=>by subst hf; exact kat_nil (by simpa [aqth] using h)
 | _,_,_,_,i,.cons n t r,.cons m u q,hf,h=>by
  rw [Hn];refine kat_cons (Ez ?_)
  by_cases e:n=m
  ·subst e
   rw [show (n == n)=true by simp];exact kat_yes (aw8 (i + 1) r q (by rw [hf]; simp) (by simpa [aqth] using h))
  ·rw [show (n == m)=false by simpa using e]
   have h':C (decide (n < m)) s:=by simpa [aqth,e] using h
   refine kat_no ?_;cases i with
   | zero=>exact oneLt_int h'
   | succ i=>exact kat_one _ _ (G3 h')
def TK (κ:Ms):Prop:=κ=tuples' true \/ κ=oneType' \/ κ=Lz
theorem aqc6 {x y:Addr} {a b:List Int} {Q:Value->Shared->Prop} (hx:TupAt s.heap x a) (hy:TupAt s.heap y b) (h:Q (.bool (aqth a b)) s):wpAny (model prog w) A (call (.builtin "tuple.__lt__") [.ref x,.ref y]) Q E s:=by
 obtain ⟨its,n,dd,sl,e,r⟩:=hx;obtain ⟨its2,n2,dd2,sl2,e2,r2⟩:=hy;exact call_meets Js ⟨_,e,rfl⟩ F.entry_tuple_lt (F.args_tuple_lt_2 _ _) (aqcy x y its its2 a b n n2 dd dd2 sl sl2 r r2) ⟨e,e2,h⟩
theorem aQ1 (x y:Value):keyLt' Lz x y=oneLt' false x y:=rfl
theorem aqjp {κ:Ms} (hκ:TK κ) (hu:A.units < cLine) {x y:Addr} {a b:List Int} {C:Bool->Shared->Prop} (hx:TupAt s.heap x a) (hy:TupAt s.heap y b) (h:C (aqth a b) s):wpAny (model prog w) A (keyLt' κ (.ref x) (.ref y)) C E s:=by
 have tx:s.TypeIs (.ref x) "tuple":=by obtain ⟨_,_,_,_,e,_⟩:=hx; exact ⟨_,e,rfl⟩
 have ty:s.TypeIs (.ref y) "tuple":=by obtain ⟨_,_,_,_,e,_⟩:=hy; exact ⟨_,e,rfl⟩
 rcases hκ with rfl | rfl | rfl
 ·obtain ⟨its,n,dd,sl,e,r⟩:=hx
  obtain ⟨its2,n2,dd2,sl2,e2,r2⟩:=hy;refine kat_lt e rfl e2 rfl ?_;simp only [size_toArray];exact aw8 0 r r2 (by rw [r.length,r2.length]) h
 ·rw [keyLt'_oneType,oneLt'_eq]
  simp only [if_true];refine Ac (wpAny_cRoomFor hu ?_);refine Ac (wpAny_callSpecialIfBound?_slot tx Js (aqc6 hx hy ?_));exact El h
 ·rw [aQ1]
  refine kat_one _ _ ?_;refine (?_:wpAny (model prog w) A (richCompare .Lt (.ref x) (.ref y)) (PySem.W.BoolBack C) E s);exact G9 (T:="tuple") (op:=.Lt) (id:="tuple.__lt__") tx ty Js (aqc6 hx hy ⟨by simp,h⟩) hu
theorem aw9:∀ (Ts:List Addr) (keys:List (List Int)) {Q:List (Option Value)->Shared->Prop},Ts.length=keys.length->(∀ i (h:i < Ts.length),TupAt s.heap Ts[i] (keys.getD i []))->(∀ fs:List (Option Value),fs.length=Ts.length->(fs.all (·.isSome)=true->∀ k∈keys,k ≠ [])->Q fs s)->wpAny (model prog w) A ((Ts.map Value.ref).mapM firstOfTuple') Q E s
 | [],[],_,_,_,h=>by
  rw [map_nil,List.mapM_nil]; exact Ad (h [] rfl (by simp))
 | [],_ :: _,_,hl,_,_=>by simp at hl
 | _ :: _,[],_,hl,_,_=>by simp at hl
 | T :: Ts,k :: ks,Q,hl,ht,h=>by
  rw [map_cons,mapM_cons];obtain ⟨its,n,dd,sl,e,r⟩:=ht 0 (by simp);refine Ac ?_;rw [kas_first_eq];refine Ac (Looks.here (show Looks (model prog w) s.heap (typeOf (.ref T)) (.type "tuple") from (Looks.ld e).andThen .now) ?_);rw [if_neg (by first | decide | simp)];refine Ac (Ly e rfl (Ad ?_));refine Ac (aw9 Ts ks (by simpa using hl) (fun i hi=>ht (i + 1) (Nat.succ_lt_succ hi)) fun fs hfs hn=>Ad (h _ (by simp [hfs]) fun ha k' hk=>?_));rw [List.all_cons,C0] at ha;rcases Al.mp hk with rfl | hk
  ·rintro rfl
   simp at r;cases r;simp at ha
  ·exact hn ha.2 k' hk
theorem aYb:∀ (Ts:List Addr) (keys:List (List Int)),Ts.length=keys.length->(∀ i (h:i < Ts.length),TupAt s.heap Ts[i] (keys.getD i []))->(∀ k∈keys,k ≠ [])->∃ fs,KatTups s.heap (Ts.map Value.ref) fs/\fs.length=Ts.length/\∀ v∈fs,∃ k t,v=Value.int k t
 | [],[],_,_,_=>⟨[],KatTups.nil ..,rfl,by simp⟩
 | [],_ :: _,hl,_,_=>by simp at hl
 | _ :: _,[],hl,_,_=>by simp at hl
 | T :: Ts,k :: ks,hl,ht,hn=>by
  obtain ⟨fs,h1,h2,h3⟩:=aYb Ts ks (by simpa using hl) (fun i hi=>ht (i + 1) (Nat.succ_lt_succ hi)) fun k hk=>hn k (mem_cons_of_mem _ hk);obtain ⟨its,n,dd,sl,e,r⟩:=ht 0 (by simp);simp at e r;cases r with
  | nil=>exact absurd rfl (hn [] (by simp))
  | cons m t r =>
   exact ⟨Value.int m t :: fs,KatTups.cons e rfl rfl (by simp) h1,by simp [h2],fun v hv=>by
    rcases Al.mp hv with rfl | hv
    ·exact ⟨_,_,rfl⟩
    ·exact h3 v hv⟩
theorem aqe4 {Ts:List Addr} {keys:List (List Int)} {Q:Ms->Shared->Prop} (h0:0 < Ts.length) (hl:Ts.length=keys.length) (ht:∀ i (h:i < Ts.length),TupAt s.heap Ts[i] (keys.getD i [])) (h:∀ κ,TK κ->Q κ s):wpAny (model prog w) A (keyKind' (Ts.map Value.ref).toArray) Q E s:=by
 by_cases hn:∀ k∈keys,k ≠ []
 ·obtain ⟨fs,h1,h2,h3⟩:=aYb Ts keys hl ht hn
  refine kat_kind (T:=.type "int") h1 (by omega) (fun v hv=>?_) (by decide) (h _ (.inl rfl));obtain ⟨k,t,rfl⟩:=h3 v hv;exact Looks.of_pure rfl
 ·rw [kat_kind_eq,List.mapM_toArray,map_eq_pure_bind]
  refine Ac (Ac (aw9 Ts keys hl ht fun fs hfs ha=>Ad ?_));rw [if_neg (by rw [List.all_toArray]; exact fun z=>hn (ha z))];refine As (fun _=>Ad (h _ (.inr (.inr rfl)))) fun _=>?_;rw [oneTypeOnly'_eq,List.mapM_toArray,map_eq_pure_bind];refine Ac (Ac (Ac (kas_mapM (r:=Value.type "tuple") _ (fun v hv Q' hq=>?_) (Ad ?_))))
  ·obtain ⟨T,hT,rfl⟩:=Ah.mp hv
   obtain ⟨i,hi,rfl⟩:=getElem_of_mem hT;obtain ⟨its,n,dd,sl,e,r⟩:=ht i hi;exact Looks.here (show Looks (model prog w) s.heap (typeOf (.ref Ts[i])) (.type "tuple") from (Looks.ld e).andThen .now) hq
  ·split
   ·refine Ad (Ad ?_)
    split
    ·exact h _ (.inr (.inl rfl))
    ·exact h _ (.inr (.inr rfl))
   ·refine Ad (Ad ?_)
    split
    ·exact h _ (.inr (.inl rfl))
    ·exact h _ (.inr (.inr rfl))
theorem aqid {n:Nat} {key:Nat->List Int} (hinj:∀ i j,i < n->j < n->key i=key j->i=j):Ord n fun i j=>aqth (key i) (key j) where
 trans:=fun a b c h1 h2=>MT.lex_tr h1 h2
 asym:=fun a b h1=>by
  cases q:aqth (key b) (key a) with
  | false=>rfl
  | true=>have:=MT.lex_tr h1 q; rw [MT.lex_irr] at this; cases this
 total:=fun a b ha hb hab h1=>MT.lex_tot _ _ h1 fun e=>hab (hinj a b ha hb e)
end
section
variable {prog:Ak} {w:World} {A:Around} {E:Value->Shared->Prop} {s:Shared}
theorem aWm {keys:List (List Int)} {n:Nat} {p:Array Nat} (hl:n=keys.length) (hn:keys.Nodup) (pa:PA n p) (sp:SP (fun i j=>aqth (keys.getD i []) (keys.getD j [])) p n):(p.toList.map fun i=>keys.getD i [])=ajc keys:=by
 have hp:p.toList.Perm (Ar n):=by
  have:=pa
  unfold PA at this;exact C4.mp this
 have e:keys=(Ar n).map fun i=>keys.getD i []:=by
  apply ext_getElem
  ·simp [hl]
  ·intro i h1 h2; simp [h1]
 have hperm:(p.toList.map fun i=>keys.getD i []).Perm keys:=by
  conv=>rhs; rw [e]
  exact hp.map _
 refine MT.ris_eq ?_ (MT.keys_ris _) fun x=>by rw [hperm.mem_iff,MT.mem_keys]
 have hs:p.size=n:=by have:=hp.length_eq; simpa using this
 unfold MT.Ris;rw [pairwise_map,Bu];intro i j hi hj hij
 have:=sp i j hij (by simpa [hs] using hj)
 simp at hi hj;have a0:∀ k,(hk:k < p.size)->at0 p k=p.toList[k]'(by simpa using hk):=fun k hk=>by simp [at0,hk]
 rw [a0 i hi,a0 j hj] at this;exact this
theorem aqe5 {keys:List (List Int)} (hn:keys.Nodup):(ajc keys).length=keys.length:=by
 have hd:(ajc keys).Nodup:=(MT.keys_ris keys).imp fun {a b} h e=>by subst e; rw [MT.lex_irr] at h; cases h
 have:∀ {a b:List (List Int)},a.Nodup->b.Nodup->(∀ x,x∈a ↔ x∈b)->a.length=b.length:=by
  intro a b ha hb h;exact ((List.perm_ext_iff_of_nodup ha hb).mpr h).length_eq
 exact this hd hn fun x=>MT.mem_keys
theorem aqd2 {a:Addr} {Ts:List Addr} {keys:List (List Int)} {n:Nat} {P:Ma->Shared->Prop} (hu:A.units < cLine) (ho:s.heap.get? a=some (Bq "list" (Ts.map Value.ref).toArray n)) (hl:Ts.length=keys.length) (hnd:keys.Nodup)
  (ht:∀ i (h:i < Ts.length),TupAt s.heap Ts[i] (keys.getD i [])) (hta:∀ T∈Ts,T ≠ a) (h64:Ts.length < 64)
  (h:∀ out:List Addr,out.length=(ajc keys).length->(∀ j (hj:j < out.length),∃ i,∃ hi:i < Ts.length,out[j]=Ts[i]/\(ajc keys).getD j []=keys.getD i [])->P (.done (.ret .none)) { s with heap:=Jf s.heap a (Ts.map Value.ref) (out.map Value.ref).toArray }) :
  wpAny (model prog w) A (Builtin.«list.sort» { pos:=[Value.ref a] }) P E s:=by
 by_cases h2:2 <= Ts.length
 ·refine avv (vs:=Ts.map Value.ref) ho (by simpa using h64) (by simpa using h2) ?_
  generalize hh6:((s.heap.update a (Bg fun _=>#[])).push (Bq "tuple" (Ts.map Value.ref).toArray 0)).push (Bq "list" #[] 0)=h6;have t6:∀ i (h:i < Ts.length),TupAt h6 Ts[i] (keys.getD i []):=fun i hi=>(ht i hi).keep fun o hb=>by
   rw [<- hh6];refine Ae _ (Ae _ ?_);rw [Au _ _ (B4 (hta _ (getElem_mem hi)))];exact hb
  refine aqe4 (s:={ s with heap:=h6 }) (by omega) hl t6 fun κ hκ=>?_;have hinj:∀ i j,i < Ts.length->j < Ts.length->keys.getD i []=keys.getD j []->i=j:=fun i j hi hj e=>by
   rw [hl] at hi hj;have e':keys[i]=keys[j]:=by
    rw [getD_eq_getElem?_getD,getD_eq_getElem?_getD,getElem?_eq_getElem hi,getElem?_eq_getElem hj] at e;exact e
   exact (getElem_inj hnd).mp e'
  have ord:=aqid (n:=Ts.length) (key:=fun i=>keys.getD i []) hinj;obtain ⟨pa,sp⟩:=aqfb ord (by omega);rw [show (Ts.map Value.ref).length=Ts.length by simp];refine aZs (n:=Ts.length) (lt:=fun i j=>aqth (keys.getD i []) (keys.getD j [])) (fun i j C hi hj hC=>?_) _ (aqfc (by omega)) ⟨rfl,rfl,?_⟩
  ·unfold kas_ask
   have e1:(Ts.map Value.ref).getD i .none=.ref Ts[i]:=by simp [hi]
   have e2:(Ts.map Value.ref).getD j .none=.ref Ts[j]:=by simp [hj]
   rw [e1,e2];exact aqjp hκ hu (t6 i hi) (t6 j hj) hC
  generalize aqt3 _ (Hm Ts.length)=p at pa sp;have hsl:=aWm hl hnd pa sp;have hpl:p.toList.Perm (Ar Ts.length):=C4.mp pa;have hpb:∀ i∈p.toList,i < Ts.length:=fun i hi=>A0.mp (hpl.mem_iff.mp hi);have eo:(p.toList.map fun i=>(Ts.map Value.ref).getD i .none)=(p.toList.map fun i=>Ts.getD i 0).map Value.ref:=by
   rw [map_map];apply map_congr_left;intro i hi
   have:=hpb i hi
   simp [this]
  rw [eo];refine h _ (by rw [<- hsl]; simp) fun j hj=>?_;have hj':j < p.toList.length:=by simpa using hj
  have hb:=hpb p.toList[j] (getElem_mem hj');refine ⟨p.toList[j],hb,by simp only [getElem_map]; rw [getD_eq_getElem?_getD,getElem?_eq_getElem hb]; rfl,?_⟩;rw [<- hsl,getD_eq_getElem?_getD,getElem?_map,getElem?_eq_getElem hj'];rfl
 ·match Ts,hl,ht,ho,h,h2 with
  | [],hl,ht,ho,h,h2 =>
   have hk:keys=[]:=Ca.mp (by simpa using hl.symm);subst hk;refine list_sort_tree (vs:=[]) (ns:=[]) ho .nil (by simp) fun out ns' a1 a2 a3=>?_
   have:ns'=[]:=Ca.mp a2.length_eq
   subst this;have ol:=a1.length
   have:out=#[]:=by
    apply Array.eq_empty_of_size_eq_zero;simpa using ol
   subst this;exact h [] rfl fun j hj=>by simp at hj
  | [T],hl,ht,ho,h,h2 =>
   refine avu (v:=.ref T) ho ?_;obtain ⟨k,rfl⟩:∃ k,keys=[k]:=Cf.mp (by simpa using hl.symm);exact h [T] rfl fun j hj=>⟨j,hj,rfl,rfl⟩
  | _ :: _ :: _,_,_,_,_,h2=>simp at h2
end
def aquc (h:Heap) (d:Addr) (es:Array DictEntry) (ep:Nat):Prop:=∃ o,h.get? d=some o/\o.ExactDict/\o.data=.dict es ep
theorem aquc.keep {h h':Heap} {d:Addr} {es:Array DictEntry} {ep:Nat} (x:aquc h d es ep) (k:∀ o,h.get? d=some o->h'.get? d=some o):aquc h' d es ep:=by
 obtain ⟨o,e,r⟩:=x; exact ⟨o,k o e,r⟩
section
variable {prog:Ak} {w:World} {A:Around} {E:Value->Shared->Prop} {s:Shared} {d:Addr} {es:Array DictEntry} {ep:Nat}
theorem aquc.ty (x:aquc s.heap d es ep):s.TypeIs (.ref d) "dict":=by
 obtain ⟨o,e,c,_⟩:=x; exact ⟨o,e,c.1⟩
theorem aqik {Q:Value->Shared->Prop} (hd:(d == Bi)=false) (hm:aquc s.heap d es ep)
  (hQ:Q (.ref s.heap.objs.size) { s with heap:=s.heap.push { cls:=.type "dict_keyiterator",data:=.fields #[.ref d,.int 0 0,.int es.size 0,.int ep 0] } }):wpAny (model prog w) A (J2 (.ref d)) Q E s:=by
 have hT:=hm.ty;obtain ⟨o,ho,hc,hdat⟩:=hm;refine En hT Ji (Ax Ji hT PySem.F.entry_dict_iter ?_ (PySem.F.args_dict_iter_1 _));unfold Builtin.«dict.__iter__» Builtin.Dict.dictSlotNone;refine Ac (Ac (Ek hT ?_));refine (?_:wpAny _ _ (pure (Value.ref d)) _ _ s);refine Ad ?_;refine (?_:wpAny _ _ (C8 d >>= _) _ _ s);unfold C8;rw [hd];simp only [Aw,if_false];refine Ac (Ad (Ac (Bh ho hdat (Ac (Df ho hdat ?_)))));refine Ac (A8 (Ad ⟨_,rfl,"dict_keyiterator",_,⟨_,Ag _ rfl,rfl⟩,C5.lookup,?_⟩));simpa [B7] using hQ
theorem aqao {it:Addr} {i:Nat} {Q:Option Value->Shared->Prop} (hit:s.heap.IsKeyIter it d i es.size ep) (hm:aquc s.heap d es ep)
  (h:wpAny (model prog w) A.in1 (Builtin.«dict_keyiterator.__next__» ⟨[.ref it],[]⟩) (fun fin s'=>∃ v,fin=.done (.ret v)/\Q (some v) s') (fun e s'=>s'.TypeIs e "StopIteration"/\Q none s') s):wpAny (model prog w) A (Dt (.ref it)) Q E s:=by
 unfold Dt;refine Ac (Eg (Bl (name:=Cu "__next__") hit.typeIs C5 (Ax C5 hit.typeIs PySem.F.entry_dict_keyiterator_next ?_ (PySem.F.args_dict_keyiterator_next_1 _))));refine Bj h (fun fin s' hq=>?_) (fun e s' hq=>?_)
 ·obtain ⟨v,rfl,hq⟩:=hq
  exact ⟨v,rfl,Ad hq⟩
 ·obtain ⟨t,hq⟩:=hq
  refine Ac (Dv (T:="StopIteration") (b:=true) t akx ?_);exact Ad hq
theorem aZr {it:Addr} {i:Nat} (o:Obj) (hd:o.data=.fields #[.ref d,.int i 0,.int es.size 0,.int ep 0]) {h:Heap} (ho:h.get? it=some o) (hc:o.cls=.type "dict_keyiterator"):(h.update it (Co (·.setIfInBounds 1 (B7 ((i:Int) + 1))))).IsKeyIter it d (i + 1) es.size ep :=
 ⟨_,Bf _ ho (Fv (Ea hd _)),(Obj.cls_mapFields ..).trans hc,by rw [Ea hd]; simp [B7]⟩
theorem aqe0 {it:Addr} {i:Nat} {Q:Option Value->Shared->Prop} (hit:s.heap.IsKeyIter it d i es.size ep) (hm:aquc s.heap d es ep) (hi:i < es.size)
  (hQ:∀ h',h'.IsKeyIter it d (i + 1) es.size ep->Heap.SameBut it s.heap h'->Q (some es[i].key) { s with heap:=h' }):wpAny (model prog w) A (Dt (.ref it)) Q E s:=by
 refine aqao hit hm ?_;obtain ⟨o,ho,hc,hd⟩:=id hit;obtain ⟨od,hod,hcd,hdd⟩:=hm;refine Ac (Ad (Ac (Ac ?_)));refine Ac (Cp hit.typeIs (Ad ?_));refine Ac (C3 ho hd ?_);have own:B5 "dict_keyiterator"=false:=by decide
 simp only [own,Aw,if_false];refine (?_:wpAny _ _ (if (Value.ref d == Value.none)=true then _ else _) _ _ s);rw [if_neg (show ¬ ((Value.ref d == Value.none)=true) from An)];refine Ac (Ad (Ac (Bh hod hdd ?_)));rw [if_neg (by simp)];refine Ac (Ad (Ac (Df hod hdd ?_)));rw [if_neg (by simp)];refine Ad ?_;simp only [show ¬ ((i:Int) < 0) from by omega,if_false,A9,Da hi];refine Ac (Ac (Cp hit.typeIs (Ad ?_)));refine Ac (Jy hit.typeIs ?_);refine (?_:wpAny _ _ (Mt (.ref it) 1 (B7 ((i:Int) + 1)) >>= _) _ _ s);refine Ac (Ce ho hd (by simp) ?_);have hit':=aZr o hd ho hc;refine Ac (Ba (Ac ?_));refine Jy (s:={ s with heap:=s.heap.update it (Co (·.setIfInBounds 1 (B7 ((i:Int) + 1)))) }) hit'.typeIs ?_;refine (?_:wpAny _ _ (pure es[i].key) _ _ _);exact Ad (Ad ⟨_,rfl,hQ _ hit' (Cg ..)⟩)
theorem aqi1 {it:Addr} {i:Nat} {Q:Option Value->Shared->Prop} (hh:A.handled=none) (hit:s.heap.IsKeyIter it d i es.size ep) (hm:aquc s.heap d es ep) (hi:es.size <= i)
  (hQ:∀ h',Heap.ExtBut it s.heap h'->Q none { s with heap:=h' }):wpAny (model prog w) A (Dt (.ref it)) Q E s:=by
 refine aqao hit hm ?_;obtain ⟨o,ho,hc,hd⟩:=id hit;obtain ⟨od,hod,hcd,hdd⟩:=hm;refine Ac (Ad (Ac (Ac ?_)));refine Ac (Cp hit.typeIs (Ad ?_));refine Ac (C3 ho hd ?_);have own:B5 "dict_keyiterator"=false:=by decide
 simp only [own,Aw,if_false];refine (?_:wpAny _ _ (if (Value.ref d == Value.none)=true then _ else _) _ _ s);rw [if_neg (show ¬ ((Value.ref d == Value.none)=true) from An)];refine Ac (Ad (Ac (Bh hod hdd ?_)));rw [if_neg (by simp)];refine Ac (Ad (Ac (Df hod hdd ?_)));rw [if_neg (by simp)];refine Ad ?_;simp only [show ¬ ((i:Int) < 0) from by omega,if_false,A9,getElem?_eq_none hi];refine Ac (Ac (Cp hit.typeIs (Ad ?_)));refine (?_:wpAny _ _ (Mt (.ref it) 0 .none >>= _) _ _ s);refine Ac (Ce ho hd (by simp) ?_);refine (?_:wpAny _ _ (Mq (.type "StopIteration") [] >>= _) _ _ _);simp only [Mq,newTuple];refine Ac (Ac (A8 ?_ (by size_fits)));refine Ac (m:=Ew _ _) (J8 (a:=Value.none) (by first | rfl | (simp only [Ew]; rfl)) ?_);refine A8 ?_ (by size_fits);simp only [Mr];refine Ac (Kz ?_);rw [show A.in1.handled=none from hh];refine Ac (Ad (Mc ⟨⟨_,Ag _ rfl,rfl⟩,?_⟩));exact hQ _ (((Cg ..).extBut.push _).push _)
theorem aqku (lo:(d == Bi)=false):KdlSrc prog w "dict" d d es.size (fun i v=>∃ h:i < es.size,v=es[i].key) (fun h=>aquc h d es ep) where
 type:=fun _ hm=>hm.ty
 there:=fun _ hm=>by obtain ⟨o,e,_⟩:=hm; exact ⟨Af e,Af e⟩
 keep:=fun _ _ hm hk=>hm.keep fun o e=>hk d (.inl rfl) o e
 notList:=by decide
 notTuple:=by decide
 hint:=fun _ _ _ _ hm hq=>kdl_hint_dict hm.ty hq
 iter:=fun A s hh hm=>by
  have hlt:d < s.heap.objs.size:=by obtain ⟨o,e,_⟩:=hm; exact Af e
  refine ⟨_,fun i h=>h.IsKeyIter s.heap.objs.size d i es.size ep/\aquc h d es ep,fun _ _ hq=>aqik lo hm hq,⟨fun b hb=>by simp at hb; simp [hb],fun _ _ _ st hk=>⟨st.1.at fun o e=>hk _ (by simp) o e,st.2.keep fun o e=>hk d (by simp) o e⟩,fun i s1 Q E hi st hQ=>?_,fun s1 Q E st hQ=>?_,fun _ _ _ _ st hQ=>wpAny_pyIter_keyiter st.1 hQ⟩,⟨_,Ag _ rfl,rfl,rfl⟩,hm.keep fun o e=>Ae _ e⟩
  ·exact aqe0 st.1 st.2 hi fun h' hit' hs'=>hQ _ h' s1.toks ⟨hi,rfl⟩ ⟨hit',st.2.keep fun o e=>hs'.extBut d o (ne_of_lt hlt) e⟩ fun b o hb e=>hs'.extBut b o (fun h=>hb (by simp [h])) e
  ·exact aqi1 hh st.1 st.2 (le_refl _) fun h' he'=>hQ h' s1.toks fun b o hb e=>he' b o (fun h=>hb (by simp [h])) e
end
section
variable {prog:Ak} {w:World} {A:Around} {E:Value->Shared->Prop} {s:Shared} {d:Addr} {es:Array DictEntry} {ep:Nat}
theorem aWs {T:String} {r:Addr} {n:Nat} {P:Nat->Value->Prop} {OK:Heap->Prop} {R:List Value->Shared->Prop} (K:KdlSrc prog w T r d n P OK) (hh:A.handled=none) (hok:OK s.heap) (hn:n <= Aj)
  (h:∀ (h':Heap) (tk:Nat) (acc:Array Value),s.heap.objs.size < h'.objs.size->(∀ b o,s.heap.get? b=some o->h'.get? b=some o)->ItemsOf P acc n->R acc.toList { s with heap:=h',toks:=tk }):wpAny (model prog w) A (Lt (.ref r)) R E s:=by
 have lt:=K.there _ hok;unfold Lt;refine Ac (Hj (Bn Gk ?_));rw [Bc Eo _];refine (?_:wpAny _ A.in1 (Mh [] >>= fun l=>again (.builtin "list.__iadd__" ⟨[l,.ref r],[]⟩)) _ _ s);refine Ac (A8 (Ad ⟨Cz Cb _,Bn Is ?_⟩));rw [Bc Cb _];have e0:(s.heap.push { cls:=.type "list",data:=.seq ([]:List Value).toArray }).get? s.heap.objs.size=some { cls:=.type "list",data:=.seq #[] }:=Ag _ rfl;refine (?_:wpAny _ A.in1 (Cc (.ref s.heap.objs.size) (.ref r) (.ref s.heap.objs.size)) _ _ _);have fin:∀ (q:L3) (s':Shared),(∃ (h':Heap) (tk:Nat) (acc':Array Value) (c':Nat),q=.ok (.ret (.ref s.heap.objs.size))/\s'={ s with heap:=h',toks:=tk }/\(∀ b o,s.heap.get? b=some o->h'.get? b=some o)/\h'.get? s.heap.objs.size=some { cls:=.type "list",dict:=none,data:=.seq acc' c',slots:=#[] }/\ItemsOf P acc' n) ->
   ∃ (h':Heap) (tk:Nat) (acc':Array Value) (c':Nat),q=.ok (.ret (.ref s.heap.objs.size))/\s'={ s with heap:=h',toks:=tk }/\h'.get? s.heap.objs.size=some { cls:=.type "list",dict:=none,data:=.seq acc' c',slots:=#[] }/\R acc'.toList s':=by
  rintro q s' ⟨h',tk,acc',c',e1,e2,e3,e4,e5⟩;exact ⟨h',tk,acc',c',e1,e2,e4,e2 ▸ h h' tk acc' (Af e4) e3 e5⟩
 refine Bj (kdl_extend (A:=A) (s:={ s with heap:=s.heap.push { cls:=.type "list",data:=.seq ([]:List Value).toArray } }) (R:=fun q s'=>∃ (h':Heap) (tk:Nat) (acc':Array Value) (c':Nat),q=.ok (.ret (.ref s.heap.objs.size))/\s'={ s with heap:=h',toks:=tk }/\(∀ b o,s.heap.get? b=some o->h'.get? b=some o)/\h'.get? s.heap.objs.size=some { cls:=.type "list",dict:=none,data:=.seq acc' c',slots:=#[] }/\ItemsOf P acc' n)
  K hh (K.keep _ _ hok fun b _ o e=>Ae _ e) s.heap.objs.size (ne_of_gt lt.1) (ne_of_gt lt.2) (.ref s.heap.objs.size) 0 e0 (fun h' tk acc' c' hk hS' hacc=>⟨h',tk,acc',c',rfl,rfl,fun b o e=>hk b o (ne_of_lt (Af e)) (Ae _ e),hS',hacc⟩) hn) (fun q s' x=>?_) fun e s' x=>?_
 ·cases q with
  | done f =>
   obtain ⟨h',tk,acc',c',e,rfl,hS',hr⟩:=fin _ _ x;cases e;refine (?_:wpAny _ A (load s.heap.objs.size >>= _) _ _ _);exact Ac (Fy hS' (Ad hr))
  | again c₁ =>
   refine ⟨x.1,Cn x.2 fun q s₂ y=>?_⟩;obtain ⟨h',tk,acc',c',rfl,rfl,hS',hr⟩:=fin _ _ y;refine (?_:wpAny _ A (load s.heap.objs.size >>= _) _ _ _);exact Ac (Fy hS' (Ad hr))
 ·obtain ⟨_,_,_,_,e',_⟩:=x
  cases e'
theorem aWc {Ts:List Addr} {keys:List (List Int)} {Q:Value->Shared->Prop} (hu:A.in1.in1.units < cLine) (hh:A.handled=none) (lo:(d == Bi)=false) (hm:aquc s.heap d es ep) (hes:es.toList.map (·.key)=Ts.map Value.ref) (hl:Ts.length=keys.length) (hnd:keys.Nodup)
  (ht:∀ i (h:i < Ts.length),TupAt s.heap Ts[i] (keys.getD i [])) (h64:Ts.length < 64)
  (h:∀ (D:Addr) (out:List Addr) (n:Nat) (h':Heap) (tk:Nat),s.heap.objs.size <= D->h'.get? D=some { cls:=.type "list",data:=.seq (out.map Value.ref).toArray n }->out.length=(ajc keys).length->(∀ j (hj:j < out.length),∃ i,∃ hi:i < Ts.length,out[j]=Ts[i]/\(ajc keys).getD j []=keys.getD i []) ->
   (∀ b o,s.heap.get? b=some o->h'.get? b=some o)->Q (.ref D) { s with heap:=h',toks:=tk }) :
  wpAny (model prog w) A (call (.builtin "sorted") [.ref d]) Q E s:=by
 have hsz:es.size=Ts.length:=by have:=congrArg List.length hes; simpa using this
 refine Db Md Lu Lv (Lw _) ?_;unfold Builtin.«sorted»;refine Ac (m:=checkCount "sorted" 1 1 _) (Ad ?_);refine Ac (aWs (A:=A.in1) (aqku lo) hh hm (by rw [Ao]; omega) fun h1 tk acc hgr hk hacc=>?_);have hacc':acc.toList=Ts.map Value.ref:=by
  rw [<- hes];apply Ic;intro i;rw [getElem?_toList,getElem?_map,getElem?_toList]
  by_cases hi:i < es.size
  ·have hi':i < acc.size:=by rw [hacc.1]; exact hi
   obtain ⟨_,e⟩:=hacc.2 i acc[i] (by simp [hi']);simp [hi,hi',e]
  ·have hi':¬ i < acc.size:=by rw [hacc.1]; exact hi
   simp [hi,hi']
 rw [hacc'];refine Ac (Gi ?_ (by rw [Ao]; simp; omega));have hoL:(h1.push (Bq "list" (Ts.map Value.ref).toArray 0)).get? h1.objs.size=some (Bq "list" (Ts.map Value.ref).toArray 0):=Ag _ rfl;have ltT:∀ i (hi:i < Ts.length),Ts[i] < h1.objs.size:=fun i hi=>by
  obtain ⟨_,_,_,_,e,_⟩:=ht i hi;exact Af (hk _ _ e)
 refine Ac (Ba (Ax Kc ⟨_,hoL,rfl⟩ Jq ?_ (Kd _)));refine aqd2 (s:={ s with heap:=h1.push (Bq "list" (Ts.map Value.ref).toArray 0),toks:=tk }) hu hoL hl hnd (fun i hi=>(ht i hi).keep fun o e=>Ae _ (hk _ _ e)) (fun T hT=>?_) h64 fun out ho hout=>⟨_,rfl,Ad ⟨_,rfl,?_⟩⟩
 ·obtain ⟨i,hi,rfl⟩:=getElem_of_mem hT
  exact ne_of_lt (ltT i hi)
 obtain ⟨e,he⟩:=K0 (out:=(out.map Value.ref).toArray) hoL;refine h _ out e _ tk ?_ (by simpa [Bq] using he) ho hout fun b o hb=>?_
 ·exact le_of_lt hgr
 ·have hlt:=Af (hk b o hb)
  rw [Ke (ne_of_lt hlt) (by rw [Je]; exact lt_succ_of_lt hlt)];exact Ae _ (hk b o hb)
end
end SortW
namespace DL
open PySem PySem.Spec PyProof.Rows L2
def dkv (kvs:List (List Int × V)):List (List Key × V):=kvs.map fun p=>(p.1.map Sum.inl,p.2)
theorem aju (k:List Int):(k.map Sum.inl:List Key).map kV=k.map V.int:=by
 rw [map_map]; rfl
theorem aJ6 {a b:List Int} (h:(a.map Sum.inl:List Key)=b.map Sum.inl):a=b:=by
 have:=congrArg (List.map (fun k:Key=>match k with | .inl i=>i | .inr _=>0)) h
 simpa [map_map,Ii] using this
theorem aqm6 {H:Hp}:∀ {kvs:List (List Int × V)} {xs:List (List Key × Addr × Value)},KT H (dkv kvs) xs->xs.length=kvs.length/\xs.map (·.1)=kvs.map (fun p=>p.1.map Sum.inl)/\∀ i (h:i < xs.length),H xs[i].2.1=some (.tup ((kvs.map (·.1)).getD i [] |>.map V.int))
 | [],_,.nil=>⟨rfl,rfl,fun i h=>by simp at h⟩
 | p :: kvs,_,.cons (b:=q) hq t=>by
  obtain ⟨h1,h2,h3⟩:=aqm6 t;refine ⟨by simp [h1],?_,fun i h=>?_⟩
  ·simp only [map_cons]
   rw [h2,<- hq.1]
  ·cases i with
   | zero =>
    have:=hq.2.1
    rw [aju] at this;exact this
   | succ i=>exact h3 i (by simpa using h)
theorem aqgm {X:Cx} {pins:List (Addr × Obj)} {σ:St} {H:Hp} {s:Shared} {b:Addr} {k:List Int} (I:Inv X pins σ H s) (e:H b=some (.tup (k.map V.int))):SortW.TupAt s.heap b k:=by
 obtain ⟨its,r,⟨o,h1,h2,n,h3⟩,_⟩:=I.tuple (SqT.of e);obtain ⟨c,dd,dt,sl⟩:=o;cases h2;cases h3;exact ⟨its,n,dd,sl,by simpa using h1,intsAre_of r⟩
theorem azk (hu:X.A.units + 64 < cLine) (hc:X.calm=true):awh X (.builtin "sorted") (fun xs H Q=>∃ (p:Addr) (kvs:List (List Int × V)),xs=[.ref p]/\H p=some (.dT (dkv kvs))/\kvs.length < 64/\∀ l (bs:List Addr),H l=none->bs.length=(ajc (kvs.map (·.1))).length->(∀ j (hj:j < bs.length),H bs[j]=some (.tup (((ajc (kvs.map (·.1))).getD j []).map V.int)))->Q (.ref l) (upd H l (.lst (bs.map V.ref)))):=by
 intro pins s σ H xs us Q I r h;obtain ⟨p,kvs,rfl,hp,h64,q⟩:=h;obtain ⟨u,rfl,ru⟩:=r.one;cases ru;obtain ⟨z,hd,xs,rel,o,es,ep,g1,g2,g3,g4,g5,g6⟩:=dt_of I.hok hp;obtain ⟨k1,k2,k3⟩:=aqm6 rel;have hes:es.toList.map (·.key)=(xs.map (·.2.1)).map Value.ref:=by
  rw [g4,map_map,map_map]; rfl
 have hnd:(kvs.map (·.1)).Nodup:=by
  rw [k2] at g6
  have:(kvs.map (fun p=>(p.1.map Sum.inl:List Key)))=(kvs.map (·.1)).map (fun k=>(k.map Sum.inl:List Key)):=by rw [map_map]; rfl
  rw [this] at g6;exact (List.pairwise_map.mp g6).imp fun h e=>h (congrArg _ e)
 have hT:∀ i (h:i < (xs.map (·.2.1)).length),H (xs.map (·.2.1))[i]=some (.tup (((kvs.map (·.1)).getD i []).map V.int)):=fun i hi=>by
  simp only [getElem_map];exact k3 i (by simpa using hi)
 refine SortW.aWc (keys:=kvs.map (·.1)) (by simp only [units_in1]; omega) (I.ok.hd hc) hd ⟨o,g1,g2,g3⟩ hes (by simp [k1]) hnd (fun i hi=>aqgm I (hT i hi)) (by simp [k1]; omega) fun D out n h' tk hD hget hlen hout hk=>?_;refine ⟨.ref D,_,I.laid (a:=D) (o:=.lst (out.map V.ref)) hk hD ⟨?_,out.map Value.ref,n,?_,hget⟩,rfl,q D out (I.hok.fresh hD) hlen fun j hj=>?_⟩
 ·rw [length_map,hlen,SortW.aqe5 hnd,length_map,Ao]; omega
 ·clear hout hget hlen
  induction out with
  | nil=>exact .nil
  | cons a out ih=>exact .cons rfl ih
 ·obtain ⟨i,hi,e1,e2⟩:=hout j hj
  rw [e1,e2];exact hT i hi
theorem aqbs (kvs:List (List Int × V)) (k:List Int):aqsr (dkv kvs) (k.map Sum.inl)=aqsr kvs k:=by
 induction kvs with
 | nil=>rfl
 | cons p r ih =>
  show aqsr ((p.1.map Sum.inl,p.2) :: dkv r) _=_
  by_cases e:p.1=k
  ·rw [aql (by rw [e]),aql e]
  ·rw [aqm fun h=>e (aJ6 h),aqm e,ih]
theorem aqmu (kvs:List (List Int × V)) (k:List Int) (v:V):aqt7 (dkv kvs) (k.map Sum.inl) v=dkv (aqt7 kvs k v):=by
 have ha:((dkv kvs).any fun kv=>decide (kv.1=(k.map Sum.inl:List Key)))=(kvs.any fun kv=>decide (kv.1=k)):=by rw [axf,axf,aqbs]
 unfold aqt7;rw [ha];split
 ·unfold dkv
  rw [map_map,map_map];apply map_congr_left;intro p _;simp only [Function.comp_apply]
  by_cases e:p.1=k
  ·rw [if_pos (by rw [e]),if_pos e]
  ·rw [if_neg fun h=>e (aJ6 h),if_neg e]
 ·simp [dkv]
def TWt (kvs:List (List Int × V)) (hp:List (Int × List Int)):Prop:=kvs.length <= hp.length/\∀ k,aqsr kvs k=if k∈hp.map (·.2) then some (.int (wtK hp k)) else none
theorem aqk8:TWt [] []:=⟨le_refl _,fun k=>rfl⟩
theorem aqk9 {kvs:List (List Int × V)} {hp:List (Int × List Int)} (h:TWt kvs hp) (k:List Int):(aqsr kvs k).getD (.int 0)=.int (wtK hp k):=by
 rw [h.2 k];split
 ·rfl
 ·rename_i hn
  rw [MT.wt_none hn]; rfl
theorem aqk7 {kvs:List (List Int × V)} {hp:List (Int × List Int)} (h:TWt kvs hp) (w:Int) (k:List Int):TWt (aqt7 kvs k (.int (wtK hp k + w))) (hp++[(w,k)]):=by
 refine ⟨le_trans (avh _ _ _) (by have:=h.1; simp; omega),fun j=>?_⟩;rw [aW5,h.2 j,MT.wt_append]
 by_cases e:j=k
 ·subst e
  rw [if_pos rfl,if_pos (by simp)];simp [wtK]
 ·rw [if_neg e]
  have:j∈(hp++[(w,k)]).map (·.2) ↔ j∈hp.map (·.2):=by simp [e]
  have ek:¬ k=j:=fun z=>e z.symm
  by_cases hm:j∈hp.map (·.2)
  ·rw [if_pos hm,if_pos (this.mpr hm)]
   simp [wtK,ek]
  ·rw [if_neg hm,if_neg fun z=>hm (this.mp z)]
theorem aqgl {kvs:List (List Int × V)} {hp:List (Int × List Int)} (h:TWt kvs hp):ajc (kvs.map (·.1))=ajc (hp.map (·.2)):=by
 refine MT.ris_eq (MT.keys_ris _) (MT.keys_ris _) fun x=>?_;rw [MT.mem_keys,MT.mem_keys];have e:x∈kvs.map (·.1) ↔ (aqsr kvs x).isSome=true:=by
  rw [<- axf,any_eq_true];constructor
  ·intro hx
   obtain ⟨p,hp,rfl⟩:=Ah.mp hx;exact ⟨p,hp,by simp⟩
  ·rintro ⟨p,hp,e⟩
   exact Ah.mpr ⟨p,hp,by simpa using e⟩
 rw [e,h.2 x];split
 ·rename_i hx; simp [hx]
 ·rename_i hx; simp [hx]
section
variable {K:Frag} {F1 H1 F H:Hp} {σ:L2.St} {ρ:aquj} {l:Addr} {done:List O}
theorem aqpz (ci:CI K F1 H1 F H σ ρ l done) (hB:H1 l=none) {y:V} {o:O} {A4:AS} {F4 H4:Hp} (e4:Ext F H F4 H4) (r4:Own K F4 H4 y o A4) (n4:∀ b,A4 b->F4 b=none/\H b=none) :
  ∃ acc,H4 l=some (.lst acc)/\acc.length=done.length/\CI K F1 H1 F4 (upd H4 l (.lst (acc++[y]))) σ ρ l (done++[o]):=by
 have ci4:=ci.more e4;obtain ⟨acc3,A3,k1,k2,k3⟩:=ci.hl;have t4:H4 l=some (.lst acc3):=e4.hh _ _ k1;have k2':=k2.ext e4.ff e4.hh;refine ⟨acc3,t4,k2.length,?_⟩;have nl:¬ A4 l:=fun z=>by have:=(n4 l z).2; rw [k1] at this; cases this
 refine ⟨⟨ci4.ext.ff,fun b u hb=>by rw [ae (ac hb ci4.fl)]; exact ci4.ext.fh _ _ hb,fun b u hb=>by rw [ae (ac hb hB)]; exact ci4.ext.hh _ _ hb,ci4.ext.nw⟩,ci4.re,ci4.len,ci4.fl,acc3++[y],fun b=>A3 b \/ A4 b,aa,?_,fun b z=>?_⟩
 ·refine (k2'.stay (aqu9.refl _) (H':=upd H4 l (.lst (acc3++[y]))) fun b z=>ae (k3 b z).2.2).append (.cons (r4.stay (aqu9.refl _) (H':=upd H4 l (.lst (acc3++[y]))) fun b z=>ae (by rintro rfl; exact nl z)) (.nil (A:=fun _=>False) fun _ z=>z) (fun _ _ z=>z) fun b=>⟨.inl,fun z=>z.elim id Az⟩) fun b z y=>?_
  obtain ⟨u,hu,_⟩:=k2.there b z;rw [(n4 b y).2] at hu; cases hu
 ·rcases z with z | z
  ·obtain ⟨g1,g2,g3⟩:=k3 b z
   obtain ⟨u,hu,_⟩:=k2.there b z;refine ⟨?_,g2,g3⟩;cases w:F4 b with
   | none=>rfl
   | some o =>
    rcases e4.nw b o w with y | y
    ·rw [g1] at y; cases y
    ·rw [hu] at y; cases y
  ·exact ⟨(n4 b z).1,ci.ext.hh.free (n4 b z).2,by rintro rfl; exact nl z⟩
theorem aqhj (s:aqu9 F H) {q p:Addr} {w:Int} {k:List Int} (hq:H q=none) (hp:upd H q (.lst (k.map V.int)) p=none) :
  Ext F H (upd F p (.tup [.int w,.ref q])) (upd (upd H q (.lst (k.map V.int))) p (.tup [.int w,.ref q]))/\Own K (upd F p (.tup [.int w,.ref q])) (upd (upd H q (.lst (k.map V.int))) p (.tup [.int w,.ref q])) (.ref p) (aqa0 (w,k)) (fun b=>b=q)/\∀ b,b=q->upd F p (.tup [.int w,.ref q]) b=none/\H b=none:=by
 have npq:q ≠ p:=by rintro rfl; rw [aa] at hp; cases hp
 have e1:=Ext.laidH (o:=.lst (k.map V.int)) s hq;have e2:=Ext.laid (o:=.tup [.int w,.ref q]) e1.fh hp;refine ⟨e1.trans e2,.tup aa (.cons (.sh (.int w) (A:=fun _=>False) fun _ z=>z) (.cons (aZb (a:=q) (by rw [ae npq,aa]) (aR k)) (.nil (A:=fun _=>False) fun _ z=>z) (fun _ _ z=>z) (A:=fun b=>b=q) fun b=>⟨.inl,fun z=>z.elim id Az⟩) (fun _ z=>z.elim) fun b=>⟨.inr,fun z=>z.elim Az id⟩),?_⟩;rintro b rfl;exact ⟨by rw [ae npq]; exact s.free hq,hq⟩
end
theorem aj1 {X:Cx} {elt target iter:Expr} {ifs:List Expr} {scope:Scope} {pos:Pos} {cl:List (Str × Addr)} {N':List Str} {js:List (Option Nat)} {wi:TI} {g:TG} {tc:TT} {te:TE} (k:CompOk X scope cl N' js) (hi:PI X target iter wi)
  (hg:∀ C s₀ H₀ ex pn,PG (aP X N' scope cl C s₀ H₀ ex pn) target g) (ht:∀ C s₀ H₀ ex pn,PIfs (aP X N' scope cl C s₀ H₀ ex pn) ifs tc) (he:∀ C s₀ H₀ ex pn,PE (aP X N' scope cl C s₀ H₀ ex pn) elt te) (hs:∀ x,Cd iter X.env x=pure x:=by intro _; rfl):PE X (.ListComp elt [⟨target,iter,ifs,0⟩] scope pos) (aqd0 wi g tc te js) :=
 aqfl k.calm hi (ax2 k.clo) k.free k.hcl k.hhas k.cell k.kind k.names hg ht he hs
def rLOf (K:Frag):List V->Hp->VK->Prop:=fun xs H Q=>∃ p ys,xs=[.ref p]/\(SqL K H p ys \/ SqT K H p ys)/\∀ l,H l=none->Q (.ref l) (upd H l (.lst ys))
theorem aZ5 {X:Cx} {K:Frag} (h:X.K=K):awh X (.type "list") (rLOf K):=by subst h; exact aj6
theorem aqb4 {d:D} {p:Int × List Int} (h:aqm9 d=some p):d=.tup [.int p.1,.lst (p.2.map D.int)]:=by
 unfold aqm9 at h;split at h
 ·obtain ⟨l,hl,rfl⟩:=map_some h
  rw [aJ4 hl]
 ·cases h
theorem aqb5 {d:D} {hp:List (Int × List Int)} (h:aqk1 d=some hp):d=.lst (hp.map fun p=>.tup [.int p.1,.lst (p.2.map D.int)]):=by
 unfold aqk1 at h;split at h
 ·rename_i xs
  congr 1
  induction xs generalizing hp with
  | nil=>simp at h; subst h; rfl
  | cons x xs ih =>
   rw [mapM_cons] at h;obtain ⟨p,hp1,h⟩:=bind_some h;obtain ⟨r,hr,h⟩:=bind_some h;cases h;rw [aqb4 hp1,ih hr]; rfl
 ·cases h
theorem aqh5 {K:Frag} {F:Hp} {v:V} {p:Int × List Int} (r:Rep K F v (.tup [.int p.1,.lst (p.2.map D.int)])):∃ t m,v=.ref t/\SqT K F t [.int p.1,.ref m]/\SqE K F m (p.2.map V.int):=by
 cases r with
 | tup h r =>
  cases r with
  | cons r1 r=>cases r with
   | cons r2 r=>cases r with
    | nil =>
     cases r1;cases r2 with
     | lst h2 t =>
      have:=aZ t
      subst this;exact ⟨_,_,rfl,h,h2⟩
theorem aqcz {K:Frag} {F0 H H':Hp} {c0 c2 c3 c4:Option V} {d:Addr} {kvs:List (List Int × V)} {hp:List (Int × List Int)} {Q:VK} (sm:aqu9 F0 H) (s1:aqu9 H H') (hd:H' d=some (.dT (dkv kvs))) (tw:TWt kvs hp) (hl:hp.length < 60) (hm:∀ p∈hp,p.2.length < 60)
  (k:∀ v F' H' A,Ext F0 H F' H'->Own K F' H' v (.lst ((aJm hp).map aqa0)) A->(∀ b,A b->F' b=none/\H b=none)->Q v H') :
  aqd0 (aqmh K (tCB (fun xs H Q=>∃ (p:Addr) (kvs:List (List Int × V)),xs=[.ref p]/\H p=some (.dT (dkv kvs))/\kvs.length < 64/\∀ l (bs:List Addr),H l=none->bs.length=(ajc (kvs.map (·.1))).length->(∀ j (hj:j < bs.length),H bs[j]=some (.tup (((ajc (kvs.map (·.1))).getD j []).map V.int)))->Q (.ref l) (upd H l (.lst (bs.map V.ref)))) (az6 (aqsw 1) aqsx)))
   (azj 0) awi (tTup (az6 (aqjv (aqsw 1) (aqsw 0)) (az6 (tCB (rLOf K) (az6 (aqsw 0) aqsx)) aqsx))) [none,some 1] [c0,some (.ref d),c2,c3,c4] H' Q:=by
 refine ⟨_,rfl,d,kvs,rfl,hd,by have:=tw.1; omega,fun l bs hl1 hbl hbs=>⟨l,rfl,⟨_,SqL.of aa⟩,fun L hL=>?_⟩⟩;rw [aqgl tw] at hbl hbs;have hld:d ≠ l:=ac hd hl1;have hd1:upd H' l (.lst (bs.map V.ref)) d=some (.dT (dkv kvs)):=by rw [ae hld]; exact hd
 have s2:aqu9 H' (upd H' l (.lst (bs.map V.ref))):=ai hl1;have sF:aqu9 F0 (upd H' l (.lst (bs.map V.ref))):=(sm.trans s1).trans s2;have hn:bs.length=(aJm hp).length:=by rw [hbl]; simp [aJm]
 have e0:Ext F0 H F0 (upd H' l (.lst (bs.map V.ref))):=⟨aqu9.refl _,sF,s1.trans s2,fun _ _ h=>.inl h⟩;have re0:∀ (F:Hp) (σ:L2.St),RE K F σ [none,none]:=fun F σ i d h=>by
  match i,h with
  | 0,h=>cases h
  | 1,h=>cases h
 generalize hH1:upd H' l (.lst (bs.map V.ref))=H1 at *;have hl2:H1 l=some (.lst (bs.map V.ref)):=by rw [<- hH1]; exact aa
 refine ⟨fun i m σ' H''=>i <= bs.length/\m=bs.length - i/\∃ F' c,σ'=[c,some (.ref d)]/\CI K F0 H1 F' H'' σ' [none,none] L (((aJm hp).take i).map aqa0),⟨_,zero_le _,rfl,F0,none,rfl,Ext.laidH sF hL,re0 _ _,rfl,sF.free hL,[],fun _=>False,aa,.nil fun _ z=>z,fun _ z=>z.elim⟩,?_⟩;rintro i m σ' H'' ⟨hi,rfl,F',c,rfl,ci⟩;have hq:SqL K H'' l (bs.map V.ref):=SqL.of (ci.ext.hh _ _ hl2)
 by_cases hlt:i < bs.length
 ·have hm':(bs.map V.ref)[i]?=some (.ref bs[i]):=by simp [hlt]
  refine .inr ⟨⟨_,_,hq,hm'⟩,fun x H2 y=>?_⟩;obtain ⟨rfl,y⟩:=y;have hx:x=.ref bs[i]:=by
   have:=y _ hq
   rw [hm'] at this;exact (Option.some.inj this).symm
  subst hx;unfold azj awi;dsimp only;rw [if_pos rfl];have hki:i < (ajc (hp.map (·.2))).length:=by rw [<- hbl]; exact hlt
  have hkey:H2 bs[i]=some (.tup (((ajc (hp.map (·.2)))[i]).map V.int)):=by
   have:=hbs i hlt
   rw [getD_eq_getElem?_getD,getElem?_eq_getElem hki] at this;exact ci.ext.hh _ _ (s2 _ _ this)
  have hmem:(ajc (hp.map (·.2)))[i]∈hp.map (·.2):=MT.mem_keys.mp (getElem_mem hki);have hv:aqsr (dkv kvs) (((ajc (hp.map (·.2)))[i]).map Sum.inl)=some (.int (wtK hp (ajc (hp.map (·.2)))[i])):=by
   rw [aqbs,tw.2,if_pos hmem]
  have hz:((ajc (hp.map (·.2)))[i]).length < 60:=by
   obtain ⟨p,hp1,e⟩:=Ah.mp hmem;rw [<- e]; exact hm p hp1
  have hdg:=aqui.t (ci.ext.hh _ _ hd1) (k:=((ajc (hp.map (·.2)))[i]).map Sum.inl) (b:=bs[i]) (by rw [aju]; exact hkey);rw [hv] at hdg;refine ⟨_,rfl,_,rfl,d,_,rfl,hdg,_,rfl,bs[i],_,rfl,.inr (SqT.of hkey),fun q hq1=>⟨by show 2 <= Aj; rw [Ao]; omega,fun p hp1=>?_⟩⟩;obtain ⟨e4,r4,n4⟩:=aqhj (K:=K) (w:=wtK hp (ajc (hp.map (·.2)))[i]) ci.ext.fh hq1 hp1;have ci2:CI K F0 H1 F' H2 [some (.ref bs[i]),some (.ref d)] [none,none] L (((aJm hp).take i).map aqa0):=⟨ci.ext,re0 _ _,rfl,ci.fl,ci.hl⟩;obtain ⟨acc,a1,a2,a3⟩:=aqpz ci2 hL e4 r4 n4;refine ⟨acc,a1,?_,_,Nat.sub_succ_lt_self _ _ hlt,hlt,rfl,upd F' p (.tup [.int (wtK hp (ajc (hp.map (·.2)))[i]),.ref q]),_,rfl,?_⟩
  ·rw [a2,length_map,length_take,Ao]
   have:(aJm hp).length=bs.length:=hn.symm
   have hk2:(ajc (hp.map (·.2))).length <= hp.length:=by
    have:=MT.keys_len (hp.map (·.2))
    simpa using this
   omega
  ·have ht:(aJm hp).take (i + 1)=(aJm hp).take i++[(wtK hp (ajc (hp.map (·.2)))[i],(ajc (hp.map (·.2)))[i])]:=by
    rw [take_succ_eq_append_getElem (by omega)];simp [aJm]
   rw [ht,map_append];exact a3
 ·refine .inl ⟨⟨_,hq,by simp; omega⟩,?_⟩
  have e:(aJm hp).take i=aJm hp:=D6 (by omega);rw [e] at ci;obtain ⟨A,o1,o2⟩:=ci.own hL;exact k (.ref L) F' H'' A (e0.trans ci.ext) o1 fun b z=>⟨(o2 b z).1,e0.hh.free (o2 b z).2⟩
theorem aYc {K:Frag} {F0 H:Hp} {vs:List V} {ds:List D} {o:O} {Q:VK} (sm:aqu9 F0 H) (r:Reps K F0 vs ds) (hl:ds.length=1) (hg:aqkb ds=some o) (k:∀ v F' H' A,Ext F0 H F' H'->Own K F' H' v o A->(∀ b,A b->F' b=none/\H b=none)->Q v H') :
  tSeq (tAsg tDNewT (azj 1)) (tSeq (tFor (aqmh K (aqsw 0)) (gTup K 2 (aqbh (azj 2) (aqbh (azj 3) gNil))) (tSeq (tAsg (tCB (fun xs H Q=>∃ p ys,xs=[.ref p]/\((SqL K H p ys/\∀ l,H l=none->Q (.ref l) (upd H l (.tup ys))) \/ (SqT K H p ys/\Q (.ref p) H))) (az6 (aqsw 3) aqsx)) (azj 4)) (sDPut (aqsw 1) (aqsw 4) (tOp (rI0 fun i j=>.int (i + j)) (aqkf (aqsw 1) (aqsw 4) (tC (.int 0))) (aqsw 2)))))
   (tRet (aqd0 (aqmh K (tCB (fun xs H Q=>∃ (p:Addr) (kvs:List (List Int × V)),xs=[.ref p]/\H p=some (.dT (dkv kvs))/\kvs.length < 64/\∀ l (bs:List Addr),H l=none->bs.length=(ajc (kvs.map (·.1))).length->(∀ j (hj:j < bs.length),H bs[j]=some (.tup (((ajc (kvs.map (·.1))).getD j []).map V.int)))->Q (.ref l) (upd H l (.lst (bs.map V.ref)))) (az6 (aqsw 1) aqsx)))
    (azj 0) awi (tTup (az6 (aqjv (aqsw 1) (aqsw 0)) (az6 (tCB (rLOf K) (az6 (aqsw 0) aqsx)) aqsx))) [none,some 1]))) { nx:=fun _ H'=>Q .non H',rt:=Q } (vs.map some++C2 (5 - vs.length) none) H:=by
 cases r with
 | nil=>cases hl
 | cons r1 r=>cases r with
  | cons r2 r=>cases hl
  | nil =>
   obtain ⟨hp,hk,hg⟩:=bind_some (show (aqk1 _).bind _=some o from hg);split at hg
   ·rename_i hc
    cases hg
    have:=aqb5 hk
    subst this;cases r1 with
    | lst q t =>
     rename_i a vs0;have hmk:∀ p∈hp,p.2.length < 60:=fun p hp1=>by simpa using F9.mp hc.2 p hp1
     have hvl:vs0.length=hp.length:=by rw [t.length]; simp
     refine fun d hd=>?_;refine ⟨_,rfl,a,rfl,⟨vs0,(aqt1 (sm.trans (ai hd)) q).l⟩,aqbj (xs:=vs0) (fun i σ' H'=>∃ c2 c3 c4 kvs,σ'=[some (.ref a),some (.ref d),c2,c3,c4]/\aqu9 H H'/\H' d=some (.dT (dkv kvs))/\TWt kvs (hp.take i))
      ⟨none,none,none,[],rfl,ai hd,aa,by simpa using aqk8⟩ (fun i σ' H' _ ⟨_,_,_,_,_,s1,_⟩=>(aqt1 (sm.trans s1) q).l) (fun i x σ' H' hx hI=>?_) fun σ' H' hI=>?_⟩
     ·obtain ⟨c2,c3,c4,kvs,rfl,s1,hd1,tw⟩:=hI
      obtain ⟨dd,hdd,rp⟩:=t.get hx;rw [getElem?_map] at hdd;obtain ⟨p,hpi,rfl⟩:=map_some hdd;obtain ⟨t',m,rfl,ht,hm⟩:=aqh5 rp;refine ⟨t',[.int p.1,.ref m],rfl,seqT (sm.trans s1) ht,rfl,_,_,rfl,_,_,rfl,rfl,?_⟩;refine ⟨_,rfl,m,_,rfl,.inl ⟨(aqt1 (sm.trans s1) hm).l,fun kt hkt=>?_⟩⟩;have hdk:d ≠ kt:=ac hd1 hkt;have hd2:upd H' kt (.tup (p.2.map V.int)) d=some (.dT (dkv kvs)):=by rw [ae hdk]; exact hd1
      have hk2:upd H' kt (.tup (p.2.map V.int)) kt=some (.tup ((p.2.map Sum.inl:List Key).map kV)):=by rw [aju]; exact aa
      have hdg:=aqui.t hd2 hk2;have hlen:(dkv kvs).length < Aj:=by
       have:=tw.1
       simp at this;simp [dkv,Ao]; omega
      have hgd:(aqsr (dkv kvs) (p.2.map Sum.inl)).getD (.int 0)=.int (wtK (hp.take i) p.2):=by rw [aqbs]; exact aqk9 tw p.2
      refine ⟨_,rfl,d,rfl,.inr ⟨_,.inl hd2⟩,_,rfl,_,hdg,_,rfl,_,_,hgd,rfl,_,rfl,_,rfl,d,_,rfl,DPut.t hd2 hk2 hlen,?_⟩;refine ⟨_,_,_,aqt7 kvs p.2 (.int (wtK (hp.take i) p.2 + p.1)),rfl,fun b u hb=>?_,by rw [aa,aqmu],?_⟩
      ·rw [ae (ac hb hd),ae (ac (s1 _ _ hb) hkt)]
       exact s1 _ _ hb
      ·have e:hp.take (i + 1)=hp.take i++[(p.1,p.2)]:=by
        obtain ⟨hi,e⟩:=Ai.mp hpi;rw [take_succ_eq_append_getElem hi,e]
       rw [e];exact aqk7 tw p.1 p.2
     ·obtain ⟨c2,c3,c4,kvs,rfl,s1,hd1,tw⟩:=hI
      rw [hvl,take_length] at tw;exact aqcz sm s1 hd1 tw hc.1 hmk k
   ·cases hg
section
variable {P:Ak} {w:World} {K:Frag} {mg:Str->Option Value} {base:Heap} {N:List Str} {qual:Str} {scope:Scope} {f:Addr} {cd:Value} {A:Around} {outer:List Env} {s:Shared} {H:Hp} {E:XK} {C:Addr}
end
section
variable {X:Cx} {pins p2:List (Addr × Obj)} {R:Addr->Hp->Prop} {σ:L2.St} {H:Hp} {s:Shared}
structure ExcS (K:Frag) (C C':Addr):Prop where
 ty:J3 K (.ref C')=some (.type "type")
 cl:(K1 K C').isSome=true
 be:Ef K C' (.type "BaseException")=some true
 su:Ef K C (.ref C')=some false
end
section
variable {X:Cx}
theorem aWd (x:Str) (h:1 <= x.length):(Txt.slice x (some 1) none)=⟨(x.cps.toList.drop 1).toArray⟩:=by
 unfold Txt.slice;have e:Ha (some 1) none 1 x.length=Ha (some ((1:Nat):Int)) (some (x.length:Int)) 1 x.length:=by
  rw [StrLaws.sliceIdx_none_hi]; rfl
 rw [e];have e2:=StrLaws.strSliceIndices_plain h (le_refl x.length);have e3:=StrLaws.sliced_plain x h (le_refl x.length);rw [if_neg (by rw [e2]; simp; omega),e3];congr 2;rw [D6 (by simp [Str.length])]
def rSl1:V->Option Int->Option Int->Hp->VK->Prop:=fun x lo hi H Q=>∃ z:Str,x=.str z/\lo=some 1/\hi=none/\1 <= z.length/\z.length <= Aj/\Q (.str ⟨(z.cps.toList.drop 1).toArray⟩) H
theorem aqkl:SlR X rSl1:=by
 intro pins s σ H x v vl vu lo hi sl Q I rx hs pl pu h;obtain ⟨z,rfl,rfl,rfl,h1,hz,q⟩:=h;obtain ⟨t,rfl⟩:=rx;cases pl with
 | int i ti =>
  cases pu with
  | none =>
   refine ⟨"str",_,slot_str_getitem.lookup,K8 s z t,?_⟩;have hs':s.heap.IsSlice sl (some (1,ti)) none none:=hs;refine wpAny_getItem_str_slice hs' rfl (post_val_or_str ⟨le_trans (Txt.slice_le z (some 1) none) hz,fun t' k=>?_⟩);refine ⟨.str ⟨(z.cps.toList.drop 1).toArray⟩,H,I.tok k,⟨t',?_⟩,q⟩;rw [<- aWd z h1];rfl
theorem aqi3:MtR X "str.index" (fun x vs H Q=>∃ z y i aqt6,x=.str z/\vs=[.str y]/\Ix z y 0 z.length 1=i :: aqt6/\Q (.int (i:Nat)) H):=by
 intro pins s σ H x vs v us Q I rx rv h;obtain ⟨z,y,i,aqt6,rfl,rfl,ho,q⟩:=h;obtain ⟨t,rfl⟩:=rx;obtain ⟨u,rfl,ru⟩:=rv.one;obtain ⟨t2,rfl⟩:=ru;refine call_gives F.slot_str_index (K8 s z t) F.entry_str_index (F.args_str_index_2 _ _) (gives_str_index z y t t2 i aqt6 ho) ?_;exact ⟨.int i,H,I.tok _,⟨_,rfl⟩,q⟩
def axb:Str:="abcdefghijklmnopqrstuvwxyz"
theorem aJ3:∀ i,i < 26->∃ aqt6,Ix axb ⟨#[97 + i]⟩ 0 axb.length 1=i :: aqt6:=by
 intro i hi;refine ⟨[],?_⟩
 revert i
 decide +kernel
end
section
variable {X:Cx} {pins:List (Addr × Obj)} {σ:L2.St} {H:Hp} {s:Shared}
end
theorem awz {X:Cx} {ss:List Stmt}:PSs X ss (fun _ _ _=>False):=fun _ _ _ _ _ _ h=>Az h
end DL
namespace SortW
open PySem PySem.W PyProof.Rows DL
section
variable {prog:Ak} {w:World} {A:Around} {E:Value->Shared->Prop} {s:Shared} {d it:Addr} {es:Array DictEntry} {ep i:Nat} {ok ov:Value}
theorem aqba {Q:Option Value->Shared->Prop} (hit:Eb s.heap it d i es.size ep ok ov)
  (h:wpAny (model prog w) A.in1 (Builtin.«dict_itemiterator.__next__» ⟨[.ref it],[]⟩) (fun fin s'=>∃ v,fin=.done (.ret v)/\Q (some v) s') (fun e s'=>s'.TypeIs e "StopIteration"/\Q none s') s):wpAny (model prog w) A (Dt (.ref it)) Q E s:=by
 have hT:s.TypeIs (.ref it) "dict_itemiterator":=⟨_,hit,rfl⟩;unfold Dt;refine Ac (Eg (Bl (name:=Cu "__next__") hT Bz (Ax Bz hT PySem.F.entry_dict_itemiterator_next ?_ (PySem.F.args_dict_itemiterator_next_1 _))));refine Bj h (fun fin s' hq=>?_) (fun e s' hq=>?_)
 ·obtain ⟨v,rfl,hq⟩:=hq
  exact ⟨v,rfl,Ad hq⟩
 ·obtain ⟨t,hq⟩:=hq
  refine Ac (Dv (T:="StopIteration") (b:=true) t akx ?_);exact Ad hq
theorem aqhi {k v:Value} {Q:Value->Shared->Prop} (hit:Eb s.heap it d i es.size ep ok ov)
  (hQ:∀ h',K3 h' it d i es.size ep k v s.heap.objs.size->h'.get? s.heap.objs.size=some { cls:=.type "tuple",data:=.seq #[k,v] }->h'.objs.size=s.heap.objs.size + 1->(∀ b o,b ≠ it->s.heap.get? b=some o->h'.get? b=some o)->Q (.ref s.heap.objs.size) { s with heap:=h' }) :
  wpAny (model prog w) A (Dl (.ref it) 6 k v) Q E s:=by
 obtain ⟨hp,g,dr,tk,os⟩:=s;have hil:it ≠ hp.objs.size:=ne_of_lt (Af hit);unfold Dl;refine Ac (Fm ?_);have he:Eb (hp.push { cls:=.type "tuple",data:=.seq #[k,v] }) it d i es.size ep ok ov:=Ae _ hit;have ht:(hp.push { cls:=.type "tuple",data:=.seq #[k,v] }).get? hp.objs.size=some { cls:=.type "tuple",data:=.seq #[k,v] }:=Ag _ rfl;have hz:(hp.push { cls:=.type "tuple",data:=.seq #[k,v] }).objs.size=hp.objs.size + 1:=By _ _;have hk:∀ b o,b ≠ it->hp.get? b=some o->(hp.push { cls:=.type "tuple",data:=.seq #[k,v] }).get? b=some o:=fun b o _ e=>Ae _ e;generalize hp.push { cls:=.type "tuple",data:=.seq #[k,v] }=h2 at he ht hz hk;refine (?_:wpAny _ _ (E8 (.ref it) >>= _) _ _ ⟨h2,g,dr,tk,os⟩);refine Ac ?_;unfold E8;refine Ac (Dk he rfl (x:=.none) rfl (Ad ?_));simp only [if_true];refine Ac (Dk he rfl (x:=ok) rfl (Ac (Dk he rfl (x:=ov) rfl ?_)));refine Ac (Ec he (by simp) fun h3 he3 hs3=>?_);refine Ac (Ec (show Eb h3 it d i es.size ep k ov from he3) (by simp) fun h4 he4 hs4=>?_);refine Ac (Ec (show Eb h4 it d i es.size ep k v from he4) (by simp) fun h5 he5 hs5=>?_);refine Ac (Ec (show K3 h5 it d i es.size ep k v hp.objs.size from he5) (by simp) fun h6 he6 hs6=>?_);have all:∀ b o,b ≠ it->h2.get? b=some o->h6.get? b=some o:=fun b o hb e=>(show Heap.SameBut it h5 h6 from hs6).extBut b o hb ((show Heap.SameBut it h4 h5 from hs5).extBut b o hb ((show Heap.SameBut it h3 h4 from hs4).extBut b o hb ((show Heap.SameBut it h2 h3 from hs3).extBut b o hb e)));refine Ac (Kg (Ad (hQ h6 he6 (all _ _ hil.symm ht) ?_ fun b o hb e=>all b o hb (hk b o hb e))));rw [(show Heap.SameBut it h5 h6 from hs6).1,(show Heap.SameBut it h4 h5 from hs5).1,(show Heap.SameBut it h3 h4 from hs4).1,(show Heap.SameBut it h2 h3 from hs3).1,hz]
theorem aqb9 {Q:Option Value->Shared->Prop} (hit:Eb s.heap it d i es.size ep ok ov) (hm:aquc s.heap d es ep) (hi:i < es.size)
  (hQ:∀ h',K3 h' it d (i + 1) es.size ep es[i].key es[i].val s.heap.objs.size->h'.get? s.heap.objs.size=some { cls:=.type "tuple",data:=.seq #[es[i].key,es[i].val] }->h'.objs.size=s.heap.objs.size + 1 ->
   (∀ b o,b ≠ it->s.heap.get? b=some o->h'.get? b=some o)->Q (some (.ref s.heap.objs.size)) { s with heap:=h' }):wpAny (model prog w) A (Dt (.ref it)) Q E s:=by
 refine aqba hit ?_;obtain ⟨hp,g,dr,tk,os⟩:=s;obtain ⟨od,hod,hcd,hdd⟩:=hm;have hT:Gg ⟨hp,g,dr,tk,os⟩ (.ref it) "dict_itemiterator":=⟨_,hit,rfl⟩;refine Ac (Ad (Ac (Ac ?_)));refine Ac (Ck hT (Ad ?_));refine Ac (C3 hit rfl ?_);have own:B5 "dict_itemiterator"=true:=by decide
 simp only [own,if_true];refine (?_:wpAny _ _ (if (Value.ref d == Value.none)=true then _ else _) _ _ _);rw [if_neg (show ¬ ((Value.ref d == Value.none)=true) from An)];refine Ac (Ad (Ac (Bh hod hdd ?_)));rw [if_neg (by simp)];refine Ac (Ad (Ac (Df hod hdd ?_)));rw [if_neg (by simp)];refine Ad ?_;simp only [show ¬ ((i:Int) < 0) from by omega,if_false,A9,Da hi];refine Ac (Ac (Ck hT (Ad ?_)));refine Ac (Fr hT ?_);refine (?_:wpAny _ _ (Mt (.ref it) 3 (B7 ((i:Int) + 1)) >>= _) _ _ ⟨hp,g,dr,tk,os⟩);refine Ac (Ec hit (by simp) fun h1 he1 hs1=>?_);have hs1':Heap.SameBut it hp h1:=hs1;have he1':Eb h1 it d (i + 1) es.size ep ok ov:=by
  have e:((i + 1:Nat):Int)=(i:Int) + 1:=by omega
  unfold Eb; rw [e]; simpa [B7] using he1
 have hT1:Gg ⟨h1,g,dr,tk,os⟩ (.ref it) "dict_itemiterator":=⟨_,he1',rfl⟩;refine Ac (Ba (Ac (Fr hT1 (Ac (Fr hT1 ?_)))));refine (?_:wpAny _ _ (Dl (.ref it) 6 es[i].key es[i].val) _ _ ⟨h1,g,dr,tk,os⟩);have hz1:h1.objs.size=hp.objs.size:=hs1'.1;refine aqhi he1' fun h' a1 a2 a3 a4=>Ad ⟨_,rfl,?_⟩;have e1:(Shared.mk h1 g dr tk os).heap.objs.size=hp.objs.size:=hz1;rw [e1] at a1 a2 a3 ⊢;exact hQ h' a1 a2 a3 fun b o hb e=>a4 b o hb (hs1'.extBut b o hb e)
theorem aqe9 {Q:Option Value->Shared->Prop} (hh:A.handled=none) (hit:Eb s.heap it d i es.size ep ok ov) (hm:aquc s.heap d es ep) (hi:es.size <= i)
  (hQ:∀ h',Heap.ExtBut it s.heap h'->Q none { s with heap:=h' }):wpAny (model prog w) A (Dt (.ref it)) Q E s:=by
 refine aqba hit ?_;obtain ⟨od,hod,hcd,hdd⟩:=hm;have hT:s.TypeIs (.ref it) "dict_itemiterator":=⟨_,hit,rfl⟩;refine Ac (Ad (Ac (Ac ?_)));refine Ac (Ck hT (Ad ?_));refine Ac (C3 hit rfl ?_);have own:B5 "dict_itemiterator"=true:=by decide
 simp only [own,if_true];refine (?_:wpAny _ _ (if (Value.ref d == Value.none)=true then _ else _) _ _ s);rw [if_neg (show ¬ ((Value.ref d == Value.none)=true) from An)];refine Ac (Ad (Ac (Bh hod hdd ?_)));rw [if_neg (by simp)];refine Ac (Ad (Ac (Df hod hdd ?_)));rw [if_neg (by simp)];refine Ad ?_;simp only [show ¬ ((i:Int) < 0) from by omega,if_false,A9,getElem?_eq_none hi];refine Ac (Ac (Ck hT (Ad ?_)));refine (?_:wpAny _ _ (Mt (.ref it) 2 .none >>= _) _ _ s);refine Ac (Ce hit rfl (by simp) ?_);refine (?_:wpAny _ _ (Mq (.type "StopIteration") [] >>= _) _ _ _);simp only [Mq,newTuple];refine Ac (Ac (A8 ?_ (by size_fits)));refine Ac (m:=Ew _ _) (J8 (a:=Value.none) (by first | rfl | (simp only [Ew]; rfl)) ?_);refine A8 ?_ (by size_fits);simp only [Mr];refine Ac (Kz ?_);rw [show A.in1.handled=none from hh];refine Ac (Ad (Mc ⟨⟨_,Ag _ rfl,rfl⟩,?_⟩));exact hQ _ (((Cg ..).extBut.push _).push _)
end
end SortW
namespace DL
open PySem PySem.Spec PyProof.Rows L2 SortW
section
variable {X:Cx} {pins:List (Addr × Obj)} {σ:L2.St} {H:Hp} {s:Shared}
theorem Inv.freezeT (I:L2.Inv X pins σ H s) {d:Addr} {kvs:List (List Key × V)} (e:H d=some (.dT kvs)):∃ o es ep,s.heap.get? d=some o/\o.ExactDict/\o.data=.dict es ep/\es.size=kvs.length/\(d == Bi)=false/\L2.Inv X pins σ (upd H d (.frz o (.dT kvs))) s:=by
 obtain ⟨z1,z2,xs,r,o,es,ep,ho,hc,hd,he,hn⟩:=(show azn X.prog X.w H s.heap d (.dT kvs) from I.hok d _ e);refine ⟨o,es,ep,ho,hc,hd,?_,z2,?_⟩
 ·have:=congrArg List.length he
  rw [length_map] at this;rw [<- length_toList,this,r.length]
 ·have nt:∀ b ys,H b=some (.tup ys)->b ≠ d:=fun b ys q=>azh q e (by intro z; cases z)
  exact I.write (x:=d) (e:=d) (h':=s.heap) (t':=s.toks) (by rw [e]; exact True.intro) (.inl rfl) (fun b q hb z=>z) ⟨o,ho⟩ ⟨ho,z1,z2,xs,Paired.mapP r fun p q z=>⟨z.1,by rw [ae (nt _ _ z.2.1)]; exact z.2.1,z.2.2⟩,o,es,ep,ho,hc,hd,he,hn⟩
theorem Inv.thaw (I:L2.Inv X pins σ H s) {d:Addr} {o:Obj} {u:HO} (e:H d=some (.frz o u)) (h0:∀ o' u',X.H₀ d ≠ some (.frz o' u')):L2.Inv X pins σ (upd H d u) s:=by
 have nn:∀ b,H b=none->b ≠ d:=fun b n z=>by rw [z,e] at n; cases n
 have nt:∀ b ys,H b=some (.tup ys)->b ≠ d:=fun b ys q=>azh q e (by intro z; cases z);have no:∀ b y,H b=some (.own y)->b ≠ d:=fun b y q=>azh q e (by intro z; cases z);refine ⟨I.ok,I.os,I.bare,⟨I.base.keep,I.base.slot,fun b ob q n hx=>?_,I.base.there,fun b xs q=>?_,fun b ob w q=>?_,fun b ps q=>?_⟩,I.loc,I.cell,by rw [ae (nn _ I.free)]; exact I.free,fun x c q=>by rw [ae (nn _ (I.freeC x c q))]; exact I.freeC x c q,fun p hp=>?_,fun b w q=>?_,I.len⟩
 ·have z:=I.base.free b ob q n hx
  rw [ae (nn _ z)]; exact z
 ·have z:=I.base.tups b xs q
  rw [ae (nt _ _ z)]; exact z
 ·have z:=I.base.frzs b ob w q
  rw [ae (by rintro rfl; exact h0 _ _ q)]; exact z
 ·obtain ⟨more,z⟩:=I.base.tbls b ps q
  exact ⟨more,by rw [ae (azh z e (by intro z; cases z))]; exact z⟩
 ·obtain ⟨a1,a2,a3⟩:=I.pin p hp
  exact ⟨a1,by rw [ae (nn _ a2)]; exact a2,a3⟩
 ·by_cases hb:b=d
  ·subst hb
   rw [aa] at q;cases q;obtain ⟨_,z⟩:=(show azn X.prog X.w H s.heap b (.frz o u) from I.hok b _ e);exact z.stay (fun _ _ _ z=>z) (fun c z=>by rw [ae (no _ _ z)]; exact z) fun c xs z=>by rw [ae (nt _ _ z)]; exact z
  ·rw [ae hb] at q
   exact (I.hok b w q).stay (fun _ _ _ z=>z) (fun c z=>by rw [ae (no _ _ z)]; exact z) fun c xs z=>by rw [ae (nt _ _ z)]; exact z
end
def tThaw (H₀:Hp) (t:TE):TE:=fun σ H Q=>t σ H fun v H1=>∃ d o u,H1 d=some (.frz o u)/\(∀ o' u',H₀ d ≠ some (.frz o' u'))/\Q v (upd H1 d u)
theorem aql3 {X:Cx} {e:Expr} {t:TE} (h:PE X e t):PE X e (tThaw X.H₀ t):=by
 intro pins s σ H Q I q;refine thn (h pins s σ H _ I q) fun v s1 hQ=>?_;obtain ⟨x,H1,I1,r1,d,o,u,e1,h0,q1⟩:=hQ;exact ⟨x,_,Inv.thaw I1 e1 h0,r1,q1⟩
def ItI (d:Addr) (o:Obj) (kvs:List (List Key × V)):It :=
 ⟨fun i H=>H d=some (.frz o (.dT kvs))/\i < kvs.length,fun i H x H'=>∃ T k p,x=.ref T/\H T=none/\kvs[i]?=some p/\H k=some (.tup (p.1.map kV))/\H'=upd H T (.tup [.ref k,p.2]),fun i H=>H d=some (.frz o (.dT kvs))/\kvs.length <= i⟩
theorem aJw {α β:Type} {R:α->β->Prop}:∀ {xs:List α} {ys:List β},Paired R xs ys->∀ {i:Nat} {x:α},xs[i]?=some x->∃ y,ys[i]?=some y/\R x y
 | _,_,.cons h t,0,x,e=>by simp at e; subst e; exact ⟨_,rfl,h⟩
 | _,_,.cons h t,i + 1,x,e=>by
  obtain ⟨y,hy,r⟩:=aJw t (i:=i) (x:=x) (by simpa using e);exact ⟨y,by simpa using hy,r⟩
theorem aYa {P:Ak} {w:World} {K:Frag} {elts:List Expr} {kk:Nat} {tp:Pos} (d it:Addr) (o:Obj) (kvs:List (List Key × V)) (ep:Nat) (es:Array DictEntry) (hd:o.data=.dict es ep) (hz:es.size=kvs.length) :
  Turn P w K (.Tuple elts kk tp) (ItI d o kvs) [it] it (fun i h=>∃ ok ov,Eb h it d i es.size ep ok ov) where
 mem:=by simp
 obj:=fun i h st b hb=>by
  obtain ⟨ok,ov,st⟩:=st;have e:b=it:=by simpa using hb
  subst e;exact ⟨_,st,fun v z=>by
   have z':Data.fields _=Data.cell v:=z;cases z'⟩
 keep:=fun i h h' st k=>by
  obtain ⟨ok,ov,st⟩:=st;exact ⟨ok,ov,k it (by simp) _ st⟩
 item:=by
  intro X hP hw hK hc i pins s σ H E I hf st hg;subst hP hw hK;obtain ⟨ok,ov,st⟩:=st;obtain ⟨hg,hi⟩:=hg;obtain ⟨ho,z1,z2,xs,r,o',es',ep',ho',hx,hxd,hxs,hn⟩:=(show azn X.prog X.w H s.heap d (.frz o (.dT kvs)) from I.hok d _ hg);rw [ho] at ho';cases ho';rw [hd] at hxd;cases hxd;have hi':i < es.size:=by omega
  obtain ⟨y,hy,e1,e2,e3⟩:=aJw r (i:=i) (x:=kvs[i]) (by simp [hi]);have he:es[i]=entryOfKey (Fc (aqj X.prog X.w)) y:=by
   have h1:es.toList[i]?=some es[i]:=by simp [hi']
   rw [hxs,getElem?_map,hy] at h1;exact (Option.some.inj h1).symm
  have hit:it < s.heap.objs.size:=Af st;refine aqb9 st ⟨o,ho,hx,hd⟩ hi' fun h' a1 a2 a3 a4=>⟨_,rfl,?_⟩;rw [he] at a1 a2;refine wpAny_letOwnedTupleGo_items (s:={ s with heap:=h' }) a1 fun h'' b1 b2=>?_;have nT:s.heap.objs.size ≠ it:=ne_of_gt hit;have kall:∀ b u,b ∉ [it]->s.heap.get? b=some u->h''.get? b=some u:=fun b u hb e=>b2.extBut b u (by simpa using hb) (a4 b u (by simpa using hb) e);have new:azn X.prog X.w (upd H s.heap.objs.size (.tup [.ref y.2.1,kvs[i].2])) h'' s.heap.objs.size (.tup [.ref y.2.1,kvs[i].2]) :=
   ⟨by simp [Ao],[.ref y.2.1,y.2.2],.cons rfl (.cons e3 .nil),_,b2.extBut _ _ nT a2,rfl,0,rfl⟩
  have I2:=DL.Inv.turnedT I (h':=h'') (t':=s.toks) kall hf (le_refl _) new;refine ⟨.ref s.heap.objs.size,_,I2,rfl,⟨_,y.2.1,kvs[i],rfl,I.hok.fresh (le_refl _),by simp [hi],e2,rfl⟩,⟨_,_,b1⟩,fun b hb=>?_⟩;have hb':b=it:=by simpa using hb
  subst hb';rw [ae nT.symm];exact (hf b (by simp)).1
 done:=by
  intro X hP hw hK hc i pins s σ H E I hf st hg;subst hP hw hK;obtain ⟨ok,ov,st⟩:=st;obtain ⟨hg,hi⟩:=hg;obtain ⟨f0,f1,f2,f3,f4,f5⟩:=hf it (by simp);obtain ⟨ho,z1,z2,xs,r,o',es',ep',ho',hx,hxd,hxs,hn⟩:=(show azn X.prog X.w H s.heap d (.frz o (.dT kvs)) from I.hok d _ hg);exact aqe9 (I.ok.hd hc) st ⟨o,ho,by rw [ho] at ho'; cases ho'; exact hx,hd⟩ (by omega) fun h' eb=>⟨rfl,I.turned (t':=s.toks) (fun b o hb e=>eb b o hb e) f0 f1 f3 f4 f5⟩
 self:=fun A i s Q E st h=>by
  obtain ⟨ok,ov,st⟩:=st;have hT:s.TypeIs (.ref it) "dict_itemiterator":=⟨_,st,rfl⟩;have hen:Mp table "dict_itemiterator.__iter__"=some Builtin.«dict_keyiterator.__iter__»:=J9 (id':="dict_keyiterator.__iter__") (by kernel_rfl) rfl (by decide +kernel) (by kernel_rfl);refine En hT E9 (Ax E9 hT hen ?_ (PySem.F.args_dict_itemiterator_iter_1 _));refine (?_:wpAny _ _ (ret (.ref it)) _ _ s);exact Ad ⟨_,rfl,"dict_itemiterator",_,hT,Bz.lookup,h⟩
theorem erase_filter {κ:Type} [DecidableEq κ] {β:Type}:∀ {xs:List (κ × β)},(xs.map (·.1)).Nodup->∀ {j:Nat} {k:κ} {p:β},xs[j]?=some (k,p)->xs.eraseIdx j=xs.filter fun x=>decide (x.1 ≠ k)
 | [],_,j,k,p,h=>by simp at h
 | x :: xs,hn,0,k,p,h=>by
  simp at h;subst h;rw [map_cons,nodup_cons] at hn;simp only [List.eraseIdx_zero,List.tail_cons];rw [filter_cons_of_neg (by simp)];refine (Av.mpr fun y hy=>?_).symm
  have:y.1∈xs.map (·.1):=Ah.mpr ⟨y,hy,rfl⟩
  simp
  rintro rfl;exact hn.1 this
 | x :: xs,hn,j + 1,k,p,h=>by
  rw [map_cons,nodup_cons] at hn;have hj:xs[j]?=some (k,p):=by simpa using h
  have hk:k∈xs.map (·.1):=Ah.mpr ⟨(k,p),mem_of_getElem? hj,rfl⟩;have ne:x.1 ≠ k:=by rintro e; rw [e] at hn; exact hn.1 hk
  rw [Ff,erase_filter hn.2 hj,filter_cons_of_pos (by simpa using ne)]
theorem aKd {α β:Type} (f:α->β):∀ (xs:List α) (j:Nat),(xs.map f).eraseIdx j=(xs.eraseIdx j).map f
 | [],_=>by simp
 | x :: xs,0=>by simp
 | x :: xs,j + 1=>by simp only [map_cons,Ff,aKd f xs j]
theorem KT.drop {H:Hp} {kvs:List (List Key × V)} {xs:List (List Key × Addr × Value)} (r:KT H kvs xs) (k:List Key):KT H (aqct kvs k) (xs.filter fun x=>decide (x.1 ≠ k)):=by
 unfold aqct
 induction r with
 | nil=>exact .nil
 | @cons p q ps qs h t ih =>
  by_cases e:p.1=k
  ·rw [filter_cons_of_neg (by simp [e]),filter_cons_of_neg (by simp [<- h.1,e])]; exact ih
  ·rw [filter_cons_of_pos (by simp [e]),filter_cons_of_pos (by simp [<- h.1,e])]; exact .cons h ih
section
variable {prog:Ak} {w:World} {κ:Type} [DecidableEq κ] {knd:HeapKind prog w κ} {A:Around} {E:Value->Shared->Prop} {s:Shared} {d a:Addr} {xs:List (κ × Addr × Value)} {k:κ}
theorem akg {Q:Option DictEntry->Shared->Prop} (hu:knd.room A) (hkey:knd.is s.heap k a) (hm:s.heap.DictOfH knd d xs) (hsz:xs.length <= Aj)
  (hnone:atKey xs k=none->Q none { s with toks:=s.toks + knd.draws k })
  (hsome:∀ p h',atKey xs k=some p->h'.DictOfH knd d (xs.filter fun x=>decide (x.1 ≠ k))->Heap.SameBut d s.heap h'->Q (some (entryOfKey knd (k,p))) { s with heap:=h',toks:=s.toks + knd.draws k }) :
  wpAny (model prog w) A (Kh d (.ref a)) Q E s:=by
 obtain ⟨o,es,ep,ho,hc,hd,he,his,hn⟩:=hm;unfold Kh;refine Ba ?_;refine Ac (knd.pyHash hu hkey (Ac (wpAny_dictFind_heap (s:={ s with toks:=s.toks + knd.draws k }) hu hkey ho hd he his hn ?_ ?_)))
 ·intro hno
  exact Ad (hnone (atKey_none_of_get hno))
 ·intro j p hj
  refine Ac (Bh (s:={ s with toks:=s.toks + knd.draws k }) ho hd ?_);rw [entry_at he j,hj];have hz:es.size <= Aj:=by rw [size_of_entries he]; exact hsz
  have hjl:j < es.size:=by
   rw [size_of_entries he];exact (Ai.mp hj).1
  refine Ac (wpAny_updateDictKeys (hz:=hz) (s:={ s with toks:=s.toks + knd.draws k }) ho hd (Ad (hsome p _ (atKey_of_get hn hj)
   ⟨_,_,ep + 1,Bf _ ho (Obj.isFreed_of_dict (Ki hd _)),hc.mapDictKeys _,Ki hd _,?_,fun x hx=>?_,?_⟩ (Cg ..))))
  ·rw [Array.toList_eraseIdxIfInBounds,he,<- erase_filter hn hj,aKd]
  ·exact knd.keeps (his x (Ay.mp hx).1) ho hd (Cg ..)
  ·exact (E3 _ filter_sublist).nodup hn
end
section
variable {X:Cx} {pins:List (Addr × Obj)} {σ:L2.St} {H:Hp} {s:Shared} {a b:Addr} {kvs:List (List Key × V)} {k:List Key} {A:Around} {E:Value->Shared->Prop}
theorem aqn1 {more:List Value} {Q:Value->Shared->Prop} (hu:A.units + 1 < cLine) (I:L2.Inv X pins σ H s) (e:H a=some (.dT kvs)) (eb:H b=some (.tup (k.map kV))) (hm:more=[] \/ ∃ x,more=[x])
  (h1:∀ v w' s',aqsr kvs k=some v->L2.Inv X pins σ (upd H a (.dT (aqct kvs k))) s'->RelV v w'->Q w' s') (h2:aqsr kvs k=none->∃ x,more=[x]/\∀ s',L2.Inv X pins σ H s'->Q x s') :
  wpAny (model X.prog X.w) A (call (.builtin "dict.pop") (.ref a :: .ref b :: more)) Q E s:=by
 obtain ⟨z,hd,xs,rel,dd⟩:=dt_of I.hok e;have hz:xs.length <= Aj:=by rw [<- Paired.length rel]; exact z
 have ha:argsOk "dict.pop" ⟨.ref a :: .ref b :: more,[]⟩:=by
  rcases hm with q | ⟨x,q⟩
  ·subst q; exact PySem.F.args_dict_pop_2 _ _
  ·subst q; exact PySem.F.args_dict_pop_3 _ _ _
 have kk:=aZq I.hok eb;refine Ax Fx dd.typeIs PySem.F.entry_dict_pop ?_ ha;unfold Builtin.«dict.pop»;refine Ac ?_;unfold Builtin.Dict.keyAndDefault;refine Ac (Ek dd.typeIs ?_);obtain ⟨o,es,ep,ho,hc,hdat,he,his,hn⟩:=id dd;have emp:es.isEmpty=true->aqsr kvs k=none:=by
  intro hem
  have:es.toList=[]:=by simpa using hem
  rw [this] at he;have hx:xs=[]:=by simpa using he.symm
  subst hx;cases rel;rfl
 have non:atKey xs k=none->aqsr kvs k=none:=by
  intro hno
  have:=rel.val k
  rw [hno] at this;cases q:aqsr kvs k with
  | none=>rfl
  | some v=>rw [q] at this; exact this.elim
 have got:∀ p h',atKey xs k=some p->h'.DictOfH (Fc (aqj X.prog X.w)) a (xs.filter fun x=>decide (x.1 ≠ k))->Heap.SameBut a s.heap h'->Q p.2 { s with heap:=h',toks:=s.toks + (Fc (aqj X.prog X.w)).draws k }:=by
  intro p h' hp dd' hs;have rv:=rel.val k;rw [hp] at rv;cases q:aqsr kvs k with
  | none=>rw [q] at rv; exact rv.elim
  | some v =>
   rw [q] at rv;refine h1 v _ _ q ?_ rv;obtain ⟨q1,es1,ep1,hq1,g2,g3,g4,_,g5⟩:=dd';refine aqbu I (by rw [e]; exact True.intro) hs ⟨q1,hq1⟩ ⟨le_trans (aqj9 kvs k) z,hd,_,(KT.drop rel k).keeps fun c ys ec=>?_,q1,es1,ep1,hq1,g2,g3,g4,g5⟩;rw [ae (azh ec e (fun z=>nomatch z))];exact ec
 rcases hm with rfl | ⟨x,rfl⟩
 ·refine (?_:wpAny _ _ (pure (a,Value.ref b,none)) _ _ s)
  refine Ad ?_;dsimp only;rw [if_neg (show ¬ (keyPart (Value.ref b)).isSome=true from by simp [keyPart])];refine Ac (Bh ho hdat (Ac (Ad ?_)))
  by_cases hem:es.isEmpty=true
  ·obtain ⟨x,hx,_⟩:=h2 (emp hem)
   cases hx
  ·rw [if_neg hem]
   refine Ac (akg (Cj hu) kk dd hz (fun hno=>?_) fun p h' hp dd' hs=>?_)
   ·obtain ⟨x,hx,_⟩:=h2 (non hno)
    cases hx
   ·simp only [Lg,Aw,if_false]
    exact Ac (Kg (Ad ⟨_,rfl,got p h' hp dd' hs⟩))
 ·refine (?_:wpAny _ _ (pure (a,Value.ref b,some x)) _ _ s)
  refine Ad ?_;dsimp only;rw [if_neg (show ¬ (keyPart (Value.ref b)).isSome=true from by simp [keyPart])];refine Ac (Bh ho hdat (Ac (Ad ?_)))
  by_cases hem:es.isEmpty=true
  ·rw [if_pos hem]
   refine Ac (Dm (Ac (Ad ?_)));simp only [Lh,if_true];refine Ac (Ht hd ?_);obtain ⟨y,hy,hq⟩:=h2 (emp hem);cases hy;exact Ac (Dm (Ad ⟨x,rfl,hq s I⟩))
  ·rw [if_neg hem]
   refine Ac (akg (Cj hu) kk dd hz (fun hno=>?_) fun p h' hp dd' hs=>?_)
   ·simp only [Lh,if_true]
    refine Ac (Ht hd ?_);obtain ⟨y,hy,hq⟩:=h2 (non hno);cases hy;exact Ac (Dm (Ad ⟨x,rfl,hq _ (I.tok _)⟩))
   ·simp only [Lg,Aw,if_false]
    exact Ac (Kg (Ad ⟨_,rfl,got p h' hp dd' hs⟩))
end
end DL
namespace DL
open PySem PySem.Spec PyProof.Rows L2
section
variable {X:Cx} {pins:List (Addr × Obj)} {σ:L2.St} {H H1:Hp} {s s':Shared} {C:Addr} {e:Value}
end
section
variable {P:Ak} {w:World} {K:Frag} {mg:Str->Option Value} {base:Heap} {N:List Str} {qual:Str} {scope:Scope} {f:Addr} {cd:Value} {A:Around} {outer:List Env} {s:Shared} {H:Hp} {E:XK} {C:Addr}
end
section
variable {X:Cx} {pins p2:List (Addr × Obj)} {R:Addr->Hp->Prop} {σ:L2.St} {H:Hp} {s:Shared}
end
end DL
namespace DL
open PySem PySem.Spec PyProof.Rows L2 SortW
def iItemsT (tl:TE):TI:=fun σ H R=>tl σ H fun x H1=>∃ d kvs,x=.ref d/\H1 d=some (.dT kvs)/\∀ o,R (ItI d o kvs) (upd H1 d (.frz o (.dT kvs)))
theorem aqdk {X:Cx} {e:Expr} {elts:List Expr} {kk:Nat} {tp apos pos:Pos} {tl:TE} (hl:PE X e tl) (hbase:Ee e "items" X.env (eval e X.env)=eval e X.env:=by rfl) (hline:(apos.endLine == pos.line)=true:=by rfl) :
  PI X (.Tuple elts kk tp) (.Call (.Attribute e "items" apos) [] [] pos) (iItemsT tl):=by
 intro pins s σ H R I h;refine Fp (T:="dict") (id:="dict.items") hbase rfl hline Dw Iy PySem.F.type_dict_items (thn (hl pins s σ H _ I h) fun v s1 hQ=>?_);obtain ⟨x,H1,I1,r1,d,kvs,ex,ed,q⟩:=hQ;subst ex;obtain rfl:v=Value.ref d:=r1;obtain ⟨o,es,ep,ho,hc,hd,hz,hsys,I2⟩:=Inv.freezeT I1 ed;have hT:s1.TypeIs (.ref d) "dict":=⟨o,ho,hc.1⟩;refine ⟨hT,fun b q=>by cases q; exact ⟨o,ho,hc.2.1⟩,?_⟩;refine (?_:wpAny _ _ (callWith pos (.builtin "dict.items") [.ref d] [] []) _ _ s1);refine Ct rfl (PySem.evalArgs_none ?_);refine Ax Iy hT PySem.F.entry_dict_items ?_ (PySem.F.args_dict_items_1 _);unfold Builtin.«dict.items» Builtin.Dict.noArgs;refine Ac (Ac (Ek hT ?_));refine (?_:wpAny _ _ (pure d) _ _ s1);refine Ad ?_;refine (?_:wpAny _ _ (C8 d >>= _) _ _ s1);unfold C8;rw [if_neg (by rw [hsys]; exact An)];refine Ac (Ad (Ac (A8 (Ad ⟨_,rfl,?_⟩))));have I3:=I2.kept (h':=s1.heap.push { cls:=.type "dict_items",data:=.fields #[.ref d] }) (t':=s1.toks) fun b u q=>Ae _ q;have hv:(s1.heap.push { cls:=.type "dict_items",data:=.fields #[.ref d] }).get? s1.heap.objs.size=some { cls:=.type "dict_items",data:=.fields #[.ref d] }:=Ag _ rfl;have ho3:(s1.heap.push { cls:=.type "dict_items",data:=.fields #[.ref d] }).get? d=some o:=Ae _ ho;generalize hh3:s1.heap.push { cls:=.type "dict_items",data:=.fields #[.ref d] }=h3 at I3 hv ho3;have hTv:Gg { s1 with heap:=h3 } (.ref s1.heap.objs.size) "dict_items":=⟨_,hv,rfl⟩;refine (?_:wpAny _ _ (J2 (.ref s1.heap.objs.size)) _ _ { s1 with heap:=h3 });refine En hTv Gz (Ax Gz hTv PySem.F.entry_dict_items_iter ?_ (PySem.F.args_dict_items_iter_1 _));unfold Builtin.«dict_items.__iter__»;refine Ac (Ad (Ac ?_));unfold Builtin.Dict_items.dictOf;refine Ac (Dk hv rfl (x:=.ref d) rfl (Ad (Ac ?_)));unfold Builtin.Dict_items.newIterator;refine Ac (Bh ho3 hd (Ac (Df ho3 hd ?_)));have own:B5 "dict_itemiterator"=true:=by decide
 simp only [own,if_true];refine A8 (Ad ⟨_,rfl,"dict_itemiterator",_,⟨_,Ag _ rfl,rfl⟩,Bz.lookup,?_⟩)
  (by simp only [sizeOk,Fa,size_toArray,length_append,length_cons,List.length_nil,Ao]; omega)
 have I4:=I3.kept (h':=h3.push { cls:=.type "dict_itemiterator",data:=.fields #[.none,.bool false,.ref d,.int 0 0,.int es.size 0,.int ep 0,.none,.none] }) (t':=s1.toks) fun b u q=>Ae _ q;have fin:PIE X pins σ (.Tuple elts kk tp) R (.ref h3.objs.size) { s1 with heap:=h3.push { cls:=.type "dict_itemiterator",data:=.fields #[.none,.bool false,.ref d,.int 0 0,.int es.size 0,.int ep 0,.none,.none] } }:=by
  refine ⟨_,[_],_,_,_,rfl,I4,aYa d _ o kvs ep es hd hz,⟨_,_,Ag _ rfl⟩,fun b hb=>?_,q o⟩;have hb':b=h3.objs.size:=by simpa using hb
  subst hb';exact I3.fpOk (le_refl _) (I3.hok.fresh (le_refl _))
 simpa [B7,Fa] using fin
def aqke (td ty:TE):TE:=fun σ H Q=>td σ H fun x H1=>∃ a,x=.ref a/\IsD H1 a/\ty σ H1 fun y H2=>∃ kvs k v b,H2 a=some (.dT kvs)/\y=.ref b/\H2 b=some (.tup (k.map kV))/\aqsr kvs k=some v/\Q v (upd H2 a (.dT (aqct kvs k)))
def aqkd (td ty tx:TE):TE:=fun σ H Q=>td σ H fun x H1=>∃ a,x=.ref a/\IsD H1 a/\ty σ H1 fun y H2=>tx σ H2 fun z H3=>∃ kvs k b,H3 a=some (.dT kvs)/\y=.ref b/\H3 b=some (.tup (k.map kV)) /\
 (∀ v,aqsr kvs k=some v->Q v (upd H3 a (.dT (aqct kvs k))))/\(aqsr kvs k=none->Q z H3)
section
variable {X:Cx} {o e f:Expr} {td ty tx:TE} {apos cpos:Pos}
theorem aqdn (hu:X.A.units + 1 < cLine) (ho:PE X o td) (he:PE X e ty) (m:M1 X o "pop" apos e cpos):PE X (.Call (.Attribute o "pop" apos) [e] [] cpos) (aqke td ty):=by
 intro pins s σ H Q I h;refine Fp m.base m.few m.line Dw Fx Jz (thn (ho pins s σ H _ I h) fun u s1 hQ=>?_);obtain ⟨x,H1,I1,rx,a,ex,d,q1⟩:=hQ;subst ex;obtain rfl:u=Value.ref a:=rx;obtain ⟨t1,t2,_⟩:=aqim I1 d;refine ⟨t1,t2,?_⟩;rw [m.trees];refine Ct rfl (Eu (B8 (thn (he pins s1 σ H1 _ I1 q1) fun iv s2 ⟨y,H2,I2,ry,kvs,k,v,b,ea,ey,eb,l,q2⟩=>Di ?_)));subst ey;obtain rfl:iv=Value.ref b:=ry;exact aqn1 hu I2 ea eb (.inl rfl) (fun v' w' s3 e1 I3 r3=>by rw [l] at e1; cases e1; exact ⟨v,_,I3,r3,q2⟩) fun e1=>by rw [l] at e1; cases e1
theorem aqdm (hu:X.A.units + 1 < cLine) (ho:PE X o td) (he:PE X e ty) (hf:PE X f tx) (m:M2 X o "pop" apos e f cpos):PE X (.Call (.Attribute o "pop" apos) [e,f] [] cpos) (aqkd td ty tx):=by
 intro pins s σ H Q I h;refine Fp m.base m.few m.line Dw Fx Jz (thn (ho pins s σ H _ I h) fun u s1 hQ=>?_);obtain ⟨x,H1,I1,rx,a,ex,d,q1⟩:=hQ;subst ex;obtain rfl:u=Value.ref a:=rx;obtain ⟨t1,t2,_⟩:=aqim I1 d;refine ⟨t1,t2,?_⟩;rw [m.trees];refine Ct rfl (Eu (B8 (thn (he pins s1 σ H1 _ I1 q1) fun iv s2 ⟨y,H2,I2,ry,q2⟩ =>
  B8 (thn (hf pins s2 σ H2 _ I2 q2) fun fv s3 ⟨z,H3,I3,rz,kvs,k,b,ea,ey,eb,q3,q4⟩=>Di ?_))))
 subst ey;obtain rfl:iv=Value.ref b:=ry;exact aqn1 hu I3 ea eb (.inr ⟨fv,rfl⟩) (fun v' w' s4 e1 I4 r4=>⟨v',_,I4,r4,q3 v' e1⟩) fun e1=>⟨fv,rfl,fun s4 I4=>⟨z,H3,I4,rz,q4 e1⟩⟩
end
section
variable {prog:Ak} {w:World} {A:Around} {E:Value->Shared->Prop} {s:Shared} {d:Addr} {es:Array DictEntry} {ep:Nat}
theorem aqm2 {R:Value->Shared->Prop} (hd:(d == Bi)=false) (hm:aquc s.heap d es ep) (h:R (.int es.size s.toks) { s with toks:=s.toks + 1 }) :
  wpAny (model prog w) A (Builtin.«dict.__len__» ⟨[.ref d],[]⟩) (fun fin s'=>∃ v,fin=.done (.ret v)/\R v s') E s:=by
 obtain ⟨o,ho,hc,hdat⟩:=hm;refine (?_:wpAny _ _ (dictSize d >>= _) _ _ s);unfold dictSize;refine Ac (Ac (Bh ho hdat (Ad ?_)));refine (?_:wpAny _ _ (Builtin.Dict.pendingCount d >>= _) _ _ s);refine Ac (wpAny_pendingCount_other hd ?_);refine wpAny_ret_mkInt ?_;simpa using h
theorem aZ4 {Q:Value->Shared->Prop} (hd:(d == Bi)=false) (hm:aquc s.heap d es ep) (hfit:(es.size:Int) < 2 ^ 63) (h:∀ t tk,Q (.int es.size t) { s with toks:=tk }):wpAny (model prog w) A (call (.builtin "len") [.ref d]) Q E s:=by
 refine Db kind_len plain_len entry_len (args_len1 _) ?_;unfold Builtin.«len»;refine Ac (m:=oneArg "len" _) (Ad ?_);refine Ac (m:=callSpecial? (.ref d) (Cu "__len__")) (Bl (name:=Cu "__len__") hm.ty J0
  (Ax J0 hm.ty PySem.F.entry_dict_len (aqm2 hd hm ?_) (PySem.F.args_dict_len_1 _)))
 refine Ac (Ba (Ad ?_));refine Ac (Kg ?_);refine (?_:wpAny _ _ (if ((es.size:Nat):Int) < 0 then _ else _) _ _ _);rw [if_neg (by omega)];refine (?_:wpAny _ _ (if ((es.size:Nat):Int) ≥ 2 ^ 63 then _ else _) _ _ _);rw [if_neg (by omega)];exact Ac (wpAny_mkInt (Ad ⟨_,rfl,h _ _⟩))
end
theorem aJd {X:Cx}:awh X (.builtin "len") (fun xs H Q=>∃ a kvs,xs=[V.ref a]/\H a=some (.dT kvs)/\Q (.int kvs.length) H):=by
 intro pins s σ H xs us Q I r h;obtain ⟨a,kvs,rfl,ha,q⟩:=h;obtain ⟨u,rfl,ru⟩:=vals1 r;cases ru;obtain ⟨o,es,ep,ho,hc,hd,hz,hsys,_⟩:=Inv.freezeT I ha;obtain ⟨z,_⟩:=(show azn X.prog X.w H s.heap a (.dT kvs) from I.hok a _ ha);refine aZ4 hsys ⟨o,ho,hc,hd⟩ (by rw [hz]; rw [Ao] at z; omega) fun t tk=>⟨.int kvs.length,H,I.tok _,⟨t,by rw [hz]⟩,q⟩
end DL
namespace DL
open PySem PySem.Spec PyProof.Rows L2
theorem aqfs {X:Cx} {K:Frag} (h:X.K=K) (hu:X.A.units + 64 + 1 < cLine):OpR X (Bm .In) (rInD K false):=by subst h; exact aqac hu
theorem aqfk {X:Cx} {K:Frag} {e:Expr} {f:Str} {pos:Pos} {ta:TE} (h:X.K=K) (he:PE X e ta) (hb:Ee e f X.env (eval e X.env)=eval e X.env):PE X (.Attribute e f pos) (tFld K ta f):=by subst h; exact ave he hb
theorem aqfj {X:Cx} {K:Frag} {pos:Pos} {es:List Expr} {k:Nat} {t:TGs} {n:Nat} (h:X.K=K) (hc:X.calm=true) (ht:PGs X es t)
  (hn:(B6 es X.env).length=n:=by rfl) (hst:(B6 es X.env).findIdx? (·.1)=none:=by rfl):PG X (.Tuple es k pos) (gTup K n t):=by subst h; exact aqdl hc ht hn hst
theorem ax0 {α β:Type} {xs:List α} {c:α->Bool} {e:α->β} {i:Nat} {x:α} (h:xs[i]?=some x):(((xs.take (i + 1)).filter c).map e)=(((xs.take i).filter c).map e)++(if c x=true then [e x] else []):=by
 have hi:=(Ai.mp h).1;have hx:=(Ai.mp h).2;rw [take_succ_eq_append_getElem hi,hx,List.filter_append,map_append];congr 1
 by_cases hc:c x=true
 ·simp [hc]
 ·simp [hc]
theorem ak4 {K:Frag} {z:Addr} {xs:List V} {j:Nat} {tc:TT} {te:TE} {js:List (Option Nat)} {σ:L2.St} {H:Hp} {Q:Addr->Hp->Prop} (hz:SqL K H z xs) (hlen:xs.length < Aj) (c:V->Bool) (e:V->V) (S:L2.St->Prop) (hS:S (mkS js σ))
  (step:∀ (i:Nat) (x:V) (σ':L2.St) (H':Hp),xs[i]?=some x->S σ'->aqu9 H H'->S (σ'.set j (some x))/\(∀ R:Bool->Hp->Prop,R (c x) H'->tc (σ'.set j (some x)) H' R)/\(∀ R:VK,c x=true->R (e x) H'->te (σ'.set j (some x)) H' R))
  (k:∀ l,H l=none->Q l (upd H l (.lst ((xs.filter c).map e)))) :
  ∀ l,H l=none->∃ W:Nat->Nat->L2.St->Hp->Prop,(∃ m,W 0 m (mkS js σ) (upd H l (.lst [])))/\∀ i m σ H,W i m σ H ->
   ((Itl K z).stop i H/\Q l H) \/ ((Itl K z).go i H/\∀ x H',(Itl K z).yld i H x H'->azj j x σ H' fun σ2 H2=>tc σ2 H2 fun b H3 =>
     if b=true then te σ2 H3 fun y H4=>∃ acc,H4 l=some (.lst acc)/\acc.length < Aj/\∃ m',m' < m/\W (i + 1) m' σ2 (upd H4 l (.lst (acc++[y]))) else ∃ m',m' < m/\W (i + 1) m' σ2 H3):=by
 intro l hl;refine ⟨fun i m σ' H'=>m=xs.length - i/\i <= xs.length/\S σ'/\H'=upd H l (.lst (((xs.take i).filter c).map e)),⟨_,rfl,zero_le _,hS,by simp⟩,?_⟩;rintro i m σ' H' ⟨rfl,hi,hs,rfl⟩;have sm:aqu9 H (upd H l (.lst (((xs.take i).filter c).map e))):=ai hl
 by_cases hlt:i < xs.length
 ·refine .inr ⟨⟨xs,xs[i],sm.seq hz,by simp [hlt]⟩,fun x H2 y=>?_⟩
  obtain ⟨rfl,y⟩:=y;have hx:=y xs (sm.seq hz);obtain ⟨s1,s2,s3⟩:=step i x σ' _ hx hs sm;refine s2 _ ?_
  by_cases hc:c x=true
  ·rw [if_pos hc]
   refine s3 _ hc ⟨_,aa,?_,_,(by omega:xs.length - (i + 1) < xs.length - i),rfl,hlt,s1,?_⟩
   ·have h1:(((xs.take i).filter c).map e).length <= (xs.take i).length:=by rw [length_map]; exact length_filter_le _ _
    rw [length_take] at h1;omega
   ·rw [ax0 hx,if_pos hc]
    funext b
    by_cases hb:b=l
    ·subst hb; rw [aa,aa]
    ·rw [ae hb,ae hb,ae hb]
  ·rw [if_neg hc]
   refine ⟨_,(by omega:xs.length - (i + 1) < xs.length - i),rfl,hlt,s1,?_⟩;rw [ax0 hx,if_neg hc,append_nil]
 ·have e1:i=xs.length:=by omega
  subst e1;refine .inl ⟨⟨xs,sm.seq hz,le_refl _⟩,?_⟩;rw [take_length];exact k l hl
theorem aqbz {K:Frag} {z:Addr} {xs:List V} {j j':Nat} {tc:TT} {te:TE} {js:List (Option Nat)} {σ:L2.St} {H:Hp} {Q:Addr->Hp->Prop} (hz:SqL K H z xs) (hlen:xs.length < Aj) (c:Nat->V->Bool) (e:Nat->V->V) (S:L2.St->Prop) (hS:S (mkS js σ))
  (step:∀ (i:Nat) (x:V) (σ':L2.St) (H':Hp),xs[i]?=some x->S σ'->aqu9 H H'->S ((σ'.set j (some (.int (i:Int)))).set j' (some x))/\(∀ R:Bool->Hp->Prop,R (c i x) H'->tc ((σ'.set j (some (.int (i:Int)))).set j' (some x)) H' R)/\(∀ R:VK,c i x=true->R (e i x) H'->te ((σ'.set j (some (.int (i:Int)))).set j' (some x)) H' R))
  (k:∀ l H',H l=none->aqu9 H H'->H' l=some (.lst ((xs.zipIdx.filter fun p=>c p.2 p.1).map fun p=>e p.2 p.1))->Q l H') :
  ∀ l,H l=none->∃ W:Nat->Nat->L2.St->Hp->Prop,(∃ m,W 0 m (mkS js σ) (upd H l (.lst [])))/\∀ i m σ H,W i m σ H ->
   ((Ite K z).stop i H/\Q l H) \/ ((Ite K z).go i H/\∀ x H',(Ite K z).yld i H x H'->gTup K 2 (aqbh (azj j) (aqbh (azj j') gNil)) x σ H' fun σ2 H2=>tc σ2 H2 fun b H3 =>
     if b=true then te σ2 H3 fun y H4=>∃ acc,H4 l=some (.lst acc)/\acc.length < Aj/\∃ m',m' < m/\W (i + 1) m' σ2 (upd H4 l (.lst (acc++[y]))) else ∃ m',m' < m/\W (i + 1) m' σ2 H3):=by
 intro l hl;refine ⟨fun i m σ' H'=>m=xs.length - i/\i <= xs.length/\S σ'/\aqu9 H H'/\H' l=some (.lst (((xs.zipIdx.take i).filter fun p=>c p.2 p.1).map fun p=>e p.2 p.1)),⟨_,rfl,zero_le _,hS,ai hl,by simp [aa]⟩,?_⟩;rintro i m σ' H' ⟨rfl,hi,hs,sm,hl'⟩
 by_cases hlt:i < xs.length
 ·refine .inr ⟨⟨xs,xs[i],sm.seq hz,by simp [hlt]⟩,fun x H2 y=>?_⟩
  obtain ⟨T,v,rfl,hT,rfl,y⟩:=y;have hx:=y xs (sm.seq hz);have hx':xs.zipIdx[i]?=some (v,i):=by rw [List.getElem?_zipIdx,hx]; simp
  have sT:aqu9 H' (upd H' T (.tup [.int (i:Int),v])):=ai hT;have sm2:=sm.trans sT;have hl2:=sT _ _ hl';obtain ⟨s1,s2,s3⟩:=step i v σ' _ hx hs sm2;refine ⟨T,_,rfl,.inl (.inl aa),rfl,_,_,rfl,_,_,rfl,rfl,s2 _ ?_⟩
  by_cases hc:c i v=true
  ·rw [if_pos hc]
   refine s3 _ hc ⟨_,hl2,?_,_,(by omega:xs.length - (i + 1) < xs.length - i),rfl,hlt,s1,?_,?_⟩
   ·have h1:(((xs.zipIdx.take i).filter fun p=>c p.2 p.1).map fun p=>e p.2 p.1).length <= (xs.zipIdx.take i).length:=by rw [length_map]; exact length_filter_le _ _
    rw [length_take] at h1;omega
   ·intro b o hb
    rw [ae (ac hb hl)];exact sm2 _ _ hb
   ·rw [aa,ax0 (c:=fun p:V × Nat=>c p.2 p.1) (e:=fun p=>e p.2 p.1) hx',if_pos hc]
  ·rw [if_neg hc]
   refine ⟨_,(by omega:xs.length - (i + 1) < xs.length - i),rfl,hlt,s1,sm2,?_⟩;rw [ax0 (c:=fun p:V × Nat=>c p.2 p.1) (e:=fun p=>e p.2 p.1) hx',if_neg hc,append_nil];exact hl2
 ·have e1:i=xs.length:=by omega
  subst e1;refine .inl ⟨⟨xs,sm.seq hz,rfl⟩,?_⟩;rw [D6 (by simp)] at hl';exact k l _ hl sm hl'
def pkvD (p:List Int × Int):D:=.tup [.int p.2,.lst (p.1.map D.int)]
theorem aQo {K:Frag} {F:Hp}:∀ {vs:List V} {ds:List D} {v:V} {d:D},Reps K F vs ds->Rep K F v d->Reps K F (vs++[v]) (ds++[d])
 | _,_,_,_,.nil,h=>.cons h .nil
 | _,_,_,_,.cons a t,h=>.cons a (aQo t h)
theorem aWq {K:Frag} {d:Addr} {o:Obj} {kv:List (List Int × Int)} {js:List (Option Nat)} {σ:L2.St} {H:Hp} {Q:Addr->Hp->Prop} (hd:H d=some (.frz o (.dT (kv.map fun p=>(p.1.map Sum.inl,V.int p.2))))) (hlen:kv.length < Aj) (hS:∃ c c',mkS js σ=[c,c'])
  (k:∀ l H' F,H l=none->aqu9 H H'->H' d=some (.frz o (.dT (kv.map fun p=>(p.1.map Sum.inl,V.int p.2))))->aqu9 F H'->F d=none->F l=none->(∃ ts,H' l=some (.lst ts)/\Reps K F ts (kv.map pkvD))->Q l H') :
  ∀ l,H l=none->∃ W:Nat->Nat->L2.St->Hp->Prop,(∃ m,W 0 m (mkS js σ) (upd H l (.lst [])))/\∀ i m σ H,W i m σ H ->
   ((ItI d o (kv.map fun p=>(p.1.map Sum.inl,V.int p.2))).stop i H/\Q l H) \/ ((ItI d o (kv.map fun p=>(p.1.map Sum.inl,V.int p.2))).go i H/\∀ x H',(ItI d o (kv.map fun p=>(p.1.map Sum.inl,V.int p.2))).yld i H x H'->gTup K 2 (aqbh (azj 0) (aqbh (azj 1) gNil)) x σ H' fun σ2 H2=>awi σ2 H2 fun b H3 =>
     if b=true then tTup (az6 (aqsw 1) (az6 (tCB (rLOf K) (az6 (aqsw 0) aqsx)) aqsx)) σ2 H3 fun y H4=>∃ acc,H4 l=some (.lst acc)/\acc.length < Aj/\∃ m',m' < m/\W (i + 1) m' σ2 (upd H4 l (.lst (acc++[y]))) else ∃ m',m' < m/\W (i + 1) m' σ2 H3):=by
 intro l hl;have nld:d ≠ l:=ac hd hl;refine ⟨fun i m σ' H'=>m=kv.length - i/\i <= kv.length/\(∃ c c',σ'=[c,c'])/\aqu9 H H'/\∃ F ts,aqu9 F H'/\F d=none/\F l=none/\H' l=some (.lst ts)/\ts.length=i/\Reps K F ts ((kv.take i).map pkvD),⟨_,rfl,zero_le _,hS,ai hl,fun _=>none,[],(fun b o e=>by cases e),rfl,rfl,aa,rfl,.nil⟩,?_⟩;rintro i m σ' H' ⟨rfl,hi,⟨c,c',rfl⟩,sm,F,ts,sF,Fd,Fl,hl',hts,rp⟩
 by_cases hlt:i < kv.length
 ·refine .inr ⟨⟨sm _ _ hd,by rw [length_map]; exact hlt⟩,fun x H2 y=>?_⟩
  obtain ⟨T,a,p,rfl,hT,hp,ha,rfl⟩:=y;rw [getElem?_map,getElem?_eq_getElem hlt] at hp;have hp':p=(kv[i].1.map Sum.inl,V.int kv[i].2):=(Option.some.inj hp).symm;subst hp';rw [show ((kv[i].1.map Sum.inl:List Key).map kV)=kv[i].1.map V.int by rw [map_map]; rfl] at ha;have sT:aqu9 H' (upd H' T (.tup [.ref a,.int kv[i].2])):=ai hT;refine ⟨T,_,rfl,.inl (.inl aa),rfl,_,_,rfl,_,_,rfl,rfl,?_⟩;dsimp only [awi];rw [if_pos rfl];have ha1:=sT _ _ ha;have hl1:=sT _ _ hl';have sm1:=sm.trans sT;have sF1:=sF.trans sT;generalize upd H' T (.tup [.ref a,.int kv[i].2])=H1 at ha1 hl1 sm1 sF1 ⊢;refine ⟨_,rfl,_,rfl,a,_,rfl,.inr (.inl (.inl ha1)),fun q hq=>⟨by show 2 <= Aj; decide,fun t ht=>?_⟩⟩;have s2:aqu9 H1 (upd H1 q (.lst (kv[i].1.map V.int))):=ai hq;have s3:aqu9 (upd H1 q (.lst (kv[i].1.map V.int))) (upd (upd H1 q (.lst (kv[i].1.map V.int))) t (.tup [.int kv[i].2,.ref q])):=ai ht;have nql:q ≠ l:=(ac hl1 hq).symm;have ntl:t ≠ l:=(ac (s2 _ _ hl1) ht).symm;have nqd:q ≠ d:=(ac (sm1 _ _ hd) hq).symm;have ntd:t ≠ d:=(ac (s2 _ _ (sm1 _ _ hd)) ht).symm;have ntq:q ≠ t:=ac aa ht;have Fq:F q=none:=sF1.free hq;have Ft:(upd F q (.lst (kv[i].1.map V.int))) t=none:=by rw [ae ntq.symm]; exact sF1.free (s2.free ht)
  have sA:aqu9 F (upd (upd F q (.lst (kv[i].1.map V.int))) t (.tup [.int kv[i].2,.ref q])):=(ai Fq).trans (ai Ft);refine ⟨ts,s3 _ _ (s2 _ _ hl1),by omega,_,(by omega:kv.length - (i + 1) < kv.length - i),rfl,hlt,⟨_,_,rfl⟩,fun b o' hb=>?_,upd (upd F q (.lst (kv[i].1.map V.int))) t (.tup [.int kv[i].2,.ref q]),ts++[.ref t],fun b o' hb=>?_,?_,?_,aa,by simp [hts],?_⟩
  ·rw [ae (ac hb hl)]
   exact s3 _ _ (s2 _ _ (sm1 _ _ hb))
  ·by_cases hbt:b=t
   ·subst hbt
    rw [aa] at hb;rw [ae ntl,aa]; exact hb
   ·rw [ae hbt] at hb
    by_cases hbq:b=q
    ·subst hbq
     rw [aa] at hb;rw [ae nql,ae hbt,aa]; exact hb
    ·rw [ae hbq] at hb
     have nbl:b ≠ l:=ac hb Fl;rw [ae nbl,ae hbt,ae hbq];exact sF1 _ _ hb
  ·rw [ae ntd.symm,ae nqd.symm]; exact Fd
  ·rw [ae ntl.symm,ae nql.symm]; exact Fl
  ·rw [take_succ_eq_append_getElem hlt,map_append]
   refine aQo ((axk sA).2 rp) ?_;refine .tup (.inl (.inl aa)) (.cons (.int _) (.cons (.lst (.inl (.inl ?_)) (aR _)) .nil));rw [ae ntq,aa]
 ·have e1:i=kv.length:=by omega
  subst e1;refine .inl ⟨⟨sm _ _ hd,by rw [length_map]; exact le_refl _⟩,?_⟩;rw [take_length] at rp;exact k l H' F hl sm (sm _ _ hd) sF Fd Fl ⟨ts,hl',rp⟩
def idxS (st:List Str) (y:Str):Nat:=st.findIdx fun x=>decide (x=y)
theorem aqby {K:Frag} {z dA:Addr} {bs:List Addr} {ks:List (List Int)} {kvs:List (List Key × V)} {val:List Int->Int} {js:List (Option Nat)} {σ:L2.St} {H:Hp} {Q:Addr->Hp->Prop} (hz:H z=some (.lst (bs.map V.ref))) (hb:bs.length=ks.length) (hbs:∀ j (hj:j < bs.length),H bs[j]=some (.tup ((ks.getD j []).map V.int)))
  (hd:H dA=some (.dT kvs)) (hv:∀ k∈ks,aqsr kvs (k.map Sum.inl)=some (.int (val k))) (hlen:ks.length < Aj) (hS:∃ c,mkS js σ=[c,some (.ref dA)])
  (k:∀ l H' F,H l=none->aqu9 H H'->aqu9 F H'->F l=none->(∃ ts,H' l=some (.lst ts)/\Reps K F ts (ks.map fun k=>pkvD (k,val k)))->Q l H') :
  ∀ l,H l=none->∃ W:Nat->Nat->L2.St->Hp->Prop,(∃ m,W 0 m (mkS js σ) (upd H l (.lst [])))/\∀ i m σ H,W i m σ H ->
   ((Itl K z).stop i H/\Q l H) \/ ((Itl K z).go i H/\∀ x H',(Itl K z).yld i H x H'->azj 0 x σ H' fun σ2 H2=>awi σ2 H2 fun b H3 =>
     if b=true then tTup (az6 (aqjv (aqsw 1) (aqsw 0)) (az6 (tCB (rLOf K) (az6 (aqsw 0) aqsx)) aqsx)) σ2 H3 fun y H4=>∃ acc,H4 l=some (.lst acc)/\acc.length < Aj/\∃ m',m' < m/\W (i + 1) m' σ2 (upd H4 l (.lst (acc++[y]))) else ∃ m',m' < m/\W (i + 1) m' σ2 H3):=by
 intro l hl;refine ⟨fun i m σ' H'=>m=ks.length - i/\i <= ks.length/\(∃ c,σ'=[c,some (.ref dA)])/\aqu9 H H'/\∃ F ts,aqu9 F H'/\F l=none/\H' l=some (.lst ts)/\ts.length=i/\Reps K F ts ((ks.take i).map fun k=>pkvD (k,val k)),⟨_,rfl,zero_le _,hS,ai hl,fun _=>none,[],(fun b o e=>by cases e),rfl,aa,rfl,.nil⟩,?_⟩;rintro i m σ' H' ⟨rfl,hi,⟨c,rfl⟩,sm,F,ts,sF,Fl,hl',hts,rp⟩
 by_cases hlt:i < ks.length
 ·have hib:i < bs.length:=by omega
  refine .inr ⟨⟨_,.ref bs[i],SqL.of (sm _ _ hz),by simp [hib]⟩,fun x H2 y=>?_⟩;obtain ⟨eH,y⟩:=y;rw [eH];have hx:=y _ (SqL.of (sm _ _ hz));rw [getElem?_map,getElem?_eq_getElem hib] at hx;obtain rfl:=(Option.some.inj hx).symm;have ha:=sm _ _ (hbs i hib);have hki:ks.getD i []=ks[i]:=by simp [getD_eq_getElem?_getD,hlt]
  rw [hki] at ha;have ha':H' bs[i]=some (.tup ((ks[i].map Sum.inl:List Key).map kV)):=by rw [aju]; exact ha
  have g:aqui H' dA (.ref bs[i]) (aqsr kvs (ks[i].map Sum.inl)):=aqui.t (sm _ _ hd) ha';rw [hv ks[i] (getElem_mem hlt)] at g;dsimp only [awi,azj];rw [if_pos rfl];refine ⟨_,rfl,_,rfl,dA,_,rfl,g,_,rfl,bs[i],_,rfl,.inr (.inl (.inl ha)),fun q hq=>⟨by show 2 <= Aj; decide,fun t ht=>?_⟩⟩;have s2:aqu9 H' (upd H' q (.lst (ks[i].map V.int))):=ai hq;have s3:aqu9 (upd H' q (.lst (ks[i].map V.int))) (upd (upd H' q (.lst (ks[i].map V.int))) t (.tup [.int (val ks[i]),.ref q])):=ai ht;have nql:q ≠ l:=(ac hl' hq).symm;have ntl:t ≠ l:=(ac (s2 _ _ hl') ht).symm;have ntq:q ≠ t:=ac aa ht;have Fq:F q=none:=sF.free hq;have Ft:(upd F q (.lst (ks[i].map V.int))) t=none:=by rw [ae ntq.symm]; exact sF.free (s2.free ht)
  have sA:aqu9 F (upd (upd F q (.lst (ks[i].map V.int))) t (.tup [.int (val ks[i]),.ref q])):=(ai Fq).trans (ai Ft);refine ⟨ts,s3 _ _ (s2 _ _ hl'),by omega,_,(by omega:ks.length - (i + 1) < ks.length - i),rfl,hlt,⟨_,rfl⟩,fun b o' hb=>?_,upd (upd F q (.lst (ks[i].map V.int))) t (.tup [.int (val ks[i]),.ref q]),ts++[.ref t],fun b o' hb=>?_,?_,aa,by simp [hts],?_⟩
  ·rw [ae (ac hb hl)]
   exact s3 _ _ (s2 _ _ (sm _ _ hb))
  ·by_cases hbt:b=t
   ·subst hbt
    rw [aa] at hb;rw [ae ntl,aa]; exact hb
   ·rw [ae hbt] at hb
    by_cases hbq:b=q
    ·subst hbq
     rw [aa] at hb;rw [ae nql,ae hbt,aa]; exact hb
    ·rw [ae hbq] at hb
     have nbl:b ≠ l:=ac hb Fl;rw [ae nbl,ae hbt,ae hbq];exact sF _ _ hb
  ·rw [ae ntl.symm,ae nql.symm]; exact Fl
  ·rw [take_succ_eq_append_getElem hlt,map_append]
   refine aQo ((axk sA).2 rp) ?_;refine .tup (.inl (.inl aa)) (.cons (.int _) (.cons (.lst (.inl (.inl ?_)) (aR _)) .nil));rw [ae ntq,aa]
 ·have e1:i=ks.length:=by omega
  subst e1;refine .inl ⟨⟨_,SqL.of (sm _ _ hz),by rw [length_map]; omega⟩,?_⟩;rw [take_length] at rp;exact k l H' F hl sm sF Fl ⟨ts,hl',rp⟩
end DL
namespace DL
open PySem PySem.Spec PyProof.Rows L2 SortW PySem.W
section
variable {prog:Ak} {w:World} {A:Around} {E:Value->Shared->Prop} {s:Shared} {a b:Addr} {es es':Array DictEntry} {ep ep':Nat}
theorem aqdp {nm:String} {Q:Bool->Shared->Prop} (ha:(a == Bi)=false) (hb:(b == Bi)=false) (da:aquc s.heap a es ep) (db:aquc s.heap b es' ep') (hz:es'.size=0) (h:Q (decide (es.size=0)) s) :
  wpAny (model prog w) A (Jj nm a b) Q E s:=by
 obtain ⟨oa,hoa,_,hda⟩:=da;obtain ⟨ob,hob,_,hdb⟩:=db;unfold Jj C8;rw [if_neg (show ¬ (a == Bi)=true by rw [ha]; exact An),if_neg (show ¬ (b == Bi)=true by rw [hb]; exact An)];refine Ac (Ad (Ac (Ad ?_)));refine Ac (Bh hoa hda ?_);dsimp only;refine Ac (Bh hob hdb ?_)
 by_cases hsz:es.size=0
 ·rw [if_neg (by rw [hsz,hz]; simp)]
  refine Ac (Df hoa hda ?_);refine Ac ?_;rw [Std.Legacy.Range.forIn_eq_forIn_range'];simp only [Std.Legacy.Range.size,Nat.sub_zero,Nat.add_sub_cancel,Nat.div_one];rw [hsz];refine Ad ?_;exact Ad (by simpa [hsz] using h)
 ·rw [if_pos (by rw [hz]; simpa using hsz)]
  exact Ac (Dm (Ad (by simpa [hsz] using h)))
theorem aqp3 {Q:Value->Shared->Prop} (ha:(a == Bi)=false) (hb:(b == Bi)=false) (da:aquc s.heap a es ep) (db:aquc s.heap b es' ep') (hz:es'.size=0) (hu:A.units < cLine) (h:Q (.bool (!decide (es.size=0))) s) :
  wpAny (model prog w) A (Bm .NotEq (.ref a) (.ref b)) Q E s:=by
 refine G9 (op:=.NotEq) da.ty db.ty Kj (Ax Kj da.ty PySem.F.entry_dict_ne ?_ (PySem.F.args_dict_ne_2 _ _)) hu;show wpAny _ _ (Hu "__ne__" ⟨[.ref a,.ref b],[]⟩ >>= _) _ _ s;refine Ac ?_;unfold Hu;refine Ac (Ek da.ty ?_);show wpAny _ _ (pure (Value.ref a,Value.ref b)) _ _ s;refine Ad ?_;refine Ac (Dv (T:="dict") db.ty PySem.F.sub_dict_dict ?_);simp only [Bool.not_true,Aw,if_false];refine Ac (Ad (Ac (Ad ?_)));refine Ac (aqdp ha hb da db hz ?_);refine Ad ⟨_,rfl,?_,?_⟩
 ·exact fun x=>nomatch x
 ·simpa using h
end
theorem aqoo {X:Cx} (hu:X.A.units < cLine):OpR X (Bm .NotEq) (fun x y H Q=>∃ a b kvs,x=.ref a/\y=.ref b/\H a=some (.dT kvs)/\H b=some (.dT [])/\Q (.bl (!decide (kvs.length=0))) H):=by
 intro pins s σ H x y v u Q I rx ry h;obtain ⟨a,b,kvs,rfl,rfl,ha,hb,q⟩:=h;cases rx;cases ry;obtain ⟨o,es,ep,ho,hc,hd,hz,hsys,_⟩:=Inv.freezeT I ha;obtain ⟨o',es',ep',ho',hc',hd',hz',hsys',_⟩:=Inv.freezeT I hb;refine aqp3 hsys hsys' ⟨o,ho,hc,hd⟩ ⟨o',ho',hc',hd'⟩ hz' hu ⟨.bl _,H,I,rfl,by rw [hz]; exact q⟩
end DL
namespace MB
open PySem DL
@[irreducible] def Goes (g:GD) (b:Blk) (d:D) (ρ:Cs) (Q:Cs->Prop):Prop:=match g d ρ with
 | some ρ1=>(match b ρ1 with
  | some (.nx ρ2)=>Q ρ2
  | some (.ct ρ2)=>Q ρ2
  | _=>False)
 | none=>False
@[irreducible] def Rets (g:GD) (b:Blk) (d:D) (ρ:Cs) (o:O):Prop:=match g d ρ with
 | some ρ1=>(match b ρ1 with
  | some (.rt x _)=>x=o
  | _=>False)
 | none=>False
theorem Goes.use {g:GD} {b:Blk} {d:D} {ρ:Cs} {Q:Cs->Prop} (h:Goes g b d ρ Q):∃ ρ1 ρ2,g d ρ=some ρ1/\(b ρ1=some (.nx ρ2) \/ b ρ1=some (.ct ρ2))/\Q ρ2:=by
 unfold Goes at h;split at h
 ·rename_i ρ1 e1
  split at h
  ·rename_i ρ2 e2; exact ⟨ρ1,ρ2,e1,.inl e2,h⟩
  ·rename_i ρ2 e2; exact ⟨ρ1,ρ2,e1,.inr e2,h⟩
  ·exact h.elim
 ·exact h.elim
theorem Rets.use {g:GD} {b:Blk} {d:D} {ρ:Cs} {o:O} (h:Rets g b d ρ o):∃ ρ1 ρ2,g d ρ=some ρ1/\b ρ1=some (.rt o ρ2):=by
 unfold Rets at h;split at h
 ·rename_i ρ1 e1
  split at h
  ·rename_i x ρ2 e2; subst h; exact ⟨ρ1,ρ2,e1,e2⟩
  ·exact h.elim
 ·exact h.elim
theorem aQ3 {α:Type} {inj:α->D} {g:GD} {b:Blk} (P:List α->Cs->Prop) (xs:List α) (ρ:Cs) (h0:P [] ρ)
  (step:∀ (pre:List α) (a:α) (post:List α) (ρ:Cs),xs=pre++a :: post->P pre ρ->Goes g b (inj a) ρ (P (pre++[a]))) :
  ∃ ρ',aqtp g b (xs.map inj) ρ=some (.nx ρ')/\P xs ρ' :=
 aqbk P xs ρ h0 fun pre a post ρ e h=>(step pre a post ρ e h).use
@[simp] theorem gN_ap {i:Nat} {d:D} {ρ:Cs}:gN i d ρ=some (ρ.set i (some (.sh d))):=rfl
theorem axc {α:Type} {l:List α} {i:Nat} {d:α} (h:i < l.length):l.getD i d=l[i]:=by simp [h]
theorem aq7 {α:Type} [DecidableEq α]:∀ {l m:List α},l.Nodup->(∀ x∈l,x∈m)->l.length <= m.length
 | [],_,_,_=>by simp
 | a :: l,m,hn,hs=>by
  have ha:a∈m:=hs a (by simp);rw [nodup_cons] at hn;have ih:=aq7 (l:=l) (m:=m.erase a) hn.2 fun x hx=>by
   have:x ≠ a:=fun e=>hn.1 (e ▸ hx)
   exact (Kb this).mpr (hs x (by simp [hx]))
  have:=List.length_erase_of_mem ha
  have hp:=List.length_pos_of_mem ha
  simp
  omega
def six:List Int:=[0,1,2,3,4,5]
theorem aVt:six.Pairwise (· < ·):=by decide
def okH (h:List aqud):Prop:=∀ p∈h,p.2.Sublist six
theorem okH.len {h:List aqud} (k:okH h):∀ p∈h,p.2.length <= 6:=fun p m=>(k p m).length_le
theorem okH.mem {h:List aqud} (k:okH h) {p:aqud} (m:p∈h) {x:Int} (hx:x∈p.2):x∈six:=(k p m).subset hx
def Ps (h:List aqud):List Int:=six.filter fun c=>h.any fun p=>has p.2 c
theorem aqay (h:List aqud):(Ps h).Sublist six:=filter_sublist
theorem axr (h:List aqud):(Ps h).length <= 6:=length_filter_le _ _
end MB
namespace DL
open PySem PySem.Spec PyProof.Rows L2
theorem aWv:∀ r:Nat,r < 26->atI axb.cps.toList (r:Int)=some (97 + r):=by decide +kernel
theorem awc {r:Int} (h0:0 <= r) (h:r < 26):atI axb.cps.toList r=some (97 + r.toNat):=by
 have:=aWv r.toNat (by omega)
 rwa [show ((r.toNat:Nat):Int)=r by omega] at this
theorem aw6:axb.length <= Aj:=by decide +kernel
def aqi (x:Str):Prop:=1 <= x.length/\x.length <= 8/\∀ c∈x.cps.toList,97 <= c/\c < 123
theorem aqf7 (x:Str) (c:Nat):(x++(⟨#[c]⟩:Str)).cps.toList=x.cps.toList++[c]:=by
 show (x.cps++#[c]).toList=_
 simp
theorem aqna (l:List Nat) (c:Nat):((⟨#[c]⟩:Str)++(⟨l.toArray⟩:Str))=⟨(c :: l).toArray⟩:=by
 show (⟨#[c]++l.toArray⟩:Str)=_
 simp
theorem str_len (x:Str):x.length=x.cps.toList.length:=by simp [Str.length]
def adv (m:Nat) (x:Str):Str:=match x.cps.toList with
 | []=>x
 | c :: t=>⟨((97 + (c - 97 + m) % 26) :: t).toArray⟩
theorem aXj {x:Str} {c:Nat} {t:List Nat} (h:x.cps.toList=c :: t) (m:Nat):adv m x=⟨((97 + (c - 97 + m) % 26) :: t).toArray⟩:=by
 unfold adv; rw [h]
theorem azw {x:Str} (h:aqi x):∃ c t,x.cps.toList=c :: t/\97 <= c/\c < 123/\x=⟨(c :: t).toArray⟩:=by
 obtain ⟨h1,h2,h3⟩:=h;rw [str_len] at h1;cases q:x.cps.toList with
 | nil=>rw [q] at h1; simp at h1
 | cons c t =>
  refine ⟨c,t,rfl,(h3 c (by rw [q]; simp)).1,(h3 c (by rw [q]; simp)).2,?_⟩;rw [<- q]
theorem aqjs {x:Str} (h:aqi x):adv 0 x=x:=by
 obtain ⟨c,t,e,h1,h2,h3⟩:=azw h;rw [aXj e,h3];congr 3;omega
theorem aqqa {x:Str} (h:aqi x) (m:Nat):aqi (adv m x):=by
 obtain ⟨c,t,e,h1,h2,h3⟩:=azw h;rw [aXj e];obtain ⟨g1,g2,g3⟩:=h;rw [str_len,e] at g1 g2;refine ⟨by rw [str_len]; simp,by rw [str_len]; simpa using g2,fun d hd=>?_⟩;simp at hd;rcases hd with rfl | hd
 ·omega
 ·exact g3 d (by rw [e]; exact mem_cons_of_mem _ hd)
theorem aqnm {x:Str} (h:aqi x) (m n:Nat):adv m (adv n x)=adv (n + m) x:=by
 obtain ⟨c,t,e,h1,h2,h3⟩:=azw h;rw [aXj e,aXj e,aXj (c:=97 + (c - 97 + n) % 26) (t:=t) (by simp)];congr 3;omega
theorem aqnl {x:Str} (h:aqi x) {m n:Nat} (hm:m < 26) (hn:n < 26) (e:adv m x=adv n x):m=n:=by
 obtain ⟨c,t,ec,h1,h2,h3⟩:=azw h;rw [aXj ec,aXj ec] at e
 have:=congrArg (fun s:Str=>s.cps.toList.head?) e
 simp at this;omega
theorem aqjt {x:Str} (h:aqi x) (names:List Str) (hl:names.length < 26):∃ m,m < 26/\adv m x ∉ names:=by
 apply E5;intro hn;have hall:∀ m,m < 26->adv m x∈names:=fun m hm=>E5 fun hx=>hn ⟨m,hm,hx⟩;have nd:((Ar 26).map fun m=>adv m x).Nodup:=by
  rw [List.Nodup,pairwise_map];refine List.Pairwise.imp_of_mem (fun {a b} ha hb hab e=>?_) (Iu (n:=26));exact hab (aqnl h (A0.mp ha) (A0.mp hb) e)
 have:=MB.aq7 nd (m:=names) fun y hy=>by
  obtain ⟨m,hm,rfl⟩:=Ah.mp hy;exact hall m (A0.mp hm)
 simp at this;omega
theorem aze {x:Str} (h:aqi x) (n:Nat):shp n (.str x)=true:=by
 have:x.cps.all (fun c=>decide (c < 0x110000))=true:=by
  rw [<- Array.all_toList,F9];intro c hc
  have:=h.2.2 c hc
  simp; omega
 simpa [shp] using this
theorem axg {l:List Str} (h:∀ x∈l,aqi x) (n:Nat):aqt0 n (l.map D.str)=true:=by
 induction l with
 | nil=>rfl
 | cons x l ih =>
  simp only [map_cons,aqt0,C0];exact ⟨aze (h x (by simp)) n,ih fun y hy=>h y (mem_cons_of_mem _ hy)⟩
theorem av9 (l:List Str) (x:Str):((l.map D.str).any fun y=>eqD y (.str x))=decide (x∈l):=by
 rw [A5,any_eq_true,decide_eq_true_eq];constructor
 ·rintro ⟨d,hd,e⟩
  obtain ⟨y,hy,rfl⟩:=Ah.mp hd;have e':(y == x)=true:=e;rw [<- eq_of_beq e']; exact hy
 ·intro h
  refine ⟨.str x,Ah.mpr ⟨x,h,rfl⟩,?_⟩;show (x == x)=true
  simp
theorem aq2 {K:Frag} {F:Hp} (l:List Str):Reps K F (l.map V.str) (l.map D.str):=by
 induction l with
 | nil=>exact .nil
 | cons x l ih=>exact .cons (.str x) ih
end DL
namespace MB
def aXp (l:List Nat) (f:Nat->Rat):Rat:=(l.map f).sum
theorem aqd1 (f:Nat->Rat):aXp [] f=0:=rfl
theorem azp (i:Nat) (l:List Nat) (f:Nat->Rat):aXp (i :: l) f=f i + aXp l f:=by simp [aXp]
theorem akh {f:Nat->Rat}:∀ {l:List Nat},(∀ i∈l,0 <= f i)->0 <= aXp l f
 | [],_=>by rw [aqd1]; grind
 | i :: l,h=>by
  have h1:=h i (by simp);have h2:=akh (f:=f) (l:=l) fun j hj=>h j (by simp [hj]);rw [azp]; grind
theorem aVp (c:Rat) (f:Nat->Rat):∀ (l:List Nat),aXp l (fun i=>f i * c)=aXp l f * c
 | []=>by simp [aXp]
 | i :: l=>by rw [azp,azp,aVp c f l]; grind
def cnt (lk:Nat->Int->Bool) (rows:List (Int × Rat)) (i t:Nat):Nat:=((rows.take t).filter fun q=>lk i q.1).length
def pays (l:List Nat) (w p:Nat->Rat) (r:Rat):Rat:=aXp l fun i=>w i * min (p i) r
def aque (D:Nat) (a:Rat):Prop:=∃ x:Int,a * (D:Rat)=(x:Rat)
theorem aque.add {D:Nat} {a b:Rat} (ha:aque D a) (hb:aque D b):aque D (a + b):=by
 obtain ⟨x,hx⟩:=ha;obtain ⟨y,hy⟩:=hb;exact ⟨x + y,by rw [Rat.add_mul,hx,hy]; simp⟩
theorem aque.sub {D:Nat} {a b:Rat} (ha:aque D a) (hb:aque D b):aque D (a - b):=by
 obtain ⟨x,hx⟩:=ha;obtain ⟨y,hy⟩:=hb;have e:(a - b) * (D:Rat)=a * D - b * D:=by grind
 exact ⟨x - y,by rw [e,hx,hy]; simp⟩
theorem aque.mulInt {D:Nat} {a:Rat} (ha:aque D a) (n:Int):aque D (a * n):=by
 obtain ⟨x,hx⟩:=ha;refine ⟨x * n,?_⟩;rw [Eh,Jk (n:Rat),<- Eh,hx]; simp
theorem aque.mn {D:Nat} {a b:Rat} (ha:aque D a) (hb:aque D b):aque D (min a b):=by
 have:min a b=a \/ min a b=b:=by grind
 rcases this with e | e <;> rw [e] <;> assumption
theorem ax9 (D:Nat):(((D:Nat):Int):Rat)=(D:Rat):=rfl
theorem avf (D:Nat) (n:Int):aque D (n:Rat):=⟨n * D,by simp [ax9]⟩
theorem aqi0 (a:Rat):a * (a.den:Rat)=(a.num:Rat):=by
 rw [<- aqlw];have e1:((a.den:Rat)).num=(a.den:Int):=by simp
 have e2:((a.den:Rat)).den=1:=by simp
 rw [e1,e2,Nat.mul_one];have e3:(a.num:Rat)=mkRat a.num 1:=by simp [Rat.mkRat_one]
 rw [e3,Rat.mkRat_eq_iff a.den_nz (by decide)]
 simp
theorem aque.dvd {D E:Nat} {a:Rat} (ha:aque D a) (h:D ∣ E):aque E a:=by
 obtain ⟨x,hx⟩:=ha;obtain ⟨e,rfl⟩:=h;refine ⟨x * e,?_⟩
 have:((D * e:Nat):Rat)=(D:Rat) * (e:Rat):=by simp
 rw [this,<- Eh,hx]; simp [ax9]
theorem aque.den {D:Nat} {a:Rat} (ha:aque D a):a.den ∣ D:=by
 obtain ⟨x,hx⟩:=ha;have h1:a.num * (D:Int)=x * (a.den:Int):=by
  have h2:a * (a.den:Rat)=(a.num:Rat):=aqi0 a;have h3:((a.num * (D:Int):Int):Rat)=((x * (a.den:Int):Int):Rat):=by
   have e1:((a.num * (D:Int):Int):Rat)=(a.num:Rat) * (D:Rat):=by simp [ax9]
   have e2:((x * (a.den:Int):Int):Rat)=(x:Rat) * (a.den:Rat):=by simp [ax9]
   rw [e1,e2,<- hx,<- h2]; grind
  exact_mod_cast h3
 have h4:a.den ∣ a.num.natAbs * D:=by
  have:=congrArg Int.natAbs h1
  rw [Fo,Fo,Bb,Bb] at this;exact ⟨x.natAbs,by rw [this,L0]⟩
 exact (Nat.Coprime.dvd_of_dvd_mul_left (Nat.Coprime.symm a.reduced) h4)
theorem aque.bd {D d m:Nat} {a:Rat} (ha:aque D a) (hD:0 < D) (hd:D < 2 ^ d) (hlo:-((2 ^ m:Nat):Rat) <= a) (hhi:a <= ((2 ^ m:Nat):Rat)):Bd (m + d) d a:=by
 have h1:a.den <= D:=K2 hD ha.den;refine ⟨?_,lt_of_le_of_lt h1 hd⟩;have hden:(0:Rat) <= (a.den:Rat):=by exact_mod_cast zero_le _
 have e:=aqi0 a;have u1:(a.den:Rat) * a <= (a.den:Rat) * ((2 ^ m:Nat):Rat):=Dz hhi hden;have u2:(a.den:Rat) * (-((2 ^ m:Nat):Rat)) <= (a.den:Rat) * a:=Dz hlo hden;have v1:(a.num:Rat) <= ((a.den * 2 ^ m:Nat):Rat):=by
  have:((a.den * 2 ^ m:Nat):Rat)=(a.den:Rat) * ((2 ^ m:Nat):Rat):=by simp
  rw [this]; grind
 have v2:-((a.den * 2 ^ m:Nat):Rat) <= (a.num:Rat):=by
  have:((a.den * 2 ^ m:Nat):Rat)=(a.den:Rat) * ((2 ^ m:Nat):Rat):=by simp
  rw [this]; grind
 have w1:a.num <= ((a.den * 2 ^ m:Nat):Int):=by exact_mod_cast v1
 have w2:-((a.den * 2 ^ m:Nat):Int) <= a.num:=by
  have v3:(-a.num:Rat) <= ((a.den * 2 ^ m:Nat):Rat):=by grind
  have v4:((-a.num:Int):Rat) <= ((a.den * 2 ^ m:Nat):Rat):=by simpa using v3
  have v5:-a.num <= ((a.den * 2 ^ m:Nat):Int):=by exact_mod_cast v4
  omega
 have w3:a.num.natAbs <= a.den * 2 ^ m:=by omega
 have w4:a.den * 2 ^ m < 2 ^ d * 2 ^ m:=Er (lt_of_le_of_lt h1 hd) (Lc (by simp));rw [pow_add,L0 (2 ^ m)];omega
end MB
namespace MB
open PySem DL
theorem aqbl (m n:Nat):((m:Int)).fdiv (n:Int)=((m / n:Nat):Int):=by
 rw [He _ (by omega)]; rfl
def cbF (b:Nat) (q:Rat):Nat:=b * (q.den / Ij b q.den)
def cb (l:List Rat):Nat:=l.foldl cbF 1
theorem aKy (b:Nat) (q:Rat):cbF b q=Nat.lcm b q.den:=by
 unfold cbF Nat.lcm;rw [Nat.mul_div_assoc _ (Nat.gcd_dvd_right b q.den)]
theorem aqeo:∀ (l:List Rat) (b:Nat),0 < b->0 < l.foldl cbF b/\b ∣ l.foldl cbF b/\(∀ q∈l,q.den ∣ l.foldl cbF b)/\∀ D,b ∣ D->(∀ q∈l,q.den ∣ D)->l.foldl cbF b ∣ D
 | [],b,h=>⟨h,Nat.dvd_refl _,by simp,fun D h _=>h⟩
 | q :: l,b,h=>by
  have hp:0 < cbF b q:=by rw [aKy]; exact Nat.lcm_pos h q.den_pos
  obtain ⟨a1,a2,a3,a4⟩:=aqeo l (cbF b q) hp;have d1:b ∣ cbF b q:=by rw [aKy]; exact Nat.dvd_lcm_left _ _
  have d2:q.den ∣ cbF b q:=by rw [aKy]; exact Nat.dvd_lcm_right _ _
  refine ⟨a1,Nat.dvd_trans d1 a2,fun r hr=>?_,fun D hb hq=>a4 D ?_ fun r hr=>hq r (by simp [hr])⟩
  ·rcases Al.mp hr with rfl | hr
   ·exact Nat.dvd_trans d2 a2
   ·exact a3 r hr
  ·rw [aKy]; exact Nat.lcm_dvd hb (hq q (by simp))
theorem aqc4 (l:List Rat):0 < cb l:=(aqeo l 1 (by decide)).1
theorem aqn9 {l:List Rat} {q:Rat} (h:q∈l):q.den ∣ cb l:=(aqeo l 1 (by decide)).2.2.1 q h
theorem aqc5 {l:List Rat} {D:Nat} (h:∀ q∈l,q.den ∣ D):cb l ∣ D:=(aqeo l 1 (by decide)).2.2.2 D (Nat.one_dvd _) h
theorem aqn8 (l:List Rat) (q:Rat):cb (l++[q])=cbF (cb l) q:=by simp [cb]
def aqsu (b:Nat) (q:Rat):Int:=q.num * ((b / q.den:Nat):Int)
theorem aqf4 {b:Nat} {q:Rat} (h:q.den ∣ b):(aqsu b q:Rat)=q * (b:Rat):=by
 obtain ⟨k,rfl⟩:=h;have e:q.den * k / q.den=k:=Nat.mul_div_cancel_left k q.den_pos;unfold aqsu;rw [e];have e1:((q.den * k:Nat):Rat)=(q.den:Rat) * (k:Rat):=by simp
 have e2:((q.num * (k:Int):Int):Rat)=(q.num:Rat) * (k:Rat):=by simp [ax9]
 rw [e1,e2,<- Eh,aqi0]
def aqs (P:List Rat):D:=.lst (P.map frD)
@[simp] theorem aqly (P:List Rat):aJl (aqs P)=some (P.map frD):=rfl
@[simp] theorem aqpj (P:List Rat):imm (aqs P)=false:=by simp [aqs]
def azc (t:Nat) (P:List Rat):Prop:=∃ D:Nat,0 < D/\D < 2 ^ (80 * t + 1)/\∀ q∈P,aque D q/\0 <= q/\q <= ((t * 2 ^ 80:Nat):Rat)
theorem azc.bd {t:Nat} {P:List Rat} (h:azc t P) (ht:t <= 20) {q:Rat} (hq:q∈P):Bd 1800 1700 q:=by
 obtain ⟨D,h1,h2,h3⟩:=h;obtain ⟨o,q0,q1⟩:=h3 q hq;have hm:((t * 2 ^ 80:Nat):Rat) <= ((2 ^ 85:Nat):Rat):=by
  have:t * 2 ^ 80 <= 2 ^ 85:=le_trans (Ex _ (le_trans ht (by decide:20 <= 32))) (by decide)
  exact_mod_cast this
 have hz:(0:Rat) <= ((2 ^ 85:Nat):Rat):=by exact_mod_cast zero_le _
 exact (o.bd (m:=85) h1 h2 (by grind) (by grind)).mono (by omega) (by omega)
theorem azc.cb {t:Nat} {P:List Rat} (h:azc t P) (ht:t <= 20):cb P < 2 ^ 1700:=by
 obtain ⟨D,h1,h2,h3⟩:=h
 have:=K2 h1 (aqc5 fun q hq=>(h3 q hq).1.den)
 exact lt_of_le_of_lt this (lt_of_lt_of_le h2 (pow_le_pow_right (by decide) (by omega)))
theorem azc.sub {t:Nat} {P Q:List Rat} (h:azc t P) (hs:∀ q∈Q,q∈P):azc t Q:=by
 obtain ⟨D,h1,h2,h3⟩:=h;exact ⟨D,h1,h2,fun q hq=>h3 q (hs q hq)⟩
theorem azc.top {t:Nat} {P:List Rat} (h:azc t P) (ht:t <= 20) {q:Rat} (hq:q∈P) {b:Nat} (hb:b < 2 ^ 1700):Sz 3600 (aqsu b q):=by
 have h1:=(h.bd ht hq).num;have h2:Sz 1700 ((b / q.den:Nat):Int):=by
  show ((b / q.den:Nat):Int).natAbs < _;rw [Bb];exact lt_of_le_of_lt (Jt _ _) hb
 exact (h1.mul h2).mono (by decide)
structure Dealt (w c:List Int) (s:Nat) (n:List Nat) (q:Option Rat):Prop where
 len:n.length=w.length
 cap:∀ k,k < n.length->(n.getD k 0:Int) <= c.getD k 0
 sum:n.sum=s \/ n.sum < s/\∀ k,k < n.length->(n.getD k 0:Int)=c.getD k 0
 non:q=none->∀ k,n.getD k 0=0
 met:∀ r,q=some r->∃ k,k < n.length/\0 < n.getD k 0/\mkRat (w.getD k 0) (n.getD k 0)=r
 low:∀ r,q=some r->∀ k,k < n.length->0 < n.getD k 0->r <= mkRat (w.getD k 0) (n.getD k 0)
 top:∀ r,q=some r->∀ k,k < n.length->(n.getD k 0:Int) < c.getD k 0->mkRat (w.getD k 0) (n.getD k 0 + 1) <= r
def sc (b:Int) (o:Nat × Rat):Nat × Rat:=(o.1,o.2 * (b:Rat))
def aqh6:List (Int × Int)->Int->Int->Option (Int × Int)
 | [],_,_=>none
 | q :: l,aqt6,W=>if aqt6 <= W * q.1 then some (aqt6,W) else aqh6 l (aqt6 - q.2 * q.1) (W - q.2)
def aqsy (l:List (Int × Int)):Int:=(l.map fun q=>q.2).sum
def capS (l:List (Int × Int)) (x:Rat):Rat:=(l.map fun q=>(q.2:Rat) * min (q.1:Rat) x).sum
theorem az7:∀ {l:List (Int × Int)},(∀ q∈l,1 <= q.2)->0 <= aqsy l
 | [],_=>by simp [aqsy]
 | q :: l,h=>by
  have h1:=h q (by simp);have h2:=az7 (l:=l) fun q hq=>h q (by simp [hq]);simp only [aqsy,map_cons,sum_cons] at h2 ⊢; omega
theorem aY2 {aqt6 W t w:Int} (hr:¬ aqt6 <= W * t):(W - w) * t < aqt6 - w * t:=by
 rw [Int.sub_mul]; omega
theorem aqjh {l:List (Int × Int)} {x:Rat} (h:∀ q∈l,x <= (q.1:Rat)):capS l x=(aqsy l:Rat) * x:=by
 induction l with
 | nil=>simp only [capS,aqsy,map_nil,List.sum_nil]; grind
 | cons q l ih =>
  have h1:=h q (by simp);have h2:=ih fun q hq=>h q (by simp [hq]);have hm:min (q.1:Rat) x=x:=by grind
  simp only [capS,aqsy,map_cons,sum_cons] at h2 ⊢;rw [h2,hm];push_cast;grind
theorem aJs:∀ (l:List (Int × Int)) (aqt6 W t0 ρ V:Int),(∀ q∈l,0 <= q.1/\1 <= q.2)->l.Pairwise (fun a b=>a.1 <= b.1)->(∀ q∈l,t0 <= q.1)->W=aqsy l->0 < aqt6->W * t0 <= aqt6->aqh6 l aqt6 W=some (ρ,V) ->
  0 < ρ/\ρ <= aqt6/\1 <= V/\V <= W/\t0 * V <= ρ/\∀ x:Rat,x * (V:Rat)=(ρ:Rat)->capS l x=(aqt6:Rat)/\∃ q∈l,x <= (q.1:Rat)
 | [],_,_,_,_,_,_,_,_,_,_,_,e=>by cases e
 | q :: l,aqt6,W,t0,ρ,V,hq,hs,ht,hW,hp,h0,e=>by
  have hq1:=hq q (by simp);have hl:∀ q∈l,0 <= q.1/\1 <= q.2:=fun q hm=>hq q (by simp [hm]);have hW':W - q.2=aqsy l:=by rw [hW]; simp [aqsy]; omega
  have hn:=az7 (l:=l) fun q hm=>(hl q hm).2;rw [pairwise_cons] at hs;unfold aqh6 at e;split at e
  ·rename_i hr
   cases e;refine ⟨hp,Kk _,by omega,Kk _,by rw [Int.mul_comm]; exact h0,fun x hx=>?_⟩;have Vp:(0:Rat) < (W:Rat):=by exact_mod_cast (by omega:0 < W)
   have hxq:x <= (q.1:Rat):=by
    have hr':(aqt6:Rat) <= (q.1:Rat) * (W:Rat):=by
     have:aqt6 <= q.1 * W:=by rw [Int.mul_comm]; exact hr
     exact_mod_cast this
    rw [<- hx] at hr';exact Ey hr' Vp
   refine ⟨?_,q,by simp,hxq⟩;rw [aqjh fun r hm=>?_]
   ·rw [<- hW,<- hx,Jk]
   ·rcases Al.mp hm with rfl | hm
    ·exact hxq
    ·have:(q.1:Rat) <= (r.1:Rat):=by exact_mod_cast hs.1 r hm
     exact Hb hxq this
  ·rename_i hr
   have hlt:=aY2 (w:=q.2) hr;have hge:0 <= (W - q.2) * q.1:=Fs (by omega) hq1.1;have hwt:0 <= q.2 * q.1:=Fs (by omega) hq1.1;obtain ⟨r1,r2,r3,r4,r5,r6⟩:=aJs l (aqt6 - q.2 * q.1) (W - q.2) q.1 ρ V hl hs.2 (fun r hm=>hs.1 r hm) hW' (by omega) (by omega) e;refine ⟨r1,by omega,r3,by omega,Fi (Gd (ht q (by simp)) (by omega)) r5,fun x hx=>?_⟩;obtain ⟨c1,p,c2,c3⟩:=r6 x hx;refine ⟨?_,p,by simp [c2],c3⟩;have Vp:(0:Rat) < (V:Rat):=by exact_mod_cast (by omega:0 < V)
   have hqx:(q.1:Rat) <= x:=by
    have:(q.1:Rat) * (V:Rat) <= (ρ:Rat):=by exact_mod_cast r5
    rw [<- hx] at this;exact Ey this Vp
   have hm:min (q.1:Rat) x=(q.1:Rat):=by grind
   simp only [capS,map_cons,sum_cons] at c1 ⊢;rw [c1,hm];push_cast;grind
end MB
namespace L_k62
open PySem DL
noncomputable def aq5:Blk :=
 (aqu1 (mO [true,true] (azv [none,some 1] (aqtq 0) (geN 0) qT (oE (aqtr (ak (aqtq 1) (ak (fC (.int 1)) aqu6)))))))
noncomputable def aw:List D->Option D:=aqt4 2 aq5
noncomputable def aqcn:Blk :=
 (aqu1 (mE [true,true] (f2 dLt (f2 aqtu (f2 dIx (aqtq 0) (fC (.int 0))) (f2 dIx (aqtq 1) (fC (.int 1)))) (f2 aqtu (f2 dIx (aqtq 1) (fC (.int 0))) (f2 dIx (aqtq 0) (fC (.int 1)))))))
noncomputable def avt:List D->Option D:=aqt4 2 aqcn
noncomputable def az3:Blk :=
 (bIf (qOr (qV (f2 dIs (aqtq 1) (fC .non))) (qV (aq1 2 avt (ak (f2 dIx (aqtq 2) (fC (.int 1))) (ak (f2 dIx (aqtq 1) (fC (.int 1))) aqu6))))) (aqtz 1 (mE [false,false,true] (aqtq 2))) aqu2)
noncomputable def aqck:Blk :=
 (aqu0 (aqtz 1 (mE [false,false,false] (fC .non)))
  (aqu0 (aqu3 [true,false,false] (aqtq 0) (gN 2) az3)
  (aqu1 (mE [false,true,false] (aqtq 1)))))
noncomputable def axp:List D->Option D:=aqt4 3 aqck
noncomputable def avl:Blk :=
 (aqu1 (mE [true] (aqts dSum (ak (fL (azv [none,none] (aqtq 0) (aqto [(geN 0),(geN 1)]) qT (oE (aqtq 0)))) aqu6))))
noncomputable def aqn:List D->Option D:=aqt4 1 avl
noncomputable def azm:Blk :=
 (aqu1 (mE [true,true] (aqts dAll (ak (fL (azv [none,some 0] (aqtq 1) (geN 0) qT (oE (f2 dIn (aqtq 0) (f2 dIx (aqtq 1) (fC (.int 1))))))) aqu6))))
noncomputable def aqa:List D->Option D:=aqt4 2 azm
noncomputable def aVf:Blk :=
 (aqu1 (mO [true,true] (aqak [none,none,some 1] (aqtq 0) (aqto [(geN 0),(geN 1)]) (qV (aq1 2 aqa (ak (aqtq 1) (ak (aqtq 2) aqu6)))) (oE (aqtq 0)))))
noncomputable def akv:List D->Option O:=aqt2 2 aVf
noncomputable def aVe:Blk :=
 (aqu1 (mO [true,true] (aqcr 2 akv (ak (aqtq 0) (ak (fL (oLst (ak (aqtq 1) aqu6))) aqu6)))))
noncomputable def aq8:List D->Option O:=aqt2 2 aVe
noncomputable def avo:Blk :=
 (aqu0 (aqtz 4 (mE [false,false,true,true,false] (f2 dMod (aqtq 2) (aqtq 3))))
  (aqu0 (aqtz 2 (mE [false,false,false,true,false] (aqtq 3)))
  (aqtz 3 (mE [false,false,false,false,true] (aqtq 4)))))
noncomputable def aJh:Blk :=
 (aqu0 (aqtz 2 (mE [true,false,false,false,false] (aqts dAbs (ak (aqtq 0) aqu6))))
  (aqu0 (aqtz 3 (mE [false,true,false,false,false] (aqts dAbs (ak (aqtq 1) aqu6))))
  (aqu0 (az4 (qV (f2 dNe (aqtq 3) (fC (.int 0)))) avo)
  (aqu1 (mE [false,false,true,false,false] (aqtq 2))))))
noncomputable def aj3:List D->Option D:=aqt4 5 aJh
noncomputable def aqx:Blk :=
 (aqtz 1 (mE [false,true,false,true] (f2 aqtu (aqtq 1) (f2 aqtw (aqtq 3) (aq1 2 aj3 (ak (aqtq 1) (ak (aqtq 3) aqu6)))))))
noncomputable def ajn:Blk :=
 (aqu0 (aqtz 1 (mE [false,false,false,false] (fC (.int 1))))
  (aqu0 (aqu3 [true,false,false,false] (aqtq 0) (gTp [(gN 2),(gN 3)]) aqx)
  (aqu1 (mE [false,true,false,false] (aqtq 1)))))
noncomputable def az:List D->Option D:=aqt4 4 ajn
noncomputable def avn:Blk :=
 (aqu1 (mO [true,true] (azv [none,none,some 0] (aqtq 1) (aqto [(geN 0),(geN 1)]) qT (oE (f2 aqtu (aqtq 0) (f2 aqtw (aqtq 2) (aqtq 1)))))))
noncomputable def aqp:List D->Option D:=aqt4 2 avn
noncomputable def avm:Blk :=
 (aqu1 (mE [true,true] (aqts dSum (ak (fL (azv [none,some 0] (aqtq 1) (geN 0) qT (oE (f2 dIx (f2 dIx (aqtq 1) (aqtq 0)) (fC (.int 0)))))) aqu6))))
noncomputable def aqo:List D->Option D:=aqt4 2 avm
noncomputable def aqch:Blk :=
 (aqu0 (bIf (qV (f2 dEq (aqtq 1) (fC (.int 0)))) bNever aqu2)
  (aqu0 (aqtz 2 (mE [true,true,false] (aq1 2 aj3 (ak (aqtq 0) (ak (aqtq 1) aqu6)))))
  (aqu0 (bIf (qV (f2 dLt (aqtq 1) (fC (.int 0)))) (aqtz 2 (mE [false,false,true] (f1 dNeg (aqtq 2)))) aqu2)
  (aqu1 (mE [true,true,true] (aqtr (ak (f2 aqtw (aqtq 0) (aqtq 2)) (ak (f2 aqtw (aqtq 1) (aqtq 2)) aqu6))))))))
noncomputable def axn:List D->Option D:=aqt4 3 aqch
noncomputable def azl:Blk :=
 (aqu0 (bIf (qV (f2 dLe (aqtq 7) (f2 aqtu (aqtq 8) (aqtq 9)))) (aqu1 (mE [false,false,false,false,false,true,false,true,true,false,false] (aq1 2 axn (ak (aqtq 7) (ak (f2 aqtu (aqtq 8) (aqtq 5)) aqu6))))) aqu2)
  (aqu0 (aqtz 7 (mE [true,false,false,false,false,false,false,true,false,true,true] (f2 dSub (aqtq 7) (f2 aqtu (f2 dIx (f2 dIx (aqtq 0) (aqtq 10)) (fC (.int 0))) (aqtq 9)))))
  (aqtz 8 (mE [true,false,false,false,false,false,false,false,true,false,true] (f2 dSub (aqtq 8) (f2 dIx (f2 dIx (aqtq 0) (aqtq 10)) (fC (.int 0))))))))
noncomputable def aqev:Blk :=
 (aqu0 (aqtz 4 (mO [true,false,true,false,false,false,false,false,false,false,false] (aqcr 2 aq8 (ak (aqtq 0) (ak (aqtq 2) aqu6)))))
  (aqu0 (aqtz 5 (mE [false,true,false,false,true,false,false,false,false,false,true] (aq1 1 az (ak (fL (azv [none,some 1] (aqtq 4) (geN 0) qT (oE (f2 dIx (aqtq 1) (aqtq 0))))) aqu6))))
  (aqu0 (aqtz 6 (mE [false,true,false,false,true,true,false,false,false,false,true] (aq1 2 aqp (ak (aqtq 5) (ak (fL (azv [none,some 1] (aqtq 4) (geN 0) qT (oE (f2 dIx (aqtq 1) (aqtq 0))))) aqu6)))))
  (aqu0 (aqtz 7 (mE [false,false,false,true,false,true,false,false,false,false,false] (f2 aqtu (aqtq 3) (aqtq 5))))
  (aqu0 (aqtz 8 (mE [true,false,false,false,true,false,false,false,false,false,false] (aq1 2 aqo (ak (aqtq 0) (ak (aqtq 4) aqu6)))))
  (aqu0 (aqu3 [false,false,false,false,true,false,true,false,false,false,false] (fL (aqte aQy (ak (aqtq 6) (ak (aqtq 4) aqu6)))) (gTp [(gN 9),(gN 10)]) azl)
  (aqu1 (mE [false,false,false,false,false,false,false,false,false,false,false] (fC .non)))))))))
noncomputable def aZl:List D->Option D:=aqt4 11 aqev
noncomputable def aJf:Blk :=
 (bExt 1 [false,false,false,true] pNil (aqtq 3))
noncomputable def aqcj:Blk :=
 (aqu0 (aqtz 1 (mO [false,false,false,false] (oLst aqu6)))
  (aqu0 (aqu3 [true,false,false,false] (aqtq 0) (gTp [(gN 2),(gN 3)]) aJf)
  (aqu1 (mO [false,true,false,false] (aqte aQz (ak (aqtq 1) aqu6))))))
noncomputable def avs:List D->Option O:=aqt2 4 aqcj
noncomputable def aVd:Blk :=
 (aqu0 (aqtz 3 (mO [false,false,true,false,false,false] (azv [none] (aqtq 2) (geN 0) qT (oE (f2 dIx (aqtq 0) (fC (.int 0)))))))
  (aqu0 (aqtz 4 (mE [true,false,false,false,false,false] (aq1 1 aqn (ak (aqtq 0) aqu6))))
  (aqu0 (aqtz 5 (mO [true,true,false,true,true,false] (azv [none,some 0,some 1,some 4,some 3] (fL (aqcr 1 avs (ak (aqtq 0) aqu6))) (geN 0) (qV (f2 aXc (aqtq 0) (aqtq 4))) (oE (aqtr (ak (aqtq 0) (ak (aq1 4 aZl (ak (aqtq 1) (ak (aqtq 2) (ak (aqtq 0) (ak (aqtq 3) aqu6))))) aqu6)))))))
  (aqu1 (mO [false,false,false,false,false,true] (azv [none] (aqtq 5) (geN 0) (qV (f2 aqtv (f2 dIx (aqtq 0) (fC (.int 1))) (fC .non))) (oE (aqtq 0))))))))
noncomputable def axo:List D->Option D:=aqt4 6 aVd
noncomputable def aqci:Blk :=
 (aqu1 (mE [true,true] (aq1 2 axn (ak (f2 dSub (f2 aqtu (f2 dIx (aqtq 0) (fC (.int 0))) (f2 dIx (aqtq 1) (fC (.int 1)))) (f2 aqtu (f2 dIx (aqtq 1) (fC (.int 0))) (f2 dIx (aqtq 0) (fC (.int 1))))) (ak (f2 aqtu (f2 dIx (aqtq 0) (fC (.int 1))) (f2 dIx (aqtq 1) (fC (.int 1)))) aqu6)))))
noncomputable def aw4:List D->Option D:=aqt4 2 aqci
noncomputable def aq4:Blk :=
 (aqu0 (bIf (qV (aq1 2 avt (ak (aqtq 0) (ak (aqtq 1) aqu6)))) (aqu1 (mE [false,false] (aqtr (ak (fC (.int 0)) (ak (fC (.int 1)) aqu6))))) aqu2)
  (aqu1 (mE [true,true] (aq1 2 aw4 (ak (aqtq 0) (ak (aqtq 1) aqu6))))))
noncomputable def aS:List D->Option D:=aqt4 2 aq4
noncomputable def aVc:Blk :=
 (bPut 4 [false,false,false,false,false,true] pNil (aqtq 5) (mE [false,true,false,true,false,true] (aq1 2 aS (ak (f2 dIx (aqtq 1) (aqtq 5)) (ak (aqtq 3) aqu6)))))
noncomputable def aqjo:Blk :=
 (aqu0 (aqtz 4 (mO [false,true,false,false,false,false] (aqte aqg1 (ak (aqtq 1) aqu6))))
  (aqu0 (aqu3 [true,false,true,false,false,false] (fL (aqcr 2 aq8 (ak (aqtq 0) (ak (aqtq 2) aqu6)))) (gN 5) aVc)
  (aqu1 (mE [false,false,false,false,true,false] (aqtq 4)))))
noncomputable def aqat:List D->Option D:=aqt4 6 aqjo
noncomputable def ak9:Blk :=
 (aqu0 (aqtz 2 (mE [true,false,true,false,true] (aq1 4 aqat (ak (aqtq 0) (ak (aqtq 2) (ak (f2 dIx (aqtq 4) (fC (.int 0))) (ak (f2 dIx (aqtq 4) (fC (.int 1))) aqu6)))))))
  (aqu0 (bMut 3 [false,false,false,false,false] pNil (mE [false,false,true,false,true] (aqtr (ak (f2 dIx (aqtq 4) (fC (.int 0))) (ak (f2 dIx (aqtq 4) (fC (.int 1))) (ak (aqtq 2) aqu6))))) gApp)
  (aqtz 4 (mE [true,false,true,true,false] (aq1 1 axp (ak (aq1 3 axo (ak (aqtq 0) (ak (aqtq 2) (ak (aqtq 3) aqu6)))) aqu6))))))
noncomputable def aVb:Blk :=
 (aqu0 (aqtz 2 (mE [true,true,false,false,false] (aq1 2 aw (ak (aqtq 0) (ak (aqtq 1) aqu6)))))
  (aqu0 (aqtz 3 (mO [false,false,false,false,false] (oLst aqu6)))
  (aqu0 (aqtz 4 (mE [true,false,true,true,false] (aq1 1 axp (ak (aq1 3 axo (ak (aqtq 0) (ak (aqtq 2) (ak (aqtq 3) aqu6)))) aqu6))))
  (aqu0 (az4 (qV (f2 aqtv (aqtq 4) (fC .non))) ak9)
  (aqu1 (mE [false,false,false,true,false] (aqtq 3)))))))
noncomputable def avg:List D->Option D:=aqt4 5 aVb
noncomputable def ajo:Blk :=
 (aqu1 (mO [true] (azv [none] (aqtq 0) (geN 0) qT (oE (f2 dIx (aqtq 0) (fC (.int 0)))))))
noncomputable def aG:List D->Option D:=aqt4 1 ajo
noncomputable def aJe:Blk :=
 (aqu1 (mE [true,true,true] (aqts dSum (ak (fL (azv [none,some 1,some 0] (aqtq 2) (geN 0) qT (oE (f2 aqtu (f2 dIx (f2 dIx (aqtq 2) (aqtq 0)) (fC (.int 0))) (f2 dIx (aqtq 1) (aqtq 0)))))) aqu6))))
noncomputable def azy:List D->Option D:=aqt4 3 aJe
noncomputable def aqeu:Blk :=
 (aqu0 (aqtz 3 (mO [true,false,true,false,false,false] (aqcr 2 aq8 (ak (aqtq 0) (ak (aqtq 2) aqu6)))))
  (aqu0 (aqtz 4 (mE [false,true,false,false,false,false] (aq1 1 az (ak (aqtq 1) aqu6))))
  (aqu0 (aqtz 5 (mE [true,true,false,true,true,false] (f2 dSub (f2 aqtu (aq1 1 aqn (ak (aqtq 0) aqu6)) (aqtq 4)) (aq1 3 azy (ak (aqtq 0) (ak (aq1 2 aqp (ak (aqtq 4) (ak (aqtq 1) aqu6))) (ak (aqtq 3) aqu6)))))))
  (aqu0 (bIf (qV (f2 dLe (aqtq 5) (fC (.int 0)))) (aqu1 (mE [false,false,false,false,false,false] (aqtr (ak (fC (.int 0)) (ak (fC (.int 1)) aqu6))))) aqu2)
  (aqu1 (mE [true,false,false,true,true,true] (aq1 2 axn (ak (aqtq 5) (ak (f2 aqtu (aq1 2 aqo (ak (aqtq 0) (ak (aqtq 3) aqu6))) (aqtq 4)) aqu6)))))))))
noncomputable def aZk:List D->Option D:=aqt4 6 aqeu
noncomputable def aK5:Blk :=
 (aqu0 (bIf (qV (f2 dGe (aqts dLen (ak (aqtq 2) aqu6)) (aqtq 3))) (aqu1 (mO [false,false,false,false] (oLst aqu6))) aqu2)
  (aqu1 (mO [true,true,true,false] (azv [none,some 0,some 1,some 2] (fL (aqcr 1 avs (ak (aqtq 0) aqu6))) (geN 0) (qV (f2 aXc (aqtq 0) (aqtq 3))) (oE (aqtr (ak (aqtq 0) (ak (aq1 3 aZk (ak (aqtq 1) (ak (aqtq 2) (ak (aqtq 0) aqu6)))) aqu6))))))))
noncomputable def avr:List D->Option D:=aqt4 4 aK5
noncomputable def aqjn:Blk :=
 (aqu1 (mE [true,true] (aq1 2 axn (ak (f2 dAdd (f2 aqtu (f2 dIx (aqtq 0) (fC (.int 0))) (f2 dIx (aqtq 1) (fC (.int 1)))) (f2 aqtu (f2 dIx (aqtq 1) (fC (.int 0))) (f2 dIx (aqtq 0) (fC (.int 1))))) (ak (f2 aqtu (f2 dIx (aqtq 0) (fC (.int 1))) (f2 dIx (aqtq 1) (fC (.int 1)))) aqu6)))))
noncomputable def aJ0:List D->Option D:=aqt4 2 aqjn
noncomputable def ajm:Blk :=
 (aqu0 (aqtz 3 (mO [true,false,true,false] (aqcr 2 aq8 (ak (aqtq 0) (ak (f2 dIx (aqtq 2) (fC (.int 0))) aqu6)))))
  (aqu1 (mO [false,true,true,true] (aqak [none,none,some 3,some 2] (aqtq 1) (aqto [(geN 0),(geN 1)]) qT (oE (fIf (qV (f2 dIn (aqtq 0) (aqtq 2))) (aqtr (ak (fC (.int 0)) (ak (fC (.int 1)) aqu6))) (aq1 2 aJ0 (ak (aqtq 1) (ak (f2 dIx (aqtq 3) (fC (.int 1))) aqu6)))))))))
noncomputable def aX:List D->Option D:=aqt4 4 ajm
noncomputable def aJg:Blk :=
 (aqu0 (aqtz 1 (mE [true,true,false,false,false,false,true] (aq1 3 aX (ak (aqtq 0) (ak (aqtq 1) (ak (aqtq 6) aqu6))))))
  (aqu0 (bMut 5 [false,false,false,false,false,false,false] pNil (mE [false,true,false,false,false,false,true] (aqtr (ak (f2 dIx (aqtq 6) (fC (.int 0))) (ak (f2 dIx (aqtq 6) (fC (.int 1))) (ak (aqtq 1) aqu6))))) gApp)
  (aqu0 (bMut 4 [false,false,false,false,false,false,false] pNil (mE [false,false,false,false,false,false,true] (f2 dIx (aqtq 6) (fC (.int 0)))) gApp)
  (aqtz 6 (mE [true,true,false,true,true,false,false] (aq1 1 axp (ak (aq1 4 avr (ak (aqtq 0) (ak (aqtq 1) (ak (aqtq 4) (ak (aqtq 3) aqu6))))) aqu6)))))))
noncomputable def aqcl:Blk :=
 (aqu0 (aqtz 4 (mO [false,false,true,false,false,false,false] (aqte aqg1 (ak (aqtq 2) aqu6))))
  (aqu0 (aqtz 5 (mO [false,false,false,false,false,false,false] (oLst aqu6)))
  (aqu0 (aqtz 6 (mE [true,true,false,true,true,false,false] (aq1 1 axp (ak (aq1 4 avr (ak (aqtq 0) (ak (aqtq 1) (ak (aqtq 4) (ak (aqtq 3) aqu6))))) aqu6))))
  (aqu0 (az4 (qV (f2 aqtv (aqtq 6) (fC .non))) aJg)
  (aqu1 (mE [false,false,false,false,false,true,false] (aqtq 5)))))))
noncomputable def aJ1:List D->Option D:=aqt4 7 aqcl
noncomputable def aji:Blk :=
 (aqu0 (bIf (qV (f2 dEq (aqtq 2) (fL (oLst aqu6)))) (aqu1 (mE [true,true,false] (aq1 2 aw (ak (aqtq 0) (ak (aqtq 1) aqu6))))) aqu2)
  (aqu1 (mE [false,false,true] (f2 dIx (f2 dIx (aqtq 2) (f1 dNeg (fC (.int 1)))) (fC (.int 2))))))
noncomputable def aqe:List D->Option D:=aqt4 3 aji
noncomputable def aqcm:Blk :=
 (aqu0 (aqtz 2 (mE [true,true,false,false,false] (aq1 2 avg (ak (aqtq 0) (ak (aqtq 1) aqu6)))))
  (aqu0 (aqtz 3 (mE [false,false,true,false,false] (aq1 1 aG (ak (aqtq 2) aqu6))))
  (aqu0 (aqtz 4 (mE [true,true,true,true,false] (aq1 4 aJ1 (ak (aqtq 0) (ak (aq1 3 aqe (ak (aqtq 0) (ak (aqtq 1) (ak (aqtq 2) aqu6)))) (ak (fL (aqte aqjy (ak (aqtq 3) aqu6))) (ak (aqtq 1) aqu6)))))))
  (aqu1 (mO [false,false,true,true,true] (oTupO (aqcp (aqte aqjy (ak (fL (o2 dCat (aqtq 3) (aq1 1 aG (ak (aqtq 4) aqu6)))) aqu6)) (aqcp (oE (aqtq 2)) (aqcp (oE (aqtq 4)) aoNil)))))))))
noncomputable def aw5:List D->Option D:=aqt4 5 aqcm
noncomputable def ajw:Blk :=
 (aqu0 (bIf (qV (f2 dLt (aqtq 1) (aqts dLen (ak (aqtq 0) aqu6)))) (aqu1 (mE [true,true] (f2 dIx (aqtq 0) (aqtq 1)))) aqu2)
  (aqu0 (bIf (qV (f2 dEq (aqtq 0) (fL (oLst aqu6)))) (aqu1 (mE [false,true] (f2 dAdd (f2 aqtu (f2 aqtu (aqtq 1) (aqtq 1)) (fC (.int 7919))) (f2 aqtu (fC (.int 13)) (aqtq 1))))) aqu2)
  (aqu1 (mE [true,true] (f2 dMod (f2 aqtu (f2 dAdd (f2 dAdd (f2 dIx (aqtq 0) (f2 dMod (aqtq 1) (aqts dLen (ak (aqtq 0) aqu6)))) (f2 aqtu (f2 aqtu (aqtq 1) (aqtq 1)) (fC (.int 7919)))) (fC (.int 1))) (fC (.int 48271))) (fC (.int 2147483647)))))))
noncomputable def aT:List D->Option D:=aqt4 2 ajw
noncomputable def awa:Blk :=
 (aqu0 (aqtz 3 (mE [true,true,false,false] (aq1 2 aw5 (ak (aqtq 0) (ak (aqtq 1) aqu6)))))
  (aqu1 (mO [false,false,true,true] (o2 dCat (fL (azv [none,some 2] (f2 dIx (aqtq 3) (fC (.int 1))) (geN 0) qT (oE (f2 dIx (aqtq 1) (f2 dIx (aqtq 0) (fC (.int 0))))))) (fL (azv [none,some 2] (f2 dIx (aqtq 3) (fC (.int 2))) (geN 0) qT (oE (f2 dIx (aqtq 1) (f2 dIx (aqtq 0) (fC (.int 0)))))))))))
noncomputable def azz:List D->Option D:=aqt4 4 awa
noncomputable def aqjx:List D->Option D:=lawD
end L_k62
set_option maxHeartbeats 4000000
namespace L_k62
open PySem DL MB
theorem aqed (l:List Int):D.lst (l.map D.int)=ay l:=rfl
theorem aqb7 {h:List aqud} {i:Nat} (hi:i < h.length):dIx (aF h) (.int (i:Int))=some (ax3 h[i]):=by
 have:=aqn5 (ds:=h.map ax3) (i:=i) (by simpa using hi)
 rw [aF,this]; simp
theorem aqb6 {l:List Int} {i:Nat} (h:i < l.length):dIx (ay l) (.int (i:Int))=some (.int l[i]):=by
 have:=aqn5 (ds:=l.map .int) (i:=i) (by simpa using h)
 rw [ay,this]; simp
theorem aqib (p:aqud) (s:List Int) (hs:s.length <= 100):aqa [ax3 p,ay s]=some (.bl (axq p.2 s)):=by
 have hc:av0 (geN 0) qT (oE (f2 dIn (aqtq 0) (f2 dIx (aqtq 1) (fC (.int 1))))) (s.map D.int) [none,some (ax3 p)]=some (s.map fun c=>O.sh (.bl (has p.2 c))):=by
  have:=aB (inj:=D.int) (g:=geN 0) (c:=qT) (e:=oE (f2 dIn (aqtq 0) (f2 dIx (aqtq 1) (fC (.int 1))))) (fun ρ=>∃ d,ρ=[d,some (ax3 p)]) (fun _=>true) (fun c=>O.sh (.bl (has p.2 c))) s [none,some (ax3 p)] ⟨_,rfl⟩ (by
   rintro c _ ρ ⟨d,rfl⟩;exact ⟨_,rfl,⟨_,rfl⟩,rfl,fun _=>by simp⟩)
  rwa [Av.mpr (by simp)] at this
 have hd:oDs (s.map fun c=>O.sh (.bl (has p.2 c)))=some (s.map fun c=>D.bl (has p.2 c)):=azu (fun c=>by simp) s;have hb:aqjl (s.map fun c=>D.bl (has p.2 c))=some (s.map fun c=>has p.2 c):=by
  clear hc hd hs
  induction s with
  | nil=>rfl
  | cons c s ih=>simp [aqjl,ih]
 have hl:s.length <= 100000:=by omega
 simp [aqa,aqt4,aqt2,ini,azm,azv,mkD,hl,aqug,hc,hd,dAll,hb,axq,List.all_map,Ii]
theorem aqex (h:List aqud) (s:List Int) (hh:h.length <= 100) (hs:s.length <= 100):akv [aF h,ay s]=some (ow ((agr h s).map .int)):=by
 have hc:av0 (aqto [(geN 0),(geN 1)]) (qV (aq1 2 aqa (ak (aqtq 1) (ak (aqtq 2) aqu6)))) (oE (aqtq 0)) (aqbn (h.map ax3)) [none,none,some (ay s)]=some ((agr h s).map fun i=>O.sh (.int i)):=by
  rw [aKp]
  have:=aB (inj:=fun q:Nat × aqud=>D.tup [.int (q.1:Int),ax3 q.2]) (g:=aqto [(geN 0),(geN 1)]) (c:=qV (aq1 2 aqa (ak (aqtq 1) (ak (aqtq 2) aqu6)))) (e:=oE (aqtq 0))
   (fun ρ=>∃ d d',ρ=[d,d',some (ay s)]) (fun q=>axq q.2.2 s) (fun q=>O.sh (.int (q.1:Int))) ((Ar h.length).zip h) [none,none,some (ay s)] ⟨_,_,rfl⟩ (by
   rintro ⟨i,p⟩ _ ρ ⟨d,d',rfl⟩;exact ⟨_,rfl,⟨_,_,rfl⟩,by simp [aqib p s hs],fun _=>by simp⟩)
  rw [this];have e:=aWy (fun p:aqud=>axq p.2 s) h;show some _=some ((agr h s).map _);unfold agr;rw [<- e,map_map,map_map];rfl
 have hl:h.length <= 100000:=by omega
 simp [akv,aqt2,ini,aVf,aqak,mkD,hl,aqug,hc,ow]
theorem av6 (h:List aqud) (c:Int) (hh:h.length <= 100):aq8 [aF h,.int c]=some (ow ((agr h [c]).map .int)):=by
 have ha:=aqex h [c] hh (by simp);simp only [ay,map_cons,map_nil] at ha;simp [aq8,aqt2,ini,aVe,aqug,ha]
def aqt (h:List aqud):List Int:=h.flatMap fun p=>p.2
theorem aqic (h:List aqud) (hh:h.length <= 100) (hm:∀ p∈h,p.2.length <= 12) (h64:(aI (aqt h)).length < 64):avs [aF h]=some (ow ((aI (aqt h)).map .int)):=by
 have hlen:∀ l:List aqud,(∀ p∈l,p.2.length <= 12)->(aqt l).length <= 12 * l.length:=by
  intro l
  induction l with
  | nil=>intro _; simp [aqt]
  | cons p l ih =>
   intro hp;have h1:=hp p (by simp);have h2:=ih fun q m=>hp q (by simp [m]);simp [aqt] at h2 ⊢;omega
 obtain ⟨ρ',h1,c,c',h2⟩:=aqbk (inj:=ax3) (g:=gTp [(gN 2),(gN 3)]) (b:=aJf) (fun pre ρ=>∃ c c',ρ=[some (.sh (aF h)),some (ow ((aqt pre).map .int)),c,c']) h
  [some (.sh (aF h)),some (ow []),none,none] ⟨_,_,rfl⟩ (by
   rintro pre p post ρ e ⟨c,c',rfl⟩;have hp:p.2.length <= 12:=hm p (by rw [e]; simp);have hpre:(aqt pre).length <= 12 * pre.length:=hlen pre fun q m=>hm q (by rw [e]; simp [m]);have hpl:pre.length <= 100:=by have:=congrArg List.length e; simp at this; omega
   refine ⟨[some (.sh (aF h)),some (ow ((aqt pre).map .int)),some (.sh (.int p.1)),some (.sh (ay p.2))],_,rfl,.inl ?_,some (.sh (.int p.1)),some (.sh (ay p.2)),rfl⟩;have hl:(aqt pre).length + p.2.length <= aqug:=by simp only [aqug]; omega
   have em:aqt (pre++[p])=aqt pre++p.2:=by simp [aqt]
   rw [em];simp [aJf,bExt,pNil,ay,atO,gExt,ow,hl,-map_append]
   simp)
 have hn:(aqt h).length < 4000:=by have:=hlen h hm; omega
 simp [avs,aqt2,ini,aqcj,aqu3,aqug,h1,h2,aQz,hn,h64]
def cellOf (ns:List Int) (k:Nat):Int:=if k < ns.length then ns.getD k 0 else if ns=[] then (k:Int) * k * 7919 + 13 * k else ((ns.getD (k % ns.length) 0 + (k:Int) * k * 7919 + 1) * 48271).fmod 2147483647
theorem aqc3 (ns:List Int) (k:Nat) (hk:k <= 1000):aT [ay ns,.int (k:Int)]=some (.int (cellOf ns k)):=by
 have kk:aqtu (.int (k:Int)) (.int (k:Int))=some (.int ((k:Int) * k)):=aqn4 (lt_of_le_of_lt (show _ <= 1000 by omega) (by decide));have k79:aqtu (.int ((k:Int) * k)) (.int 7919)=some (.int ((k:Int) * k * 7919)):=aqn3 (by decide);have k13:aqtu (.int 13) (.int (k:Int))=some (.int (13 * (k:Int))):=aqn4 (by decide)
 by_cases h1:k < ns.length
 ·have hx:dIx (ay ns) (.int (k:Int))=some (.int (ns.getD k 0)):=by rw [aqb6 h1]; simp [h1]
  have h1':(k:Int) < (ns.length:Int):=by omega
  simp [aT,aqt4,aqt2,ini,ajw,h1,h1',hx,cellOf]
 ·have h1':¬ (k:Int) < (ns.length:Int):=by omega
  have he:dEq (ay ns) (.lst [])=some (.bl (decide (ns=[]))):=aqen ns []
  by_cases h2:ns=[]
  ·subst h2
   have h1'':¬ (k:Int) < 0:=by omega
   simp [aT,h1'',aqt4,aqt2,ini,ajw,he,aqug,kk,k79,k13,cellOf]
  ·have hlen:0 < ns.length:=G4.mpr h2
   have hm:dMod (.int (k:Int)) (.int (ns.length:Int))=some (.int ((k % ns.length:Nat):Int)):=by
    rw [aqbv (by omega),Et _ (by omega),<- Int.natCast_emod]
   have hlt:k % ns.length < ns.length:=mod_lt _ hlen;have hx:dIx (ay ns) (.int ((k % ns.length:Nat):Int))=some (.int (ns.getD (k % ns.length) 0)):=by rw [aqb6 hlt]; simp [hlt]
   have hm2:aqtu (.int (ns.getD (k % ns.length) 0 + (k:Int) * k * 7919 + 1)) (.int 48271)=some (.int ((ns.getD (k % ns.length) 0 + (k:Int) * k * 7919 + 1) * 48271)):=aqn3 (by decide);have hm3:dMod (.int ((ns.getD (k % ns.length) 0 + (k:Int) * k * 7919 + 1) * 48271)) (.int 2147483647)=some (.int (((ns.getD (k % ns.length) 0 + (k:Int) * k * 7919 + 1) * 48271).fmod 2147483647)):=aqbv (by decide);rw [show cellOf ns k=((ns.getD (k % ns.length) 0 + (k:Int) * k * 7919 + 1) * 48271).fmod 2147483647 by rw [cellOf,if_neg h1,if_neg h2]];generalize ns.getD (k % ns.length) 0=y at *;generalize k % ns.length=q at *;simp [aT,aqt4,aqt2,ini,ajw,h1',he,h2,aqug,kk,k79,hm,hx,hm2,hm3]
def plD (g:List Nat):D:=ay (g.map fun (i:Nat)=>(i:Int))
def aqu4 (h:List aqud) (s:List Int):List Nat:=(Ar h.length).filter fun i=>atB (fun p:aqud=>axq p.2 s) h[i]?
theorem agr_N (h:List aqud) (s:List Int):agr h s=(aqu4 h s).map fun (i:Nat)=>(i:Int):=rfl
theorem aqk (h:List aqud) (s:List Int):∀ i∈aqu4 h s,i < h.length:=fun i m=>A0.mp (Ay.mp m).1
theorem awg (h:List aqud) (s:List Int):(aqu4 h s).length <= h.length:=le_trans (length_filter_le _ _) (by simp)
theorem av2:∀ (ns:List Int) (a:Int),sumD (ns.map D.int) a=some (a + ns.sum)
 | [],a=>by simp [sumD]
 | n :: ns,a=>by simp [sumD,av2 ns,Int.add_assoc]
def wAt (h:List aqud) (i:Nat):Int:=(h.getD i (0,[])).1
def wG (h:List aqud) (g:List Nat):Int:=(g.map (wAt h)).sum
def aqsq (h:List aqud):Int:=(h.map fun p=>p.1).sum
theorem akc (h:List aqud) (hh:h.length <= 100):aqn [aF h]=some (.int (aqsq h)):=by
 have hc:av0 (aqto [(geN 0),(geN 1)]) qT (oE (aqtq 0)) (h.map ax3) [none,none]=some (h.map fun p=>O.sh (.int p.1)):=by
  have:=aB (inj:=ax3) (g:=aqto [(geN 0),(geN 1)]) (c:=qT) (e:=oE (aqtq 0)) (fun ρ=>∃ d d',ρ=[d,d']) (fun _=>true) (fun p=>O.sh (.int p.1)) h [none,none] ⟨_,_,rfl⟩ (by
   rintro p _ ρ ⟨d,d',rfl⟩;exact ⟨_,rfl,⟨_,_,rfl⟩,rfl,fun _=>rfl⟩)
  rwa [Av.mpr (by simp)] at this
 have hd:oDs (h.map fun p=>O.sh (.int p.1))=some ((h.map fun p=>p.1).map D.int):=by
  have:=azu (f:=fun p:aqud=>O.sh (.int p.1)) (g:=fun p=>D.int p.1) (fun p=>by simp) h
  rw [this]; simp
 have hl:h.length <= 100000:=by omega
 simp [aqn,aqt4,aqt2,ini,avl,azv,mkD,aF,hl,aqug,hc,hd,dSum,av2,aqsq,-map_map]
theorem akd (h:List aqud) (g:List Nat) (hg:∀ i∈g,i < h.length) (hl:g.length <= 1000):aqo [aF h,plD g]=some (.int (wG h g)):=by
 have hc:av0 (geN 0) qT (oE (f2 dIx (f2 dIx (aqtq 1) (aqtq 0)) (fC (.int 0)))) (g.map fun (i:Nat)=>D.int (i:Int)) [none,some (aF h)]=some (g.map fun i=>O.sh (.int (wAt h i))):=by
  have:=aB (inj:=fun (i:Nat)=>D.int (i:Int)) (g:=geN 0) (c:=qT) (e:=oE (f2 dIx (f2 dIx (aqtq 1) (aqtq 0)) (fC (.int 0)))) (fun ρ=>∃ d,ρ=[d,some (aF h)]) (fun _=>true) (fun i=>O.sh (.int (wAt h i))) g [none,some (aF h)] ⟨_,rfl⟩ (by
   rintro i hi ρ ⟨d,rfl⟩;have hx:=aqb7 (hg i hi);have hw:wAt h i=(h[i]'(hg i hi)).1:=by simp [wAt,hg i hi]
   exact ⟨_,rfl,⟨_,rfl⟩,rfl,fun _=>by simp [hx,hw]⟩)
  rwa [Av.mpr (by simp)] at this
 have hd:oDs (g.map fun i=>O.sh (.int (wAt h i)))=some ((g.map (wAt h)).map D.int):=by
  have:=azu (f:=fun i:Nat=>O.sh (.int (wAt h i))) (g:=fun i=>D.int (wAt h i)) (fun p=>by simp) g
  rw [this]; simp
 have hl':g.length <= 100000:=by omega
 have hlo:aJl (plD g)=some (g.map fun (i:Nat)=>D.int (i:Int)):=by simp [plD]
 simp [aqo,aqt4,aqt2,ini,avm,azv,mkD,hl',aqug,hlo,hc,hd,dSum,av2,wG,-map_map]
def aqtm (l:List Nat) (i:Nat):Bool:=l.contains i
theorem akz {l:List Nat} {i:Nat}:aqtm l i=true ↔ i∈l:=by simp [aqtm]
theorem aqmi (l:List Nat) (i:Nat):has (l.map fun (j:Nat)=>(j:Int)) (i:Int)=aqtm l i:=by
 rw [A5,avw,akz,Ah];exact ⟨fun ⟨a,m,e⟩=>by rw [<- Int.ofNat_inj.mp e]; exact m,fun m=>⟨i,m,rfl⟩⟩
theorem aK8 (h:List aqud) (s:List Int):(agr h s).map D.int=(aqu4 h s).map fun (i:Nat)=>D.int (i:Int):=by rw [agr_N,map_map]; rfl
theorem aQq (g:List Nat):D.lst (g.map fun (i:Nat)=>D.int (i:Int))=plD g:=by simp [plD,ay]
theorem aqfz (h:List aqud) (k:okH h) (hh:h.length <= 100):avs [aF h]=some (ow ((Ps h).map .int)):=by
 have e:aI (aqt h)=Ps h:=by
  refine ax1 (aje _) (List.Pairwise.filter _ aVt) fun x=>?_;show x∈aI (aqt h) ↔ x∈six.filter _;rw [axy,Ay,any_eq_true];simp only [aqt,List.mem_flatMap,avw];exact ⟨fun ⟨p,hp,hx⟩=>⟨k.mem hp hx,p,hp,hx⟩,fun ⟨_,p,hp,hx⟩=>⟨p,hp,hx⟩⟩
 have hl:(aI (aqt h)).length < 64:=by
  rw [e];exact lt_of_le_of_lt (axr h) (by decide)
 rw [<- e];exact aqic h hh (fun p hp=>le_trans (k.len p hp) (by decide)) hl
theorem aqog (g:List Nat):aJl (plD g)=some (g.map fun (i:Nat)=>D.int (i:Int)):=by simp [plD]
def pAt (P:List Rat) (i:Nat):Rat:=P.getD i 0
def aqsz (h:List aqud) (P:List Rat) (c:Int):Rat:=aXp (aqu4 h [c]) fun i=>(wAt h i:Rat) * pAt P i
def aj9 (h:List aqud) (P:List Rat) (c:Int):Rat:=if (aqsq h:Rat) - aqsz h P c <= 0 then 0 else ((aqsq h:Rat) - aqsz h P c) / (wG h (aqu4 h [c]):Rat)
theorem aqmd (l:List Int):((l.sum:Int):Rat)=(l.map fun (n:Int)=>(n:Rat)).sum:=by
 induction l with
 | nil=>rfl
 | cons a l ih=>simp [ih]
theorem aqf0 (h:List aqud):aqsq h=wG h (Ar h.length):=by
 unfold aqsq wG;congr 1;apply ext_getElem
 ·simp
 ·intro i h1 h2
  simp at h1;simp [wAt,h1]
structure okW (h:List aqud):Prop where
 pos:∀ p∈h,1 <= p.1
 lt:∀ p∈h,p.1 < 2 ^ 72
 len:h.length <= 16
theorem okW.at0 {h:List aqud} (k:okW h) (i:Nat):0 <= wAt h i:=by
 unfold wAt
 by_cases hi:i < h.length
 ·rw [axc hi]; have:=k.pos _ (getElem_mem hi); omega
 ·simp [List.getD,hi]
theorem okW.at1 {h:List aqud} (k:okW h) {i:Nat} (hi:i < h.length):1 <= wAt h i:=by
 unfold wAt;rw [axc hi]; exact k.pos _ (getElem_mem hi)
theorem okW.atlt {h:List aqud} (k:okW h) (i:Nat):wAt h i < 2 ^ 72:=by
 unfold wAt
 by_cases hi:i < h.length
 ·rw [axc hi]; exact k.lt _ (getElem_mem hi)
 ·simp [List.getD,hi]
theorem aVk {h:List aqud} (k:okW h):∀ g:List Nat,0 <= wG h g/\wG h g <= (g.length:Int) * 2 ^ 72
 | []=>by simp [wG]
 | i :: g=>by
  obtain ⟨a,b⟩:=aVk k g;have h1:=k.at0 i;have h2:=k.atlt i;have e:wG h (i :: g)=wAt h i + wG h g:=by simp [wG]
  have e2:(((i :: g).length:Nat):Int) * 2 ^ 72=(g.length:Int) * 2 ^ 72 + 2 ^ 72:=by
   rw [length_cons,Int.natCast_add,Int.add_mul]; simp
  rw [e,e2];omega
theorem aqju {h:List aqud} (k:okW h) {g:List Nat} (hg:g.length <= 16):0 <= wG h g/\wG h g <= 2 ^ 76:=by
 obtain ⟨a,b⟩:=aVk k g;refine ⟨a,Fi b ?_⟩
 have:(g.length:Int) * 2 ^ 72 <= 16 * 2 ^ 72:=Gd (by omega) (by decide)
 exact Fi this (by decide)
theorem aW4 {h:List aqud} (k:okW h):0 <= aqsq h/\aqsq h <= 2 ^ 76:=by
 rw [aqf0];exact aqju k (by simpa using k.len)
theorem aW3 {h:List aqud} (k:okW h) {g:List Nat} (hne:g ≠ []) (hg:∀ i∈g,i < h.length):1 <= wG h g:=by
 cases g with
 | nil=>exact absurd rfl hne
 | cons i g =>
  have e:wG h (i :: g)=wAt h i + wG h g:=by simp [wG]
  have:=k.at1 (hg i (by simp))
  have:=(aVk k g).1
  omega
theorem az1 {h:List aqud} {c:Int} (hc:c∈Ps h):aqu4 h [c] ≠ []:=by
 obtain ⟨hs,ha⟩:=Ay.mp hc;obtain ⟨p,hp,hl⟩:=List.any_eq_true.mp ha;obtain ⟨i,hi,rfl⟩:=getElem_of_mem hp;refine List.ne_nil_of_mem (a:=i) (Ay.mpr ⟨A0.mpr hi,?_⟩);rw [getElem?_eq_getElem hi];simpa [atB,axq] using hl
def aK (f:Option (Int × Rat)) (o:Int × Rat):Option (Int × Rat):=match f with
 | none=>some o
 | some a=>if o.2 < a.2 then some o else some a
def aO (l:List (Int × Rat)):Option (Int × Rat):=l.foldl aK none
def ajd (h:List aqud) (P:List Rat) (ch:List Int) (seats:Int):List (Int × Rat):=if seats <= (ch.length:Int) then [] else ((Ps h).filter fun c=>!has ch c).map fun c=>(c,aj9 h P c)
def aQ (h:List aqud) (P:List Rat) (o:Int × Rat):List Rat:=(Ar P.length).map fun i=>if aqtm (aqu4 h [o.1]) i=true then 0 else pAt P i + o.2
def aKl (h:List aqud) (seats:Int):Nat->List Rat->List Int->List (Int × Rat × List Rat)
 | 0,_,_=>[]
 | n + 1,P,ch=>match aO (ajd h P ch seats) with
  | none=>[]
  | some o=>(o.1,o.2,aQ h P o) :: aKl h seats n (aQ h P o) (ch++[o.1])
theorem ax8 {P:List Rat} {i:Nat} (h:i < P.length):pAt P i∈P:=by unfold pAt; rw [axc h]; exact getElem_mem h
theorem ajt {l:List (Int × Rat)} {o:Int × Rat} (h:aO l=some o):o∈l:=by
 have key:∀ (l:List (Int × Rat)) (f:Option (Int × Rat)) (o:Int × Rat),l.foldl aK f=some o->o∈l \/ f=some o:=by
  intro l
  induction l with
  | nil=>intro f o h; exact .inr h
  | cons a l ih =>
   intro f o h;rcases ih _ _ h with h | h
   ·exact .inl (by simp [h])
   ·cases f with
    | none=>simp [aK] at h; exact .inl (by simp [h])
    | some b =>
     simp only [aK] at h;split at h
     ·simp at h; exact .inl (by simp [h])
     ·exact .inr h
 rcases key l none o h with h | h
 ·exact h
 ·cases h
theorem ake {h:List aqud} (k:okW h) (P:List Rat) (c:Int):0 <= aj9 h P c:=by
 unfold aj9;split
 ·exact Mf
 ·rename_i hn
  have h1:(0:Rat) <= (wG h (aqu4 h [c]):Rat):=by exact_mod_cast (aVk k _).1
  have h2:(0:Rat) <= (aqsq h:Rat) - aqsz h P c:=by grind
  rw [Rat.div_def];refine Rat.mul_nonneg h2 ?_
  by_cases h3:(wG h (aqu4 h [c]):Rat)=0
  ·rw [h3]; simp
  ·exact Fu (Rat.inv_pos.mpr (by grind))
theorem aWa {h:List aqud} (k:okW h) {P:List Rat} (hP:∀ q∈P,(0:Rat) <= q) (c:Int):0 <= aqsz h P c:=by
 refine akh fun i _=>Rat.mul_nonneg (by exact_mod_cast k.at0 i) ?_;unfold pAt
 by_cases hi:i < P.length
 ·rw [axc hi]; exact hP _ (getElem_mem hi)
 ·simp [List.getD,hi]
theorem aW2 {h:List aqud} (k:okW h) {P:List Rat} (hP:∀ q∈P,(0:Rat) <= q) {c:Int} (hc:c∈Ps h):aj9 h P c <= ((2 ^ 80:Nat):Rat):=by
 unfold aj9;have hN:(aqsq h:Rat) <= ((2 ^ 80:Nat):Rat):=by
  have:=(aW4 k).2
  have h2:aqsq h <= ((2 ^ 80:Nat):Int):=Fi this (by decide);rw [<- ax9];exact Rat.intCast_le_intCast.mpr h2
 split
 ·exact_mod_cast zero_le _
 ·have h1:(1:Rat) <= (wG h (aqu4 h [c]):Rat):=by exact_mod_cast aW3 k (az1 hc) (aqk h [c])
  have h2:=aWa k hP c;generalize hx:((aqsq h:Rat) - aqsz h P c) / (wG h (aqu4 h [c]):Rat)=x;generalize (wG h (aqu4 h [c]):Rat)=W at *;have hW:W ≠ 0:=by grind
  have e:x * W=(aqsq h:Rat) - aqsz h P c:=by rw [<- hx,C6 hW]
  false_or_by_contra;rename_i hgt;have hgt':((2 ^ 80:Nat):Rat) < x:=by grind
  have hx0:(0:Rat) <= x:=by
   have:(0:Rat) <= ((2 ^ 80:Nat):Rat):=by exact_mod_cast zero_le _
   grind
  have:x * 1 <= x * W:=Dz h1 hx0
  grind
theorem aZc {D:Nat}:∀ (l:List Nat) (f:Nat->Rat),(∀ i∈l,aque D (f i))->aque D (aXp l f)
 | [],f,_=>⟨0,by simp [aXp]⟩
 | i :: l,f,h=>by
  rw [azp];exact (h i (by simp)).add (aZc l f fun j m=>h j (by simp [m]))
theorem aVa {h:List aqud} (k:okW h) {P:List Rat} {t:Nat} (hs:azc t P) (hl:P.length=h.length) {c:Int} (hc:c∈Ps h):azc (t + 1) (aQ h P (c,aj9 h P c)):=by
 obtain ⟨D,h1,h2,h3⟩:=hs;have hP:∀ q∈P,(0:Rat) <= q:=fun q m=>(h3 q m).2.1;have hW1:=aW3 k (az1 hc) (aqk h [c]);have hW2:=(aqju k (g:=aqu4 h [c]) (le_trans (awg h [c]) k.len)).2;obtain ⟨W,hW⟩:∃ W:Nat,wG h (aqu4 h [c])=(W:Int):=⟨(wG h (aqu4 h [c])).toNat,by omega⟩;rw [hW] at hW1 hW2;have hWlt:W < 2 ^ 80:=by
  have:(W:Int) < ((2 ^ 80:Nat):Int):=Li hW2 (by decide)
  exact_mod_cast this
 have hWp:0 < W:=by omega
 have hoS:aque D (aqsz h P c):=aZc _ _ fun i hi=>by
  have:=aqk h [c] i hi
  have o:=(h3 _ (ax8 (P:=P) (i:=i) (by omega))).1;rw [Jk];exact o.mulInt _
 have hoW:aque (W * D) (aj9 h P c):=by
  unfold aj9;split
  ·exact avf _ 0
  ·have o2:aque D ((aqsq h:Rat) - aqsz h P c):=(avf D _).sub hoS
   obtain ⟨x,hx⟩:=o2;refine ⟨x,?_⟩;rw [hW];have hne:((W:Int):Rat) ≠ 0:=by
    have:(0:Rat) < ((W:Int):Rat):=by exact_mod_cast hW1
    grind
   have e1:((W * D:Nat):Rat)=((W:Int):Rat) * (D:Rat):=by simp [ax9]
   rw [e1,<- Eh,C6 hne];exact hx
 have hx0:=ake k P c;have hx1:=aW2 k hP hc;have hcast:(((t + 1) * 2 ^ 80:Nat):Rat)=((t * 2 ^ 80:Nat):Rat) + ((2 ^ 80:Nat):Rat):=by
  rw [Nat.add_mul,Nat.one_mul]
  simp
 refine ⟨W * D,mul_pos hWp h1,?_,fun q hq=>?_⟩
 ·have:W * D < 2 ^ 80 * 2 ^ (80 * t + 1):=by
   calc W * D < 2 ^ 80 * D:=Er hWlt h1
    _ <= 2 ^ 80 * 2 ^ (80 * t + 1):=Kt _ (le_of_lt h2)
  rw [<- pow_add] at this;rw [show 80 * (t + 1) + 1=80 + (80 * t + 1) by omega];exact this
 ·obtain ⟨i,hi,rfl⟩:=Ah.mp hq
  have hi':=A0.mp hi;have hz:(0:Rat) <= (((t + 1) * 2 ^ 80:Nat):Rat):=by exact_mod_cast zero_le _
  split
  ·exact ⟨avf _ 0,Mf,hz⟩
  ·obtain ⟨o,q0,q1⟩:=h3 _ (ax8 hi')
   refine ⟨(o.dvd (Nat.dvd_mul_left D W)).add hoW,?_,?_⟩
   ·grind
   ·rw [hcast]
    grind
theorem aqcf (h:List aqud) (P:List Rat) (o:Int × Rat):(aQ h P o).length=P.length:=by simp [aQ]
theorem aqit:∀ (n:Nat) (p q:Option O) (c:Option O) (a b:Nat),b=n->∃ c',az4 (qV (f2 dNe (aqtq 3) (fC (.int 0)))) avo [p,q,some (.sh (.int (a:Int))),some (.sh (.int (b:Int))),c]=some (.nx [p,q,some (.sh (.int (Ij a b:Int))),some (.sh (.int 0)),c']):=by
 intro n
 induction n using Nat.strongRecOn with
 | ind n ih =>
  intro p q c a b hn
  by_cases hb:b=0
  ·subst hb
   exact ⟨c,by simpa using ajb (by simp)⟩
  ·have hb':(b:Int) ≠ 0:=by omega
   have e:(a:Int).fmod (b:Int)=((a % b:Nat):Int):=by rw [Et _ (by omega)]; rfl
   obtain ⟨c',h⟩:=ih (a % b) (by rw [<- hn]; exact mod_lt _ (by omega)) p q (some (.sh (.int ((a % b:Nat):Int)))) b (a % b) rfl;refine ⟨c',avp (by simp [hb]) ?_ (by rw [h,Nat.gcd_comm a b,Nat.gcd_rec b a,Nat.gcd_comm])⟩;simp [avo,aqbv hb',e]
theorem aqml (a b:Int):aj3 [.int a,.int b]=some (.int (Ds a b)):=by
 obtain ⟨c',h⟩:=aqit _ (some (.sh (.int a))) (some (.sh (.int b))) none a.natAbs b.natAbs rfl;simp [aj3,aqt4,aqt2,ini,aJh,aqqb,h,Ds]
theorem aQg (t b:Int) (hb:0 < b) (ht:Sz 8000 t) (hb':Sz 8000 b):axn [.int t,.int b]=some (.tup [.int (nf1 t b),.int (nf2 t b)]):=by
 have hg:=aZv (t:=t) hb;have hz:(Ds t b:Int) ≠ 0:=by omega
 have hB:(Ds t b:Int).natAbs < BIGD:=aqca (k:=8000) (by rw [Bb]; exact aqpl ht hb') (by decide);have e1:t.fdiv (Ds t b:Int)=nf1 t b:=Iz (Int.gcd_dvd_left t b);have e2:b.fdiv (Ds t b:Int)=nf2 t b:=Iz (Int.gcd_dvd_right t b);have h0:¬ b=0:=by omega
 have h1:¬ b < 0:=by omega
 simp [axn,aqt4,aqt2,ini,aqch,aqml,h0,h1,aqbx hz hB,e1,e2,aqug]
section
variable {p q r s:Int} (hq:0 < q) (hs:0 < s) (zp:Sz 2000 p) (zq:Sz 2000 q) (zr:Sz 2000 r) (zs:Sz 2000 s)
include hq hs zp zq zr zs
theorem aql1:aJ0 [.tup [.int p,.int q],.tup [.int r,.int s]]=some (.tup [.int (nf1 (p * s + r * q) (q * s)),.int (nf2 (p * s + r * q) (q * s))]):=by
 have m1:=aqw (zp.big (by decide)) (zs.big (by decide));have m2:=aqw (zr.big (by decide)) (zq.big (by decide));have m3:=aqw (zq.big (by decide)) (zs.big (by decide));have sh:=aQg (p * s + r * q) (q * s) (Go hq hs) (((zp.mul zs).add (zr.mul zq)).mono (by decide)) ((zq.mul zs).mono (by decide));simp [aJ0,aqt4,aqt2,ini,aqjn,m1,m2,m3,sh]
end
theorem aqjm {p q r s:Int} (hp:Sz 2000 p) (hq:Sz 2000 q) (hr:Sz 2000 r) (hs:Sz 2000 s):avt [.tup [.int p,.int q],.tup [.int r,.int s]]=some (.bl (decide (p * s < r * q))):=by
 simp [avt,aqt4,aqt2,ini,aqcn,aqw (hp.big (by decide)) (hs.big (by decide)),aqw (hr.big (by decide)) (hq.big (by decide))]
section
variable {a b:Rat} (ha:Bd 2000 2000 a) (hb:Bd 2000 2000 b)
include ha hb
theorem aqof:aJ0 [frD a,frD b]=some (frD (a + b)):=by
 have h:=aql1 (den_pos a) (den_pos b) ha.num ha.den hb.num hb.den;have e:=nf_mk (t:=a.num * b.den + b.num * a.den) (b:=a.den * b.den) (mul_ne_zero a.den_nz b.den_nz);rw [Int.natCast_mul] at e;rw [aqnn] at e;rw [<- e]; exact h
theorem aqge:avt [frD a,frD b]=some (.bl (decide (a < b))):=by
 have h:=aqjm ha.num ha.den hb.num hb.den;have e:decide (a < b)=decide (a.num * b.den < b.num * a.den):=by rw [A5]; simp [Rat.lt_iff]
 rw [e]; exact h
end
section
variable {p q r s:Int} (hq:0 < q) (hs:0 < s) (zp:Sz 2000 p) (zq:Sz 2000 q) (zr:Sz 2000 r) (zs:Sz 2000 s)
include hq hs zp zq zr zs
theorem aqi4:aw4 [.tup [.int p,.int q],.tup [.int r,.int s]]=some (.tup [.int (nf1 (p * s - r * q) (q * s)),.int (nf2 (p * s - r * q) (q * s))]):=by
 have m1:=aqw (zp.big (by decide)) (zs.big (by decide));have m2:=aqw (zr.big (by decide)) (zq.big (by decide));have m3:=aqw (zq.big (by decide)) (zs.big (by decide));have sh:=aQg (p * s - r * q) (q * s) (Go hq hs) (((zp.mul zs).sub (zr.mul zq)).mono (by decide)) ((zq.mul zs).mono (by decide));simp [aw4,aqt4,aqt2,ini,aqci,m1,m2,m3,sh]
end
section
variable {a b:Rat} (ha:Bd 2000 2000 a) (hb:Bd 2000 2000 b)
include ha hb
theorem aqlx:aw4 [frD a,frD b]=some (frD (a - b)):=by
 have h:=aqi4 (den_pos a) (den_pos b) ha.num ha.den hb.num hb.den;have e:=nf_mk (t:=a.num * b.den - b.num * a.den) (b:=a.den * b.den) (mul_ne_zero a.den_nz b.den_nz);rw [Int.natCast_mul] at e;rw [aqkh] at e;rw [<- e]; exact h
end
theorem aqgb (l:List Rat) {t:Nat} (hs:azc t l) (ht:t <= 20):az [aqs l]=some (.int (cb l:Nat)):=by
 obtain ⟨ρ',e1,c,c',e2⟩:=aQ3 (inj:=frD) (g:=gTp [(gN 2),(gN 3)]) (b:=aqx) (fun pre ρ=>∃ c c',ρ=[some (.sh (aqs l)),some (.sh (.int (cb pre:Nat))),c,c']) l [some (.sh (aqs l)),some (.sh (.int 1)),none,none] ⟨_,_,rfl⟩ (by
  rintro pre q post ρ e ⟨c,c',rfl⟩;have hq:q∈l:=by rw [e]; simp
  have hb:=(hs.sub (Q:=pre) fun r hr=>by rw [e]; simp [hr]).cb ht;have hd:=(hs.bd ht hq).2;have g1:=aqml (cb pre:Nat) (q.den:Nat);have eg:(Ds ((cb pre:Nat):Int) (q.den:Int))=Ij (cb pre) q.den:=rfl;rw [eg] at g1;have gp:0 < Ij (cb pre) q.den:=Nat.gcd_pos_of_pos_left _ (aqc4 pre);have gl:Ij (cb pre) q.den <= q.den:=Nat.gcd_le_right _ q.den_pos;have d1:aqtw (.int (q.den:Int)) (.int (Ij (cb pre) q.den:Nat))=some (.int ((q.den / Ij (cb pre) q.den:Nat):Int)):=by
   rw [aqbx (by omega) (aqca (k:=1700) (by rw [Bb]; omega) (by decide)),aqbl]
  have m1:aqtu (.int (cb pre:Nat)) (.int ((q.den / Ij (cb pre) q.den:Nat):Int))=some (.int ((cbF (cb pre) q:Nat):Int)):=by
   rw [aqw (aqcb (k:=1700) (by rw [Bb]; exact hb) (by decide)) (aqcb (k:=1700) (by rw [Bb]; exact lt_of_le_of_lt (Jt _ _) hd) (by decide))];simp [cbF]
  rw [aqn8];have hg:gTp [(gN 2),(gN 3)] (frD q) [some (.sh (aqs l)),some (.sh (.int (cb pre:Nat))),c,c']=some [some (.sh (aqs l)),some (.sh (.int (cb pre:Nat))),some (.sh (.int q.num)),some (.sh (.int (q.den:Nat)))]:=rfl;generalize cbF (cb pre) q=z at *;generalize q.den / Ij (cb pre) q.den=y at *;simp only [Goes,hg];simp [aqx,g1,d1,m1])
 simp [az,aqt4,aqt2,ini,ajn,aqu3,aqug,e1,e2]
theorem aqf3 (l:List Rat) {t:Nat} (hs:azc t l) (ht:t <= 20) (b:Nat) (hb:b < 2 ^ 1700) (hl:l.length <= 1000):aqp [.int (b:Int),aqs l]=some (ay (l.map (aqsu b))):=by
 have hc:av0 (aqto [(geN 0),(geN 1)]) qT (oE (f2 aqtu (aqtq 0) (f2 aqtw (aqtq 2) (aqtq 1)))) (l.map frD) [none,none,some (.int (b:Int))]=some (l.map fun q=>O.sh (.int (aqsu b q))):=by
  have:=aB (inj:=frD) (g:=aqto [(geN 0),(geN 1)]) (c:=qT) (e:=oE (f2 aqtu (aqtq 0) (f2 aqtw (aqtq 2) (aqtq 1)))) (fun ρ=>∃ d d',ρ=[d,d',some (.int (b:Int))]) (fun _=>true) (fun q=>O.sh (.int (aqsu b q))) l [none,none,some (.int (b:Int))] ⟨_,_,rfl⟩ (by
   rintro q hq ρ ⟨d,d',rfl⟩;have hd:=(hs.bd ht hq).2;have hn:=(hs.bd ht hq).num;have d1:aqtw (.int (b:Int)) (.int (q.den:Int))=some (.int ((b / q.den:Nat):Int)):=by
    rw [aqbx (by have:=q.den_pos; omega) (aqca (k:=1700) (by rw [Bb]; exact hd) (by decide)),aqbl]
   have m1:aqtu (.int q.num) (.int ((b / q.den:Nat):Int))=some (.int (aqsu b q)):=by
    rw [aqw (hn.big (by decide)) (aqcb (k:=1700) (by rw [Bb]; exact lt_of_le_of_lt (Jt _ _) hb) (by decide))];rfl
   refine ⟨[some (.int q.num),some (.int (q.den:Int)),some (.int (b:Int))],rfl,⟨_,_,rfl⟩,rfl,fun _=>?_⟩;generalize aqsu b q=z at *;generalize b / q.den=y at *;simp [d1,m1])
  rwa [Av.mpr (by simp)] at this
 have hd:oDs (l.map fun q=>O.sh (.int (aqsu b q)))=some ((l.map (aqsu b)).map .int):=by
  have:=azu (f:=fun q:Rat=>O.sh (.int (aqsu b q))) (g:=fun q=>D.int (aqsu b q)) (fun p=>by simp) l
  rw [this,map_map]; rfl
 have hl':l.length <= 100000:=by omega
 simp [aqp,aqt4,aqt2,ini,avn,azv,mkD,hl',aqug,hc,hd,-map_map];rfl
def tAt (T:List Int) (i:Nat):Int:=T.getD i 0
def aqsp (h:List aqud) (T:List Int) (g:List Nat):Int:=(g.map fun i=>wAt h i * tAt T i).sum
theorem aWz (h:List aqud) (k:okW h) (T:List Int) (hT:∀ x∈T,Sz 3600 x) (g:List Nat) (hg:∀ i∈g,i < h.length) (hg2:∀ i∈g,i < T.length) (hl:g.length <= 1000):azy [aF h,ay T,plD g]=some (.int (aqsp h T g)):=by
 have hc:av0 (geN 0) qT (oE (f2 aqtu (f2 dIx (f2 dIx (aqtq 2) (aqtq 0)) (fC (.int 0))) (f2 dIx (aqtq 1) (aqtq 0)))) (g.map fun (i:Nat)=>D.int (i:Int)) [none,some (ay T),some (aF h)]=some (g.map fun i=>O.sh (.int (wAt h i * tAt T i))):=by
  have:=aB (inj:=fun (i:Nat)=>D.int (i:Int)) (g:=geN 0) (c:=qT) (e:=oE (f2 aqtu (f2 dIx (f2 dIx (aqtq 2) (aqtq 0)) (fC (.int 0))) (f2 dIx (aqtq 1) (aqtq 0)))) (fun ρ=>∃ d,ρ=[d,some (ay T),some (aF h)]) (fun _=>true) (fun i=>O.sh (.int (wAt h i * tAt T i))) g [none,some (ay T),some (aF h)] ⟨_,rfl⟩ (by
   rintro i hi ρ ⟨d,rfl⟩;have hx:=aqb7 (hg i hi);have hx2:=aqb6 (hg2 i hi);have hw:wAt h i=(h[i]'(hg i hi)).1:=by unfold wAt; rw [axc (hg i hi)]
   have ht:tAt T i=T[i]'(hg2 i hi):=axc (hg2 i hi);have hz:=hT _ (getElem_mem (hg2 i hi));have w0:=k.at0 i;have w1:=k.atlt i;have m1:aqtu (.int (h[i]'(hg i hi)).1) (.int (T[i]'(hg2 i hi)))=some (.int (wAt h i * tAt T i)):=by
    rw [ht,hw];exact aqw (aqcb (k:=72) (by rw [<- hw]; omega) (by decide)) (hz.big (by decide))
   refine ⟨_,rfl,⟨_,rfl⟩,rfl,fun _=>?_⟩;generalize wAt h i * tAt T i=z at *;simp [hx,hx2,m1])
  rwa [Av.mpr (by simp)] at this
 have hd:oDs (g.map fun i=>O.sh (.int (wAt h i * tAt T i)))=some ((g.map fun i=>wAt h i * tAt T i).map D.int):=by
  have:=azu (f:=fun i:Nat=>O.sh (.int (wAt h i * tAt T i))) (g:=fun i=>D.int (wAt h i * tAt T i)) (fun p=>by simp) g
  rw [this,map_map]; rfl
 have hl':g.length <= 100000:=by omega
 have hlo:aJl (plD g)=some (g.map fun (i:Nat)=>D.int (i:Int)):=by simp [plD]
 generalize hv:(g.map fun i=>wAt h i * tAt T i)=vals at *;simp [azy,aqt4,aqt2,ini,aJe,azv,mkD,hl',aqug,hlo,hc,hd,dSum,av2,aqsp,hv,-map_map]
theorem aqcu (h:List aqud) (P:List Rat) (b:Nat) (hb:∀ q∈P,q.den ∣ b) (g:List Nat) (hg:∀ i∈g,i < P.length):(aqsp h (P.map (aqsu b)) g:Rat)=(aXp g fun i=>(wAt h i:Rat) * pAt P i) * (b:Rat):=by
 unfold aqsp;rw [aqmd,map_map,<- aVp];unfold aXp;congr 1;refine map_congr_left fun i hi=>?_;have h1:=hg i hi;have h2:tAt (P.map (aqsu b)) i=aqsu b P[i]:=by rw [tAt,axc (by simpa using h1)]; simp
 have h3:pAt P i=P[i]:=axc h1;simp only [Ii];rw [h2,h3]
 have:=aqf4 (hb _ (getElem_mem h1))
 have e:((wAt h i * aqsu b P[i]:Int):Rat)=(wAt h i:Rat) * (aqsu b P[i]:Rat):=by simp
 rw [e,this,Eh]
theorem aqk5 (h:List aqud) (k:okW h) (P:List Rat) (hl:P.length=h.length) {t:Nat} (hs:azc t P) (ht:t <= 20) (c:Int) (hc:c∈Ps h):aZk [aF h,aqs P,.int c]=some (frD (aj9 h P c)):=by
 have hh:=k.len;have l1:=av6 h c (by omega);rw [aK8] at l1;have hlen:=awg h [c];have b1:=aqgb P hs ht;have hb:=hs.cb ht;have t1:=aqf3 P hs ht (cb P) hb (by omega);have hTz:∀ x∈P.map (aqsu (cb P)),Sz 3600 x:=fun x hx=>by
  obtain ⟨q,hq,rfl⟩:=Ah.mp hx;exact hs.top ht hq hb
 have w1:=aWz h k (P.map (aqsu (cb P))) hTz (aqu4 h [c]) (aqk h [c]) (fun i hi=>by simp; have:=aqk h [c] i hi; omega) (by omega);have w2:=akc h (by omega);have w3:=akd h (aqu4 h [c]) (aqk h [c]) (by omega);have hN:=aW4 k;have hW:=aqju k (g:=aqu4 h [c]) (by omega);have hW1:=aW3 k (az1 hc) (aqk h [c]);have zN:Sz 77 (aqsq h):=by show _ < _; omega
 have zW:Sz 77 (wG h (aqu4 h [c])):=by show _ < _; omega
 have zb:Sz 1700 ((cb P:Nat):Int):=by show _ < _; rw [Bb]; exact hb
 have m1:=aqw (zN.big (by decide)) (zb.big (by decide));have m2:=aqw (zW.big (by decide)) (zb.big (by decide));have hbp:=aqc4 P;have key:((aqsq h * (cb P:Nat) - aqsp h (P.map (aqsu (cb P))) (aqu4 h [c]):Int):Rat)=((aqsq h:Rat) - aqsz h P c) * ((cb P:Nat):Rat):=by
  have e:=aqcu h P (cb P) (fun q hq=>aqn9 hq) (aqu4 h [c]) (fun i hi=>by have:=aqk h [c] i hi; omega);have e2:((aqsq h * ((cb P:Nat):Int) - aqsp h (P.map (aqsu (cb P))) (aqu4 h [c]):Int):Rat)=(aqsq h:Rat) * ((cb P:Nat):Rat) - (aqsp h (P.map (aqsu (cb P))) (aqu4 h [c]):Rat):=by simp [ax9]
  rw [e2,e];unfold aqsz;grind
 have zs:Sz 3700 (aqsp h (P.map (aqsu (cb P))) (aqu4 h [c])):=by
  have gen:∀ g:List Nat,(∀ i∈g,i < P.length)->(aqsp h (P.map (aqsu (cb P))) g).natAbs <= g.length * 2 ^ 3672:=by
   intro g
   induction g with
   | nil=>intro _; simp [aqsp]
   | cons i g ih =>
    intro hi;have h1:=ih fun j m=>hi j (by simp [m]);have h2:=hi i (by simp);have e:aqsp h (P.map (aqsu (cb P))) (i :: g)=wAt h i * tAt (P.map (aqsu (cb P))) i + aqsp h (P.map (aqsu (cb P))) g:=by simp [aqsp]
    have h3:Sz 3600 (tAt (P.map (aqsu (cb P))) i):=by rw [tAt,axc (by simpa using h2)]; exact hTz _ (getElem_mem _)
    have w0:=k.at0 i;have wl:=k.atlt i;have h4:Sz 72 (wAt h i):=by show _ < _; omega
    have h5:(wAt h i * tAt (P.map (aqsu (cb P))) i).natAbs < 2 ^ (72 + 3600):=h4.mul h3;rw [e,length_cons,Nat.add_mul,Nat.one_mul];have h6:=Int.natAbs_add_le (wAt h i * tAt (P.map (aqsu (cb P))) i) (aqsp h (P.map (aqsu (cb P))) g);omega
  have g1:=gen (aqu4 h [c]) fun i hi=>by have:=aqk h [c] i hi; omega
  have g2:(aqu4 h [c]).length * 2 ^ 3672 <= 16 * 2 ^ 3672:=Ex _ (by omega);have g3:16 * 2 ^ 3672 < 2 ^ 3700:=by
   have:16 * 2 ^ 3672=2 ^ 3676:=by rw [show 3676=4 + 3672 by decide,pow_add]
   rw [this];exact Nat.pow_lt_pow_right (by decide) (by decide)
  exact lt_of_le_of_lt (le_trans g1 g2) g3
 have zm:Sz 3701 (aqsq h * (cb P:Nat) - aqsp h (P.map (aqsu (cb P))) (aqu4 h [c])):=((zN.mul zb).mono (by decide)).sub zs;generalize hmiss:aqsq h * ((cb P:Nat):Int) - aqsp h (P.map (aqsu (cb P))) (aqu4 h [c])=miss at *;have hf:=aQq (aqu4 h [c]);have hbr:(0:Rat) < ((cb P:Nat):Rat):=by exact_mod_cast hbp
 by_cases cm:miss <= 0
 ·have hle:(aqsq h:Rat) - aqsz h P c <= 0:=by
   false_or_by_contra;rename_i hgt
   have:(0:Rat) < (aqsq h:Rat) - aqsz h P c:=by grind
   have h2:=Rat.mul_pos this hbr;rw [<- key] at h2
   have:(miss:Rat) <= 0:=by exact_mod_cast cm
   grind
  have e0:aj9 h P c=0:=by unfold aj9; rw [if_pos hle]
  rw [e0];simp [aZk,aqt4,aqt2,ini,aqeu,l1,b1,w2,hf,t1,w1,m1,hmiss,cm,aqug];rfl
 ·have hgt:¬ (aqsq h:Rat) - aqsz h P c <= 0:=fun hle=>by
   have:(0:Rat) < (miss:Rat):=by
    have:0 < miss:=by omega
    exact_mod_cast this
   rw [key] at this;have h2:((aqsq h:Rat) - aqsz h P c) * ((cb P:Nat):Rat) <= 0 * ((cb P:Nat):Rat):=Cl hle (Fu hbr);grind
  have sh:=aQg miss (wG h (aqu4 h [c]) * (cb P:Nat)) (Go (by omega) (by omega)) (zm.mono (by decide)) ((zW.mul zb).mono (by decide));obtain ⟨W,hWn⟩:∃ W:Nat,wG h (aqu4 h [c])=(W:Int):=⟨(wG h (aqu4 h [c])).toNat,by omega⟩;have hne:W * cb P ≠ 0:=mul_ne_zero (by omega) (by omega);have e1:wG h (aqu4 h [c]) * ((cb P:Nat):Int)=((W * cb P:Nat):Int):=by rw [hWn]; simp
  have e2:=nf_mk (t:=miss) hne;rw [<- e1] at e2;rw [e2] at sh;have e3:mkRat miss (W * cb P)=aj9 h P c:=by
   unfold aj9;rw [if_neg hgt,hWn];have hWr:((W:Int):Rat) ≠ 0:=by
    have:(0:Rat) < ((W:Int):Rat):=by
     have:0 < (W:Int):=by omega
     exact_mod_cast this
    grind
   have hbr':((cb P:Nat):Rat) ≠ 0:=by grind
   have e4:mkRat miss (W * cb P)=(miss:Rat) / (((W * cb P:Nat):Rat)):=by
    rw [<- Rat.divInt_ofNat,Rat.divInt_eq_div]; rfl
   have e5:((W * cb P:Nat):Rat)=((W:Int):Rat) * ((cb P:Nat):Rat):=by simp [ax9]
   rw [e4,e5,key];generalize (aqsq h:Rat) - aqsz h P c=X at *;generalize ((cb P:Nat):Rat)=B at *;generalize ((W:Int):Rat)=V at *;have hVB:V * B ≠ 0:=by
    intro hz;rcases Rat.mul_eq_zero.mp hz with hz | hz
    ·exact hWr hz
    ·exact hbr' hz
   have q1:X * B / (V * B) * (V * B)=X * B:=C6 hVB;have q2:X / V * V=X:=C6 hWr;generalize X * B / (V * B)=Y at *;generalize X / V=Z at *;grind
  rw [e3] at sh;simp [aZk,aqt4,aqt2,ini,aqeu,l1,b1,w2,hf,t1,w1,m1,hmiss,cm,w3,m2,sh,aqug]
def aqtd (o:Int × Rat):D:=.tup [.int o.1,frD o.2]
@[simp] theorem aqqx (o:Int × Rat):imm (aqtd o)=true:=by simp [aqtd]
def aqtb:Option (Int × Rat)->D
 | none=>.non
 | some o=>aqtd o
theorem aKk (o:Option (Int × Rat)):imm (aqtb o)=true:=by cases o <;> simp [aqtb]
def aV9 (l:List (Int × Rat)):D:=.lst (l.map aqtd)
theorem off0 (o:Int × Rat):dIx (aqtd o) (.int 0)=some (.int o.1):=aqbw
theorem off1 (o:Int × Rat):dIx (aqtd o) (.int 1)=some (frD o.2):=aqjd
theorem aqb0 (l:List (Int × Rat)) (hb:∀ o∈l,Bd 2000 2000 o.2):axp [aV9 l]=some (aqtb (aO l)):=by
 have hmem:∀ pre:List (Int × Rat),(∀ o∈pre,Bd 2000 2000 o.2)->∀ o,aO pre=some o->Bd 2000 2000 o.2:=fun pre hp o ho=>hp o (ajt ho);obtain ⟨ρ',e1,c,e2⟩:=aQ3 (inj:=aqtd) (g:=gN 2) (b:=az3) (fun pre ρ=>∃ c,ρ=[some (.sh (aV9 l)),some (.sh (aqtb (aO pre))),c]) l [some (.sh (aV9 l)),some (.sh .non),none] ⟨_,rfl⟩ (by
  rintro pre o post ρ e ⟨c,rfl⟩;have ho:=hb o (by rw [e]; simp);have es:aO (pre++[o])=aK (aO pre) o:=by simp [aO]
  rw [es];have hp:=hmem pre fun r hr=>hb r (by rw [e]; simp [hr]);cases hl:aO pre with
  | none =>
   have i0:dIs .non .non=some (.bl true):=rfl;simp [Goes,az3,aqtb,i0,aK]
  | some a =>
   have ba:=hp a hl;have i0:dIs (aqtd a) .non=some (.bl false):=rfl;have bl:=aqge ho ba
   by_cases hlt:o.2 < a.2
   ·rw [decide_eq_true hlt] at bl
    simp [Goes,az3,aqtb,i0,aK,off1,bl,hlt]
   ·rw [decide_eq_false hlt] at bl
    simp [Goes,az3,aqtb,i0,aK,off1,bl,hlt])
 have hlo:aJl (aV9 l)=some (l.map aqtd):=rfl;simp [axp,aqt4,aqt2,ini,aqck,aqu3,aqug,hlo,e1,e2]
theorem aqez {h:List aqud} (k:okW h) {P:List Rat} (hl:P.length=h.length) {t:Nat} (hs:azc t P) (ht:t <= 19) {c:Int} (hc:c∈Ps h):Bd 2000 2000 (aj9 h P c):=by
 obtain ⟨D,h1,h2,h3⟩:=hs;have hP:∀ q∈P,(0:Rat) <= q:=fun q m=>(h3 q m).2.1;have hW1:=aW3 k (az1 hc) (aqk h [c]);have hW2:=(aqju k (g:=aqu4 h [c]) (le_trans (awg h [c]) k.len)).2;obtain ⟨W,hW⟩:∃ W:Nat,wG h (aqu4 h [c])=(W:Int):=⟨(wG h (aqu4 h [c])).toNat,by omega⟩;rw [hW] at hW1 hW2;have hWlt:W < 2 ^ 80:=by
  have:(W:Int) < ((2 ^ 80:Nat):Int):=Li hW2 (by decide)
  exact_mod_cast this
 have hWp:0 < W:=by omega
 have hoS:aque D (aqsz h P c):=aZc _ _ fun i hi=>by
  have:=aqk h [c] i hi
  have o:=(h3 _ (ax8 (P:=P) (i:=i) (by omega))).1;rw [Jk];exact o.mulInt _
 have hoW:aque (W * D) (aj9 h P c):=by
  unfold aj9;split
  ·exact avf _ 0
  ·have o2:aque D ((aqsq h:Rat) - aqsz h P c):=(avf D _).sub hoS
   obtain ⟨x,hx⟩:=o2;refine ⟨x,?_⟩;rw [hW];have hne:((W:Int):Rat) ≠ 0:=by
    have:(0:Rat) < ((W:Int):Rat):=by exact_mod_cast hW1
    grind
   have e1:((W * D:Nat):Rat)=((W:Int):Rat) * (D:Rat):=by simp [ax9]
   rw [e1,<- Eh,C6 hne];exact hx
 have hx0:=ake k P c;have hx1:=aW2 k hP hc;have hlt:W * D < 2 ^ (80 + (80 * t + 1)):=by
  rw [pow_add]
  calc W * D < 2 ^ 80 * D:=Er hWlt h1
   _ <= 2 ^ 80 * 2 ^ (80 * t + 1):=Kt _ (le_of_lt h2)
 have hz:(0:Rat) <= ((2 ^ 80:Nat):Rat):=by exact_mod_cast zero_le _
 exact (hoW.bd (m:=80) (mul_pos hWp h1) hlt (by grind) hx1).mono (by omega) (by omega)
theorem aqgj (h:List aqud) (kh:okH h) (k:okW h) (P:List Rat) (hl:P.length=h.length) {t:Nat} (hs:azc t P) (ht:t <= 19) (ch:List Int) (seats:Int):avr [aF h,aqs P,ay ch,.int seats]=some (aV9 (ajd h P ch seats)):=by
 have hh:=k.len
 by_cases c1:seats <= (ch.length:Int)
 ·simp [avr,aqt4,aqt2,ini,aK5,c1,aqug,ajd,aV9]
 ·have lk:=aqfz h kh (by omega)
  have hz:oD (ow ((Ps h).map D.int))=some (ay (Ps h)):=by simp [ay]
  have hc:av0 (geN 0) (qV (f2 aXc (aqtq 0) (aqtq 3))) (oE (aqtr (ak (aqtq 0) (ak (aq1 3 aZk (ak (aqtq 1) (ak (aqtq 2) (ak (aqtq 0) aqu6)))) aqu6)))) ((Ps h).map D.int) [none,some (aF h),some (aqs P),some (ay ch)]=some (((Ps h).filter fun c=>!has ch c).map fun c=>O.sh (aqtd (c,aj9 h P c))) :=
   aB (inj:=D.int) (fun ρ=>∃ d,ρ=[d,some (aF h),some (aqs P),some (ay ch)]) (fun c=>!has ch c) (fun c=>O.sh (aqtd (c,aj9 h P c))) (Ps h) _ ⟨_,rfl⟩ (by
    rintro c hc ρ ⟨d,rfl⟩;have w:=aqk5 h k P hl hs (by omega) c hc;exact ⟨_,rfl,⟨_,rfl⟩,by simp,fun _=>by simp [w,aqug,aqtd]⟩)
  have hd:oDs (((Ps h).filter fun c=>!has ch c).map fun c=>O.sh (aqtd (c,aj9 h P c)))=some ((((Ps h).filter fun c=>!has ch c).map fun c=>(c,aj9 h P c)).map aqtd):=by
   have:=azu (f:=fun c:Int=>O.sh (aqtd (c,aj9 h P c))) (g:=fun c=>aqtd (c,aj9 h P c)) (fun p=>by simp) ((Ps h).filter fun c=>!has ch c)
   rw [this,map_map]; rfl
  have hll:(Ps h).length <= 100000:=by have:=axr h; omega
  have e:ajd h P ch seats=((Ps h).filter fun c=>!has ch c).map fun c=>(c,aj9 h P c):=by unfold ajd; rw [if_neg c1]
  rw [e];simp [avr,aqt4,aqt2,ini,aK5,c1,aqug,lk,hz,azv,mkD,hll,hc,hd,aV9,-map_map]
theorem aVl {h:List aqud} {P:List Rat} {ch:List Int} {seats:Int} {o:Int × Rat} (ho:o∈ajd h P ch seats):o.1∈Ps h/\o.1 ∉ ch/\o.2=aj9 h P o.1/\(ch.length:Int) < seats:=by
 unfold ajd at ho;split at ho
 ·simp at ho
 ·obtain ⟨c,hc,rfl⟩:=Ah.mp ho
  obtain ⟨h1,h2⟩:=Ay.mp hc;refine ⟨h1,fun hm=>?_,rfl,by omega⟩;rw [avw.mpr hm] at h2;simp at h2
theorem aqet (h:List aqud) (k:okW h) (P:List Rat) (hl:P.length=h.length) {t:Nat} (hs:azc t P) (ht:t <= 19) (c:Int) (hc:c∈Ps h):aX [aF h,aqs P,aqtd (c,aj9 h P c)]=some (aqs (aQ h P (c,aj9 h P c))):=by
 have hh:=k.len;have l1:=av6 h c (by omega);rw [aK8] at l1;have hf:=aQq (aqu4 h [c]);have en:aqbn (P.map frD)=(Ar P.length).map fun (i:Nat)=>D.tup [.int (i:Int),frD (pAt P i)]:=by
  rw [aKp];apply ext_getElem
  ·simp
  ·intro i h1 h2
   simp at h1;simp [pAt,h1]
 have hwb:=aqez k hl hs ht hc;have hc2:av0 (aqto [(geN 0),(geN 1)]) qT (oE (fIf (qV (f2 dIn (aqtq 0) (aqtq 2))) (aqtr (ak (fC (.int 0)) (ak (fC (.int 1)) aqu6))) (aq1 2 aJ0 (ak (aqtq 1) (ak (f2 dIx (aqtq 3) (fC (.int 1))) aqu6))))) (aqbn (P.map frD)) [none,none,some (plD (aqu4 h [c])),some (aqtd (c,aj9 h P c))]=some ((Ar P.length).map fun i=>O.sh (frD (if aqtm (aqu4 h [c]) i=true then 0 else pAt P i + aj9 h P c))):=by
  rw [en]
  have:=aB (inj:=fun i:Nat=>D.tup [.int (i:Int),frD (pAt P i)]) (g:=aqto [(geN 0),(geN 1)]) (c:=qT) (e:=(oE (fIf (qV (f2 dIn (aqtq 0) (aqtq 2))) (aqtr (ak (fC (.int 0)) (ak (fC (.int 1)) aqu6))) (aq1 2 aJ0 (ak (aqtq 1) (ak (f2 dIx (aqtq 3) (fC (.int 1))) aqu6)))))) (fun ρ=>∃ d d',ρ=[d,d',some (plD (aqu4 h [c])),some (aqtd (c,aj9 h P c))]) (fun _=>true) (fun i=>O.sh (frD (if aqtm (aqu4 h [c]) i=true then 0 else pAt P i + aj9 h P c))) (Ar P.length) [none,none,some (plD (aqu4 h [c])),some (aqtd (c,aj9 h P c))] ⟨_,_,rfl⟩ (by
   rintro i hi ρ ⟨d,d',rfl⟩;have hi':=A0.mp hi;have hpb:=(hs.bd (by omega) (ax8 hi')).mono (show 1800 <= 2000 by decide) (show 1700 <= 2000 by decide);have pl:=aqof hpb hwb;refine ⟨[some (.int (i:Int)),some (frD (pAt P i)),some (plD (aqu4 h [c])),some (aqtd (c,aj9 h P c))],rfl,⟨_,_,rfl⟩,rfl,fun _=>?_⟩;cases hi2:aqtm (aqu4 h [c]) i with
   | true =>
    simp [plD,aqmi,hi2,aqug];rfl
   | false=>simp [plD,aqmi,hi2,off1,pl])
  rwa [Av.mpr (by simp)] at this
 have hd:oDs ((Ar P.length).map fun i=>O.sh (frD (if aqtm (aqu4 h [c]) i=true then 0 else pAt P i + aj9 h P c)))=some ((aQ h P (c,aj9 h P c)).map frD):=by
  have:=azu (f:=fun i:Nat=>O.sh (frD (if aqtm (aqu4 h [c]) i=true then 0 else pAt P i + aj9 h P c))) (g:=fun i=>frD (if aqtm (aqu4 h [c]) i=true then 0 else pAt P i + aj9 h P c)) (fun p=>by simp) (Ar P.length)
  rw [this,aQ,map_map]; rfl
 have hll:P.length <= 100000:=by omega
 generalize aj9 h P c=x at *;simp [aX,aqt4,aqt2,ini,ajm,off0,l1,hf,aqug,aqak,mkD,hll,hc2,hd];rfl
def aqt5 (r:Int × Rat × List Rat):D:=.tup [.int r.1,frD r.2.1,aqs r.2.2]
def axe (l:List (Int × Rat × List Rat)):D:=.lst (l.map aqt5)
theorem aqfq (o:Option (Int × Rat)):aqtv (aqtb o) .non=some (.bl o.isSome):=by cases o <;> rfl
theorem aqaj (h:List aqud) (kh:okH h) (k:okW h) (P:List Rat) (hl:P.length=h.length) {t:Nat} (hs:azc t P) (ht:t <= 19) (ch:List Int) (seats:Int):avr [aF h,aqs P,ay ch,.int seats]=some (aV9 (ajd h P ch seats))/\axp [aV9 (ajd h P ch seats)]=some (aqtb (aO (ajd h P ch seats))) :=
 ⟨aqgj h kh k P hl hs ht ch seats,aqb0 _ fun o ho=>by
  obtain ⟨w1,_,w2,_⟩:=aVl ho;rw [w2];exact aqez k hl hs ht w1⟩
theorem aJ7 (h:List aqud) (kh:okH h) (k:okW h) (c2:Option O) (seats:Int) (h6:seats <= 6):∀ (n:Nat) (P:List Rat) (ch:List Int) (rows:List (Int × Rat × List Rat)) (t:Nat),P.length=h.length->azc t P->t + n <= 19->seats <= (ch.length:Int) + n->ch.length <= 100->rows.length + n <= 100 ->
  ∃ ρ',az4 (qV (f2 aqtv (aqtq 6) (fC .non))) aJg [some (.sh (aF h)),some (.sh (aqs P)),c2,some (.sh (.int seats)),some (ow (ch.map .int)),some (ow (rows.map aqt5)),some (.sh (aqtb (aO (ajd h P ch seats))))]=some (.nx ρ')/\∃ a1 a4 a6,ρ'=[some (.sh (aF h)),a1,c2,some (.sh (.int seats)),a4,some (ow ((rows++aKl h seats n P ch).map aqt5)),a6]
 | 0,P,ch,rows,t,hl,hs,ht,hn,hch,hr=>by
  have e0:ajd h P ch seats=[]:=by unfold ajd; rw [if_pos (by omega)]
  rw [e0];refine ⟨_,ajb (by simp [aO,aqtb]; rfl),some (.sh (aqs P)),some (ow (ch.map .int)),some (.sh (aqtb (aO []))),?_⟩;simp only [aKl,append_nil]
 | n + 1,P,ch,rows,t,hl,hs,ht,hn,hch,hr=>by
  cases ho:aO (ajd h P ch seats) with
  | none =>
   refine ⟨_,ajb (by simp [aqtb]; rfl),some (.sh (aqs P)),some (ow (ch.map .int)),some (.sh (aqtb none)),?_⟩;simp only [aKl,ho,append_nil]
  | some o =>
   obtain ⟨w1,w2,w3,w4⟩:=aVl (ajt ho);have eo:o=(o.1,aj9 h P o.1):=by rw [<- w3]
   have bh:=aqet h k P hl hs (by omega) o.1 w1;rw [<- eo] at bh;have hs':=aVa k hs hl w1;rw [<- eo] at hs';have hl':(aQ h P o).length=h.length:=by rw [aqcf]; exact hl
   have w5:(ch.length:Int) < 6:=by omega
   obtain ⟨f1,f2'⟩:=aqaj h kh k (aQ h P o) hl' hs' (by omega) (ch++[o.1]) seats;obtain ⟨ρ',e1,e2⟩:=aJ7 h kh k c2 seats h6 n (aQ h P o) (ch++[o.1]) (rows++[(o.1,o.2,aQ h P o)]) (t + 1) hl' hs' (by omega) (by simp; omega) (by simp; omega) (by simp; omega);refine ⟨ρ',avp (ρ2:=[some (.sh (aF h)),some (.sh (aqs (aQ h P o))),c2,some (.sh (.int seats)),some (ow ((ch++[o.1]).map .int)),some (ow ((rows++[(o.1,o.2,aQ h P o)]).map aqt5)),some (.sh (aqtb (aO (ajd h (aQ h P o) (ch++[o.1]) seats))))]) ?_ ?_ e1,?_⟩
   ·have:=aqfq (some o)
    simp [this]
   ·have g1:gApp (.sh (aqt5 (o.1,o.2,aQ h P o))) (ow (rows.map aqt5))=some (ow (rows.map aqt5++[aqt5 (o.1,o.2,aQ h P o)])):=aqbi (by simp [aqug]; omega)
    have g2:gApp (.sh (.int o.1)) (ow (ch.map .int))=some (ow (ch.map .int++[.int o.1])):=aqbi (by simp [aqug]; omega);have er:D.tup [.int o.1,frD o.2,aqs (aQ h P o)]=aqt5 (o.1,o.2,aQ h P o):=rfl;have ir:imm (aqt5 (o.1,o.2,aQ h P o))=false:=by simp [aqt5]
    have ec:D.lst ((ch++[o.1]).map .int)=ay (ch++[o.1]):=rfl;have ec':D.lst (ch.map D.int++[D.int o.1])=ay (ch++[o.1]):=by simp [ay]
    have io:=aKk (aO (ajd h (aQ h P o) (ch++[o.1]) seats));have oe:aqtb (some o)=aqtd o:=rfl;generalize aQ h P o=Q at *;generalize ajd h Q (ch++[o.1]) seats=ws at *;simp [aJg,oe,bh,off0,off1,aqug,er,ir,g1,g2,ec',f1,f2',io]
   ·obtain ⟨a1,a4,a6,e3⟩:=e2
    refine ⟨a1,a4,a6,?_⟩;rw [e3];simp only [aKl,ho,If,J1]
theorem aqir (h:List aqud) (kh:okH h) (k:okW h) (P:List Rat) (hl:P.length=h.length) {t:Nat} (hs:azc t P) (ht:t <= 12) (mem:List Int) (hm:mem.length <= 6) (seats:Int) (h6:seats <= 6):aJ1 [aF h,aqs P,ay mem,.int seats]=some (axe (aKl h seats 6 P mem)):=by
 obtain ⟨f1,f2'⟩:=aqaj h kh k P hl hs (by omega) mem seats;obtain ⟨ρ',e1,a1,a4,a6,e2⟩:=aJ7 h kh k (some (.sh (ay mem))) seats h6 6 P mem [] t hl hs (by omega) (by omega) (by omega) (by simp);have ec:D.lst (mem.map .int)=ay mem:=rfl;have io:=aKk (aO (ajd h P mem seats));have er:∀ l:List (Int × Rat × List Rat),D.lst (l.map aqt5)=axe l:=fun _=>rfl;have ir:∀ l:List (Int × Rat × List Rat),imm (axe l)=false:=fun _=>by simp [axe]
 simp only [map_nil,Ju] at e1 e2;generalize ajd h P mem seats=ws at *;simp [aJ1,aqt4,aqt2,ini,aqcl,aqug,ec,f1,f2',io,e1,e2,er]
def lkB (h:List aqud) (i:Nat) (c:Int):Bool:=atB (fun p:aqud=>axq p.2 [c]) h[i]?
theorem aqnk (h:List aqud) (c:Int):aqu4 h [c]=(Ar h.length).filter fun i=>lkB h i c:=rfl
theorem aqmj {h:List aqud} {c:Int} {i:Nat} (hi:i < h.length):aqtm (aqu4 h [c]) i=lkB h i c:=by
 rw [A5,akz,aqnk,Ay];simp [hi]
theorem aZn {l:List (Int × Rat)} {o:Int × Rat} (h:aO l=some o):∀ q∈l,o.2 <= q.2:=by
 have key:∀ (l:List (Int × Rat)) (f:Option (Int × Rat)) (o:Int × Rat),l.foldl aK f=some o->(∀ q∈l,o.2 <= q.2)/\∀ a,f=some a->o.2 <= a.2:=by
  intro l
  induction l with
  | nil=>intro f o h; exact ⟨by simp,fun a e=>by rw [List.foldl_nil] at h; rw [h] at e; cases e; exact Mf⟩
  | cons b l ih =>
   intro f o h;obtain ⟨h1,h2⟩:=ih _ _ h;cases f with
   | none =>
    have:=h2 b rfl
    exact ⟨fun q hq=>by
     rcases Al.mp hq with rfl | hq
     ·exact this
     ·exact h1 q hq,fun a e=>by cases e⟩
   | some a =>
    simp only [aK] at h2;split at h2
    ·rename_i hlt
     have:=h2 b rfl
     exact ⟨fun q hq=>by
      rcases Al.mp hq with rfl | hq
      ·exact this
      ·exact h1 q hq,fun a' e=>by cases e; grind⟩
    ·rename_i hlt
     have:=h2 a rfl
     exact ⟨fun q hq=>by
      rcases Al.mp hq with rfl | hq
      ·grind
      ·exact h1 q hq,fun a' e=>by cases e; exact this⟩
 exact (key l none o h).1
theorem aWl {l:List (Int × Rat)} (h:aO l=none):l=[]:=by
 cases l with
 | nil=>rfl
 | cons a l =>
  exfalso;have key:∀ (l:List (Int × Rat)) (b:Int × Rat),l.foldl aK (some b) ≠ none:=by
   intro l
   induction l with
   | nil=>intro b; simp
   | cons c l ih =>
    intro b;rw [List.foldl_cons];simp only [aK];split
    ·exact ih c
    ·exact ih b
  exact key l a h
def optQ:Option Rat->D
 | none=>.non
 | some q=>frD q
def aqt9 (h:List aqud) (P:List Rat) (c:Int):List Rat:=(aqu4 h [c]).map (pAt P)
def plI (h:List aqud) (c:Int):List Int:=(aqu4 h [c]).map fun (i:Nat)=>(i:Int)
def aqty (h:List aqud) (P:List Rat) (c:Int):Nat:=cb (aqt9 h P c)
def psR (h:List aqud) (P:List Rat) (c:Int):List (Int × Int):=aki (((aqt9 h P c).map (aqsu (aqty h P c))).zip (plI h c))
def wOf (h:List aqud) (q:Int × Int):Int × Int:=(q.1,wAt h q.2.toNat)
def rateQ (h:List aqud) (P:List Rat) (c N:Int):Option (Int × Int):=aqh6 ((psR h P c).map (wOf h)) (N * (aqty h P c:Nat)) (wG h (aqu4 h [c]))
def avq (h:List aqud) (P:List Rat) (c N:Int):Option Rat:=(rateQ h P c N).map fun r=>mkRat r.1 (r.2.toNat * aqty h P c)
theorem aVy (h:List aqud) (k:okW h) (x1 x2 x3 x4 x6:Option O) (b:Nat) (hb0:0 < b) (hb:b < 2 ^ 1700) (R0:Int) (hR:R0 < 2 ^ 3700):∀ (ps:List (Int × Int)) (aqt6 W:Int) (x9 x10:Option O),
  (∀ q∈ps,0 <= q.1/\Sz 3600 q.1/\∃ i:Nat,i < h.length/\q.2=(i:Int))->W=aqsy (ps.map (wOf h))->W <= 2 ^ 76->0 < aqt6->aqt6 <= R0 ->
  match aqh6 (ps.map (wOf h)) aqt6 W with
  | none=>∃ ρ',aqtp (gTp [(gN 9),(gN 10)]) azl (ps.map pairD) [some (.sh (aF h)),x1,x2,x3,x4,some (.sh (.int (b:Int))),x6,some (.sh (.int aqt6)),some (.sh (.int W)),x9,x10]=some (.nx ρ')
  | some r=>∃ ρ',aqtp (gTp [(gN 9),(gN 10)]) azl (ps.map pairD) [some (.sh (aF h)),x1,x2,x3,x4,some (.sh (.int (b:Int))),x6,some (.sh (.int aqt6)),some (.sh (.int W)),x9,x10]=some (.rt (.sh (frD (mkRat r.1 (r.2.toNat * b)))) ρ')
 | [],aqt6,W,x9,x10,_,_,_,_,_=>⟨_,rfl⟩
 | q :: ps,aqt6,W,x9,x10,hq,hW,hW76,hp,hrest=>by
  obtain ⟨q0,qs,i,hi,qi⟩:=hq q (by simp);have hl:∀ q∈ps,0 <= q.1/\Sz 3600 q.1/\∃ i:Nat,i < h.length/\q.2=(i:Int):=fun q hm=>hq q (by simp [hm]);have wq:wOf h q=(q.1,wAt h i):=by simp [wOf,qi]
  have w1:=k.at1 hi;have w2:=k.atlt i;have hn:0 <= aqsy (ps.map (wOf h)):=az7 fun r hr=>by
   obtain ⟨p,hp,rfl⟩:=Ah.mp hr;obtain ⟨_,_,j,hj,pj⟩:=hl p hp
   have:=k.at1 hj
   simp only [wOf,pj,A9]; exact this
  have hW':W - wAt h i=aqsy (ps.map (wOf h)):=by
   rw [hW]; simp only [map_cons,aqsy,sum_cons,wq]; omega
  have zW:Sz 80 W:=by show W.natAbs < 2 ^ 80; omega
  have zb:Sz 1700 (b:Int):=by show (b:Int).natAbs < 2 ^ 1700; rw [Bb]; exact hb
  have zw:Sz 80 (wAt h i):=by show (wAt h i).natAbs < 2 ^ 80; omega
  have m1:=aqw (zW.big (by decide)) (qs.big (by decide));have m2:=aqw (zW.big (by decide)) (zb.big (by decide));have m3:=aqw (zw.big (by decide)) (qs.big (by decide));have hx:dIx (aF h) (.int q.2)=some (ax3 h[i]):=by rw [qi]; exact aqb7 hi
  have hp0:dIx (ax3 h[i]) (.int 0)=some (.int (wAt h i)):=by rw [aqem]; unfold wAt; rw [axc hi]
  have hg:∀ y9 y10:Option O,gTp [(gN 9),(gN 10)] (pairD q) [some (.sh (aF h)),x1,x2,x3,x4,some (.sh (.int (b:Int))),x6,some (.sh (.int aqt6)),some (.sh (.int W)),y9,y10]=some [some (.sh (aF h)),x1,x2,x3,x4,some (.sh (.int (b:Int))),x6,some (.sh (.int aqt6)),some (.sh (.int W)),some (.sh (.int q.1)),some (.sh (.int q.2))]:=fun _ _=>rfl;rw [map_cons,map_cons];unfold aqh6;rw [wq];dsimp only
  by_cases hr:aqt6 <= W * q.1
  ·rw [if_pos hr]
   have Wp:0 < W:=by omega
   obtain ⟨V,hV⟩:∃ V:Nat,W=(V:Int):=⟨W.toNat,by omega⟩;have hs:=aQg aqt6 (W * b) (Go Wp (by omega)) (show _ < 2 ^ 8000 from lt_of_lt_of_le (show aqt6.natAbs < 2 ^ 3700 by omega) (pow_le_pow_right (by decide) (by decide))) ((zW.mul zb).mono (by decide));have ec:W * (b:Int)=((W.toNat * b:Nat):Int):=by rw [hV]; simp
   rw [ec,nf_mk (mul_ne_zero (by omega) (by omega)),<- ec] at hs;have hb1:∃ ρ',azl [some (.sh (aF h)),x1,x2,x3,x4,some (.sh (.int (b:Int))),x6,some (.sh (.int aqt6)),some (.sh (.int W)),some (.sh (.int q.1)),some (.sh (.int q.2))]=some (.rt (.sh (frD (mkRat aqt6 (W.toNat * b)))) ρ'):=by
    generalize frD (mkRat aqt6 (W.toNat * b))=R at hs;generalize W * q.1=Z at *;generalize W * (b:Int)=Y at *;simp [azl,m1,m2,hr,hs]
   obtain ⟨ρ',e⟩:=hb1;exact ⟨ρ',aqiw (hg x9 x10) e⟩
  ·rw [if_neg hr]
   have hlt:=aY2 (w:=wAt h i) hr;have hge:0 <= (W - wAt h i) * q.1:=Fs (by omega) q0;have hwt:0 <= wAt h i * q.1:=Fs (by omega) q0;have hb1:azl [some (.sh (aF h)),x1,x2,x3,x4,some (.sh (.int (b:Int))),x6,some (.sh (.int aqt6)),some (.sh (.int W)),some (.sh (.int q.1)),some (.sh (.int q.2))]=some (.nx [some (.sh (aF h)),x1,x2,x3,x4,some (.sh (.int (b:Int))),x6,some (.sh (.int (aqt6 - wAt h i * q.1))),some (.sh (.int (W - wAt h i))),some (.sh (.int q.1)),some (.sh (.int q.2))]):=by
    generalize W * q.1=Z at *;generalize wAt h i * q.1=Y at *;simp [azl,m1,m3,hr,hx,hp0]
   have ih:=aVy h k x1 x2 x3 x4 x6 b hb0 hb R0 hR ps (aqt6 - wAt h i * q.1) (W - wAt h i) (some (.sh (.int q.1))) (some (.sh (.int q.2))) hl hW' (by omega) (by omega) (by omega);rw [aqg6 (hg x9 x10) (.inl hb1)];exact ih
theorem aY7 {h:List aqud} {P:List Rat} (hl:P.length=h.length) {c:Int} {q:Rat} (hq:q∈aqt9 h P c):q∈P:=by
 obtain ⟨i,hi,rfl⟩:=Ah.mp hq;exact ax8 (by have:=aqk h [c] i hi; omega)
theorem awt {b:Nat} {q:Rat} (h:0 <= q):0 <= aqsu b q:=by
 unfold aqsu;have h1:0 <= q.num:=Rat.num_nonneg.mpr h;exact Fs h1 (Int.natCast_nonneg _)
theorem aKc (h:List aqud) (c:Int):(plI h c).Nodup:=by
 unfold plI;have hn:(aqu4 h [c]).Nodup:=List.Nodup.sublist filter_sublist Iu;exact List.pairwise_map.mpr (hn.imp fun {a b} hab e=>hab (by omega))
theorem aQc:∀ {xs ys:List Int},ys.Nodup->(xs.zip ys).Nodup
 | [],_,_=>by simp
 | _ :: _,[],_=>by simp
 | x :: xs,y :: ys,h=>by
  rw [nodup_cons] at h;rw [Hn,nodup_cons];refine ⟨fun m=>h.1 (of_mem_zip m).2,aQc h.2⟩
theorem aqky {h:List aqud} {P:List Rat} {c:Int} {q:Int × Int} (hq:q∈psR h P c):∃ i∈aqu4 h [c],q=(aqsu (aqty h P c) (pAt P i),(i:Int)):=by
 have hm:=(ajs _).mem_iff.mp hq;have e:((aqt9 h P c).map (aqsu (aqty h P c))).zip (plI h c)=(aqu4 h [c]).map fun i=>(aqsu (aqty h P c) (pAt P i),((i:Nat):Int)):=by
  unfold aqt9 plI;rw [map_map,List.zip_map',];rfl
 rw [e] at hm;obtain ⟨i,hi,rfl⟩:=Ah.mp hm;exact ⟨i,hi,rfl⟩
theorem aqk3 (h:List aqud) (P:List Rat) (c:Int):((aqt9 h P c).map (aqsu (aqty h P c))).zip (plI h c)=(aqu4 h [c]).map fun i=>(aqsu (aqty h P c) (pAt P i),((i:Nat):Int)):=by
 unfold aqt9 plI;rw [map_map,List.zip_map'];rfl
theorem aqhb (h:List aqud) (P:List Rat) (c:Int):(psR h P c).Perm ((aqu4 h [c]).map fun i=>(aqsu (aqty h P c) (pAt P i),((i:Nat):Int))):=by
 have:=ajs (((aqt9 h P c).map (aqsu (aqty h P c))).zip (plI h c))
 rw [aqk3] at this;unfold psR;rw [aqk3];exact this
theorem aKg (h:List aqud) (P:List Rat) (c:Int):((psR h P c).map (wOf h)).Perm ((aqu4 h [c]).map fun i=>(aqsu (aqty h P c) (pAt P i),wAt h i)):=by
 have:=(aqhb h P c).map (wOf h)
 rw [map_map] at this;have e:((wOf h) ∘ fun (i:Nat)=>(aqsu (aqty h P c) (pAt P i),((i:Nat):Int)))=fun (i:Nat)=>(aqsu (aqty h P c) (pAt P i),wAt h i):=by
  funext i; simp [wOf,Ei]
 rw [e] at this;exact this
theorem aqea {l m:List Int} (h:l.Perm m):l.sum=m.sum:=by
 induction h with
 | nil=>rfl
 | cons x _ ih=>simp [ih]
 | swap x y l=>simp; omega
 | trans _ _ a b=>exact a.trans b
theorem aqf6 (h:List aqud) (P:List Rat) (c:Int):aqsy ((psR h P c).map (wOf h))=wG h (aqu4 h [c]):=by
 have:=(aKg h P c).map (fun q=>q.2)
 have e:=aqea this;unfold aqsy;rw [e,map_map];rfl
theorem aqkv (h:List aqud) (k:okW h) (P:List Rat) (hl:P.length=h.length) {t:Nat} (hs:azc t P) (ht:t <= 18) (c:Int) (hc:c∈Ps h) (N:Int) (hN:0 < N/\N <= 2 ^ 76):aZl [aF h,aqs P,.int c,.int N]=some (optQ (avq h P c N)):=by
 have hh:h.length <= 100:=le_trans k.len (by decide);have lk:=av6 h c hh;have hsub:azc t (aqt9 h P c):=hs.sub fun q hq=>aY7 hl hq;have hcb:=aqgb (aqt9 h P c) hsub (by omega);have hcbl:cb (aqt9 h P c) < 2 ^ 1700:=hsub.cb (by omega);have hcb0:=aqc4 (aqt9 h P c);have hlen:(aqu4 h [c]).length <= 16:=le_trans (awg h [c]) k.len;have htp:=aqf3 (aqt9 h P c) hsub (by omega) (cb (aqt9 h P c)) hcbl (by simp [aqt9]; omega);have hwt:=akd h (aqu4 h [c]) (aqk h [c]) (by omega);have hW:=(aqju k hlen).2;have hne:=az1 hc;have hcomp:av0 (geN 0) qT (oE (f2 dIx (aqtq 1) (aqtq 0))) ((aqu4 h [c]).map fun (i:Nat)=>D.int (i:Int)) [none,some (aqs P)]=some ((aqt9 h P c).map fun q=>O.sh (frD q)):=by
  have:=aB (inj:=fun (i:Nat)=>D.int (i:Int)) (g:=geN 0) (c:=qT) (e:=oE (f2 dIx (aqtq 1) (aqtq 0))) (fun ρ=>∃ d,ρ=[d,some (aqs P)]) (fun _=>true) (fun i=>O.sh (frD (pAt P i))) (aqu4 h [c]) [none,some (aqs P)] ⟨_,rfl⟩ (by
   rintro i hi ρ ⟨d,rfl⟩;have hil:i < P.length:=by have:=aqk h [c] i hi; omega
   have hx:dIx (aqs P) (.int (i:Int))=some (frD (pAt P i)):=by
    have:=aqn5 (ds:=P.map frD) (i:=i) (by simpa using hil)
    rw [aqs,this]; simp [pAt,hil]
   exact ⟨_,rfl,⟨_,rfl⟩,rfl,fun _=>by simp [hx]⟩)
  rw [Av.mpr (by simp)] at this;rw [this]; unfold aqt9; rw [map_map]; rfl
 have hds:oDs ((aqt9 h P c).map fun q=>O.sh (frD q))=some ((aqt9 h P c).map frD):=azu (fun p=>by simp) _;have hfold:D.lst ((aqt9 h P c).map frD)=aqs (aqt9 h P c):=rfl;have hl1:(aqu4 h [c]).length <= 100000:=by omega
 have zN:Sz 80 N:=by show N.natAbs < 2 ^ 80; omega
 have zb:Sz 1700 ((cb (aqt9 h P c):Nat):Int):=by show ((cb (aqt9 h P c):Nat):Int).natAbs < 2 ^ 1700; rw [Bb]; exact hcbl
 have mN:=aqw (zN.big (by decide)) (zb.big (by decide));have hsz:aQy [ay ((aqt9 h P c).map (aqsu (cb (aqt9 h P c)))),plD (aqu4 h [c])]=some ((psR h P c).map pairD):=by
  have e1:plD (aqu4 h [c])=ay (plI h c):=rfl;have h1:((aqt9 h P c).map (aqsu (cb (aqt9 h P c)))).length=(plI h c).length:=by simp [aqt9,plI]
  have h2:1 <= ((aqt9 h P c).map (aqsu (cb (aqt9 h P c)))).length:=by
   have:0 < (aqu4 h [c]).length:=G4.mpr hne
   simp [aqt9]; omega
  have h3:((aqt9 h P c).map (aqsu (cb (aqt9 h P c)))).length < 64:=by simp [aqt9]; omega
  have h4:(((aqt9 h P c).map (aqsu (cb (aqt9 h P c)))).zip (plI h c)).Nodup:=aQc (aKc h c);rw [e1];show ((aWx (((aqt9 h P c).map (aqsu (cb (aqt9 h P c)))).map D.int)).bind fun ns=>(aWx ((plI h c).map D.int)).bind fun ms=>if ns.length=ms.length/\1 <= ns.length/\ns.length < 64/\(ns.zip ms).Nodup then some ((aki (ns.zip ms)).map pairD) else none)=_;rw [av7,av7];simp only [Option.bind_some];rw [if_pos ⟨h1,h2,h3,h4⟩];rfl
 have hmem:∀ q∈psR h P c,0 <= q.1/\Sz 3600 q.1/\∃ i:Nat,i < h.length/\q.2=(i:Int):=fun q hq=>by
  obtain ⟨i,hi,rfl⟩:=aqky hq;have hi':=aqk h [c] i hi;have hp:pAt P i∈P:=ax8 (by omega);obtain ⟨D,d1,d2,d3⟩:=id hs;exact ⟨awt (d3 _ hp).2.1,hs.top (by omega) hp hcbl,i,hi',rfl⟩
 have hR0:N * ((cb (aqt9 h P c):Nat):Int) < 2 ^ 3700:=by
  have z:Sz 1780 (N * ((cb (aqt9 h P c):Nat):Int)):=(zN.mul zb);have z':(N * ((cb (aqt9 h P c):Nat):Int)).natAbs < 2 ^ 3700:=z.mono (by decide);have h2:N * ((cb (aqt9 h P c):Nat):Int) <= ((N * ((cb (aqt9 h P c):Nat):Int)).natAbs:Int):=Int.le_natAbs;have h3:(((N * ((cb (aqt9 h P c):Nat):Int)).natAbs:Nat):Int) < ((2 ^ 3700:Nat):Int):=by exact_mod_cast z'
  have h4:((2 ^ 3700:Nat):Int)=2 ^ 3700:=by norm_cast
  omega
 have loop:=aVy h k (some (.sh (aqs P))) (some (.sh (.int c))) (some (.sh (.int N))) (some (.sh (plD (aqu4 h [c])))) (some (.sh (ay ((aqt9 h P c).map (aqsu (cb (aqt9 h P c))))))) (cb (aqt9 h P c)) hcb0 hcbl (N * ((cb (aqt9 h P c):Nat):Int)) hR0 (psR h P c) (N * ((cb (aqt9 h P c):Nat):Int)) (wG h (aqu4 h [c])) none none hmem (aqf6 h P c).symm hW (Go hN.1 (by omega)) (Kk _);have hagr:(agr h [c]).map D.int=(aqu4 h [c]).map fun (i:Nat)=>D.int (i:Int):=aK8 h [c];rw [hagr] at lk;have z1:oD (ow ((aqu4 h [c]).map fun (i:Nat)=>D.int (i:Int)))=some (plD (aqu4 h [c])):=by rw [oD_ow,aQq]
 have z2:fzc (some (ow ((aqu4 h [c]).map fun (i:Nat)=>D.int (i:Int))))=some (.sh (plD (aqu4 h [c]))):=by rw [aqpm,aQq]
 have im1:aqtl ((aqu4 h [c]).map fun (i:Nat)=>D.int (i:Int))=true:=aqbe.mpr fun x hx=>by obtain ⟨i,_,rfl⟩:=Ah.mp hx; simp
 have z3:aJl (plD (aqu4 h [c]))=some ((aqu4 h [c]).map fun (i:Nat)=>D.int (i:Int)):=aqog _;have zi:oD (ow ((psR h P c).map pairD))=some (.lst ((psR h P c).map pairD)):=oD_ow;unfold avq rateQ aqty;cases hq:aqh6 ((psR h P c).map (wOf h)) (N * ((cb (aqt9 h P c):Nat):Int)) (wG h (aqu4 h [c])) with
 | none =>
  rw [hq] at loop;obtain ⟨ρ',e⟩:=loop;simp [aZl,aqt4,aqt2,ini,aqev,lk,z1,z2,z3,im1,azv,mkD,hl1,aqug,hcomp,hds,hfold,hcb,htp,mN,hwt,hsz,aqu3,e,optQ,-map_map]
 | some r =>
  rw [hq] at loop;obtain ⟨ρ',e⟩:=loop;simp [aZl,aqt4,aqt2,ini,aqev,lk,z1,z2,z3,im1,azv,mkD,hl1,aqug,hcomp,hds,hfold,hcb,htp,mN,hwt,hsz,aqu3,e,optQ,-map_map]
theorem aqd8 {l m:List Rat} (h:l.Perm m):l.sum=m.sum:=by
 induction h with
 | nil=>rfl
 | cons x _ ih=>simp [ih]
 | swap x y l=>simp only [sum_cons]; grind
 | trans _ _ a b=>exact a.trans b
theorem aY0 {α:Type} (f:α->Rat) (b:Rat):∀ l:List α,(l.map fun a=>f a * b).sum=(l.map f).sum * b
 | []=>by simp
 | a :: l=>by rw [map_cons,map_cons,sum_cons,sum_cons,aY0 f b l]; grind
section
variable {h:List aqud} (k:okW h) {P:List Rat} (hl:P.length=h.length) {t:Nat} (hs:azc t P) (ht:t <= 18) {c:Int} (hc:c∈Ps h) {N:Int} (hN:0 < N)
include k hl hs ht hc hN
theorem lR_ok:(∀ q∈(psR h P c).map (wOf h),0 <= q.1/\1 <= q.2)/\((psR h P c).map (wOf h)).Pairwise (fun a b=>a.1 <= b.1):=by
 constructor
 ·intro q hq
  have:=(aKg h P c).mem_iff.mp hq
  obtain ⟨i,hi,rfl⟩:=Ah.mp this;have hi':=aqk h [c] i hi;obtain ⟨D,d1,d2,d3⟩:=id hs;exact ⟨awt (d3 _ (ax8 (by omega))).2.1,k.at1 hi'⟩
 ·have:=avd _ (aQc (xs:=(aqt9 h P c).map (aqsu (aqty h P c))) (aKc h c))
  rw [pairwise_map];refine List.Pairwise.imp (fun {a b} hab=>?_) this;rw [aQx] at hab;show a.1 <= b.1;omega
theorem aqka {i:Nat} (hi:i∈aqu4 h [c]):((aqsu (aqty h P c) (pAt P i):Int):Rat)=pAt P i * (aqty h P c:Rat) :=
 aqf4 (aqn9 (Ah.mpr ⟨i,hi,rfl⟩))
theorem aqnd:(0:Rat) < (aqty h P c:Rat):=by exact_mod_cast aqc4 (aqt9 h P c)
theorem aqde {r:Rat} (e:avq h P c N=some r):pays (aqu4 h [c]) (fun i=>(wAt h i:Rat)) (pAt P) r=(N:Rat)/\(∃ i∈aqu4 h [c],r <= pAt P i)/\0 < r/\∃ V:Nat,0 < V/\V <= 2 ^ 76/\aque (V * aqty h P c) r:=by
 unfold avq at e;cases hq:rateQ h P c N with
 | none=>rw [hq] at e; cases e
 | some z =>
  obtain ⟨ρ,V⟩:=z;rw [hq] at e;have e:mkRat ρ (V.toNat * aqty h P c)=r:=Option.some.inj e;have b0:=aqnd k hl hs ht hc hN;have bn:0 < aqty h P c:=aqc4 (aqt9 h P c);have hb:0 < N * ((aqty h P c:Nat):Int):=Go hN (by exact_mod_cast bn);obtain ⟨ok1,ok2⟩:=lR_ok k hl hs ht hc hN;obtain ⟨r1,r2,r3,r4,r5,r6⟩:=aJs _ _ _ 0 ρ V ok1 ok2 (fun q hm=>(ok1 q hm).1) (aqf6 h P c).symm hb (by rw [Int.mul_zero]; omega) hq;have hW:=(aqju k (g:=aqu4 h [c]) (le_trans (awg h [c]) k.len)).2;obtain ⟨W,hVW⟩:∃ W:Nat,V=(W:Int):=⟨V.toNat,by omega⟩;subst hVW;rw [A9] at e;have wp:(0:Rat) < (W:Rat):=by exact_mod_cast (by omega:0 < W)
  have er:r * ((W * aqty h P c:Nat):Rat)=(ρ:Rat):=by
   rw [<- e,Rat.mkRat_eq_div]
   have:((W * aqty h P c:Nat):Rat) ≠ 0:=by
    have:(0:Rat) < ((W * aqty h P c:Nat):Rat):=by exact_mod_cast mul_pos (by omega) bn
    grind
   exact C6 this
  have ex:(r * (aqty h P c:Rat)) * ((W:Int):Rat)=(ρ:Rat):=by
   rw [<- er]; push_cast; grind
  obtain ⟨c1,q,c2,c3⟩:=r6 _ ex;refine ⟨?_,?_,?_,W,by omega,?_,ρ,er⟩
  ·have h2:capS ((psR h P c).map (wOf h)) (r * (aqty h P c:Rat))=pays (aqu4 h [c]) (fun i=>(wAt h i:Rat)) (pAt P) r * (aqty h P c:Rat):=by
    unfold capS;rw [aqd8 ((aKg h P c).map fun q=>(q.2:Rat) * min (q.1:Rat) (r * (aqty h P c:Rat))),map_map];unfold pays aXp;rw [<- aY0];congr 1;apply map_congr_left;intro i hi
    have:=aqka k hl hs ht hc hN hi
    simp only [Ei];rw [this];have hm:min (pAt P i * (aqty h P c:Rat)) (r * (aqty h P c:Rat))=min (pAt P i) r * (aqty h P c:Rat):=by
     by_cases hle:pAt P i <= r
     ·have:=Cl hle (Fu b0)
      grind
     ·have hle':r <= pAt P i:=by grind
      have:=Cl hle' (Fu b0)
      grind
    rw [hm]; grind
   rw [h2] at c1;have h4:((N * ((aqty h P c:Nat):Int):Int):Rat)=(N:Rat) * (aqty h P c:Rat):=by push_cast; rfl
   rw [h4] at c1;have hne:(aqty h P c:Rat) ≠ 0:=by grind
   have:=congrArg (fun z=>z / (aqty h P c:Rat)) c1
   rw [Lj hne,Lj hne] at this;exact this
  ·have:=(aKg h P c).mem_iff.mp c2
   obtain ⟨i,hi,rfl⟩:=Ah.mp this;refine ⟨i,hi,?_⟩;have ht':=aqka k hl hs ht hc hN hi;simp only at c3;rw [ht'] at c3;exact Ey c3 b0
  ·have:(0:Rat) < r * ((W * aqty h P c:Nat):Rat):=by rw [er]; exact_mod_cast r1
   have hp:(0:Rat) < ((W * aqty h P c:Nat):Rat):=by exact_mod_cast mul_pos (by omega) bn
   by_cases h:0 < r
   ·exact h
   ·exfalso
    have:=Cl (Rat.not_lt.mp h) (Fu hp)
    grind
  ·have:((W:Nat):Int) <= 2 ^ 76:=by omega
   exact_mod_cast this
end
def ajx (h:List aqud) (P:List Rat) (c:Int) (r:Rat):List Rat:=(Ar P.length).map fun i=>if lkB h i c=true then pAt P i - min (pAt P i) r else pAt P i
theorem fm_eq (f:Int->Option Rat) (g:Int->D) (hg:∀ c r,f c=some r->g c=aqtd (c,r)):∀ l:List Int,((l.filter fun c=>(f c).isSome).map fun c=>O.sh (g c))=(l.filterMap fun c=>(f c).map fun r=>(c,r)).map fun o=>O.sh (aqtd o)
 | []=>rfl
 | c :: l=>by
  cases hq:f c with
  | none =>
   rw [filter_cons_of_neg (by simp [hq]),List.filterMap_cons_none (by simp [hq])];exact fm_eq f g hg l
  | some r =>
   rw [filter_cons_of_pos (by simp [hq]),List.filterMap_cons_some (b:=(c,r)) (by simp [hq]),map_cons,map_cons,fm_eq f g hg l,hg c r hq]
theorem aqa5 (h:List aqud) (P:List Rat) (c:Int) (r:Rat):(ajx h P c r).length=P.length:=by simp [ajx]
theorem aqcg {p r:Rat} (hp:Bd 2000 2000 p) (hr:Bd 2000 2000 r):aS [frD p,frD r]=some (frD (p - min p r)):=by
 have bl:=aqge hp hr;have mi:=aqlx hp hr
 by_cases h:p < r
 ·have e:p - min p r=0:=by grind
  rw [e];rw [decide_eq_true h] at bl;have z:frD 0=.tup [.int 0,.int 1]:=rfl;simp [aS,aqt4,aqt2,ini,aq4,bl,aqug,z]
 ·have e:p - min p r=p - r:=by grind
  rw [e];rw [decide_eq_false h] at bl;simp [aS,aqt4,aqt2,ini,aq4,bl,mi]
theorem aqgp (P:List Rat) (i:Nat) (q:Rat) (hi:i < P.length):gSetI (i:Int) (.sh (frD q)) (ow (P.map frD))=some (ow ((P.set i q).map frD)):=by
 have:ixP (P.map frD).length (i:Int)=some i:=by
  unfold ixP;rw [if_pos (by omega)]
  simp; omega
 simp [gSetI,ow] at this ⊢;simp [this,List.map_set]
def pd (P:List Rat) (r:Rat) (g:List Nat):List Rat:=(Ar P.length).map fun i=>if aqtm g i=true then pAt P i - min (pAt P i) r else pAt P i
theorem aql6 (P:List Rat) (r:Rat) (g:List Nat) (i:Nat) (hi:i < P.length):pd P r (g++[i])=(pd P r g).set i (pAt P i - min (pAt P i) r):=by
 unfold pd;apply ext_getElem
 ·simp
 ·intro j h1 h2
  simp at h1;simp only [getElem_map,List.getElem_range,List.getElem_set]
  by_cases e:i=j
  ·subst e
   have:aqtm (g++[i]) i=true:=akz.mpr (by simp)
   simp [this]
  ·have:aqtm (g++[i]) j=aqtm g j:=by
    rw [A5,akz,akz];simp [B4 e]
   simp [e,this]
theorem aql9 (h:List aqud) (k:okW h) (P:List Rat) (hl:P.length=h.length) {t:Nat} (hs:azc t P) (ht:t <= 18) (c:Int) (r:Rat) (hr:Bd 2000 2000 r):aqat [aF h,aqs P,.int c,frD r]=some (aqs (ajx h P c r)):=by
 have hh:h.length <= 100:=le_trans k.len (by decide);have lk:=av6 h c hh;rw [aK8] at lk;have z0:pd P r []=P:=by
  unfold pd;apply ext_getElem
  ·simp
  ·intro i h1 h2; simp [aqtm,pAt,h2]
 obtain ⟨ρ',e,x5,rfl⟩:=aQ3 (inj:=fun (i:Nat)=>D.int (i:Int)) (g:=gN 5) (b:=aVc) (fun pre ρ=>∃ x5:Option O,ρ=[some (.sh (aF h)),some (.sh (aqs P)),some (.sh (.int c)),some (.sh (frD r)),some (ow ((pd P r pre).map frD)),x5]) (aqu4 h [c])
  [some (.sh (aF h)),some (.sh (aqs P)),some (.sh (.int c)),some (.sh (frD r)),some (ow (P.map frD)),none] ⟨none,by rw [z0]⟩ (by
   rintro pre i post ρ e ⟨x5,rfl⟩;have hi:i < P.length:=by rw [hl]; exact aqk h [c] i (by rw [e]; simp)
   have hb:=(hs.bd (by omega) (ax8 hi)).mono (show 1800 <= 2000 by decide) (show 1700 <= 2000 by decide);have h1:=aqcg hb hr;have hx:dIx (aqs P) (.int (i:Int))=some (frD (pAt P i)):=by
    have:=aqn5 (ds:=P.map frD) (i:=i) (by simpa using hi)
    rw [aqs,this]; simp [pAt,hi]
   have hset:=aqgp (pd P r pre) i (pAt P i - min (pAt P i) r) (by simp [pd]; exact hi);rw [aql6 P r pre i hi];generalize pAt P i - min (pAt P i) r=q at *;simp [Goes,aVc,bPut,hx,h1,pNil,atO,hset])
 have ef:pd P r (aqu4 h [c])=ajx h P c r:=by
  unfold pd ajx;apply map_congr_left;intro i hi;have hi':i < h.length:=by rw [<- hl]; exact A0.mp hi
  rw [aqmj hi']
 rw [ef] at e;have z3:aJl (D.lst ((aqu4 h [c]).map fun (i:Nat)=>D.int (i:Int)))=some ((aqu4 h [c]).map fun (i:Nat)=>D.int (i:Int)):=rfl;have zl:aqg1 [aqs P]=some (P.map frD):=rfl;have fi:∀ Q:List Rat,D.lst (Q.map frD)=aqs Q:=fun _=>rfl;have im:∀ Q:List Rat,aqtl (Q.map frD)=true:=fun Q=>aqbe.mpr fun x hx=>by obtain ⟨i,_,rfl⟩:=Ah.mp hx; simp
 simp [aqat,aqt4,aqt2,ini,aqjo,zl,im,lk,aqu3,e,fi]
def aD (h:List aqud) (P:List Rat) (ch:List Int):List (Int × Rat):=((Ps h).filter fun c=>!has ch c).filterMap fun c=>(avq h P c (aqsq h)).map fun r=>(c,r)
theorem azt {h:List aqud} {P:List Rat} {ch:List Int} {o:Int × Rat} (ho:o∈aD h P ch):o.1∈Ps h/\o.1 ∉ ch/\avq h P o.1 (aqsq h)=some o.2:=by
 obtain ⟨c,hc,e⟩:=D0.mp ho;obtain ⟨h1,h2⟩:=Ay.mp hc;cases hr:avq h P c (aqsq h) with
 | none=>rw [hr] at e; cases e
 | some r =>
  rw [hr] at e;have e:(c,r)=o:=Option.some.inj e;subst e;refine ⟨h1,fun hm=>?_,hr⟩;rw [avw.mpr hm] at h2;simp at h2
theorem av5 {h:List aqud} {P:List Rat} {ch:List Int} {c:Int} {r:Rat} (h1:c∈Ps h) (h2:c ∉ ch) (h3:avq h P c (aqsq h)=some r):(c,r)∈aD h P ch:=by
 refine D0.mpr ⟨c,Ay.mpr ⟨h1,?_⟩,by rw [h3]; rfl⟩;cases hh:has ch c with
 | true=>exact absurd (avw.mp hh) h2
 | false=>rfl
def azq (h:List aqud) (P:List Rat) (c:Int):D:=.tup [.int c,optQ (avq h P c (aqsq h))]
theorem aQd {h:List aqud} (k:okW h) (hne:h ≠ []):0 < aqsq h:=by
 rw [aqf0]
 have:=aW3 k (g:=Ar h.length) (by simp; exact hne) (fun i hi=>A0.mp hi)
 omega
theorem aQw {h:List aqud} {c:Int} (hc:c∈Ps h):h ≠ []:=by
 rintro rfl
 have:=(Ay.mp hc).2
 simp at this
theorem aqdw (h:List aqud) (kh:okH h) (k:okW h) (P:List Rat) (hl:P.length=h.length) {t:Nat} (hs:azc t P) (ht:t <= 18) (rows:List (Int × Rat × List Rat)) (hr:rows.length <= 1000):axo [aF h,aqs P,axe rows]=some (aV9 (aD h P (rows.map (·.1)))):=by
 have hh:h.length <= 100:=le_trans k.len (by decide);have lk:=aqfz h kh hh;have hz:oD (ow ((Ps h).map D.int))=some (ay (Ps h)):=by simp [ay]
 have hw:=akc h hh;have hc1:av0 (geN 0) qT (oE (f2 dIx (aqtq 0) (fC (.int 0)))) (rows.map aqt5) [none]=some ((rows.map (·.1)).map fun c=>O.sh (.int c)):=by
  have:=aB (inj:=aqt5) (g:=geN 0) (c:=qT) (e:=oE (f2 dIx (aqtq 0) (fC (.int 0)))) (fun ρ=>∃ d,ρ=[d]) (fun _=>true) (fun r=>O.sh (.int r.1)) rows [none] ⟨_,rfl⟩ (by
   rintro r _ ρ ⟨d,rfl⟩;have x0:dIx (aqt5 r) (.int 0)=some (.int r.1):=aqbw;exact ⟨_,rfl,⟨_,rfl⟩,rfl,fun _=>by simp [x0]⟩)
  rw [Av.mpr (by simp)] at this;rw [this,map_map]; rfl
 have ho1:O.lst ((rows.map (·.1)).map fun c=>O.sh (.int c))=ow ((rows.map (·.1)).map .int):=by rw [ow,map_map,map_map,map_map]; rfl
 generalize hch:rows.map (·.1)=ch at *;have hc2:av0 (geN 0) (qV (f2 aXc (aqtq 0) (aqtq 4))) (oE (aqtr (ak (aqtq 0) (ak (aq1 4 aZl (ak (aqtq 1) (ak (aqtq 2) (ak (aqtq 0) (ak (aqtq 3) aqu6))))) aqu6)))) ((Ps h).map D.int) [none,some (aF h),some (aqs P),some (.int (aqsq h)),some (ay ch)]=some (((Ps h).filter fun c=>!has ch c).map fun c=>O.sh (azq h P c)) :=
  aB (inj:=D.int) (fun ρ=>∃ d,ρ=[d,some (aF h),some (aqs P),some (.int (aqsq h)),some (ay ch)]) (fun c=>!has ch c) (fun c=>O.sh (azq h P c)) (Ps h) _ ⟨_,rfl⟩ (by
   rintro c hc ρ ⟨d,rfl⟩;have w:=aqkv h k P hl hs ht c hc (aqsq h) ⟨aQd k (aQw hc),(aW4 k).2⟩;exact ⟨_,rfl,⟨_,rfl⟩,by simp,fun _=>by simp [w,aqug,azq]⟩)
 have hd2:oDs (((Ps h).filter fun c=>!has ch c).map fun c=>O.sh (azq h P c))=some (((Ps h).filter fun c=>!has ch c).map (azq h P)):=azu (fun p=>by simp) _;have hll:(Ps h).length <= 6:=axr h;have hfl:((Ps h).filter fun c=>!has ch c).length <= 6:=le_trans (length_filter_le _ _) hll;have hoff:∀ l:List Int,av0 (geN 0) (qV (f2 aqtv (f2 dIx (aqtq 0) (fC (.int 1))) (fC .non))) (oE (aqtq 0)) (l.map (azq h P)) [none]=some (((l.filterMap fun c=>(avq h P c (aqsq h)).map fun r=>(c,r))).map fun o=>O.sh (aqtd o)):=by
  intro l
  have:=aB (inj:=azq h P) (g:=geN 0) (c:=qV (f2 aqtv (f2 dIx (aqtq 0) (fC (.int 1))) (fC .non))) (e:=oE (aqtq 0)) (fun ρ=>∃ d,ρ=[d]) (fun c=>(avq h P c (aqsq h)).isSome) (fun c=>O.sh (azq h P c)) l [none] ⟨_,rfl⟩ (by
   rintro c _ ρ ⟨d,rfl⟩;have x1:dIx (azq h P c) (.int 1)=some (optQ (avq h P c (aqsq h))):=aqjd;refine ⟨_,rfl,⟨_,rfl⟩,?_,fun _=>by simp⟩;cases hq:avq h P c (aqsq h) with
   | none =>
    rw [hq] at x1;have i0:aqtv (optQ none) .non=some (.bl false):=rfl;simp [x1,i0]
   | some r =>
    rw [hq] at x1;have i0:aqtv (optQ (some r)) .non=some (.bl true):=rfl;simp [x1,i0])
  rw [this];congr 1;exact fm_eq (fun c=>avq h P c (aqsq h)) (azq h P) (fun c r hq=>by unfold azq; rw [hq]; rfl) l
 have hd3:∀ l:List (Int × Rat),oDs (l.map fun o=>O.sh (aqtd o))=some (l.map aqtd):=fun l=>azu (fun p=>by simp) l;have hr':rows.length <= 100000:=by omega
 have hfl':((Ps h).filter fun c=>!has ch c).length <= 100000:=by omega
 have hll':(Ps h).length <= 100000:=by omega
 have zr:aJl (axe rows)=some (rows.map aqt5):=rfl;have zi:∀ l:List Int,D.lst (l.map .int)=ay l:=fun _=>rfl;have q1:∀ l:List Int,oD (ow (l.map D.int))=some (ay l):=fun l=>aqbc l;have rim:∀ c,imm (azq h P c)=true:=fun c=>by
  unfold azq;cases avq h P c (aqsq h) <;> simp [optQ]
 have im2:aqtc (((Ps h).filter fun c=>!has ch c).map fun c=>O.sh (azq h P c))=true:=aqlp (fun c=>by simp [rim]) _;have hof:aD h P ch=((Ps h).filter fun c=>!has ch c).filterMap fun c=>(avq h P c (aqsq h)).map fun r=>(c,r):=rfl;have hcf:=hoff ((Ps h).filter fun c=>!has ch c);rw [<- hof] at hcf;have hd4:=hd3 (aD h P ch);generalize ((Ps h).filter fun c=>!has ch c)=fl at *;generalize aD h P ch=ofs at *;simp [axo,aqt4,aqt2,ini,aVd,azv,mkD,zr,hr',aqug,hc1,ho1,hw,lk,hz,hll',hc2,im2,hd2,hfl',hcf,hd4,q1,aV9,-map_map]
section
variable {h:List aqud} (k:okW h) {P:List Rat} (hl:P.length=h.length) {t:Nat} (hs:azc t P) (ht:t <= 18) {c:Int} (hc:c∈Ps h) {N:Int} (hN:0 < N) {r:Rat} (e:avq h P c N=some r)
include k hl hs ht hc hN e
theorem aVx:∃ D:Nat,0 < D/\D < 2 ^ (80 * (t + 1) + 1)/\aque D r/\(∀ q∈P,aque D q/\0 <= q/\q <= ((t * 2 ^ 80:Nat):Rat))/\0 < r/\r <= ((t * 2 ^ 80:Nat):Rat):=by
 obtain ⟨_,⟨i,hi,hri⟩,hr0,V,v0,v1,vo⟩:=aqde k hl hs ht hc hN e;obtain ⟨D,d1,d2,d3⟩:=id hs;have hbD:aqty h P c ∣ D:=aqc5 fun q hq=>(d3 q (aY7 hl hq)).1.den;refine ⟨V * D,mul_pos v0 d1,?_,vo.dvd (Nat.mul_dvd_mul_left V hbD),fun q hq=>⟨(d3 q hq).1.dvd ⟨V,L0 _ _⟩,(d3 q hq).2⟩,hr0,?_⟩
 ·have:V * D < 2 ^ 77 * 2 ^ (80 * t + 1):=Nat.mul_lt_mul'' (lt_of_le_of_lt v1 (by decide)) d2
  rw [<- pow_add] at this;exact lt_of_lt_of_le this (pow_le_pow_right (by decide) (by omega))
 ·have hm:pAt P i∈P:=ax8 (by have:=aqk h [c] i hi; omega)
  exact Hb hri (d3 _ hm).2.2
theorem aqff:Bd 2000 2000 r:=by
 obtain ⟨D,d1,d2,d3,_,r0,r1⟩:=aVx k hl hs ht hc hN e;have hle:((t * 2 ^ 80:Nat):Rat) <= (((t + 1) * 2 ^ 80:Nat):Rat):=by exact_mod_cast Ex _ (le_succ t)
 have hz:azc (t + 1) [r]:=⟨D,d1,d2,fun q hq=>by
  rw [D9.mp hq];exact ⟨d3,Fu r0,Hb r1 hle⟩⟩
 exact (hz.bd (by omega) (by simp)).mono (by decide) (by decide)
theorem aJx:azc (t + 1) (ajx h P c r):=by
 obtain ⟨D,d1,d2,d3,d4,r0,r1⟩:=aVx k hl hs ht hc hN e;have hle:((t * 2 ^ 80:Nat):Rat) <= (((t + 1) * 2 ^ 80:Nat):Rat):=by exact_mod_cast Ex _ (le_succ t)
 refine ⟨D,d1,d2,fun q hq=>?_⟩;obtain ⟨i,hi,rfl⟩:=Ah.mp hq;have hi':=A0.mp hi;obtain ⟨o1,o2,o3⟩:=d4 _ (ax8 hi');split
 ·refine ⟨o1.sub (o1.mn d3),?_,?_⟩ <;> grind
 ·exact ⟨o1,o2,Hb o3 hle⟩
end
def jt (h:List aqud):Nat->List Rat->List Int->List (Int × Rat × List Rat)
 | 0,_,_=>[]
 | n + 1,P,ch=>match aO (aD h P ch) with
  | none=>[]
  | some o=>(o.1,o.2,ajx h P o.1 o.2) :: jt h n (ajx h P o.1 o.2) (ch++[o.1])
theorem aKa (h:List aqud) (kh:okH h) (k:okW h) (P:List Rat) (hl:P.length=h.length) {t:Nat} (hs:azc t P) (ht:t <= 18) (rows:List (Int × Rat × List Rat)) (hr:rows.length <= 1000):axo [aF h,aqs P,axe rows]=some (aV9 (aD h P (rows.map (·.1))))/\axp [aV9 (aD h P (rows.map (·.1)))]=some (aqtb (aO (aD h P (rows.map (·.1))))) :=
 ⟨aqdw h kh k P hl hs ht rows hr,aqb0 _ fun o ho=>by
  obtain ⟨w1,_,w2⟩:=azt ho;exact aqff k hl hs ht w1 (aQd k (aQw w1)) w2⟩
def aKf (h:List aqud) (ch:List Int):List Int:=(Ps h).filter fun c=>!has ch c
theorem aqaz {h:List aqud} {ch:List Int} {c:Int} (h1:c∈Ps h) (h2:c ∉ ch):(aKf h (ch++[c])).length < (aKf h ch).length:=by
 have hs:(aKf h (ch++[c]))=(aKf h ch).filter fun d=>!(d == c):=by
  unfold aKf;rw [Ho];apply Ik;intro d _;rw [A5];simp [has];grind
 rw [hs];have hm:c∈aKf h ch:=Ay.mpr ⟨h1,by
  cases hh:has ch c with
  | true=>exact absurd (avw.mp hh) h2
  | false=>rfl⟩
 exact List.length_filter_lt_length_iff_exists.mpr ⟨c,hm,by simp⟩
theorem aw2 {h:List aqud} {P:List Rat} {ch:List Int} (hz:(aKf h ch).length=0):aD h P ch=[]:=by
 have:aKf h ch=[]:=Ca.mp hz
 unfold aD;unfold aKf at this;rw [this]; rfl
theorem aww (h:List aqud) (kh:okH h) (k:okW h) (seats:Option O):∀ (n:Nat) (P:List Rat) (rows:List (Int × Rat × List Rat)) (t:Nat),P.length=h.length->azc t P->t + n <= 18->(aKf h (rows.map (·.1))).length <= n->rows.length + n <= 100 ->
  ∃ ρ',az4 (qV (f2 aqtv (aqtq 4) (fC .non))) ak9 [some (.sh (aF h)),seats,some (.sh (aqs P)),some (ow (rows.map aqt5)),some (.sh (aqtb (aO (aD h P (rows.map (·.1))))))]=some (.nx ρ')/\∃ a2 a4,ρ'=[some (.sh (aF h)),seats,a2,some (ow ((rows++jt h n P (rows.map (·.1))).map aqt5)),a4]
 | 0,P,rows,t,hl,hs,ht,hn,hr=>by
  rw [aw2 (by omega)];refine ⟨_,ajb (by simp [aO,aqtb]; rfl),some (.sh (aqs P)),some (.sh (aqtb (aO []))),?_⟩;simp only [jt,append_nil]
 | n + 1,P,rows,t,hl,hs,ht,hn,hr=>by
  cases ho:aO (aD h P (rows.map (·.1))) with
  | none =>
   refine ⟨_,ajb (by simp [aqtb]; rfl),some (.sh (aqs P)),some (.sh (aqtb none)),?_⟩;simp only [jt,ho,append_nil]
  | some o =>
   obtain ⟨w1,w2,w3⟩:=azt (ajt ho);have hN:=aQd k (aQw w1);have hb:=aqff k hl hs (by omega) w1 hN w3;have pa:=aql9 h k P hl hs (by omega) o.1 o.2 hb;have hs':=aJx k hl hs (by omega) w1 hN w3;have hl':(ajx h P o.1 o.2).length=h.length:=by rw [aqa5]; exact hl
   have hm:(rows++[(o.1,o.2,ajx h P o.1 o.2)]).map (·.1)=rows.map (·.1)++[o.1]:=by simp
   have lt:=aqaz w1 w2;obtain ⟨f1,f2'⟩:=aKa h kh k (ajx h P o.1 o.2) hl' hs' (by omega) (rows++[(o.1,o.2,ajx h P o.1 o.2)]) (by simp; omega);obtain ⟨ρ',e1,e2⟩:=aww h kh k seats n (ajx h P o.1 o.2) (rows++[(o.1,o.2,ajx h P o.1 o.2)]) (t + 1) hl' hs' (by omega) (by rw [hm]; omega) (by simp; omega);rw [hm] at f1 f2' e1 e2;refine ⟨ρ',avp (ρ2:=[some (.sh (aF h)),seats,some (.sh (aqs (ajx h P o.1 o.2))),some (ow ((rows++[(o.1,o.2,ajx h P o.1 o.2)]).map aqt5)),some (.sh (aqtb (aO (aD h (ajx h P o.1 o.2) (rows.map (·.1)++[o.1])))))]) ?_ ?_ e1,?_⟩
   ·have:=aqfq (some o)
    simp [this]
   ·have g1:gApp (.sh (aqt5 (o.1,o.2,ajx h P o.1 o.2))) (ow (rows.map aqt5))=some (ow (rows.map aqt5++[aqt5 (o.1,o.2,ajx h P o.1 o.2)])):=aqbi (by simp [aqug]; omega)
    have er:D.tup [.int o.1,frD o.2,aqs (ajx h P o.1 o.2)]=aqt5 (o.1,o.2,ajx h P o.1 o.2):=rfl;have ir:imm (aqt5 (o.1,o.2,ajx h P o.1 o.2))=false:=by simp [aqt5]
    have io:=aKk (aO (aD h (ajx h P o.1 o.2) (rows.map (·.1)++[o.1])));have oe:aqtb (some o)=aqtd o:=rfl;have ef:D.lst (rows.map aqt5++[aqt5 (o.1,o.2,ajx h P o.1 o.2)])=axe (rows++[(o.1,o.2,ajx h P o.1 o.2)]):=by simp [axe]
    generalize ajx h P o.1 o.2=Q at *;generalize aD h Q (rows.map (·.1)++[o.1])=ws at *;simp [ak9,oe,pa,off0,off1,aqug,er,ir,g1,ef,f1,f2',io]
   ·obtain ⟨a2,a4,e3⟩:=e2
    refine ⟨a2,a4,?_⟩;rw [e3];simp only [jt,ho,If,J1]
def aqb (h:List aqud) (seats:Int):List Rat:=C2 h.length (seats:Rat)
theorem aQa (h:List aqud) {seats:Int} (h0:0 <= seats) (h6:seats <= 6):azc 1 (aqb h seats):=⟨1,by decide,by decide,fun q hq=>by
 rw [List.eq_of_mem_replicate hq];refine ⟨avf 1 seats,by exact_mod_cast h0,?_⟩;have h1:(seats:Rat) <= ((6:Nat):Rat):=by exact_mod_cast h6
 have h2:((6:Nat):Rat) <= ((1 * 2 ^ 80:Nat):Rat):=by
  obtain ⟨x,hx⟩:∃ x:Nat,1 * 2 ^ 80=x:=⟨_,rfl⟩
  have:6 <= x:=by rw [<- hx]; decide
  rw [hx]
  exact_mod_cast this
 exact Hb h1 h2⟩
theorem aqdb (h:List aqud) (kh:okH h) (k:okW h) (seats:Int) (h0:0 <= seats) (h6:seats <= 6):avg [aF h,.int seats]=some (axe (jt h 6 (aqb h seats) [])):=by
 have hs:=aQa h h0 h6;have hl:(aqb h seats).length=h.length:=by simp [aqb]
 have hll:=axr h;have hlc:(aKf h []).length <= 6:=le_trans (length_filter_le _ _) hll;obtain ⟨f1,f2'⟩:=aKa h kh k (aqb h seats) hl hs (by omega) [] (by simp);obtain ⟨ρ',e1,a2,a4,rfl⟩:=aww h kh k (some (.sh (.int seats))) 6 (aqb h seats) [] 1 hl hs (by omega) (by simpa using hlc) (by simp);have hfp:aw [aF h,.int seats]=some (aqs (aqb h seats)):=by
  have fr:frD (seats:Rat)=.tup [.int seats,.int 1]:=by simp [frD]
  have hc:av0 (geN 0) qT (oE (aqtr (ak (aqtq 1) (ak (fC (.int 1)) aqu6)))) (h.map ax3) [none,some (.int seats)]=some (h.map fun _=>O.sh (frD (seats:Rat))):=by
   have:=aB (inj:=ax3) (g:=geN 0) (c:=qT) (e:=oE (aqtr (ak (aqtq 1) (ak (fC (.int 1)) aqu6)))) (fun ρ=>∃ d,ρ=[d,some (.int seats)]) (fun _=>true) (fun _=>O.sh (frD (seats:Rat))) h [none,some (.int seats)] ⟨_,rfl⟩ (by
    rintro p _ ρ ⟨d,rfl⟩;exact ⟨_,rfl,⟨_,rfl⟩,rfl,fun _=>by simp [aqug,fr]⟩)
   rwa [Av.mpr (by simp)] at this
  have hd:oDs (h.map fun _=>O.sh (frD (seats:Rat)))=some ((aqb h seats).map frD):=by
   rw [azu (g:=fun _=>frD (seats:Rat)) (fun _=>by simp) h];simp [aqb,List.map_const']
  have hh':h.length <= 100000:=by have:=k.len; omega
  simp [aw,aqt4,aqt2,ini,aq5,azv,mkD,hh',aqug,hc,hd];rfl
 have io:=aKk (aO (aD h (aqb h seats) []));have er:∀ l:List (Int × Rat × List Rat),D.lst (l.map aqt5)=axe l:=fun _=>rfl;simp only [map_nil,Ju] at e1 f1 f2';generalize jt h 6 (aqb h seats) []=R at *;generalize aD h (aqb h seats) []=ws at *;have f1':axo [aF h,aqs (aqb h seats),.lst []]=some (aV9 ws):=f1;simp [avg,aqt4,aqt2,ini,aVb,aqug,hfp,f1',f2',io,e1];exact er R
abbrev aqua:=Int × Rat × List Rat
def aqta:List Rat->List aqua->Nat->List Rat
 | P,_,0=>P
 | _,row :: R,t + 1=>aqta row.2.2 R t
 | _,[],_ + 1=>[]
theorem aQp (P:List Rat) (R:List aqua):aqta P R 0=P:=by cases R <;> rfl
theorem aV0:∀ (P:List Rat) (R:List aqua) (t:Nat) (row:aqua),R[t]?=some row->aqta P R (t + 1)=row.2.2
 | _,[],_,_,e=>by simp at e
 | P,r :: R,0,row,e=>by
  have e:r=row:=by simpa using e
  subst e;show aqta r.2.2 R 0=r.2.2;cases R <;> rfl
 | P,r :: R,t + 1,row,e=>aV0 r.2.2 R t row (by simpa using e)
structure RowOk (h:List aqud) (ch:List Int) (P:List Rat) (row:aqua):Prop where
 liked:row.1∈Ps h
 new:row.1 ∉ ch
 rate:avq h P row.1 (aqsq h)=some row.2.1
 least:∀ d r',d∈Ps h->d ∉ ch->avq h P d (aqsq h)=some r'->row.2.1 <= r'
 paid:row.2.2=ajx h P row.1 row.2.1
 first:∀ d r',d∈Ps h->d ∉ ch->d < row.1->avq h P d (aqsq h)=some r'->row.2.1 < r'
structure PurOk (h:List aqud) (t:Nat) (P:List Rat):Prop where
 len:P.length=h.length
 size:azc t P
theorem ak0:∀ (l:List (Int × Rat)) (a o:Int × Rat),(∀ q∈l,a.1 < q.1)->l.Pairwise (fun a b=>a.1 < b.1)->l.foldl aK (some a)=some o->(a=o \/ a.1 < o.1/\o.2 < a.2)/\∀ q∈l,q.1 < o.1->o.2 < q.2
 | [],a,o,_,_,e=>by
  have e:a=o:=by simpa using e
  exact ⟨.inl e,by simp⟩
 | b :: l,a,o,h1,h2,e=>by
  rw [List.foldl_cons] at e;rw [pairwise_cons] at h2;simp only [aK] at e;have hab:=h1 b (by simp)
  by_cases hlt:b.2 < a.2
  ·rw [if_pos hlt] at e
   obtain ⟨i1,i2⟩:=ak0 l b o h2.1 h2.2 e;refine ⟨.inr ?_,fun q hq hqo=>?_⟩
   ·rcases i1 with z | ⟨z1,z2⟩
    ·rw [<- z]; exact ⟨hab,hlt⟩
    ·exact ⟨by omega,by grind⟩
   ·rcases Al.mp hq with z | hq
    ·subst z
     rcases i1 with y | ⟨y1,y2⟩
     ·rw [y] at hqo; omega
     ·exact y2
    ·exact i2 q hq hqo
  ·rw [if_neg hlt] at e
   obtain ⟨i1,i2⟩:=ak0 l a o (fun q hq=>h1 q (by simp [hq])) h2.2 e;refine ⟨i1,fun q hq hqo=>?_⟩;rcases Al.mp hq with z | hq
   ·subst z
    rcases i1 with y | ⟨y1,y2⟩
    ·rw [<- y] at hqo; omega
    ·grind
   ·exact i2 q hq hqo
theorem aZo {l:List (Int × Rat)} {o:Int × Rat} (hs:l.Pairwise (fun a b=>a.1 < b.1)) (e:aO l=some o):∀ q∈l,q.1 < o.1->o.2 < q.2:=by
 cases l with
 | nil=>intro q hq; simp at hq
 | cons a l =>
  rw [pairwise_cons] at hs;obtain ⟨i1,i2⟩:=ak0 l a o hs.1 hs.2 e;intro q hq hqo;rcases Al.mp hq with z | hq
  ·subst z
   rcases i1 with y | ⟨y1,y2⟩
   ·rw [y] at hqo; omega
   ·exact y2
  ·exact i2 q hq hqo
theorem aWh (h:List aqud) (P:List Rat) (ch:List Int):(aD h P ch).Pairwise (fun a b=>a.1 < b.1):=by
 unfold aD;have hr:((Ps h).filter fun c=>!has ch c).Pairwise (· < ·):=List.Pairwise.sublist (List.filter_sublist.trans (aqay h)) aVt;refine List.Pairwise.filterMap _ (fun a b hab x hx y hy=>?_) hr;cases ha:avq h P a (aqsq h) with
 | none=>rw [ha] at hx; cases hx
 | some r=>cases hb:avq h P b (aqsq h) with
  | none=>rw [hb] at hy; cases hy
  | some r' =>
   rw [ha] at hx; rw [hb] at hy;have hx:(a,r)=x:=by simpa using hx
   have hy:(b,r')=y:=by simpa using hy
   subst hx hy;exact hab
theorem aqkk {h:List aqud} (k:okW h) {t:Nat} {P:List Rat} (pk:PurOk h t P) (ht:t <= 18) {ch:List Int} {o:Int × Rat} (ho:aO (aD h P ch)=some o):RowOk h ch P (o.1,o.2,ajx h P o.1 o.2)/\PurOk h (t + 1) (ajx h P o.1 o.2):=by
 obtain ⟨w1,w2,w3⟩:=azt (ajt ho);have hN:=aQd k (aQw w1);refine ⟨⟨w1,w2,w3,fun d r' h1 h2 h3=>aZn ho (d,r') (av5 h1 h2 h3),rfl,fun d r' h1 h2 h4 h3=>aZo (aWh h P ch) ho (d,r') (av5 h1 h2 h3) h4⟩,⟨by rw [aqa5]; exact pk.len,aJx k pk.len pk.size ht w1 hN w3⟩⟩
theorem awv {h:List aqud} (k:okW h):∀ (n:Nat) (P:List Rat) (ch:List Int) (t0:Nat),PurOk h t0 P->t0 + n <= 18->(aKf h ch).length <= n ->
  (∀ t row,(jt h n P ch)[t]?=some row->PurOk h (t0 + t) (aqta P (jt h n P ch) t)/\RowOk h (ch++((jt h n P ch).take t).map (·.1)) (aqta P (jt h n P ch) t) row) /\
  PurOk h (t0 + (jt h n P ch).length) (aqta P (jt h n P ch) (jt h n P ch).length)/\(∀ d∈Ps h,d ∉ ch++(jt h n P ch).map (·.1)->avq h (aqta P (jt h n P ch) (jt h n P ch).length) d (aqsq h)=none)
 | 0,P,ch,t0,pk,ht,hn=>by
  refine ⟨fun t row e=>by simp [jt] at e,pk,fun d h1 h2=>?_⟩
  have:=aw2 (P:=P) (show (aKf h ch).length=0 by omega)
  cases hq:avq h P d (aqsq h) with
  | none=>exact hq
  | some r =>
   have:=av5 h1 (by simpa [jt] using h2) hq
   rw [‹aD h P ch=[]›] at this; cases this
 | n + 1,P,ch,t0,pk,ht,hn=>by
  cases ho:aO (aD h P ch) with
  | none =>
   have e:jt h (n + 1) P ch=[]:=by simp only [jt,ho]
   rw [e];refine ⟨fun t row e=>by simp at e,pk,fun d h1 h2=>?_⟩;cases hq:avq h P d (aqsq h) with
   | none=>exact hq
   | some r =>
    have:=av5 h1 (by simpa using h2) hq
    rw [aWl ho] at this; cases this
  | some o =>
   have e:jt h (n + 1) P ch=(o.1,o.2,ajx h P o.1 o.2) :: jt h n (ajx h P o.1 o.2) (ch++[o.1]):=by simp only [jt,ho]
   rw [e];obtain ⟨s1,s2⟩:=aqkk k pk (by omega) ho;have lt:=aqaz s1.liked s1.new;obtain ⟨i1,i2,i3⟩:=awv k n (ajx h P o.1 o.2) (ch++[o.1]) (t0 + 1) s2 (by omega) (by simp only at lt; omega);refine ⟨fun t row et=>?_,?_,fun d h1 h2=>?_⟩
   ·cases t with
    | zero =>
     have er:(o.1,o.2,ajx h P o.1 o.2)=row:=by simpa using et
     subst er;exact ⟨by rw [aQp]; exact pk,by rw [aQp]; simpa using s1⟩
    | succ t =>
     obtain ⟨j1,j2⟩:=i1 t row (by simpa using et);refine ⟨?_,?_⟩
     ·have:t0 + (t + 1)=t0 + 1 + t:=by omega
      rw [this]; exact j1
     ·have ee:ch++(((o.1,o.2,ajx h P o.1 o.2) :: jt h n (ajx h P o.1 o.2) (ch++[o.1])).take (t + 1)).map (·.1)=(ch++[o.1])++((jt h n (ajx h P o.1 o.2) (ch++[o.1])).take t).map (·.1):=by simp
      rw [ee]; exact j2
   ·have:t0 + ((o.1,o.2,ajx h P o.1 o.2) :: jt h n (ajx h P o.1 o.2) (ch++[o.1])).length=t0 + 1 + (jt h n (ajx h P o.1 o.2) (ch++[o.1])).length:=by simp; omega
    rw [this];exact i2
   ·exact i3 d h1 (by simpa using h2)
theorem aqgc (R:List (Int × Rat × List Rat)) (hl:R.length <= 1000):aG [axe R]=some (ay (R.map (·.1))):=by
 have hc:av0 (geN 0) qT (oE (f2 dIx (aqtq 0) (fC (.int 0)))) (R.map aqt5) [none]=some (R.map fun r=>O.sh (.int r.1)):=by
  have:=aB (inj:=aqt5) (g:=geN 0) (c:=qT) (e:=oE (f2 dIx (aqtq 0) (fC (.int 0)))) (fun ρ=>∃ d,ρ=[d]) (fun _=>true) (fun r=>O.sh (.int r.1)) R [none] ⟨_,rfl⟩ (by
   rintro r _ ρ ⟨d,rfl⟩
   have:dIx (aqt5 r) (.int 0)=some (.int r.1):=aqbw
   exact ⟨_,rfl,⟨_,rfl⟩,rfl,fun _=>by simp [this]⟩)
  rwa [Av.mpr (by simp)] at this
 have hd:oDs (R.map fun r=>O.sh (.int r.1))=some ((R.map (·.1)).map .int):=by
  have:=azu (f:=fun r:Int × Rat × List Rat=>O.sh (.int r.1)) (g:=fun r=>D.int r.1) (fun p=>by simp) R
  rw [this,map_map]; rfl
 have lg:aJl (axe R)=some (R.map aqt5):=rfl;have hl':R.length <= 100000:=by omega
 simp [aG,aqt4,aqt2,ini,ajo,azv,mkD,lg,hl',aqug,hc,hd,aqed,-map_map]
theorem aqd9 (R:List aqua):shp 20 (axe R)=true:=by
 unfold axe;rw [aqfd];refine aXq.mpr fun d hd=>?_;obtain ⟨r,_,rfl⟩:=Ah.mp hd
 have:aqt0 17 (r.2.2.map frD)=true:=aXq.mpr fun d hd=>by
  obtain ⟨q,_,rfl⟩:=Ah.mp hd;simp [frD]
 simp [aqt5,frD,aqs,this]
theorem aqda (R:List aqua):dEq (axe R) (.lst [])=some (.bl (decide (R=[]))):=by
 have e:eqD (axe R) (.lst [])=decide (R=[]):=by cases R <;> simp [axe,eqD,aqtt]
 simp [dEq,aqd9,e]
theorem aqig (P:List Rat) (R:List aqua) (hR:R ≠ []):dIx (axe R) (.int (-1))=some (aqt5 (R.getLast hR))/\aqta P R R.length=(R.getLast hR).2.2:=by
 have hl:0 < R.length:=G4.mpr hR;have hg:R[R.length - 1]?=some (R.getLast hR):=by rw [List.getLast_eq_getElem,getElem?_eq_getElem]
 refine ⟨?_,?_⟩
 ·have hi:ixP R.length (-1)=some (R.length - 1):=by
   unfold ixP;rw [if_neg (by omega),if_pos (by omega)];congr 1; omega
  simp only [dIx,axe,atP,length_map,hi,Option.bind_some,getElem?_map,hg,Option.map_some]
 ·have:=aV0 P R (R.length - 1) _ hg
  rwa [show R.length - 1 + 1=R.length by omega] at this
theorem aqix (h:List aqud) (hh:h.length <= 100) (seats:Int):aw [aF h,.int seats]=some (aqs (aqb h seats)):=by
 have fr:frD (seats:Rat)=.tup [.int seats,.int 1]:=by simp [frD]
 have hc:av0 (geN 0) qT (oE (aqtr (ak (aqtq 1) (ak (fC (.int 1)) aqu6)))) (h.map ax3) [none,some (.int seats)]=some (h.map fun _=>O.sh (frD (seats:Rat))):=by
  have:=aB (inj:=ax3) (g:=geN 0) (c:=qT) (e:=oE (aqtr (ak (aqtq 1) (ak (fC (.int 1)) aqu6)))) (fun ρ=>∃ d,ρ=[d,some (.int seats)]) (fun _=>true) (fun _=>O.sh (frD (seats:Rat))) h [none,some (.int seats)] ⟨_,rfl⟩ (by
   rintro p _ ρ ⟨d,rfl⟩;exact ⟨_,rfl,⟨_,rfl⟩,rfl,fun _=>by simp [aqug,fr]⟩)
  rwa [Av.mpr (by simp)] at this
 have hd:oDs (h.map fun _=>O.sh (frD (seats:Rat)))=some ((aqb h seats).map frD):=by
  rw [azu (g:=fun _=>frD (seats:Rat)) (fun _=>by simp) h];simp [aqb,List.map_const']
 have hh':h.length <= 100000:=by omega
 simp [aw,aqt4,aqt2,ini,aq5,azv,mkD,hh',aqug,hc,hd];rfl
theorem aqm4 (h:List aqud) (hh:h.length <= 100) (seats:Int) (R:List aqua):aqe [aF h,.int seats,axe R]=some (aqs (aqta (aqb h seats) R R.length)):=by
 have en:=aqda R;have f:=aqix h hh seats
 by_cases hR:R=[]
 ·rw [decide_eq_true hR] at en
  have ep:aqta (aqb h seats) R R.length=aqb h seats:=by rw [hR]; exact aQp _ _
  rw [ep];simp [aqe,aqt4,aqt2,ini,aji,en,f,aqug]
 ·rw [decide_eq_false hR] at en
  obtain ⟨l1,l2⟩:=aqig (aqb h seats) R hR;have x2:dIx (aqt5 (R.getLast hR)) (.int 2)=some (aqs (R.getLast hR).2.2):=rfl;rw [l2];generalize R.getLast hR=last at *;simp [aqe,aqt4,aqt2,ini,aji,en,l1,x2,aqug]
@[irreducible] def ip (h:List aqud) (seats:Int):List aqua:=jt h 6 (aqb h seats) []
@[irreducible] def aqy (h:List aqud) (seats:Int):List aqua:=aKl h seats 6 (aqta (aqb h seats) (ip h seats) (ip h seats).length) (aJk ((ip h seats).map (·.1)))
@[irreducible] def aZ8 (h:List aqud) (seats:Int):List Int:=aJk ((ip h seats).map (·.1)++(aqy h seats).map (·.1))
theorem axu (h:List aqud) (seats:Int):ip h seats=jt h 6 (aqb h seats) []:=by unfold ip; rfl
theorem aka (h:List aqud) (seats:Int):aqy h seats=aKl h seats 6 (aqta (aqb h seats) (ip h seats) (ip h seats).length) (aJk ((ip h seats).map (·.1))):=by unfold aqy; rfl
theorem aqes (h:List aqud) (seats:Int):aZ8 h seats=aJk ((ip h seats).map (·.1)++(aqy h seats).map (·.1)):=by unfold aZ8; rfl
theorem aYm {l:List Int} (hl:l.length < 64):aqjy [ay l]=some ((aJk l).map .int):=by
 simp only [aqjy,ay,av7,Option.bind_some,hl,if_true]
theorem aqd3 (l:List Int):(aJk l).length=l.length:=(azr l).length_eq
theorem aZu {h:List aqud} {seats:Int}:∀ (n:Nat) (P:List Rat) (ch:List Int),(aKl h seats n P ch).length <= n
 | 0,P,ch=>by simp [aKl]
 | n + 1,P,ch=>by
  cases ho:aO (ajd h P ch seats) with
  | none=>simp only [aKl,ho]; simp
  | some o =>
   have:=aZu (h:=h) (seats:=seats) n (aQ h P o) (ch++[o.1])
   simp only [aKl,ho,length_cons];omega
theorem akm {h:List aqud}:∀ (n:Nat) (P:List Rat) (ch:List Int),(jt h n P ch).length <= n
 | 0,P,ch=>by simp [jt]
 | n + 1,P,ch=>by
  cases ho:aO (aD h P ch) with
  | none=>simp only [jt,ho]; simp
  | some o =>
   have:=akm (h:=h) n (ajx h P o.1 o.2) (ch++[o.1])
   simp only [jt,ho,length_cons];omega
theorem aqc9 {h:List aqud} (k:okW h) (seats:Int) (hse:0 <= seats/\seats <= 6):PurOk h (1 + (ip h seats).length) (aqta (aqb h seats) (ip h seats) (ip h seats).length)/\(∀ d∈Ps h,d ∉ (ip h seats).map (·.1)->avq h (aqta (aqb h seats) (ip h seats) (ip h seats).length) d (aqsq h)=none):=by
 have pk0:PurOk h 1 (aqb h seats):=⟨by simp [aqb],aQa h hse.1 hse.2⟩;have hlc:(aKf h []).length <= 6:=le_trans (length_filter_le _ _) (axr h);obtain ⟨r1,r2,r3⟩:=awv k 6 (aqb h seats) [] 1 pk0 (by omega) hlc;rw [<- axu] at r2 r3;exact ⟨r2,fun d h1 h2=>r3 d h1 (by rw [Ju]; exact h2)⟩
theorem aqcc (h:List aqud) (kh:okH h) (k:okW h) (seats:Int) (hse:0 <= seats/\seats <= 6):aw5 [aF h,.int seats]=some (.tup [ay (aZ8 h seats),axe (ip h seats),axe (aqy h seats)]):=by
 have ro:avg [aF h,.int seats]=some (axe (ip h seats)):=by rw [axu]; exact aqdb h kh k seats hse.1 hse.2
 have l1:(ip h seats).length <= 6:=by rw [axu]; exact akm 6 _ _
 have l2:(aqy h seats).length <= 6:=by rw [aka]; exact aZu 6 _ _
 have c1:=aqgc (ip h seats) (by omega);have c2:=aqgc (aqy h seats) (by omega);have hh:=k.len;have la:=aqm4 h (by omega) seats (ip h seats);obtain ⟨e1,_⟩:=aqc9 k seats hse;have h12:1 + (ip h seats).length <= 12:=by omega
 have hs6:(aJk ((ip h seats).map (·.1))).length <= 6:=by rw [aqd3,length_map]; exact l1
 have gr:=aqir h kh k (aqta (aqb h seats) (ip h seats) (ip h seats).length) e1.len e1.size h12 (aJk ((ip h seats).map (·.1))) hs6 seats hse.2;rw [<- aka] at gr;have s1:=aYm (l:=(ip h seats).map (·.1)) (by simp; omega);have s2:=aYm (l:=(ip h seats).map (·.1)++(aqy h seats).map (·.1)) (by simp; omega);have eB:aJk ((ip h seats).map (·.1)++(aqy h seats).map (·.1))=aZ8 h seats:=(aqes h seats).symm;rw [eB] at s2;have hcat:dCat (ay ((ip h seats).map (·.1))) (ay ((aqy h seats).map (·.1)))=some (((ip h seats).map (·.1)++(aqy h seats).map (·.1)).map .int):=by
  have:((ip h seats).map (·.1)).length + ((aqy h seats).map (·.1)).length <= 100000:=by simp; omega
  simp only [dCat,ay,length_map,aqug] at this ⊢;rw [if_pos this,map_append]
 generalize aqta (aqb h seats) (ip h seats) (ip h seats).length=P at *;generalize ip h seats=B at *;generalize aqy h seats=A at *;generalize aZ8 h seats=M at *;have z1:∀ l:List Int,oD (ow (l.map .int))=some (ay l):=fun l=>aqbc l;generalize hCB:B.map (·.1)++A.map (·.1)=CB at *;generalize B.map (·.1)=CA at *;generalize A.map (·.1)=CC at *;generalize aJk CA=SA at *;have im1:imm (ay CA)=false:=by simp [ay]
 have im2:imm (axe B)=false:=by simp [axe]
 have im3:imm (axe A)=false:=by simp [axe]
 simp [aw5,aqt4,aqt2,ini,aqcm,ro,c1,c2,la,gr,s1,s2,hcat,z1,im1,im2,im3,aqug]
def aqtg (names:List Str) (k:Int):Str:=names.getD k.toNat ⟨#[]⟩
def nmD (names:List Str) (s:List Int):D:=.lst (s.map fun k=>.str (aqtg names k))
def nmsD (names:List Str):D:=.lst (names.map D.str)
def Below (n:Nat) (s:List Int):Prop:=∀ k∈s,0 <= k/\k < (n:Int)
theorem aqmb {names:List Str} {k:Int} (h0:0 <= k) (h1:k < (names.length:Int)):dIx (nmsD names) (.int k)=some (.str (aqtg names k)):=by
 obtain ⟨i,rfl⟩:=Dy h0;have hi:i < names.length:=by omega
 have:dIx (nmsD names) (.int (i:Int))=some (.str names[i]):=by
  have:=aqn5 (ds:=names.map .str) (i:=i) (by simpa using hi)
  rw [nmsD,this]; simp
 rw [this];unfold aqtg;simp [hi]
def OkS (names:List Str):Prop:=∀ x∈names,∀ n,shp n (.str x)=true
theorem aqou {names:List Str} (h:OkS names) (k:Int) (n:Nat):shp n (.str (aqtg names k))=true:=by
 unfold aqtg
 by_cases hk:k.toNat < names.length
 ·rw [axc hk]; exact h _ (getElem_mem hk) n
 ·rw [show names.getD k.toNat ⟨#[]⟩=⟨#[]⟩ by simp; rw [Jx (by omega)]; rfl]
  simp [shp]
theorem aYn {α:Type} {f:α->D} {n:Nat}:∀ {l:List α},(∀ a∈l,shp n (f a)=true)->aqt0 n (l.map f)=true
 | [],_=>rfl
 | a :: l,h=>by
  rw [map_cons,aqt0,h a (by simp),aYn fun b hb=>h b (mem_cons_of_mem _ hb)]; rfl
theorem aqkn {names:List Str} (h:OkS names) (s:List Int) (n:Nat):shp (n + 1) (nmD names s)=true:=aYn fun k _=>aqou h k n
def bsR (h:List aqud) (seats:Int):List Int:=(ip h seats).map (·.1)++(aqy h seats).map (·.1)
theorem aVv {h:List aqud}:∀ (n:Nat) (P:List Rat) (ch:List Int),∀ r∈jt h n P ch,r.1∈Ps h
 | 0,_,_,r,hr=>by cases hr
 | n + 1,P,ch,r,hr=>by
  unfold jt at hr;cases e:aO (aD h P ch) with
  | none=>rw [e] at hr; cases hr
  | some o =>
   rw [e] at hr;rcases Al.mp hr with rfl | hr
   ·exact (azt (ajt e)).1
   ·exact aVv n _ _ r hr
theorem aqg4 {h:List aqud} {seats:Int}:∀ (n:Nat) (P:List Rat) (ch:List Int),∀ r∈aKl h seats n P ch,r.1∈Ps h
 | 0,_,_,r,hr=>by cases hr
 | n + 1,P,ch,r,hr=>by
  unfold aKl at hr;cases e:aO (ajd h P ch seats) with
  | none=>rw [e] at hr; cases hr
  | some o =>
   rw [e] at hr;rcases Al.mp hr with rfl | hr
   ·have:=ajt e
    unfold ajd at this;split at this
    ·cases this
    ·obtain ⟨c,hc,rfl⟩:=Ah.mp this
     exact (Ay.mp hc).1
   ·exact aqg4 n _ _ r hr
theorem bs_in {h:List aqud} {seats:Int}:∀ c∈bsR h seats,c∈Ps h:=by
 intro c hc;rcases Dd.mp hc with hc | hc
 ·obtain ⟨r,hr,rfl⟩:=Ah.mp hc
  rw [axu] at hr;exact aVv _ _ _ r hr
 ·obtain ⟨r,hr,rfl⟩:=Ah.mp hc
  rw [aka] at hr;exact aqg4 _ _ _ r hr
theorem aqc8 {n:Nat} {h:List aqud} {seats:Int} (hb:∀ p∈h,Below n p.2):Below n (bsR h seats):=by
 intro k hk
 have:=(Ay.mp (bs_in k hk)).2
 obtain ⟨p,hp,e⟩:=List.any_eq_true.mp this;exact hb p hp k (avw.mp e)
theorem aqjk (h:List aqud) (seats:Int):(ip h seats).length <= 6/\(aqy h seats).length <= 6:=⟨by rw [axu]; exact akm 6 _ _,by rw [aka]; exact aZu 6 _ _⟩
theorem aqg8 {names:List Str} {R:List (Int × Rat × List Rat)} (hb:∀ r∈R,0 <= r.1/\r.1 < (names.length:Int)):av0 (geN 0) qT (oE (f2 dIx (aqtq 1) (f2 dIx (aqtq 0) (fC (.int 0))))) (R.map aqt5) [none,some (nmsD names)]=some (R.map fun r=>O.sh (.str (aqtg names r.1))):=by
 have:=aB (inj:=aqt5) (g:=geN 0) (c:=qT) (e:=oE (f2 dIx (aqtq 1) (f2 dIx (aqtq 0) (fC (.int 0))))) (fun ρ=>∃ d,ρ=[d,some (nmsD names)]) (fun _=>true) (fun r=>O.sh (.str (aqtg names r.1))) R [none,some (nmsD names)] ⟨_,rfl⟩ (by
  rintro r hr ρ ⟨d,rfl⟩;have h0:dIx (aqt5 r) (.int 0)=some (.int r.1):=aqbw;have hx:=aqmb (hb r hr).1 (hb r hr).2;exact ⟨_,rfl,⟨_,rfl⟩,rfl,fun _=>by simp [h0,hx]⟩)
 rwa [Av.mpr (by simp)] at this
theorem aqpr {h:List aqud} (kh:okH h) (k:okW h) (seats:Int) (hse:0 <= seats/\seats <= 6) {names:List Str} (hb:∀ p∈h,Below names.length p.2):azz [aF h,.int seats,nmsD names]=some (nmD names (bsR h seats)):=by
 have be:=aqcc h kh k seats hse;obtain ⟨l1,l2⟩:=aqjk h seats;have bb:=aqc8 (seats:=seats) hb;have c1:=aqg8 (names:=names) (R:=ip h seats) fun r hr=>bb r.1 (Es _ (Ah.mpr ⟨r,hr,rfl⟩));have c2:=aqg8 (names:=names) (R:=aqy h seats) fun r hr=>bb r.1 (mem_append_right _ (Ah.mpr ⟨r,hr,rfl⟩));have od:∀ R:List (Int × Rat × List Rat),oDs (R.map fun r=>O.sh (.str (aqtg names r.1)))=some (R.map fun r=>D.str (aqtg names r.1)):=fun R=>azu (f:=fun r:Int × Rat × List Rat=>O.sh (.str (aqtg names r.1))) (g:=fun r=>D.str (aqtg names r.1)) (fun p=>by simp) R;have e:nmD names (bsR h seats)=.lst ((ip h seats).map (fun r=>D.str (aqtg names r.1))++(aqy h seats).map fun r=>D.str (aqtg names r.1)):=by
  unfold nmD bsR;rw [map_append,map_map,map_map]; rfl
 rw [e];have g1:aJl (axe (ip h seats))=some ((ip h seats).map aqt5):=rfl;have g2:aJl (axe (aqy h seats))=some ((aqy h seats).map aqt5):=rfl;have t1:dIx (.tup [ay (aZ8 h seats),axe (ip h seats),axe (aqy h seats)]) (.int 1)=some (axe (ip h seats)):=rfl;have t2:dIx (.tup [ay (aZ8 h seats),axe (ip h seats),axe (aqy h seats)]) (.int 2)=some (axe (aqy h seats)):=rfl;have l1':(ip h seats).length <= 100000:=by omega
 have l2':(aqy h seats).length <= 100000:=by omega
 have l3:(ip h seats).length + (aqy h seats).length <= 100000:=by omega
 simp [azz,aqt4,aqt2,ini,awa,be,t1,t2,azv,mkD,g1,g2,l1',l2',l3,aqug,c1,c2,od,dCat,-map_map]
theorem law_true (ns:List Int) (h:ns.length <= 63):aqjx [.lst (ns.map .int)]=some (.bl true):=aqe3 ns h
end L_k62
set_option maxHeartbeats 1000000
namespace L_k62
open PySem PySem.Spec PyProof.Rows L2 DL
def top (i:Nat):Stmt:=PySem.Challenge.pw_pursebench_k62_benches_by_names.main.body.getD i (.Pass ⟨0,0,0,0⟩)
abbrev aj0:Stmt:=top 35
abbrev aYz:Stmt:=top 22
abbrev aYw:Stmt:=top 25
abbrev az9:Stmt:=top 2
abbrev azf:Stmt:=top 8
abbrev aX0:Stmt:=top 7
abbrev aXy:Stmt:=top 6
abbrev aQm:Stmt:=top 18
abbrev ajk:Stmt:=top 23
abbrev avb:Stmt:=top 24
abbrev ava:Stmt:=top 3
abbrev aYt:Stmt:=top 19
abbrev aqgw:Stmt:=top 32
abbrev aYv:Stmt:=top 5
abbrev aXx:Stmt:=top 37
abbrev aYu:Stmt:=top 21
abbrev ajz:Stmt:=top 34
abbrev aqgy:Stmt:=top 33
abbrev aXw:Stmt:=top 36
abbrev ajl:Stmt:=top 41
abbrev aQl:Stmt:=top 4
abbrev aqgu:Stmt:=top 27
abbrev aYs:Stmt:=top 29
abbrev aqgx:Stmt:=top 20
abbrev ajj:Stmt:=top 30
abbrev aYx:Stmt:=top 28
abbrev axj:Stmt:=top 40
abbrev aYy:Stmt:=top 39
abbrev avc:Stmt:=top 48
abbrev akl:Stmt:=top 51
abbrev aqgz:Stmt:=top 53
structure Txt (mg:Str->Option Value):Prop where
 z_abs:mg "abs"=none
 z_all:mg "all"=none
 z_enumerate:mg "enumerate"=none
 z_len:mg "len"=none
 z_list:mg "list"=none
 z_set:mg "set"=none
 z_sorted:mg "sorted"=none
 z_sum:mg "sum"=none
 z_zip:mg "zip"=none
section
variable {P:Ak} {w:World} {K:Frag} {mg:Str->Option Value} {base:Heap}
theorem awl:FnScope ["heap","seats"] ["heap","seats"] (af aj0):=fsc
theorem awn {f:Addr} {fd:Am} (F:Fun K "first_purses" "first_purses" aj0 f fd) (T:Txt mg) :FnOk P w K mg base CX0 1 f fd ["heap","seats"] (spD K 2 aw) :=
 FnOk.d (fnO F awl (k:=0) (n:=2) (m:=2) (b:=aq5) rfl rfl fun cdv A outer s H E hr =>
  (ao (aH (DO.m _ (aW (cl:=_) (N':=["pile","seats"]) (js:=[none,some 1]) (by o_reads) (by exact (aJ (ag 0 (pv 0)))) (fun _ _ _ q=>aE q) (by exact fun _ _ _ _ _=>(aA 0 (pgc 0))) (by exact fun _ _ _ _ _=>aqr) (by exact fun _ _ _ _ _=>(DE.o (aQ9 (gb (ag 1 (pv 1)) (gb ar al))))))))))
theorem aqgt:FnScope ["one","other"] ["one","other"] (af aYz):=fsc
theorem aqhy {f:Addr} {fd:Am} (F:Fun K "below" "below" aYz f fd) (T:Txt mg) :FnOk P w K mg base CX0 1 f fd ["one","other"] (spD K 2 avt) :=
 FnOk.d (fnO F aqgt (k:=0) (n:=2) (m:=2) (b:=aqcn) rfl rfl fun cdv A outer s H E hr =>
  (ao (aH (DE.m _ (aqmy aqle aqhl (axd aN aM (aqv (ag 0 (pv 0)) ar (fun _ _=>rfl)) (aqv (ag 1 (pv 1)) ar (fun _ _=>rfl))) (axd aN aM (aqv (ag 1 (pv 1)) ar (fun _ _=>rfl)) (aqv (ag 0 (pv 0)) ar (fun _ _=>rfl))) (aqg _))))))
theorem aQi:FnScope ["offers","found","offer"] ["offers"] (af aYw):=fsc
theorem aqhv {f:Addr} {fd:Am} (F:Fun K "least" "least" aYw f fd) (T:Txt mg) (G_below:Fn P w K mg base 1 "below" ["one","other"] (spD K 2 avt)):FnOk P w K mg base CX0 2 f fd ["offers"] (spD K 1 axp) :=
 FnOk.d (fnO F aQi (k:=1) (n:=1) (m:=3) (b:=aqck) rfl rfl fun cdv A outer s H E hr =>
  (ah (cC 1 (aq (i:=1) aQi.nd rfl (.inl rfl) (DE.m _ aWp)))
   (ah (aqbo Be rfl (ag 0 (pv 0)) (avz 2 (aq0 (i:=2) aQi.nd rfl (.inl rfl))) (ao (aqcs (DW.dt (dw_or (ax6 aqor aqol (ag 1 (pv 1)) aWp (aqg _)) (aqpq (aqj2 (ajv G_below (hm hr) rfl (gb (aqv (ag 2 (pv 2)) ar (fun _ _=>rfl)) (gb (aqv (ag 1 (pv 1)) ar (fun _ _=>rfl)) al))))))) (ao (cC 1 (aq (i:=1) aQi.nd rfl (.inl rfl) (DE.m _ (ag 2 (pv 2)))))) azb)))
   (ao (aH (DE.m _ (ag 1 (pv 1))))))))
theorem aXr:FnScope ["heap"] ["heap"] (af az9):=fsc
theorem aZe {f:Addr} {fd:Am} (F:Fun K "weight_of" "weight_of" az9 f fd) (T:Txt mg) :FnOk P w K mg base CX0 1 f fd ["heap"] (spD K 1 aqn) :=
 FnOk.d (fnO F aXr (k:=0) (n:=1) (m:=1) (b:=avl) rfl rfl fun cdv A outer s H E hr =>
  (ao (aH (DE.m _ (aj5 (aJc rfl) aJa rfl T.z_sum aqjj (gb (DO.de (aW (cl:=_) (N':=["weight","marks"]) (js:=[none,none]) (by o_reads) (by exact (aJ (ag 0 (pv 0)))) (fun _ _ _ q=>aE q) (by exact fun _ _ _ _ _=>(aKr rfl (ajh (aA 0 (pgc 0)) (ajh (aA 1 (pgc 1)) aQ8)))) (by exact fun _ _ _ _ _=>aqr) (by exact fun _ _ _ _ _=>(DE.o (ag 0 (pv 0)))))) al))))))
theorem aJo:FnScope ["pile","some"] ["pile","some"] (af azf):=fsc
theorem aJy {f:Addr} {fd:Am} (F:Fun K "likes_each" "likes_each" azf f fd) (T:Txt mg) :FnOk P w K mg base CX0 1 f fd ["pile","some"] (spD K 2 aqa) :=
 FnOk.d (fnO F aJo (k:=0) (n:=2) (m:=2) (b:=azm) rfl rfl fun cdv A outer s H E hr =>
  (ao (aH (DE.m _ (aj5 (aK0 rfl) aqep rfl T.z_all aqnb (gb (DO.de (aW (cl:=_) (N':=["candidate","pile"]) (js:=[none,some 0]) (by o_reads) (by exact (aJ (ag 1 (pv 1)))) (fun _ _ _ q=>aE q) (by exact fun _ _ _ _ _=>(aA 0 (pgc 0))) (by exact fun _ _ _ _ _=>aqr) (by exact fun _ _ _ _ _=>(DE.o (aqmy (aqac (aqg3 hr)) aqlb (ag 0 (pv 0)) (aqv (ag 1 (pv 1)) ar (fun _ _=>rfl)) (by rfl)))))) al))))))
theorem aqd7:FnScope ["heap","some"] ["heap","some"] (af aX0):=fsc
theorem aqdv {f:Addr} {fd:Am} (F:Fun K "agreed" "agreed" aX0 f fd) (T:Txt mg) (G_likes_each:Fn P w K mg base 1 "likes_each" ["pile","some"] (spD K 2 aqa)):FnOk P w K mg base CX0 2 f fd ["heap","some"] (spO K 2 akv) :=
 fnO F aqd7 (k:=1) (n:=2) (m:=2) (b:=aVf) rfl rfl fun cdv A outer s H E hr =>
  (ao (aH (DO.m _ (aW (cl:=_) (N':=["place","pile","some"]) (js:=[none,none,some 1]) (by o_reads) (by exact (aqa1 rfl T.z_enumerate (ag 0 (pv 0)))) (fun _ _ _ q=>aKu q) (by exact fun _ _ _ _ _=>(aKr rfl (ajh (aA 0 (pgc 0)) (ajh (aA 1 (pgc 1)) aQ8)))) (by exact fun _ _ _ _ _=>(aQ7 (aqj2 (ajv G_likes_each (hm hr) rfl (gb (ag 1 (pv 1)) (gb (ag 2 (pv 2)) al)))))) (by exact fun _ _ _ _ _=>(DE.o (ag 0 (pv 0))))))))
theorem aqd6:FnScope ["heap","candidate"] ["heap","candidate"] (af aXy):=fsc
theorem aqdt {f:Addr} {fd:Am} (F:Fun K "likers" "likers" aXy f fd) (T:Txt mg) (G_agreed:Fn P w K mg base 2 "agreed" ["heap","some"] (spO K 2 akv)):FnOk P w K mg base CX0 3 f fd ["heap","candidate"] (spO K 2 aq8) :=
 fnO F aqd6 (k:=2) (n:=2) (m:=2) (b:=aVe) rfl rfl fun cdv A outer s H E hr =>
  (ao (aH (DO.m _ (aqja G_agreed (hm hr) rfl (gb (ag 0 (pv 0)) (gb (DO.de (aZ1 (gb (ag 1 (pv 1)) al))) al))))))
theorem ajq:FnScope ["one","other","greater","rest","remainder"] ["one","other"] (af aQm):=fsc
theorem aqag {f:Addr} {fd:Am} (F:Fun K "divisor" "divisor" aQm f fd) (T:Txt mg) :FnOk P w K mg base CX0 1 f fd ["one","other"] (spD K 2 aj3) :=
 FnOk.d (fnO F ajq (k:=0) (n:=2) (m:=5) (b:=aJh) rfl rfl fun cdv A outer s H E hr =>
  (ah (cC 2 (aq (i:=2) ajq.nd rfl (.inl rfl) (DE.m _ (aj5 aqc7 aKz rfl T.z_abs aqnc (gb (ag 0 (pv 0)) al)))))
   (ah (cC 3 (aq (i:=3) ajq.nd rfl (.inl rfl) (DE.m _ (aj5 aqc7 aKz rfl T.z_abs aqnc (gb (ag 1 (pv 1)) al)))))
   (ah (aZy Be (ax6 (aqdq hr.units) aqoj (ag 3 (pv 3)) ar (aqg _)) (ah (cC 4 (aq (i:=4) ajq.nd rfl (.inl rfl) (DE.m _ (axd aqaa aqa8 (ag 2 (pv 2)) (ag 3 (pv 3))))))
   (ah (cC 2 (aq (i:=2) ajq.nd rfl (.inl rfl) (DE.m _ (ag 3 (pv 3)))))
   (ao (cC 3 (aq (i:=3) ajq.nd rfl (.inl rfl) (DE.m _ (ag 4 (pv 4)))))))))
   (ao (aH (DE.m _ (ag 2 (pv 2)))))))))
theorem aL:FnScope ["fractions","bottom","top","own"] ["fractions"] (af ajk):=fsc
theorem akt {f:Addr} {fd:Am} (F:Fun K "common_bottom" "common_bottom" ajk f fd) (T:Txt mg) (G_divisor:Fn P w K mg base 1 "divisor" ["one","other"] (spD K 2 aj3)):FnOk P w K mg base CX0 2 f fd ["fractions"] (spD K 1 az) :=
 FnOk.d (fnO F aL (k:=1) (n:=1) (m:=4) (b:=ajn) rfl rfl fun cdv A outer s H E hr =>
  (ah (cC 1 (aq (i:=1) aL.nd rfl (.inl rfl) (DE.m _ ar)))
   (ah (aqbo Be rfl (ag 0 (pv 0)) (aqjc rfl (avj (avz 2 (aq0 (i:=2) aL.nd rfl (.inl rfl))) (avj (avz 3 (aq0 (i:=3) aL.nd rfl (.inl rfl))) aqbt))) (ao (cC 1 (aq (i:=1) aL.nd rfl (.inl rfl) (DE.m _ (axd aN aM (ag 1 (pv 1)) (axd aV7 aV4 (ag 3 (pv 3)) (ajv G_divisor (hm hr) rfl (gb (ag 1 (pv 1)) (gb (ag 3 (pv 3)) al))))))))))
   (ao (aH (DE.m _ (ag 1 (pv 1))))))))
theorem aXt:FnScope ["bottom","fractions"] ["bottom","fractions"] (af avb):=fsc
theorem aZg {f:Addr} {fd:Am} (F:Fun K "tops_over" "tops_over" avb f fd) (T:Txt mg) :FnOk P w K mg base CX0 1 f fd ["bottom","fractions"] (spD K 2 aqp) :=
 FnOk.d (fnO F aXt (k:=0) (n:=2) (m:=2) (b:=avn) rfl rfl fun cdv A outer s H E hr =>
  (ao (aH (DO.m _ (aW (cl:=_) (N':=["top","own","bottom"]) (js:=[none,none,some 0]) (by o_reads) (by exact (aJ (ag 1 (pv 1)))) (fun _ _ _ q=>aE q) (by exact fun _ _ _ _ _=>(aKr rfl (ajh (aA 0 (pgc 0)) (ajh (aA 1 (pgc 1)) aQ8)))) (by exact fun _ _ _ _ _=>aqr) (by exact fun _ _ _ _ _=>(DE.o (axd aN aM (ag 0 (pv 0)) (axd aV7 aV4 (ag 2 (pv 2)) (ag 1 (pv 1)))))))))))
theorem aXs:FnScope ["heap","places"] ["heap","places"] (af ava):=fsc
theorem aZf {f:Addr} {fd:Am} (F:Fun K "weight_at" "weight_at" ava f fd) (T:Txt mg) :FnOk P w K mg base CX0 1 f fd ["heap","places"] (spD K 2 aqo) :=
 FnOk.d (fnO F aXs (k:=0) (n:=2) (m:=2) (b:=avm) rfl rfl fun cdv A outer s H E hr =>
  (ao (aH (DE.m _ (aj5 (aJc rfl) aJa rfl T.z_sum aqjj (gb (DO.de (aW (cl:=_) (N':=["place","heap"]) (js:=[none,some 0]) (by o_reads) (by exact (aJ (ag 1 (pv 1)))) (fun _ _ _ q=>aE q) (by exact fun _ _ _ _ _=>(aA 0 (pgc 0))) (by exact fun _ _ _ _ _=>aqr) (by exact fun _ _ _ _ _=>(DE.o (aqv (aqv (ag 1 (pv 1)) (ag 0 (pv 0)) (fun _ _=>rfl)) ar (fun _ _=>rfl)))))) al))))))
theorem aXu:FnScope ["top","bottom","common"] ["top","bottom"] (af aYt):=fsc
theorem aqhr {f:Addr} {fd:Am} (F:Fun K "share" "share" aYt f fd) (T:Txt mg) (G_divisor:Fn P w K mg base 1 "divisor" ["one","other"] (spD K 2 aj3)):FnOk P w K mg base CX0 2 f fd ["top","bottom"] (spD K 2 axn) :=
 FnOk.d (fnO F aXu (k:=1) (n:=2) (m:=3) (b:=aqch) rfl rfl fun cdv A outer s H E hr =>
  (ah (aqcs (ax6 (aqho hr.units) aqhm (ag 1 (pv 1)) ar (aqg _)) (ao aqj5) azb)
   (ah (cC 2 (aq (i:=2) aXu.nd rfl (.inl rfl) (DE.m _ (ajv G_divisor (hm hr) rfl (gb (ag 0 (pv 0)) (gb (ag 1 (pv 1)) al))))))
   (ah (aqcs (ax6 aqle aqhl (ag 1 (pv 1)) ar (aqg _)) (ao (cC 2 (aq (i:=2) aXu.nd rfl (.inl rfl) (DE.m _ (de_un aqk6 aqf2 (ag 2 (pv 2))))))) azb)
   (ao (aH (DE.m _ (aQ9 (gb (axd aV7 aV4 (ag 0 (pv 0)) (ag 2 (pv 2))) (gb (axd aV7 aV4 (ag 1 (pv 1)) (ag 2 (pv 2))) al))))))))))
theorem ax7:FnScope ["heap","purses","candidate","price","places","bottom","tops","rest","weight","top","place"] ["heap","purses","candidate","price"] (af aqgw):=fsc
theorem aqlh {f:Addr} {fd:Am} (F:Fun K "rate" "rate" aqgw f fd) (T:Txt mg) (G_likers:Fn P w K mg base 3 "likers" ["heap","candidate"] (spO K 2 aq8)) (G_common_bottom:Fn P w K mg base 2 "common_bottom" ["fractions"] (spD K 1 az)) (G_tops_over:Fn P w K mg base 1 "tops_over" ["bottom","fractions"] (spD K 2 aqp)) (G_weight_at:Fn P w K mg base 1 "weight_at" ["heap","places"] (spD K 2 aqo)) (G_share:Fn P w K mg base 2 "share" ["top","bottom"] (spD K 2 axn)):FnOk P w K mg base CX0 4 f fd ["heap","purses","candidate","price"] (spD K 4 aZl) :=
 FnOk.d (fnO F ax7 (k:=3) (n:=4) (m:=11) (b:=aqev) rfl rfl fun cdv A outer s H E hr =>
  (ah (cC 4 (aq (i:=4) ax7.nd rfl (.inl rfl) (DO.m _ (aqja G_likers (hm hr) rfl (gb (ag 0 (pv 0)) (gb (ag 2 (pv 2)) al))))))
   (ah (cC 5 (aq (i:=5) ax7.nd rfl (.inl rfl) (DE.m _ (ajv G_common_bottom (hm hr) rfl (gb (DO.de (aW (cl:=_) (N':=["place","purses"]) (js:=[none,some 1]) (by o_reads) (by exact (aJ (ag 4 (pv 4)))) (fun _ _ _ q=>aE q) (by exact fun _ _ _ _ _=>(aA 0 (pgc 0))) (by exact fun _ _ _ _ _=>aqr) (by exact fun _ _ _ _ _=>(DE.o (aqv (ag 1 (pv 1)) (ag 0 (pv 0)) (fun _ _=>rfl)))))) al)))))
   (ah (cC 6 (aq (i:=6) ax7.nd rfl (.inl rfl) (DE.m _ (ajv G_tops_over (hm hr) rfl (gb (ag 5 (pv 5)) (gb (DO.de (aW (cl:=_) (N':=["place","purses"]) (js:=[none,some 1]) (by o_reads) (by exact (aJ (ag 4 (pv 4)))) (fun _ _ _ q=>aE q) (by exact fun _ _ _ _ _=>(aA 0 (pgc 0))) (by exact fun _ _ _ _ _=>aqr) (by exact fun _ _ _ _ _=>(DE.o (aqv (ag 1 (pv 1)) (ag 0 (pv 0)) (fun _ _=>rfl)))))) al))))))
   (ah (cC 7 (aq (i:=7) ax7.nd rfl (.inl rfl) (DE.m _ (axd aN aM (ag 3 (pv 3)) (ag 5 (pv 5))))))
   (ah (cC 8 (aq (i:=8) ax7.nd rfl (.inl rfl) (DE.m _ (ajv G_weight_at (hm hr) rfl (gb (ag 0 (pv 0)) (gb (ag 4 (pv 4)) al))))))
   (ah (aqbo Be rfl (DO.de (aZz rfl rfl rfl T.z_sorted T.z_zip (gb (ag 6 (pv 6)) (gb (ag 4 (pv 4)) al)))) (aqjc rfl (avj (avz 9 (aq0 (i:=9) ax7.nd rfl (.inl rfl))) (avj (avz 10 (aq0 (i:=10) ax7.nd rfl (.inl rfl))) aqbt))) (ah (aqcs (ax6 op_le aqla (ag 7 (pv 7)) (axd aN aM (ag 8 (pv 8)) (ag 9 (pv 9))) (aqg _)) (ao (aH (DE.m _ (ajv G_share (hm hr) rfl (gb (ag 7 (pv 7)) (gb (axd aN aM (ag 8 (pv 8)) (ag 5 (pv 5))) al)))))) azb)
   (ah (cC 7 (aq (i:=7) ax7.nd rfl (.inl rfl) (DE.m _ (axd aZd aV2 (ag 7 (pv 7)) (axd aN aM (aqv (aqv (ag 0 (pv 0)) (ag 10 (pv 10)) (fun _ _=>rfl)) ar (fun _ _=>rfl)) (ag 9 (pv 9)))))))
   (ao (cC 8 (aq (i:=8) ax7.nd rfl (.inl rfl) (DE.m _ (axd aZd aV2 (ag 8 (pv 8)) (aqv (aqv (ag 0 (pv 0)) (ag 10 (pv 10)) (fun _ _=>rfl)) ar (fun _ _=>rfl))))))))))
   (ao (aH (DE.m _ aWp))))))))))
theorem aQh:FnScope ["heap","found","weight","marks"] ["heap"] (af aYv):=fsc
theorem aqhu {f:Addr} {fd:Am} (F:Fun K "liked" "liked" aYv f fd) (T:Txt mg) :FnOk P w K mg base CX0 1 f fd ["heap"] (spO K 1 avs) :=
 fnO F aQh (k:=0) (n:=1) (m:=4) (b:=aqcj) rfl rfl fun cdv A outer s H E hr =>
  (ah (cC 1 (aq (i:=1) aQh.nd rfl (.inl rfl) (DO.m _ (aZ1 al))))
   (ah (aqbo Be rfl (ag 0 (pv 0)) (aqjc rfl (avj (avz 2 (aq0 (i:=2) aQh.nd rfl (.inl rfl))) (avj (avz 3 (aq0 (i:=3) aQh.nd rfl (.inl rfl))) aqbt))) (ao (aqpt (i:=1) (aqz (aqfn Br PySem.F.slot_list_extend PySem.F.type_list_extend aqap (aXb (pv 1)) (gd (ag 3 (pv 3)) cn))))))
   (ao (aH (DO.m _ (aZ0 rfl rfl rfl T.z_sorted T.z_set (ag 1 (pv 1))))))))
theorem av3:FnScope ["heap","purses","rows","chosen","price","rated"] ["heap","purses","rows"] (af aXx):=fsc
theorem aqds {f:Addr} {fd:Am} (F:Fun K "offers" "offers" aXx f fd) (T:Txt mg) (G_weight_of:Fn P w K mg base 1 "weight_of" ["heap"] (spD K 1 aqn)) (G_rate:Fn P w K mg base 4 "rate" ["heap","purses","candidate","price"] (spD K 4 aZl)) (G_liked:Fn P w K mg base 1 "liked" ["heap"] (spO K 1 avs)):FnOk P w K mg base CX0 5 f fd ["heap","purses","rows"] (spD K 3 axo) :=
 FnOk.d (fnO F av3 (k:=4) (n:=3) (m:=6) (b:=aVd) rfl rfl fun cdv A outer s H E hr =>
  (ah (cC 3 (aq (i:=3) av3.nd rfl (.inr rfl) (DO.m _ (aW (cl:=_) (N':=["row"]) (js:=[none]) (by o_reads) (by exact (aJ (ag 2 (pv 2)))) (fun _ _ _ q=>aE q) (by exact fun _ _ _ _ _=>(aA 0 (pgc 0))) (by exact fun _ _ _ _ _=>aqr) (by exact fun _ _ _ _ _=>(DE.o (aqv (ag 0 (pv 0)) ar (fun _ _=>rfl))))))))
   (ah (cC 4 (aq (i:=4) av3.nd rfl (.inr rfl) (DE.m _ (ajv G_weight_of (hm hr) rfl (gb (ag 0 (pv 0)) al)))))
   (ah (aqj6 (i:=5) (cl:=_) (N':=["candidate","heap","purses","price","chosen"]) (js:=[none,some 0,some 1,some 4,some 3]) (by o_reads) (by exact (aJ (DO.de (aqja G_liked (hm hr) rfl (gb (ag 0 (pv 0)) al))))) (fun _ _ _ q=>aE q) (by exact fun _ _ _ _ _=>(aA 0 (pgc 0))) (by exact fun _ _ _ _ _=>(aQ7 (ax6 (aV6 (aqg3 hr)) aV3 (ag 0 (pv 0)) (ag 4 (pv 4)) (by rfl)))) (by exact fun _ _ _ _ _=>(DE.o (aQ9 (gb (ag 0 (pv 0)) (gb (ajv G_rate (hm hr) rfl (gb (ag 1 (pv 1)) (gb (ag 2 (pv 2)) (gb (ag 0 (pv 0)) (gb (ag 3 (pv 3)) al))))) al))))) av3.nd rfl rfl rfl)
   (ao (aH (DO.m _ (aW (cl:=_) (N':=["offer"]) (js:=[none]) (by o_reads) (by exact (aJ (ag 5 (pv 5)))) (fun _ _ _ q=>aE q) (by exact fun _ _ _ _ _=>(aA 0 (pgc 0))) (by exact fun _ _ _ _ _=>(aQ7 (ax6 aqab aqa9 (aqv (ag 0 (pv 0)) ar (fun _ _=>rfl)) aWp (aqg _)))) (by exact fun _ _ _ _ _=>(DE.o (ag 0 (pv 0))))))))))))
theorem aqgs:FnScope ["one","other"] ["one","other"] (af aYu):=fsc
theorem aqht {f:Addr} {fd:Am} (F:Fun K "minus" "minus" aYu f fd) (T:Txt mg) (G_share:Fn P w K mg base 2 "share" ["top","bottom"] (spD K 2 axn)):FnOk P w K mg base CX0 3 f fd ["one","other"] (spD K 2 aw4) :=
 FnOk.d (fnO F aqgs (k:=2) (n:=2) (m:=2) (b:=aqci) rfl rfl fun cdv A outer s H E hr =>
  (ao (aH (DE.m _ (ajv G_share (hm hr) rfl (gb (axd aZd aV2 (axd aN aM (aqv (ag 0 (pv 0)) ar (fun _ _=>rfl)) (aqv (ag 1 (pv 1)) ar (fun _ _=>rfl))) (axd aN aM (aqv (ag 1 (pv 1)) ar (fun _ _=>rfl)) (aqv (ag 0 (pv 0)) ar (fun _ _=>rfl)))) (gb (axd aN aM (aqv (ag 0 (pv 0)) ar (fun _ _=>rfl)) (aqv (ag 1 (pv 1)) ar (fun _ _=>rfl))) al)))))))
theorem awj:FnScope ["purse","due"] ["purse","due"] (af ajz):=fsc
theorem awm {f:Addr} {fd:Am} (F:Fun K "purse_behind" "purse_behind" ajz f fd) (T:Txt mg) (G_below:Fn P w K mg base 1 "below" ["one","other"] (spD K 2 avt)) (G_minus:Fn P w K mg base 3 "minus" ["one","other"] (spD K 2 aw4)):FnOk P w K mg base CX0 4 f fd ["purse","due"] (spD K 2 aS) :=
 FnOk.d (fnO F awj (k:=3) (n:=2) (m:=2) (b:=aq4) rfl rfl fun cdv A outer s H E hr =>
  (ah (aqcs (aqj2 (ajv G_below (hm hr) rfl (gb (ag 0 (pv 0)) (gb (ag 1 (pv 1)) al)))) (ao (aH (DE.m _ (aQ9 (gb ar (gb ar al)))))) azb)
   (ao (aH (DE.m _ (ajv G_minus (hm hr) rfl (gb (ag 0 (pv 0)) (gb (ag 1 (pv 1)) al))))))))
theorem aYr:FnScope ["heap","purses","candidate","due","behind","place"] ["heap","purses","candidate","due"] (af aqgy):=fsc
theorem aqlj {f:Addr} {fd:Am} (F:Fun K "paid" "paid" aqgy f fd) (T:Txt mg) (G_purse_behind:Fn P w K mg base 4 "purse_behind" ["purse","due"] (spD K 2 aS)) (G_likers:Fn P w K mg base 3 "likers" ["heap","candidate"] (spO K 2 aq8)):FnOk P w K mg base CX0 5 f fd ["heap","purses","candidate","due"] (spD K 4 aqat) :=
 FnOk.d (fnO F aYr (k:=4) (n:=4) (m:=6) (b:=aqjo) rfl rfl fun cdv A outer s H E hr =>
  (ah (cC 4 (aq (i:=4) aYr.nd rfl (.inl rfl) (DO.m _ (aKq aj6 aXe rfl T.z_list ak7 (gb (ag 1 (pv 1)) al)))))
   (ah (aqbo Be rfl (DO.de (aqja G_likers (hm hr) rfl (gb (ag 0 (pv 0)) (gb (ag 2 (pv 2)) al)))) (avz 5 (aq0 (i:=5) aYr.nd rfl (.inl rfl))) (ao (aqps (i:=4) (aqoe (DE.m _ (ajv G_purse_behind (hm hr) rfl (gb (aqv (ag 1 (pv 1)) (ag 5 (pv 5)) (fun _ _=>rfl)) (gb (ag 3 (pv 3)) al)))) (aqoh (aXb (pv 4)) (ag 5 (pv 5)) aqgq)))))
   (ao (aH (DE.m _ (ag 4 (pv 4))))))))
theorem axw:FnScope ["heap","seats","purses","rows","offer"] ["heap","seats"] (af aXw):=fsc
theorem aqdr {f:Addr} {fd:Am} (F:Fun K "rounds" "rounds" aXw f fd) (T:Txt mg) (G_first_purses:Fn P w K mg base 1 "first_purses" ["heap","seats"] (spD K 2 aw)) (G_least:Fn P w K mg base 2 "least" ["offers"] (spD K 1 axp)) (G_offers:Fn P w K mg base 5 "offers" ["heap","purses","rows"] (spD K 3 axo)) (G_paid:Fn P w K mg base 5 "paid" ["heap","purses","candidate","due"] (spD K 4 aqat)):FnOk P w K mg base CX0 6 f fd ["heap","seats"] (spD K 2 avg) :=
 FnOk.d (fnO F axw (k:=5) (n:=2) (m:=5) (b:=aVb) rfl rfl fun cdv A outer s H E hr =>
  (ah (cC 2 (aq (i:=2) axw.nd rfl (.inl rfl) (DE.m _ (ajv G_first_purses (hm hr) rfl (gb (ag 0 (pv 0)) (gb (ag 1 (pv 1)) al))))))
   (ah (cC 3 (aq (i:=3) axw.nd rfl (.inl rfl) (DO.m _ (aZ1 al))))
   (ah (cC 4 (aq (i:=4) axw.nd rfl (.inl rfl) (DE.m _ (ajv G_least (hm hr) rfl (gb (ajv G_offers (hm hr) rfl (gb (ag 0 (pv 0)) (gb (ag 2 (pv 2)) (gb (ag 3 (pv 3)) al)))) al)))))
   (ah (aZy Be (ax6 aqab aqa9 (ag 4 (pv 4)) aWp (aqg _)) (ah (cC 2 (aq (i:=2) axw.nd rfl (.inl rfl) (DE.m _ (ajv G_paid (hm hr) rfl (gb (ag 0 (pv 0)) (gb (ag 2 (pv 2)) (gb (aqv (ag 4 (pv 4)) ar (fun _ _=>rfl)) (gb (aqv (ag 4 (pv 4)) ar (fun _ _=>rfl)) al))))))))
   (ah (aqj7 (i:=3) (aqz (aqfn Br B0 B3 aj2 (aXb (pv 3)) (gd (DE.m _ (aQ9 (gb (aqv (ag 4 (pv 4)) ar (fun _ _=>rfl)) (gb (aqv (ag 4 (pv 4)) ar (fun _ _=>rfl)) (gb (ag 2 (pv 2)) al))))) cn))))
   (ao (cC 4 (aq (i:=4) axw.nd rfl (.inl rfl) (DE.m _ (ajv G_least (hm hr) rfl (gb (ajv G_offers (hm hr) rfl (gb (ag 0 (pv 0)) (gb (ag 2 (pv 2)) (gb (ag 3 (pv 3)) al)))) al)))))))))
   (ao (aH (DE.m _ (ag 3 (pv 3))))))))))
theorem akk:FnScope ["rows"] ["rows"] (af ajl):=fsc
theorem aku {f:Addr} {fd:Am} (F:Fun K "candidates_of" "candidates_of" ajl f fd) (T:Txt mg) :FnOk P w K mg base CX0 1 f fd ["rows"] (spD K 1 aG) :=
 FnOk.d (fnO F akk (k:=0) (n:=1) (m:=1) (b:=ajo) rfl rfl fun cdv A outer s H E hr =>
  (ao (aH (DO.m _ (aW (cl:=_) (N':=["row"]) (js:=[none]) (by o_reads) (by exact (aJ (ag 0 (pv 0)))) (fun _ _ _ q=>aE q) (by exact fun _ _ _ _ _=>(aA 0 (pgc 0))) (by exact fun _ _ _ _ _=>aqr) (by exact fun _ _ _ _ _=>(DE.o (aqv (ag 0 (pv 0)) ar (fun _ _=>rfl)))))))))
theorem aYq:FnScope ["heap","amounts","places"] ["heap","amounts","places"] (af aQl):=fsc
theorem aqae {f:Addr} {fd:Am} (F:Fun K "weighed" "weighed" aQl f fd) (T:Txt mg) :FnOk P w K mg base CX0 1 f fd ["heap","amounts","places"] (spD K 3 azy) :=
 FnOk.d (fnO F aYq (k:=0) (n:=3) (m:=3) (b:=aJe) rfl rfl fun cdv A outer s H E hr =>
  (ao (aH (DE.m _ (aj5 (aJc rfl) aJa rfl T.z_sum aqjj (gb (DO.de (aW (cl:=_) (N':=["place","amounts","heap"]) (js:=[none,some 1,some 0]) (by o_reads) (by exact (aJ (ag 2 (pv 2)))) (fun _ _ _ q=>aE q) (by exact fun _ _ _ _ _=>(aA 0 (pgc 0))) (by exact fun _ _ _ _ _=>aqr) (by exact fun _ _ _ _ _=>(DE.o (axd aN aM (aqv (aqv (ag 2 (pv 2)) (ag 0 (pv 0)) (fun _ _=>rfl)) ar (fun _ _=>rfl)) (aqv (ag 1 (pv 1)) (ag 0 (pv 0)) (fun _ _=>rfl))))))) al))))))
theorem aVu:FnScope ["heap","purses","candidate","places","bottom","missing"] ["heap","purses","candidate"] (af aqgu):=fsc
theorem aqlf {f:Addr} {fd:Am} (F:Fun K "wait" "wait" aqgu f fd) (T:Txt mg) (G_likers:Fn P w K mg base 3 "likers" ["heap","candidate"] (spO K 2 aq8)) (G_common_bottom:Fn P w K mg base 2 "common_bottom" ["fractions"] (spD K 1 az)) (G_weight_of:Fn P w K mg base 1 "weight_of" ["heap"] (spD K 1 aqn)) (G_weighed:Fn P w K mg base 1 "weighed" ["heap","amounts","places"] (spD K 3 azy)) (G_tops_over:Fn P w K mg base 1 "tops_over" ["bottom","fractions"] (spD K 2 aqp)) (G_share:Fn P w K mg base 2 "share" ["top","bottom"] (spD K 2 axn)) (G_weight_at:Fn P w K mg base 1 "weight_at" ["heap","places"] (spD K 2 aqo)):FnOk P w K mg base CX0 4 f fd ["heap","purses","candidate"] (spD K 3 aZk) :=
 FnOk.d (fnO F aVu (k:=3) (n:=3) (m:=6) (b:=aqeu) rfl rfl fun cdv A outer s H E hr =>
  (ah (cC 3 (aq (i:=3) aVu.nd rfl (.inl rfl) (DO.m _ (aqja G_likers (hm hr) rfl (gb (ag 0 (pv 0)) (gb (ag 2 (pv 2)) al))))))
   (ah (cC 4 (aq (i:=4) aVu.nd rfl (.inl rfl) (DE.m _ (ajv G_common_bottom (hm hr) rfl (gb (ag 1 (pv 1)) al)))))
   (ah (cC 5 (aq (i:=5) aVu.nd rfl (.inl rfl) (DE.m _ (axd aZd aV2 (axd aN aM (ajv G_weight_of (hm hr) rfl (gb (ag 0 (pv 0)) al)) (ag 4 (pv 4))) (ajv G_weighed (hm hr) rfl (gb (ag 0 (pv 0)) (gb (ajv G_tops_over (hm hr) rfl (gb (ag 4 (pv 4)) (gb (ag 1 (pv 1)) al))) (gb (ag 3 (pv 3)) al))))))))
   (ah (aqcs (ax6 op_le aqla (ag 5 (pv 5)) ar (aqg _)) (ao (aH (DE.m _ (aQ9 (gb ar (gb ar al)))))) azb)
   (ao (aH (DE.m _ (ajv G_share (hm hr) rfl (gb (ag 5 (pv 5)) (gb (axd aN aM (ajv G_weight_at (hm hr) rfl (gb (ag 0 (pv 0)) (gb (ag 3 (pv 3)) al))) (ag 4 (pv 4))) al)))))))))))
theorem aqgr:FnScope ["heap","purses","chosen","seats"] ["heap","purses","chosen","seats"] (af aYs):=fsc
theorem aqhp {f:Addr} {fd:Am} (F:Fun K "waits" "waits" aYs f fd) (T:Txt mg) (G_wait:Fn P w K mg base 4 "wait" ["heap","purses","candidate"] (spD K 3 aZk)) (G_liked:Fn P w K mg base 1 "liked" ["heap"] (spO K 1 avs)):FnOk P w K mg base CX0 5 f fd ["heap","purses","chosen","seats"] (spD K 4 avr) :=
 FnOk.d (fnO F aqgr (k:=4) (n:=4) (m:=4) (b:=aK5) rfl rfl fun cdv A outer s H E hr =>
  (ah (aqcs (ax6 op_ge aqom (aj5 aqc aJb rfl T.z_len awr (gb (ag 2 (pv 2)) al)) (ag 3 (pv 3)) (aqg _)) (ao (aH (DO.m _ (aZ1 al)))) azb)
   (ao (aH (DO.m _ (aW (cl:=_) (N':=["candidate","heap","purses","chosen"]) (js:=[none,some 0,some 1,some 2]) (by o_reads) (by exact (aJ (DO.de (aqja G_liked (hm hr) rfl (gb (ag 0 (pv 0)) al))))) (fun _ _ _ q=>aE q) (by exact fun _ _ _ _ _=>(aA 0 (pgc 0))) (by exact fun _ _ _ _ _=>(aQ7 (ax6 (aV6 (aqg3 hr)) aV3 (ag 0 (pv 0)) (ag 3 (pv 3)) (by rfl)))) (by exact fun _ _ _ _ _=>(DE.o (aQ9 (gb (ag 0 (pv 0)) (gb (ajv G_wait (hm hr) rfl (gb (ag 1 (pv 1)) (gb (ag 2 (pv 2)) (gb (ag 0 (pv 0)) al)))) al)))))))))))
theorem aqkp:FnScope ["one","other"] ["one","other"] (af aqgx):=fsc
theorem aqli {f:Addr} {fd:Am} (F:Fun K "plus" "plus" aqgx f fd) (T:Txt mg) (G_share:Fn P w K mg base 2 "share" ["top","bottom"] (spD K 2 axn)):FnOk P w K mg base CX0 3 f fd ["one","other"] (spD K 2 aJ0) :=
 FnOk.d (fnO F aqkp (k:=2) (n:=2) (m:=2) (b:=aqjn) rfl rfl fun cdv A outer s H E hr =>
  (ao (aH (DE.m _ (ajv G_share (hm hr) rfl (gb (axd aV8 aV5 (axd aN aM (aqv (ag 0 (pv 0)) ar (fun _ _=>rfl)) (aqv (ag 1 (pv 1)) ar (fun _ _=>rfl))) (axd aN aM (aqv (ag 1 (pv 1)) ar (fun _ _=>rfl)) (aqv (ag 0 (pv 0)) ar (fun _ _=>rfl)))) (gb (axd aN aM (aqv (ag 0 (pv 0)) ar (fun _ _=>rfl)) (aqv (ag 1 (pv 1)) ar (fun _ _=>rfl))) al)))))))
theorem axh:FnScope ["heap","purses","offer","places"] ["heap","purses","offer"] (af ajj):=fsc
theorem aks {f:Addr} {fd:Am} (F:Fun K "purses_behind" "purses_behind" ajj f fd) (T:Txt mg) (G_likers:Fn P w K mg base 3 "likers" ["heap","candidate"] (spO K 2 aq8)) (G_plus:Fn P w K mg base 3 "plus" ["one","other"] (spD K 2 aJ0)):FnOk P w K mg base CX0 4 f fd ["heap","purses","offer"] (spD K 3 aX) :=
 FnOk.d (fnO F axh (k:=3) (n:=3) (m:=4) (b:=ajm) rfl rfl fun cdv A outer s H E hr =>
  (ah (cC 3 (aq (i:=3) axh.nd rfl (.inr rfl) (DO.m _ (aqja G_likers (hm hr) rfl (gb (ag 0 (pv 0)) (gb (aqv (ag 2 (pv 2)) ar (fun _ _=>rfl)) al))))))
   (ao (aH (DO.m _ (aW (cl:=_) (N':=["place","purse","places","offer"]) (js:=[none,none,some 3,some 2]) (by o_reads) (by exact (aqa1 rfl T.z_enumerate (ag 1 (pv 1)))) (fun _ _ _ q=>aKu q) (by exact fun _ _ _ _ _=>(aKr rfl (ajh (aA 0 (pgc 0)) (ajh (aA 1 (pgc 1)) aQ8)))) (by exact fun _ _ _ _ _=>aqr) (by exact fun _ _ _ _ _=>(DE.o (de_if (ax6 (aqac (aqg3 hr)) aqlb (ag 0 (pv 0)) (ag 2 (pv 2)) (by rfl)) (aQ9 (gb ar (gb ar al))) (ajv G_plus (hm hr) rfl (gb (ag 1 (pv 1)) (gb (aqv (ag 3 (pv 3)) ar (fun _ _=>rfl)) al))))))))))))
theorem az8:FnScope ["heap","purses","members","seats","chosen","rows","offer"] ["heap","purses","members","seats"] (af aYx):=fsc
theorem aqhw {f:Addr} {fd:Am} (F:Fun K "grown" "grown" aYx f fd) (T:Txt mg) (G_least:Fn P w K mg base 2 "least" ["offers"] (spD K 1 axp)) (G_waits:Fn P w K mg base 5 "waits" ["heap","purses","chosen","seats"] (spD K 4 avr)) (G_purses_behind:Fn P w K mg base 4 "purses_behind" ["heap","purses","offer"] (spD K 3 aX)):FnOk P w K mg base CX0 6 f fd ["heap","purses","members","seats"] (spD K 4 aJ1) :=
 FnOk.d (fnO F az8 (k:=5) (n:=4) (m:=7) (b:=aqcl) rfl rfl fun cdv A outer s H E hr =>
  (ah (cC 4 (aq (i:=4) az8.nd rfl (.inl rfl) (DO.m _ (aKq aj6 aXe rfl T.z_list ak7 (gb (ag 2 (pv 2)) al)))))
   (ah (cC 5 (aq (i:=5) az8.nd rfl (.inl rfl) (DO.m _ (aZ1 al))))
   (ah (cC 6 (aq (i:=6) az8.nd rfl (.inl rfl) (DE.m _ (ajv G_least (hm hr) rfl (gb (ajv G_waits (hm hr) rfl (gb (ag 0 (pv 0)) (gb (ag 1 (pv 1)) (gb (ag 4 (pv 4)) (gb (ag 3 (pv 3)) al))))) al)))))
   (ah (aZy Be (ax6 aqab aqa9 (ag 6 (pv 6)) aWp (aqg _)) (ah (cC 1 (aq (i:=1) az8.nd rfl (.inl rfl) (DE.m _ (ajv G_purses_behind (hm hr) rfl (gb (ag 0 (pv 0)) (gb (ag 1 (pv 1)) (gb (ag 6 (pv 6)) al)))))))
   (ah (aqj7 (i:=5) (aqz (aqfn Br B0 B3 aj2 (aXb (pv 5)) (gd (DE.m _ (aQ9 (gb (aqv (ag 6 (pv 6)) ar (fun _ _=>rfl)) (gb (aqv (ag 6 (pv 6)) ar (fun _ _=>rfl)) (gb (ag 1 (pv 1)) al))))) cn))))
   (ah (aqj7 (i:=4) (aqz (aqfn Br B0 B3 aj2 (aXb (pv 4)) (gd (DE.m _ (aqv (ag 6 (pv 6)) ar (fun _ _=>rfl))) cn))))
   (ao (cC 6 (aq (i:=6) az8.nd rfl (.inl rfl) (DE.m _ (ajv G_least (hm hr) rfl (gb (ajv G_waits (hm hr) rfl (gb (ag 0 (pv 0)) (gb (ag 1 (pv 1)) (gb (ag 4 (pv 4)) (gb (ag 3 (pv 3)) al))))) al))))))))))
   (ao (aH (DE.m _ (ag 5 (pv 5))))))))))
theorem aQj:FnScope ["heap","seats","rows"] ["heap","seats","rows"] (af axj):=fsc
theorem aQv {f:Addr} {fd:Am} (F:Fun K "last_purses" "last_purses" axj f fd) (T:Txt mg) (G_first_purses:Fn P w K mg base 1 "first_purses" ["heap","seats"] (spD K 2 aw)):FnOk P w K mg base CX0 2 f fd ["heap","seats","rows"] (spD K 3 aqe) :=
 FnOk.d (fnO F aQj (k:=1) (n:=3) (m:=3) (b:=aji) rfl rfl fun cdv A outer s H E hr =>
  (ah (aqcs (ax6 (aqho hr.units) aqhm (ag 2 (pv 2)) (DO.de (aZ1 al)) (aqg _)) (ao (aH (DE.m _ (ajv G_first_purses (hm hr) rfl (gb (ag 0 (pv 0)) (gb (ag 1 (pv 1)) al)))))) azb)
   (ao (aH (DE.m _ (aqv (aqv (ag 2 (pv 2)) (de_un aqk6 aqf2 ar) (fun _ _=>rfl)) ar (fun _ _=>rfl)))))))
theorem aQk:FnScope ["heap","seats","bought","chosen","added"] ["heap","seats"] (af aYy):=fsc
theorem aqhx {f:Addr} {fd:Am} (F:Fun K "bench" "bench" aYy f fd) (T:Txt mg) (G_rounds:Fn P w K mg base 6 "rounds" ["heap","seats"] (spD K 2 avg)) (G_candidates_of:Fn P w K mg base 1 "candidates_of" ["rows"] (spD K 1 aG)) (G_grown:Fn P w K mg base 6 "grown" ["heap","purses","members","seats"] (spD K 4 aJ1)) (G_last_purses:Fn P w K mg base 2 "last_purses" ["heap","seats","rows"] (spD K 3 aqe)):FnOk P w K mg base CX0 7 f fd ["heap","seats"] (spD K 2 aw5) :=
 FnOk.d (fnO F aQk (k:=6) (n:=2) (m:=5) (b:=aqcm) rfl rfl fun cdv A outer s H E hr =>
  (ah (cC 2 (aq (i:=2) aQk.nd rfl (.inl rfl) (DE.m _ (ajv G_rounds (hm hr) rfl (gb (ag 0 (pv 0)) (gb (ag 1 (pv 1)) al))))))
   (ah (cC 3 (aq (i:=3) aQk.nd rfl (.inl rfl) (DE.m _ (ajv G_candidates_of (hm hr) rfl (gb (ag 2 (pv 2)) al)))))
   (ah (cC 4 (aq (i:=4) aQk.nd rfl (.inl rfl) (DE.m _ (ajv G_grown (hm hr) rfl (gb (ag 0 (pv 0)) (gb (ajv G_last_purses (hm hr) rfl (gb (ag 0 (pv 0)) (gb (ag 1 (pv 1)) (gb (ag 2 (pv 2)) al)))) (gb (DO.de (aqbr ak6 ak5 rfl T.z_sorted aj7 (gb (ag 3 (pv 3)) al))) (gb (ag 1 (pv 1)) al))))))))
   (ao (aH (DO.m _ (aqms (aZ2 (aqbr ak6 ak5 rfl T.z_sorted aj7 (gb (DO.de (do_op aqad aqfr (ag 3 (pv 3)) (ajv G_candidates_of (hm hr) rfl (gb (ag 4 (pv 4)) al)))) al)) (aZ2 (DE.o (ag 2 (pv 2))) (aZ2 (DE.o (ag 4 (pv 4))) aqn0)))))))))))
theorem aXv:FnScope ["script","k"] ["script","k"] (af avc):=fsc
theorem aZh {f:Addr} {fd:Am} (F:Fun K "_law_cell" "_law_cell" avc f fd) (T:Txt mg) :FnOk P w K mg base CX0 1 f fd ["script","k"] (spD K 2 aT) :=
 FnOk.d (fnO F aXv (k:=0) (n:=2) (m:=2) (b:=ajw) rfl rfl fun cdv A outer s H E hr =>
  (ah (aqcs (ax6 aqle aqhl (ag 1 (pv 1)) (aj5 aqc aJb rfl T.z_len awr (gb (ag 0 (pv 0)) al)) (aqg _)) (ao (aH (DE.m _ (aqv (ag 0 (pv 0)) (ag 1 (pv 1)) (fun _ _=>rfl))))) azb)
   (ah (aqcs (ax6 (aqho hr.units) aqhm (ag 0 (pv 0)) (DO.de (aZ1 al)) (aqg _)) (ao (aH (DE.m _ (axd aV8 aV5 (axd aN aM (axd aN aM (ag 1 (pv 1)) (ag 1 (pv 1))) ar) (axd aN aM ar (ag 1 (pv 1))))))) azb)
   (ao (aH (DE.m _ (axd aqaa aqa8 (axd aN aM (axd aV8 aV5 (axd aV8 aV5 (aqv (ag 0 (pv 0)) (axd aqaa aqa8 (ag 1 (pv 1)) (aj5 aqc aJb rfl T.z_len awr (gb (ag 0 (pv 0)) al))) (fun _ _=>rfl)) (axd aN aM (axd aN aM (ag 1 (pv 1)) (ag 1 (pv 1))) ar)) ar) ar) ar)))))))
theorem awu:FnScope ["heap","seats","names","found"] ["heap","seats","names"] (af akl):=fsc
theorem aWg {f:Addr} {fd:Am} (F:Fun K "_law_due" "_law_due" akl f fd) (T:Txt mg) (G_bench:Fn P w K mg base 7 "bench" ["heap","seats"] (spD K 2 aw5)):FnOk P w K mg base CX0 8 f fd ["heap","seats","names"] (spD K 3 azz) :=
 FnOk.d (fnO F awu (k:=7) (n:=3) (m:=4) (b:=awa) rfl rfl fun cdv A outer s H E hr =>
  (ah (cC 3 (aq (i:=3) awu.nd rfl (.inl rfl) (DE.m _ (ajv G_bench (hm hr) rfl (gb (ag 0 (pv 0)) (gb (ag 1 (pv 1)) al))))))
   (ao (aH (DO.m _ (do_op aqad aqfr (DO.de (aW (cl:=_) (N':=["row","names"]) (js:=[none,some 2]) (by o_reads) (by exact (aJ (aqv (ag 3 (pv 3)) ar (fun _ _=>rfl)))) (fun _ _ _ q=>aE q) (by exact fun _ _ _ _ _=>(aA 0 (pgc 0))) (by exact fun _ _ _ _ _=>aqr) (by exact fun _ _ _ _ _=>(DE.o (aqv (ag 1 (pv 1)) (aqv (ag 0 (pv 0)) ar (fun _ _=>rfl)) (fun _ _=>rfl)))))) (DO.de (aW (cl:=_) (N':=["row","names"]) (js:=[none,some 2]) (by o_reads) (by exact (aJ (aqv (ag 3 (pv 3)) ar (fun _ _=>rfl)))) (fun _ _ _ q=>aE q) (by exact fun _ _ _ _ _=>(aA 0 (pgc 0))) (by exact fun _ _ _ _ _=>aqr) (by exact fun _ _ _ _ _=>(DE.o (aqv (ag 1 (pv 1)) (aqv (ag 0 (pv 0)) ar (fun _ _=>rfl)) (fun _ _=>rfl))))))))))))
end
abbrev azg:Stmt:=top 49
def aqf9 (K:Frag):Sp:=fun vs H Q _=>∃ (F:Hp) (a:Addr) (ns:List Int) (at_ many:Nat),vs=[.ref a,.int (at_:Int),.int (many:Int)]/\aqu9 F H/\SqE K F a (ns.map V.int)/\ns.length <= 63/\at_ + many <= 900/\many <= 12 /\
 ∀ (l:Addr) (H':Hp) (names:List Str),aqu9 H H'->H l=none->H' l=some (.lst (names.map V.str))->names.length=many->names.Nodup->(∀ x∈names,aqi x)->Q (.ref l) H'
section
variable {P:Ak} {w:World} {K:Frag} {mg:Str->Option Value} {base:Heap}
theorem au:FnScope ["script","at","many","letters","names","k","rest","size","name","j"] ["script","at","many"] (af azg):=fsc
theorem aJz {f:Addr} {fd:Am} (F:Fun K "_law_names" "_law_names" azg f fd) (T:Txt mg) (zr:mg "range"=none) (G:Fn P w K mg base 1 "_law_cell" ["script","k"] (spD K 2 aT)):FnOk P w K mg base CX0 2 f fd ["script","at","many"] (aqf9 K):=by
 obtain ⟨fc,fdc,okc,mc,kc,bc⟩:=G;refine F.ok au (k:=1) (fun vs H Q E h=>by obtain ⟨_,_,_,_,_,rfl,_⟩:=h; rfl) fun cdv A outer s H vs Q E hr h=>⟨_,aj (aq (i:=3) au.nd rfl (.inl rfl) aqhe) (aj (aq (i:=4) au.nd rfl (.inl rfl) (aWf cn)) (aj
  (aX4 Be rfl (av4 rfl zr (gd (pv 2) cn)) (aq0 (i:=5) au.nd rfl (.inl rfl))
   (aj (aq (i:=6) au.nd rfl (.inl rfl) (aq6 okc (hm hr) rfl mc kc bc .nil azs (gd (pv 0) (gd (aq3 ax5 (pv 1) (pv 5)) cn))))
   (aj (aq (i:=7) au.nd rfl (.inl rfl) (aq3 ax5 am (aq3 ax4 (pv 6) am)))
   (aj (aq (i:=8) au.nd rfl (.inl rfl) aqhe)
   (aj (aX4 Be rfl (av4 rfl zr (gd (pv 7) cn)) (aq0 (i:=9) au.nd rfl (.inl rfl))
    (aj (aq (i:=6) au.nd rfl (.inl rfl) (aq3 akq (pv 6) am))
    (av (aq (i:=8) au.nd rfl (.inl rfl) (aq3 akr (pv 8) (aZa aqii (pv 3) (aq3 ax4 (pv 6) am) (fun _ _=>rfl)))))))
   (aj (aY8 Be (aqd (aqac (aqg3 hr)) (pv 8) (pv 4) (by rfl))
    (av (aq (i:=8) au.nd rfl (.inl rfl) (aq3 akr (aZa aqii (pv 3) (aq3 ax4 (aq3 ax5 (aqfn PySem.F.plainAttrs_str PySem.F.slot_str_index PySem.F.type_str_index aqi3 (pv 3) (gd (aZa aqii (pv 8) am (fun _ _=>rfl)) cn)) am) am) (fun _ _=>rfl)) (aqhf aqkl (pv 8) (aqkz am) aql0)))))
   (av (aqz (aqfn Br B0 B3 aj2 (pv 4) (gd (pv 8) cn))))))))))
  (av (av1 (pv 4))))),?_⟩
 obtain ⟨F0,a,ns,at_,many,rfl,sm,ha,hn,h9,hm,k⟩:=h;refine ⟨by show 0 <= Aj; decide,fun l hl=>?_⟩;refine ⟨_,rfl,(many:Int),rfl,by omega,by omega,av8 (n:=((many:Nat):Int).toNat) (fun i σ' H'=>∃ c5 c6 c7 c8 c9 names,σ'=[some (.ref a),some (.int (at_:Int)),some (.int (many:Int)),some (.str axb),some (.ref l),c5,c6,c7,c8,c9]/\aqu9 H H'/\H' l=some (.lst (names.map V.str))/\names.length=i/\names.Nodup/\∀ x∈names,aqi x)
  ⟨none,none,none,none,none,[],rfl,ai hl,aa,rfl,nodup_nil,by simp⟩ (fun i σ' H' hi hI=>?_) fun σ' H' hI=>?_⟩
 ·obtain ⟨c5,c6,c7,c8,c9,names,rfl,s1,hl1,hnl,hnd,hok⟩:=hI
  have hi':i < many:=by simpa using hi
  have ce:=aqc3 ns (at_ + i) (by omega);rw [show (((at_ + i:Nat):Nat):Int)=(at_:Int) + (0 + (i:Int)) by omega] at ce;refine ⟨_,rfl,_,rfl,_,rfl,_,_,rfl,rfl,F0,[MB.ay ns,.int ((at_:Int) + (0 + (i:Int)))],_,sm.trans s1,.cons (.lst ha (aR ns)) (.cons (.int _) .nil),rfl,ce,fun v F' H2 e2 r2=>?_⟩;cases r2;generalize cellOf ns (at_ + i)=c;have s2:=s1.trans e2.hh;have hl2:=e2.hh _ _ hl1;clear e2 hl1 s1;refine ⟨_,rfl,_,_,rfl,rfl,(by show (0:Int) < 8; decide),_,_,rfl,rfl,?_⟩;have b0:=Bt c (b:=8) (by decide);have b1:=Bk c (b:=8) (by decide);dsimp only;generalize hsz:1 + c % 8=size;refine ⟨_,rfl,size,rfl,by omega,by omega,av8 (n:=size.toNat) (fun j σ3 H3=>∃ (r:Int) (x:Str) (c9:Option V),σ3=[some (.ref a),some (.int (at_:Int)),some (.int (many:Int)),some (.str axb),some (.ref l),some (.int (0 + (i:Int))),some (.int r),some (.int size),some (.str x),c9]/\H3=H2/\x.length=j/\∀ d∈x.cps.toList,97 <= d/\d < 123)
   ⟨c,"",c9,rfl,rfl,rfl,fun d hd=>by rw [show (Cu "").cps.toList=[] by decide +kernel] at hd; cases hd⟩ (fun j σ3 H3 hj hI=>?_) fun σ3 H3 hI=>?_⟩
  ·obtain ⟨r,x,c9,rfl,rfl,hx,hxl⟩:=hI
   have q0:=Bt (r / 8) (b:=26) (by decide);have q1:=Bk (r / 8) (b:=26) (by decide);refine ⟨_,rfl,_,_,rfl,rfl,⟨by decide,by decide⟩,?_⟩;refine ⟨_,rfl,_,rfl,_,rfl,_,_,rfl,rfl,(by show (0:Int) < 26; decide),axb,_,_,rfl,rfl,aw6,awc q0 q1,_,_,rfl,rfl,?_,?_⟩
   ·show x.length + 1 <= Aj
    rw [Ao]; omega
   ·refine ⟨_,_,_,rfl,rfl,?_,fun d hd=>?_⟩
    ·rw [str_len,aqf7,length_append,<- str_len,hx]; rfl
    ·rw [aqf7] at hd
     rcases Dd.mp hd with hd | hd
     ·exact hxl d hd
     ·simp at hd; omega
  ·obtain ⟨r,x,c9,rfl,rfl,hx,hxl⟩:=hI
   have hx0:aqi x:=⟨by omega,by omega,hxl⟩;clear hxl;obtain ⟨m0,_,hm0⟩:=aqjt hx0 names (by omega);refine ⟨fun m σ4 H4=>∃ y,σ4=[some (.ref a),some (.int (at_:Int)),some (.int (many:Int)),some (.str axb),some (.ref l),some (.int (0 + (i:Int))),some (.int r),some (.int size),some (.str y),c9]/\H4=H3/\aqi y/\adv m y ∉ names,⟨m0,x,rfl,rfl,hx0,hm0⟩,?_⟩;rintro m σ4 H4 ⟨y,rfl,rfl,hy,hadv⟩;refine ⟨_,rfl,_,rfl,H4,.str y,names.map D.str,false,aqu9.refl _,.str y,.lst (.inl (.inl hl2)) (aq2 names),aze hy 20,axg hok 19,_,rfl,?_⟩;simp only [Aw,if_false];rw [av9]
   by_cases hin:y∈names
   ·rw [decide_eq_true hin,if_pos rfl]
    have hm1:1 <= m:=by
     rcases Nat.eq_zero_or_pos m with e | e
     ·subst e; rw [aqjs hy] at hadv; exact absurd hin hadv
     ·exact e
    refine ⟨fun σ5 H5=>∃ z,σ5=[some (.ref a),some (.int (at_:Int)),some (.int (many:Int)),some (.str axb),some (.ref l),some (.int (0 + (i:Int))),some (.int r),some (.int size),some (.str z),c9]/\H5=H4/\aqi z/\adv (m - 1) z ∉ names,fun σ5 H5 hz=>⟨m - 1,by omega,hz⟩,?_⟩;obtain ⟨c,t,ec,h1,h2,ey⟩:=azw hy;obtain ⟨aqt6,ho⟩:=aJ3 (c - 97) (by omega);rw [show 97 + (c - 97)=c by omega] at ho;have at0:atI y.cps.toList (0:Int)=some c:=by rw [ec]; exact aK7 (j:=0) rfl
    have hyl:y.length <= Aj:=by rw [Ao]; have:=hy.2.1; omega
    have q0:=Bt (((c - 97:Nat):Int) + 1) (b:=26) (by decide);have q1:=Bk (((c - 97:Nat):Int) + 1) (b:=26) (by decide);refine ⟨_,rfl,_,rfl,rfl,_,rfl,y,_,c,rfl,rfl,hyl,at0,axb,⟨#[c]⟩,c - 97,aqt6,rfl,rfl,ho,_,_,rfl,rfl,_,_,rfl,rfl,(by show (0:Int) < 26; decide),axb,_,_,rfl,rfl,aw6,awc q0 q1,_,rfl,_,rfl,y,rfl,rfl,rfl,hy.1,hyl,_,_,rfl,rfl,?_,?_⟩
    ·show 1 + (y.cps.toList.drop 1).toArray.size <= Aj
     rw [Ao]
     have:=hy.2.1
     rw [str_len] at this;simp at this ⊢;omega
    ·have e5:((⟨#[97 + ((((c - 97:Nat):Int) + 1) % 26).toNat]⟩:Str)++(⟨(y.cps.toList.drop 1).toArray⟩:Str))=adv 1 y:=by
      rw [aqna,aXj ec,ec];congr 3
     refine ⟨_,?_,rfl,aqqa hy 1,?_⟩
     ·rw [e5]; rfl
     ·rw [aqnm hy,show 1 + (m - 1)=m by omega]; exact hadv
   ·rw [decide_eq_false hin,if_neg (by simp)]
    refine ⟨_,rfl,.inl ⟨rfl,_,SqL.of hl2⟩,_,rfl,l,_,_,rfl,rfl,hl2,?_,?_⟩
    ·rw [length_map,Ao]; omega
    ·refine ⟨_,_,_,_,_,names++[y],rfl,fun b u hb=>?_,?_,by simp [hnl],?_,fun z hz=>?_⟩
     ·rw [ae (ac hb hl)]; exact s2 _ _ hb
     ·rw [aa,map_append]; rfl
     ·exact Ih.mpr ⟨hnd,by simp,fun p hp q hq=>by simp at hq; subst hq; rintro rfl; exact hin hp⟩
     ·rcases Dd.mp hz with hz | hz
      ·exact hok z hz
      ·simp at hz; subst hz; exact hy
 ·obtain ⟨c5,c6,c7,c8,c9,names,rfl,s1,hl1,hnl,hnd,hok⟩:=hI
  exact ⟨_,rfl,k l H' names s1 hl hl1 (by simpa using hnl) hnd hok⟩
end
abbrev aqgv:Stmt:=top 9
abbrev sInit:Stmt:=aza (top 46) 0
abbrev aqh0:Stmt:=aza (top 46) 1
abbrev sCast:Stmt:=aza (top 46) 2
abbrev sLift:Stmt:=aza (top 46) 3
abbrev sLay:Stmt:=aza (top 46) 4
abbrev sHeap:Stmt:=aza (top 46) 5
abbrev aqh1:Stmt:=aza (top 46) 6
abbrev aqh2:Stmt:=aza (top 46) 7
abbrev aX1:Stmt:=aza (top 46) 10
abbrev sNums:Stmt:=aza (top 46) 9
theorem sb:¬ (("standing":Str)="ballots"):=by decide +kernel
def flds (l d:Addr):List (Str × V):=aqt8 "ballots" (.ref d) (aqt8 "standing" (.ref l) [])
theorem ak1 (l d:Addr):(flds l d).lookup ("standing":Str)=some (.ref l):=by
 unfold flds;rw [aqq,if_neg sb,aqq,if_pos rfl]
theorem avx (l d:Addr):(flds l d).lookup ("ballots":Str)=some (.ref d):=by
 unfold flds;rw [aqq,if_pos rfl]
theorem ajf {l d:Addr} {m:Str} (h1:¬ m="ballots":=by decide +kernel) (h2:¬ m="standing":=by decide +kernel):(flds l d).lookup m=none:=by
 unfold flds;rw [aqq,if_neg h1,aqq,if_neg h2];rfl
abbrev aquf:=List (List Int × Int)
def kd (kv:aquf):List (List Key × V):=kv.map fun p=>(p.1.map Sum.inl,.int p.2)
def look (kv:aquf) (k:List Int):Option Int:=(kv.find? fun p=>decide (p.1=k)).map (·.2)
def put (kv:aquf) (k:List Int) (v:Int):aquf:=if (look kv k).isSome=true then kv.map fun p=>if p.1=k then (p.1,v) else p else kv++[(k,v)]
def drop (kv:aquf) (k:List Int):aquf:=kv.filter fun p=>decide (p.1 ≠ k)
theorem axa (kv:aquf) (k:List Int):aqsr (kd kv) (k.map Sum.inl)=(look kv k).map V.int:=by
 unfold aqsr kd look;rw [List.find?_map]
 have:((fun x:List Key × V=>decide (x.1=k.map Sum.inl)) ∘ fun p:List Int × Int=>(p.1.map Sum.inl,V.int p.2))=fun p=>decide (p.1=k):=by
  funext p
  simp only [Ei]
  by_cases e:p.1=k
  ·simp [e]
  ·simp [e]; exact fun z=>e (aJ6 z)
 rw [this];cases kv.find? fun p=>decide (p.1=k) <;> rfl
theorem aqg9 (kv:aquf) (k:List Int):aqct (kd kv) (k.map Sum.inl)=kd (drop kv k):=by
 unfold aqct kd drop;rw [filter_map];congr 1;apply Ik;intro p _;simp only [Ei]
 by_cases e:p.1=k
 ·simp [e]
 ·simp [e]; exact fun z=>e (aJ6 z)
theorem aY6 (kv:aquf) (k:List Int) (v:Int):aqt7 (kd kv) (k.map Sum.inl) (.int v)=kd (put kv k v):=by
 have any:((kd kv).any fun x=>decide (x.1=k.map Sum.inl))=(look kv k).isSome:=by
  rw [axf,axa];cases look kv k <;> rfl
 unfold aqt7 put;rw [any]
 by_cases h:(look kv k).isSome=true
 ·rw [if_pos h,if_pos h]
  unfold kd;rw [map_map,map_map];apply map_congr_left;intro p _;simp only [Ei]
  by_cases e:p.1=k
  ·simp [e]
  ·rw [if_neg e,if_neg fun z=>e (aJ6 z)]
 ·rw [if_neg h,if_neg h]
  unfold kd;rw [map_append];rfl
theorem kd_len (kv:aquf):(kd kv).length=kv.length:=by simp [kd]
theorem aqbp (kv:aquf) (k:List Int) (v:Int):drop (put kv k v) k=drop kv k:=by
 unfold put drop;split
 ·rw [filter_map]
  have:((fun p:List Int × Int=>decide (p.1 ≠ k)) ∘ fun p=>if p.1=k then (p.1,v) else p)=fun p=>decide (p.1 ≠ k):=by
   funext p
   simp only [Ei];split <;> rfl
  rw [this];refine (map_congr_left (g:=id) fun p hp=>?_).trans (by simp)
  have:=(Ay.mp hp).2
  simp at this;simp [this]
 ·simp
structure HallAt (C:Addr) (H:Hp) (p l d:Addr) (names:List Str) (kv:aquf):Prop where
 ob:∃ dx,H p=some (.ins C dx (flds l d))
 st:H l=some (.lst (names.map V.str))
 ba:H d=some (.dT (kd kv))
theorem HallAt.keep {C:Addr} {H H':Hp} {p l d:Addr} {names:List Str} {kv:aquf} (h:HallAt C H p l d names kv) (s:aqu9 H H'):HallAt C H' p l d names kv:=by
 obtain ⟨⟨dx,h1⟩,h2,h3⟩:=h;exact ⟨⟨dx,s _ _ h1⟩,s _ _ h2,s _ _ h3⟩
structure Hx (K:Frag) (mg:Str->Option Value) (C:Addr):Prop where
 cl:Cls K C
 nS:aXk K C "standing"
 nB:aXk K C "ballots"
 mgC:mg "Hall"=some (.ref C)
 m6:∃ t,mg "MOST_STANDING"=some (.int 6 t)
 m12:∃ t,mg "MOST_PILES"=some (.int 12 t)
 m18:∃ t,mg "MOST_BALLOTS"=some (.int 1000000000000000000 t)
 zr:mg "range"=none
 zlen:mg "len"=none
 zlist:mg "list"=none
 ztuple:mg "tuple"=none
 zsorted:mg "sorted"=none
 zmax:mg "max"=none
 zmin:mg "min"=none
 zall:mg "all"=none
 zenum:mg "enumerate"=none
 zisi:mg "isinstance"=none
def spInit (C:Addr):Sp:=fun vs H Q _=>∃ (p dx:Addr),vs=[.ref p]/\H p=some (.ins C dx [])/\∀ (l d:Addr) (H':Hp),H l=none->H d=none->HallAt C H' p l d [] []->(∀ b o,H b=some o->b ≠ p->H' b=some o)->Q .non H'
def aqf8 (C:Addr):Sp:=fun vs H Q _=>∃ (p l d:Addr) (names:List Str) (kv:aquf) (x:Str),vs=[.ref p,.str x]/\HallAt C H p l d names kv/\names.length < 6/\x ∉ names/\aqi x/\(∀ y∈names,aqi y)/\Q .non (upd H l (.lst ((names++[x]).map V.str)))
def aYj (C:Addr):Sp:=fun vs H Q _=>∃ (p l d:Addr) (names:List Str) (kv:aquf),vs=[.ref p]/\HallAt C H p l d names kv/\∀ n,H n=none->Q (.ref n) (upd H n (.lst (names.map V.str)))
def spLay (C:Addr):Sp:=fun vs H Q _=>∃ (p l d b:Addr) (names:List Str) (kv:aquf) (k:List Int) (v:Int),vs=[.ref p,.ref b,.int v]/\HallAt C H p l d names kv/\kv.length <= 12/\H b=some (.tup (k.map V.int)) /\
 Q .non (upd H d (.dT (kd (if v=0 then drop kv k else put kv k v))))
section
variable {P:Ak} {w:World} {K:Frag} {mg:Str->Option Value} {base:Heap} {C:Addr}
theorem scI:FnScope ["self"] ["self"] (af sInit):=fsc
theorem aqlm {f:Addr} {fd:Am} (F:Fun K "__init__" "Hall.__init__" sInit f fd) (T:Hx K mg C):FnOk P w K mg base CX0 1 f fd ["self"] (spInit C):=by
 refine F.ok scI (fun vs H Q E h=>?_) (fun cdv A outer s H vs Q E hr h=>?_)
 ·obtain ⟨p,dx,rfl,_⟩:=h
  rfl
 ·obtain ⟨p,dx,rfl,hp,k⟩:=h
  refine ⟨_,aj (aqkx (pv 0) (aWf cn) rfl) (av (aqkx (pv 0) aQu rfl)),?_⟩;refine ⟨by show 0 <= Aj; decide,fun l hl=>?_⟩;have npl:p ≠ l:=ac hp hl;refine ⟨_,rfl,p,C,dx,[],rfl,(by rw [ae npl]; exact hp),T.cl,T.nS,(by show 0 < 1000; decide),?_⟩;intro d hd;have npd:p ≠ d:=by rintro rfl; rw [aa] at hd; cases hd
  have nld:l ≠ d:=by rintro rfl; rw [ae npl.symm,aa] at hd; cases hd
  rw [ae npd.symm,ae nld.symm] at hd;refine ⟨_,rfl,p,C,dx,_,rfl,(by rw [ae npd,aa]),T.cl,T.nB,(by show 1 < 1000; decide),?_⟩;refine k l d _ hl hd ⟨⟨dx,aa⟩,by rw [ae npl.symm,ae nld,ae npl.symm,aa]; rfl,by rw [ae npd.symm,aa]; rfl⟩ fun b o e hb=>?_;rw [ae hb,ae (ac e hd),ae hb,ae (ac e hl)];exact e
theorem scS:FnScope ["self","name"] ["self","name"] (af aqh0):=fsc
theorem aqhq {f:Addr} {fd:Am} (F:Fun K "stand" "Hall.stand" aqh0 f fd) (T:Hx K mg C):FnOk P w K mg base CX0 1 f fd ["self","name"] (aqf8 C):=by
 obtain ⟨t6,h6⟩:=T.m6;refine F.ok scS (k:=0) (fun vs H Q E h=>?_) (fun cdv A outer s H vs Q E hr h=>?_)
 ·obtain ⟨_,_,_,_,_,_,rfl,_⟩:=h
  rfl
 ·obtain ⟨p,l,d,names,kv,x,rfl,S,h6l,hin,hx,hok,k⟩:=h
  obtain ⟨⟨dx,h1⟩,h2,h3⟩:=id S;refine ⟨_,aj (aX3 (aqd (aqac (aqg3 hr)) (pv 1) (ave (pv 0) rfl) (by rfl)) awz ajr)
   (aj (aX3 (aqd op_ge (aV aqc rfl T.zlen awr (gd (ave (pv 0) rfl) cn)) (aqa3 (v:=.int 6) rfl h6 ⟨t6,rfl⟩) (aqg _)) awz ajr)
   (av (aqz (aqfn Br B0 B3 aj2 (ave (pv 0) rfl) (gd (pv 1) cn))))),?_⟩
  refine ⟨_,rfl,_,rfl,p,C,dx,_,_,rfl,h1,T.cl,T.nS,ak1 _ _,H,.str x,names.map D.str,false,aqu9.refl _,.str x,.lst (.inl (.inl h2)) (aq2 names),aze hx 20,axg hok 19,_,rfl,?_⟩;simp only [Aw,if_false];rw [av9,decide_eq_false hin];refine aqti ?_;refine ⟨_,rfl,p,C,dx,_,_,rfl,h1,T.cl,T.nS,ak1 _ _,l,_,rfl,.inl (SqL.of h2),_,_,rfl,rfl,_,rfl,?_⟩;rw [length_map,decide_eq_false (show ¬ (6:Int) <= (names.length:Int) by omega)];refine aqti ?_;refine ⟨_,rfl,p,C,dx,_,_,rfl,h1,T.cl,T.nS,ak1 _ _,.inl ⟨rfl,_,SqL.of h2⟩,_,rfl,l,_,_,rfl,rfl,h2,by rw [length_map,Ao]; omega,?_⟩;rw [map_append] at k;exact k
theorem scN:FnScope ["self"] ["self"] (af aqh1):=fsc
theorem aqhs {f:Addr} {fd:Am} (F:Fun K "names" "Hall.names" aqh1 f fd) (T:Hx K mg C):FnOk P w K mg base CX0 1 f fd ["self"] (aYj C):=by
 refine F.ok scN (fun vs H Q E h=>?_) (fun cdv A outer s H vs Q E hr h=>?_)
 ·obtain ⟨_,_,_,_,_,rfl,_⟩:=h
  rfl
 ·obtain ⟨p,l,d,names,kv,rfl,S,k⟩:=h
  obtain ⟨⟨dx,h1⟩,h2,h3⟩:=id S;refine ⟨_,av (av1 (aqh aj6 rfl T.zlist ak7 (gd (ave (pv 0) rfl) cn))),?_⟩;exact ⟨_,rfl,p,C,dx,_,_,rfl,h1,T.cl,T.nS,ak1 _ _,l,_,rfl,.inl (SqL.of h2),fun n hn=>k n hn⟩
theorem scL:FnScope ["self","marks","many"] ["self","marks","many"] (af sLay):=fsc
theorem aqos {f:Addr} {fd:Am} (F:Fun K "lay" "Hall.lay" sLay f fd) (T:Hx K mg C):FnOk P w K mg base CX0 1 f fd ["self","marks","many"] (spLay C):=by
 refine F.ok scL (fun vs H Q E h=>?_) (fun cdv A outer s H vs Q E hr h=>?_)
 ·obtain ⟨_,_,_,_,_,_,_,_,rfl,_⟩:=h
  rfl
 ·obtain ⟨p,l,d,b,names,kv,k,v,rfl,S,h12,hb,q⟩:=h
  obtain ⟨⟨dx,h1⟩,h2,h3⟩:=id S;have hb':H b=some (.tup ((k.map Sum.inl:List Key).map kV)):=by rw [aju]; exact hb
  refine ⟨_,av (aX3 (aqd aqjw (pv 2) am (aqg _)) (av (aqz (aqdm (awp hr) (ave (pv 0) rfl) (pv 1) aql4 ⟨rfl,rfl,rfl,rfl⟩)))
   (av (aJt (awp hr) (ave (pv 0) rfl) (pv 1) (pv 2) rfl))),?_⟩
  refine ⟨_,rfl,rfl,_,rfl,?_⟩
  by_cases hv:v=0
  ·subst hv
   rw [if_pos rfl] at q;refine iteT ?_;refine ⟨_,rfl,p,C,dx,_,_,rfl,h1,T.cl,T.nB,avx _ _,d,rfl,.inr ⟨_,.inl h3⟩,_,rfl,kd kv,k.map Sum.inl,b,h3,rfl,hb',fun v hv=>?_,fun hv=>?_⟩
   ·rw [aqg9]; exact q
   ·rw [axa] at hv
    have:drop kv k=kv:=by
     unfold drop;rw [Av];intro p hp
     simp
     rintro rfl
     have:(kv.find? fun x=>decide (x.1=p.1)) ≠ none:=by
      rw [ne_eq,Hq];intro z;exact z p hp (by simp)
     cases e:kv.find? fun x=>decide (x.1=p.1) with
     | none=>exact this e
     | some y=>unfold look at hv; rw [e] at hv; cases hv
    rw [this] at q;have e2:upd H d (.dT (kd kv))=H:=by
     funext c
     by_cases hc:c=d
     ·subst hc; rw [aa,h3]
     ·rw [ae hc]
    rw [e2] at q;exact q
  ·rw [if_neg hv] at q
   rw [decide_eq_false (by simp [hv])];refine aqti ?_;refine ⟨_,rfl,_,rfl,p,C,dx,_,_,rfl,h1,T.cl,T.nB,avx _ _,_,rfl,d,_,rfl,DPut.t (k:=k.map Sum.inl) h3 hb' (by rw [kd_len,Ao]; omega),?_⟩;rw [aY6];exact q
end
def aqtf (st xs:List Str):List Int:=(st.zipIdx.filter fun p=>decide (p.1∈xs)).map fun p=>(p.2:Int)
theorem aqq9 (st xs:List Str):((xs.map fun y=>decide (y∈st)).all id)=decide (∀ y∈xs,y∈st):=by
 rw [A5]
 simp
def aqgn (C:Addr):Sp:=fun vs H Q _=>∃ (p l d z:Addr) (names:List Str) (kv:aquf) (xs:List Str),vs=[.ref p,.ref z]/\HallAt C H p l d names kv/\H z=some (.lst (xs.map V.str))/\names.length <= 6/\xs.length <= 9/\(∀ y∈names,aqi y)/\(∀ y∈xs,aqi y) /\
 (∀ y∈xs,y∈names)/\∀ r H',aqu9 H H'->H r=none->H' r=some (.lst ((aqtf names xs).map V.int))->Q (.ref r) H'
def strV:V->Str
 | .str x=>x
 | _=>""
section
variable {P:Ak} {w:World} {K:Frag} {mg:Str->Option Value} {base:Heap} {C:Addr}
theorem scM:FnScope ["self","names"] ["self","names"] (af sNums):=fsc
theorem aqlk {f:Addr} {fd:Am} (F:Fun K "numbers_of" "Hall.numbers_of" sNums f fd) (T:Hx K mg C):FnOk P w K mg base CX0 1 f fd ["self","names"] (aqgn C):=by
 refine F.ok scM (k:=0) (fun vs H Q E h=>?_) (fun cdv A outer s H vs Q E hr h=>?_)
 ·obtain ⟨_,_,_,_,_,_,_,rfl,_⟩:=h
  rfl
 ·obtain ⟨p,l,d,z,names,kv,xs,rfl,S,hz,h6,h9,hok,hxs,hall,kq⟩:=h
  obtain ⟨⟨dx,h1⟩,h2,h3⟩:=id S;refine ⟨_,aj (aX3 (aqkw (aqh8 (aV (aK0 rfl) rfl T.zall aqnb (gd (aj1 (cl:=_) (N':=["name","self"]) (js:=[none,some 0]) (tc:=awi) (te:=tOp (rInD K false) (aqsw 0) (tFld K (aqsw 1) "standing")) (by o_reads)
    (aJ (pv 1)) (fun _ _ _ _ _=>pgc 0) pif0
    (fun _ _ _ _ _=>aqfm (aqfs rfl (aqg3 hr)) (pv 0) (aqfk rfl (pv 1) rfl) (by rfl))) cn)))) awz ajr)
   (av (av1 (aj1 (cl:=_) (N':=["number","name","names"]) (js:=[none,none,some 1]) (g:=gTup K 2 (aqbh (azj 0) (aqbh (azj 1) gNil))) (tc:=tTest (tOp (rInD K false) (aqsw 1) (aqsw 2))) (te:=aqsw 0) (by o_reads)
    (aqa1 rfl T.zenum (ave (pv 0) rfl)) (fun _ _ _ _ _=>aqfj rfl rfl (axl (pgc 0) (axl (pgc 1) aJu)))
    (fun _ _ _ _ _=>.inr ⟨_,rfl,aqd (aqfs rfl (aqg3 hr)) (pv 1) (pv 2) (by rfl)⟩) (fun _ _ _ _ _=>pv 0)))),?_⟩
  refine ⟨_,rfl,z,rfl,⟨_,SqL.of hz⟩,ak4 (SqL.of hz) (by rw [length_map,Ao]; omega) (fun _=>true) (fun v=>.bl (decide (strV v∈names))) (fun σ=>∃ c,σ=[c,some (.ref p)]) ⟨none,rfl⟩ (fun i x σ' H' hx hS sm=>?_) fun r hr'=>?_⟩
  ·obtain ⟨c,rfl⟩:=hS
   obtain ⟨y,hy,rfl⟩:∃ y∈xs,x=V.str y:=by
    rw [getElem?_map] at hx;cases e:xs[i]? with
    | none=>rw [e] at hx; cases hx
    | some q=>rw [e] at hx; exact ⟨q,mem_of_getElem? e,(Option.some.inj hx).symm⟩
   refine ⟨⟨_,rfl⟩,fun R h=>h,fun R _ h=>?_⟩;refine ⟨_,rfl,_,rfl,p,C,dx,_,_,rfl,sm _ _ h1,T.cl,T.nS,ak1 _ _,H',.str y,names.map D.str,false,aqu9.refl _,.str y,.lst (.inl (.inl (sm _ _ h2))) (aq2 names),aze (hxs y hy) 20,axg hok 19,?_⟩;simp only [Aw,if_false];rw [av9];exact h
  ·rw [Av.mpr (by simp),map_map]
   have sm1:aqu9 H (upd H r (.lst (xs.map ((fun v=>V.bl (decide (strV v∈names))) ∘ V.str)))):=ai hr';refine ⟨r,xs.map fun y=>decide (y∈names),rfl,?_,?_⟩
   ·rw [map_map]; exact SqL.of aa
   ·rw [aqq9]
    refine ⟨_,rfl,?_⟩;generalize upd H r (.lst (xs.map ((fun v=>V.bl (decide (strV v∈names))) ∘ V.str)))=H1 at sm1 ⊢;rw [decide_eq_true hall];refine aqti ?_;refine ⟨_,rfl,p,C,dx,_,_,rfl,sm1 _ _ h1,T.cl,T.nS,ak1 _ _,l,rfl,⟨_,SqL.of (sm1 _ _ h2)⟩,aqbz (SqL.of (sm1 _ _ h2)) (by rw [length_map,Ao]; omega) (fun _ v=>decide (strV v∈xs)) (fun i _=>.int (i:Int)) (fun σ=>∃ c c',σ=[c,c',some (.ref z)]) ⟨none,none,rfl⟩ (fun i x σ' H' hx hS sm=>?_) fun r2 H2 hr2 sm2 hl2=>?_⟩
    ·obtain ⟨c,c',rfl⟩:=hS
     obtain ⟨y,hy,rfl⟩:∃ y∈names,x=V.str y:=by
      rw [getElem?_map] at hx;cases e:names[i]? with
      | none=>rw [e] at hx; cases hx
      | some q=>rw [e] at hx; exact ⟨q,mem_of_getElem? e,(Option.some.inj hx).symm⟩
     refine ⟨⟨_,_,rfl⟩,fun R h=>?_,fun R _ h=>⟨_,rfl,h⟩⟩;refine ⟨_,rfl,_,rfl,H',.str y,xs.map D.str,false,aqu9.refl _,.str y,.lst (.inl (.inl (sm _ _ (sm1 _ _ hz)))) (aq2 xs),aze (hok y hy) 20,axg hxs 19,_,rfl,?_⟩;simp only [Aw,if_false];rw [av9];exact h
    ·refine kq r2 H2 (sm1.trans sm2) (sm1.free hr2) ?_
     rw [hl2];congr 2;unfold aqtf;rw [List.zipIdx_map,filter_map,map_map,map_map];rfl
end
def lay (kv:aquf) (k:List Int) (v:Int):aquf:=if v=0 then drop kv k else put kv k v
def wt (kv:aquf) (k:List Int):Int:=(look kv k).getD 0
def aqgo (C:Addr):Sp:=fun vs H Q _=>∃ (p l d z:Addr) (names:List Str) (kv:aquf) (xs:List Str) (v:Int),vs=[.ref p,.int v,.ref z]/\HallAt C H p l d names kv/\H z=some (.lst (xs.map V.str))/\names.length <= 6/\xs.length <= 9/\kv.length <= 12/\(∀ y∈names,aqi y)/\(∀ y∈xs,aqi y)/\(∀ y∈xs,y∈names) /\
 ((look kv (aqtf names xs)).isSome=true \/ kv.length < 12)/\wt kv (aqtf names xs) + v <= 10 ^ 18/\∀ H',(∀ b o,H b=some o->b ≠ d->H' b=some o)->H' d=some (.dT (kd (lay kv (aqtf names xs) (wt kv (aqtf names xs) + v))))->Q .non H'
def spLift (C:Addr):Sp:=fun vs H Q _=>∃ (p l d z:Addr) (names:List Str) (kv:aquf) (xs:List Str) (v:Int),vs=[.ref p,.int v,.ref z]/\HallAt C H p l d names kv/\H z=some (.lst (xs.map V.str))/\names.length <= 6/\xs.length <= 9/\kv.length <= 12/\(∀ y∈names,aqi y)/\(∀ y∈xs,aqi y)/\(∀ y∈xs,y∈names) /\
 v <= wt kv (aqtf names xs)/\∀ H',(∀ b o,H b=some o->b ≠ d->H' b=some o)->H' d=some (.dT (kd (lay kv (aqtf names xs) (wt kv (aqtf names xs) - v))))->Q .non H'
def swap (kv:aquf):List (Int × List Int):=kv.map fun p=>(p.2,p.1)
def spHeap (K:Frag) (C:Addr):Sp:=fun vs H Q _=>∃ (p l d:Addr) (names:List Str) (kv:aquf),vs=[.ref p]/\HallAt C H p l d names kv/\kv.length < 60/\(∀ q∈kv,q.1.length < 60) /\
 ∀ v F' H' A,Own K F' H' v (.lst ((aJm (swap kv)).map aqa0)) A->aqu9 F' H'->(∀ b,A b->F' b=none/\H b=none)->aqu9 H H'->Q v H'
section
variable {P:Ak} {w:World} {K:Frag} {mg:Str->Option Value} {base:Heap} {C:Addr}
theorem scC:FnScope ["self","many","names","marks","together"] ["self","many","names"] (af sCast):=fsc
theorem aqlo {f fn fl:Addr} {fd fdn fdl:Am} (F:Fun K "cast" "Hall.cast" sCast f fd) (T:Hx K mg C) (GN:FnOk P w K mg base CX0 1 fn fdn ["self","names"] (aqgn C)) (bN:L2.Binds K fdn ["self","names"] []) (mN:Meth K C "numbers_of" fn)
  (GL:FnOk P w K mg base CX0 1 fl fdl ["self","marks","many"] (spLay C)) (bL:L2.Binds K fdl ["self","marks","many"] []) (mL:Meth K C "lay" fl):FnOk P w K mg base CX0 2 f fd ["self","many","names"] (aqgo C):=by
 obtain ⟨t12,h12⟩:=T.m12;obtain ⟨t18,h18⟩:=T.m18;refine F.ok scC (k:=1) (fun vs H Q E h=>?_) (fun cdv A outer s H vs Q E hr h=>?_)
 ·obtain ⟨_,_,_,_,_,_,_,_,rfl,_⟩:=h
  rfl
 ·obtain ⟨p,l,d,z,names,kv,xs,v,rfl,S,hz,h6,h9,hkv,hok,hxs,hin,hfull,hbig,kq⟩:=h
  obtain ⟨⟨dx,h1⟩,h2,h3⟩:=id S;refine ⟨_,aj (aq (i:=3) scC.nd rfl (.inl rfl) (aqh aqf rfl T.ztuple avk (gd (axm (pv 0) T.cl mN GN hr bN .nil azs (gd (pv 2) cn)) cn)))
   (aj (aX3 (PW.pt (aqdh (aqh9 (aqdo (awp hr) (pv 3) (ave (pv 0) rfl))) (aVz (aqd op_ge (aV aJd rfl T.zlen awr (gd (ave (pv 0) rfl) cn)) (aqa3 (v:=.int 12) rfl h12 ⟨t12,rfl⟩) (aqg _))))) awz ajr)
   (aj (aq (i:=4) scC.nd rfl (.inl rfl) (aq3 ax5 (akp (awp hr) (ave (pv 0) rfl) (pv 3) am ⟨rfl,rfl,rfl,rfl⟩) (pv 1)))
   (aj (aX3 (aqd op_gt (pv 4) (aqa3 (v:=.int 1000000000000000000) rfl h18 ⟨t18,rfl⟩) (aqg _)) awz ajr)
   (av (aqz (axm (pv 0) T.cl mL GL hr bL .nil azs (gd (pv 3) (gd (pv 4) cn)))))))),?_⟩
  refine ⟨_,rfl,p,dx,_,rfl,h1,ajf,_,rfl,p,l,d,z,names,kv,xs,rfl,S,hz,h6,h9,hok,hxs,hin,fun r H1 sm1 hr0 hr1'=>?_⟩;generalize hk:aqtf names xs=k at *;refine ⟨r,_,rfl,.inl ⟨SqL.of hr1',fun b hb=>?_⟩⟩;have sm2:aqu9 H (upd H1 b (.tup (k.map V.int))):=sm1.trans (ai hb);have hb2:(upd H1 b (.tup (k.map V.int))) b=some (.tup ((k.map Sum.inl:List Key).map kV)):=by rw [aa,aju]
  have hb2':(upd H1 b (.tup (k.map V.int))) b=some (.tup (k.map V.int)):=aa;generalize upd H1 b (.tup (k.map V.int))=H2 at sm2 hb2 hb2' ⊢;have S2:=S.keep sm2;have g:aqui H2 d (.ref b) (aqsr (kd kv) (k.map Sum.inl)):=aqui.t S2.ba hb2;rw [axa] at g;have big:(((look kv k).map V.int).getD (.int 0))=.int (wt kv k):=by unfold wt; cases look kv k <;> rfl
  refine ⟨_,rfl,_,rfl,p,C,dx,_,_,rfl,sm2 _ _ h1,T.cl,T.nB,avx _ _,d,_,rfl,g,_,rfl,?_⟩;rw [show ((look kv k).map V.int).isSome=(look kv k).isSome by cases look kv k <;> rfl];have hb18:¬ (1000000000000000000:Int) < wt kv k + v:=fun h=>absurd (Int.lt_of_lt_of_le h hbig) (by decide)
  by_cases hs:(look kv k).isSome=true
  ·rw [hs]
   refine aqti ?_;refine aqti ?_;refine ⟨_,rfl,p,C,dx,_,_,rfl,sm2 _ _ h1,T.cl,T.nB,avx _ _,d,rfl,.inr ⟨_,.inl S2.ba⟩,_,rfl,_,g,?_⟩;rw [big];refine ⟨_,rfl,_,_,rfl,rfl,?_⟩;refine ⟨_,rfl,_,_,rfl,rfl,_,rfl,?_⟩;rw [decide_eq_false hb18];refine aqti ?_;exact ⟨_,rfl,p,dx,_,rfl,sm2 _ _ h1,ajf,_,rfl,_,rfl,p,l,d,b,names,kv,k,_,rfl,S2,hkv,hb2',kq _ (fun c o hc hcd=>by rw [ae hcd]; exact sm2 _ _ hc) aa⟩
  ·have hs':(look kv k).isSome=false:=by simpa using hs
   rw [hs'];refine iteT ?_;refine ⟨_,rfl,p,C,dx,_,_,rfl,sm2 _ _ h1,T.cl,T.nB,avx _ _,d,_,rfl,S2.ba,_,_,rfl,rfl,_,rfl,?_⟩;have hl12:¬ (12:Int) <= ((kd kv).length:Int):=by rw [kd_len]; have:=hfull.resolve_left hs; omega
   rw [decide_eq_false hl12];refine aqti ?_;refine ⟨_,rfl,p,C,dx,_,_,rfl,sm2 _ _ h1,T.cl,T.nB,avx _ _,d,rfl,.inr ⟨_,.inl S2.ba⟩,_,rfl,_,g,?_⟩;rw [big];refine ⟨_,rfl,_,_,rfl,rfl,?_⟩;refine ⟨_,rfl,_,_,rfl,rfl,_,rfl,?_⟩;rw [decide_eq_false hb18];refine aqti ?_;exact ⟨_,rfl,p,dx,_,rfl,sm2 _ _ h1,ajf,_,rfl,_,rfl,p,l,d,b,names,kv,k,_,rfl,S2,hkv,hb2',kq _ (fun c o hc hcd=>by rw [ae hcd]; exact sm2 _ _ hc) aa⟩
theorem scF:FnScope ["self","many","names","marks","lying"] ["self","many","names"] (af sLift):=fsc
theorem aqll {f fn fl:Addr} {fd fdn fdl:Am} (F:Fun K "lift" "Hall.lift" sLift f fd) (T:Hx K mg C) (GN:FnOk P w K mg base CX0 1 fn fdn ["self","names"] (aqgn C)) (bN:L2.Binds K fdn ["self","names"] []) (mN:Meth K C "numbers_of" fn)
  (GL:FnOk P w K mg base CX0 1 fl fdl ["self","marks","many"] (spLay C)) (bL:L2.Binds K fdl ["self","marks","many"] []) (mL:Meth K C "lay" fl):FnOk P w K mg base CX0 2 f fd ["self","many","names"] (spLift C):=by
 refine F.ok scF (k:=1) (fun vs H Q E h=>?_) (fun cdv A outer s H vs Q E hr h=>?_)
 ·obtain ⟨_,_,_,_,_,_,_,_,rfl,_⟩:=h
  rfl
 ·obtain ⟨p,l,d,z,names,kv,xs,v,rfl,S,hz,h6,h9,hkv,hok,hxs,hin,hv,kq⟩:=h
  obtain ⟨⟨dx,h1⟩,h2,h3⟩:=id S;refine ⟨_,aj (aq (i:=3) scF.nd rfl (.inl rfl) (aqh aqf rfl T.ztuple avk (gd (axm (pv 0) T.cl mN GN hr bN .nil azs (gd (pv 2) cn)) cn)))
   (aj (aq (i:=4) scF.nd rfl (.inl rfl) (akp (awp hr) (ave (pv 0) rfl) (pv 3) am ⟨rfl,rfl,rfl,rfl⟩))
   (aj (aX3 (aqd aqle (pv 4) (pv 1) (aqg _)) awz ajr)
   (av (aqz (axm (pv 0) T.cl mL GL hr bL .nil azs (gd (pv 3) (gd (aq3 aZd (pv 4) (pv 1)) cn))))))),?_⟩
  refine ⟨_,rfl,p,dx,_,rfl,h1,ajf,_,rfl,p,l,d,z,names,kv,xs,rfl,S,hz,h6,h9,hok,hxs,hin,fun r H1 sm1 hr0 hr1'=>?_⟩;generalize hk:aqtf names xs=k at *;refine ⟨r,_,rfl,.inl ⟨SqL.of hr1',fun b hb=>?_⟩⟩;have sm2:aqu9 H (upd H1 b (.tup (k.map V.int))):=sm1.trans (ai hb);have hb2:(upd H1 b (.tup (k.map V.int))) b=some (.tup ((k.map Sum.inl:List Key).map kV)):=by rw [aa,aju]
  have hb2':(upd H1 b (.tup (k.map V.int))) b=some (.tup (k.map V.int)):=aa;generalize upd H1 b (.tup (k.map V.int))=H2 at sm2 hb2 hb2' ⊢;have S2:=S.keep sm2;have g:aqui H2 d (.ref b) (aqsr (kd kv) (k.map Sum.inl)):=aqui.t S2.ba hb2;rw [axa] at g;have big:(((look kv k).map V.int).getD (.int 0))=.int (wt kv k):=by unfold wt; cases look kv k <;> rfl
  refine ⟨_,rfl,p,C,dx,_,_,rfl,sm2 _ _ h1,T.cl,T.nB,avx _ _,d,rfl,.inr ⟨_,.inl S2.ba⟩,_,rfl,_,g,?_⟩;rw [big];refine ⟨_,rfl,_,rfl,_,_,rfl,rfl,_,rfl,?_⟩;rw [decide_eq_false (show ¬ wt kv k < v by omega)];refine aqti ?_;exact ⟨_,rfl,p,dx,_,rfl,sm2 _ _ h1,ajf,_,rfl,_,rfl,_,rfl,_,_,rfl,rfl,p,l,d,b,names,kv,k,_,rfl,S2,hkv,hb2',kq _ (fun c o hc hcd=>by rw [ae hcd]; exact sm2 _ _ hc) aa⟩
end
section
variable {P:Ak} {w:World} {K:Frag} {mg:Str->Option Value} {base:Heap} {C:Addr}
theorem aJn:FnScope ["heap","weights","weight","marks","key"] ["heap"] (af aqgv):=fsc
theorem aqlg {f:Addr} {fd:Am} (F:Fun K "tidy" "tidy" aqgv f fd) (T:Hx K mg C):FnOk P w K mg base CX0 2 f fd ["heap"] (spO K 1 aqkb) :=
 F.ok aJn (k:=1) (fun vs H Q E h=>by obtain ⟨F,ds,d,_,r,hl,_⟩:=h; rw [r.length,hl]; rfl) fun cdv A outer s H vs Q E hr h=>⟨_,aj (aq (i:=1) aJn.nd rfl (.inr rfl) aQu) (aj
  (aX4 Be rfl (aJ (pv 0)) (aqdl rfl (axl (aq0 (i:=2) aJn.nd rfl (.inl rfl)) (axl (aq0 (i:=3) aJn.nd rfl (.inl rfl)) aJu)))
   (aj (aq (i:=4) aJn.nd rfl (.inl rfl) (aqh aqf rfl T.ztuple avk (gd (pv 3) cn)))
   (av (aJt (awp hr) (pv 1) (pv 4) (aq3 ax5 (akp (awp hr) (pv 1) (pv 4) am ⟨rfl,rfl,rfl,rfl⟩) (pv 2)) rfl))))
  (av (av1 (aj1 (cl:=_) (N':=["key","weights"]) (js:=[none,some 1]) (tc:=awi) (te:=tTup (az6 (aqjv (aqsw 1) (aqsw 0)) (az6 (tCB (rLOf K) (az6 (aqsw 0) aqsx)) aqsx))) (by o_reads)
   (aJ (aV (azk hr.units rfl) rfl T.zsorted aj7 (gd (pv 1) cn)))
   (fun _ _ _ _ _=>pgc 0)
   pif0
   (fun _ _ _ _ _=>aWe (gd (aJv (awp hr) (pv 1) (pv 0) (fun _ _=>rfl)) (gd (aqh (aZ5 rfl) rfl T.zlist ak7 (gd (pv 0) cn)) cn))))))),by
  obtain ⟨F0,ds,o,sm,r,hl,hg,k⟩:=h;exact aYc sm r hl hg k⟩
theorem scH:FnScope ["self"] ["self"] (af sHeap):=fsc
theorem aWn (kv:aquf):aqk1 (.lst (kv.map DL.pkvD))=some (swap kv):=by
 have one:∀ p:List Int × Int,aqm9 (DL.pkvD p)=some (p.2,p.1):=by
  intro p
  have:∀ l:List Int,(l.map D.int).mapM kInt=some l:=by
   intro l
   induction l with
   | nil=>rfl
   | cons a l ih=>rw [map_cons,mapM_cons,ih]; rfl
  simp [aqm9,DL.pkvD,aqma,this]
 unfold aqk1 swap
 induction kv with
 | nil=>rfl
 | cons p kv ih =>
  simp only [map_cons,mapM_cons,one] at ih ⊢;rw [ih]; rfl
theorem aYd {kv:aquf} (h:kv.length < 60) (hm:∀ q∈kv,q.1.length < 60):aqkb [.lst (kv.map DL.pkvD)]=some (.lst ((aJm (swap kv)).map aqa0)):=by
 unfold aqkb;dsimp only;rw [aWn];simp only [Option.bind_some];rw [if_pos];refine ⟨by simpa [swap] using h,?_⟩;rw [F9];intro p hp;obtain ⟨q,hq,rfl⟩:=Ah.mp hp;exact decide_eq_true (hm q hq)
theorem aqln {f:Addr} {fd:Am} (F:Fun K "heap" "Hall.heap" sHeap f fd) (T:Hx K mg C) (G:Fn P w K mg base 2 "tidy" ["heap"] (spO K 1 aqkb)):FnOk P w K mg base CX0 3 f fd ["self"] (spHeap K C):=by
 obtain ⟨ft,fdt,okt,mt,kt,bt⟩:=G;refine F.ok scH (k:=2) (fun vs H Q E h=>?_) (fun cdv A outer s H vs Q E hr h=>?_)
 ·obtain ⟨_,_,_,_,_,rfl,_⟩:=h
  rfl
 ·obtain ⟨p,l,d,names,kv,rfl,S,h60,hm60,k⟩:=h
  obtain ⟨⟨dx,h1⟩,h2,h3⟩:=id S;refine ⟨_,av (av1 (aq6 okt hr rfl mt kt bt .nil azs (gd (aql3 (aj1 (cl:=_) (N':=["marks","many"]) (js:=[none,none]) (g:=gTup K 2 (aqbh (azj 0) (aqbh (azj 1) gNil))) (tc:=awi) (te:=tTup (az6 (aqsw 1) (az6 (tCB (rLOf K) (az6 (aqsw 0) aqsx)) aqsx))) (by o_reads)
   (aqdk (ave (pv 0) rfl)) (fun _ _ _ _ _=>aqfj rfl rfl (axl (pgc 0) (axl (pgc 1) aJu)))
   pif0 (fun _ _ _ _ _=>aWe (gd (pv 1) (gd (aqh (aZ5 rfl) rfl T.zlist ak7 (gd (pv 0) cn)) cn))))) cn))),?_⟩
  refine ⟨_,rfl,p,C,dx,_,_,rfl,h1,T.cl,T.nB,avx _ _,d,kd kv,rfl,h3,fun o=>?_⟩;have sd:∀ b u,H b=some u->b ≠ d->(upd H d (.frz o (.dT (kd kv)))) b=some u:=fun b u hb hbd=>by rw [ae hbd]; exact hb
  have fd:(upd H d (.frz o (.dT (kd kv)))) d=some (.frz o (.dT (kd kv))):=aa;generalize hH1:upd H d (.frz o (.dT (kd kv)))=H1 at sd fd;refine aWq (kv:=kv) fd (by rw [Ao]; omega) ⟨none,none,rfl⟩ fun n H2 F2 hn sm2 hd2 sF2 Fd Fl hts=>?_;obtain ⟨ts,hts1,hts2⟩:=hts;refine ⟨d,o,.dT (kd kv),hd2,fun o' u' z=>?_,?_⟩
  ·have z':H d=some (.frz o' u'):=z
   rw [h3] at z'; cases z'
  ·have ndn:n ≠ d:=by rintro rfl; rw [fd] at hn; cases hn
   have sF3:aqu9 F2 (upd H2 d (.dT (kd kv))):=fun b u hb=>by rw [ae (ac hb Fd)]; exact sF2 _ _ hb
   have smH:aqu9 H (upd H2 d (.dT (kd kv))):=fun b u hb=>by
    by_cases hbd:b=d
    ·subst hbd; rw [aa,<- h3,hb]
    ·rw [ae hbd]; exact sm2 _ _ (sd _ _ hb hbd)
   refine ⟨_,[.lst (kv.map DL.pkvD)],_,aqu9.refl _,.cons (.lst (.inl (.inl (by rw [ae ndn]; exact hts1))) ((axk sF3).2 hts2)) .nil,rfl,aYd h60 hm60,fun v F' H3 A e ow hA=>?_⟩;exact k v F' H3 A ow e.fh (fun b hb=>⟨(hA b hb).1,smH.free (hA b hb).2⟩) (smH.trans e.hh)
end
def hp (kv:aquf):List MB.aqud:=(ajc (kv.map (·.1))).map fun k=>(wt kv k,k)
theorem aqiq (kv:aquf):MB.aF (hp kv)=.lst ((ajc (kv.map (·.1))).map fun k=>DL.pkvD (k,wt kv k)):=by
 unfold hp MB.aF;rw [map_map]; rfl
theorem axz {kv:aquf} {k:List Int} (h:k∈kv.map (·.1)):look kv k=some (wt kv k):=by
 unfold wt;cases e:look kv k with
 | some y=>rfl
 | none =>
  exfalso;unfold look at e;cases e2:kv.find? fun p=>decide (p.1=k) with
  | some y=>rw [e2] at e; cases e
  | none =>
   obtain ⟨p,hp,rfl⟩:=Ah.mp h
   have:=Hq.mp e2 p hp
   simp at this
theorem aqk4:∀ {kv:aquf},(kv.map (·.1)).Nodup->∀ m,wtK (swap kv) m=wt kv m
 | [],_,m=>rfl
 | p :: kv,hn,m=>by
  rw [map_cons,nodup_cons] at hn;have ih:=aqk4 hn.2 m
  by_cases e:p.1=m
  ·have z:wt kv m=0:=by
    unfold wt look
    have:(kv.find? fun p=>decide (p.1=m))=none:=by
     rw [Hq];intro q hq
     simp
     intro e2;exact hn.1 (by rw [e,<- e2]; exact Ah.mpr ⟨q,hq,rfl⟩)
    rw [this]; rfl
   have h1:wt (p :: kv) m=p.2:=by unfold wt look; rw [List.find?_cons_of_pos (by simpa using e)]; rfl
   rw [h1];unfold wtK swap at ih ⊢;rw [map_cons,filter_cons_of_pos (by simpa using e),map_cons,sum_cons,ih,z];omega
  ·have h1:wt (p :: kv) m=wt kv m:=by unfold wt look; rw [List.find?_cons_of_neg (by simpa using e)]
   rw [h1,<- ih];unfold wtK swap;rw [map_cons,filter_cons_of_neg (by simpa using e)]
theorem aYe {kv:aquf} (hn:(kv.map (·.1)).Nodup):oD (.lst ((aJm (swap kv)).map aqa0))=some (MB.aF (hp kv)):=by
 have e:(swap kv).map (fun p=>p.2)=kv.map (·.1):=by unfold swap; rw [map_map]; rfl
 have e2:aJm (swap kv)=hp kv:=by
  unfold aJm hp;rw [e];apply map_congr_left;intro m _;rw [aqk4 hn]
 rw [e2];have ow:∀ l:List Int,oDs (l.map (O.sh ∘ D.int))=some (l.map D.int):=by
  intro l
  induction l with
  | nil=>rfl
  | cons a l ih=>simp [oDs,oD,ih]
 have one:∀ l:List MB.aqud,oDs (l.map aqa0)=some (l.map MB.ax3):=by
  intro l
  induction l with
  | nil=>rfl
  | cons a l ih =>
   have h1:oD (aqa0 a)=some (MB.ax3 a):=by
    simp [aqa0,MB.ax3,MB.ay,oD,oDs,DL.ow,ow]
   simp only [map_cons,oDs];rw [h1];refine Eq.trans (congrArg (fun z=>(some (MB.ax3 a)).bind fun d=>z.map (d :: ·)) ih) ?_;rfl
 unfold MB.aF;simp only [oD];rw [one];rfl
structure Good (names:List Str) (kv:aquf):Prop where
 len:names.length <= 6
 ok:∀ y∈names,aqi y
 nd:names.Nodup
 l12:kv.length <= 12
 kn:(kv.map (·.1)).Nodup
 sub:∀ q∈kv,q.1.Sublist ((Ar names.length).map fun (i:Nat)=>(i:Int))
theorem aqkm {n:Nat} (h:n <= 6):((Ar n).map fun (i:Nat)=>(i:Int)).Sublist MB.six:=by
 have:MB.six=(Ar 6).map fun (i:Nat)=>(i:Int):=by decide
 rw [this];exact E3 _ (Lk.mpr h)
theorem Good.okH {names:List Str} {kv:aquf} (g:Good names kv):MB.okH (hp kv):=by
 intro p hp;obtain ⟨k,hk,rfl⟩:=Ah.mp hp;obtain ⟨q,hq,rfl⟩:=Ah.mp (MT.mem_keys.mp hk);exact (g.sub q hq).trans (aqkm g.len)
theorem Good.hlen {names:List Str} {kv:aquf} (g:Good names kv):(hp kv).length <= 12:=by
 have:=MT.keys_len (kv.map (·.1))
 rw [length_map] at this
 have:=g.l12
 unfold hp;rw [length_map];omega
theorem Good.below {names:List Str} {kv:aquf} (g:Good names kv):∀ p∈hp kv,Below names.length p.2:=by
 intro p hp k hk;obtain ⟨m,hm,rfl⟩:=Ah.mp hp;obtain ⟨q,hq,rfl⟩:=Ah.mp (MT.mem_keys.mp hm);obtain ⟨i,hi,rfl⟩:=Ah.mp ((g.sub q hq).subset hk)
 have:=A0.mp hi
 omega
theorem Good.kl {names:List Str} {kv:aquf} (g:Good names kv):∀ q∈kv,q.1.length < 60:=fun q hq=>by
 have:=(g.sub q hq).length_le
 have:=g.len
 simp at *;omega
def aVr (K:Frag) (C:Addr):Sp:=fun vs H Q _=>∃ (p l d z:Addr) (names:List Str) (kv:aquf) (s:List Int),vs=[.ref p,.ref z]/\HallAt C H p l d names kv/\SqL K H z (s.map V.int)/\Below names.length s/\s.length <= 100 /\
 ∀ r,H r=none->Q (.ref r) (upd H r (.lst ((s.map fun k=>aqtg names k).map V.str)))
def intV:V->Int
 | .int i=>i
 | _=>0
theorem aqmc {X:Cx} {K:Frag} (h:X.K=K):IxR X (rIxL K):=by subst h; exact aJ5
theorem ix_tK {X:Cx} {K:Frag} (h:X.K=K):IxR X (rIxT K):=by subst h; exact aqe8
theorem nm_at {names:List Str} {k:Int} (h0:0 <= k) (h1:k < (names.length:Int)):atI (names.map V.str) k=some (.str (aqtg names k)):=by
 obtain ⟨i,rfl⟩:=Dy h0;have hi:i < names.length:=by omega
 refine aK7 ?_;unfold aqtg;simp [hi]
section
variable {P:Ak} {w:World} {K:Frag} {mg:Str->Option Value} {base:Heap} {C:Addr}
theorem scO:FnScope ["self","numbers"] ["self","numbers"] (af aX1):=fsc
theorem aqaf {f:Addr} {fd:Am} (F:Fun K "names_of" "Hall.names_of" aX1 f fd) (T:Hx K mg C):FnOk P w K mg base CX0 1 f fd ["self","numbers"] (aVr K C):=by
 refine F.ok scO (k:=0) (fun vs H Q E h=>?_) (fun cdv A outer s H vs Q E hr h=>?_)
 ·obtain ⟨_,_,_,_,_,_,_,rfl,_⟩:=h
  rfl
 ·obtain ⟨p,l,d,z,names,kv,s,rfl,S,hz,hb,h100,k⟩:=h
  obtain ⟨⟨dx,h1⟩,h2,h3⟩:=id S;refine ⟨_,av (av1 (aj1 (cl:=_) (N':=["number","self"]) (js:=[none,some 0]) (tc:=awi) (te:=tOp (rIxL K) (tFld K (aqsw 1) "standing") (aqsw 0)) (by o_reads)
    (aJ (pv 1)) (fun _ _ _ _ _=>pgc 0) pif0
    (fun _ _ _ _ _=>aZa (aqmc rfl) (aqfk rfl (pv 1) rfl) (pv 0) (fun _ _=>rfl)))),?_⟩
  refine ⟨_,rfl,z,rfl,⟨_,hz⟩,ak4 hz (by rw [length_map,Ao]; omega) (fun _=>true) (fun v=>.str (aqtg names (intV v))) (fun σ=>∃ c,σ=[c,some (.ref p)]) ⟨none,rfl⟩ (fun i x σ' H' hx hS sm=>?_) fun r hr'=>?_⟩
  ·obtain ⟨c,rfl⟩:=hS
   obtain ⟨y,hy,rfl⟩:∃ y∈s,x=V.int y:=by
    rw [getElem?_map] at hx;cases e:s[i]? with
    | none=>rw [e] at hx; cases hx
    | some q=>rw [e] at hx; exact ⟨q,mem_of_getElem? e,(Option.some.inj hx).symm⟩
   exact ⟨⟨_,rfl⟩,fun R h=>h,fun R _ h=>⟨_,rfl,p,C,dx,_,_,rfl,sm _ _ h1,T.cl,T.nS,ak1 _ _,_,rfl,l,_,y,_,rfl,rfl,SqL.of (sm _ _ h2),nm_at (hb y hy).1 (hb y hy).2,h⟩⟩
  ·rw [Av.mpr (by simp),map_map]
   have:=k r hr'
   rw [map_map] at this;exact this
end
theorem aqhz (st xs:List Str):(aqtf st xs).Sublist ((Ar st.length).map fun (i:Nat)=>(i:Int)):=by
 have e:st.zipIdx.map (fun p=>p.2)=Ar st.length:=by simp [List.zipIdx_map_snd,List.range_eq_range']
 rw [<- e,map_map];exact E3 (fun p:Str × Nat=>(p.2:Int)) filter_sublist
theorem aqmg {st:List Str} {y:Str} (h:y∈st):∃ hi:idxS st y < st.length,st[idxS st y]=y:=by
 have hi:idxS st y < st.length:=List.findIdx_lt_length_of_exists ⟨y,h,by simp⟩;refine ⟨hi,?_⟩
 have:=List.findIdx_getElem (p:=fun x=>decide (x=y)) (xs:=st) (w:=hi)
 exact of_decide_eq_true this
theorem aqmf {st:List Str} (hn:st.Nodup) {i:Nat} (hi:i < st.length):idxS st st[i]=i:=by
 obtain ⟨h1,h2⟩:=aqmg (st:=st) (y:=st[i]) (getElem_mem hi);apply E5;intro ne;rcases Nat.lt_or_gt_of_ne ne with lt | lt
 ·exact (Bu.mp hn _ _ h1 hi lt) h2
 ·exact (Bu.mp hn _ _ hi h1 lt) h2.symm
theorem aqi5 {st xs:List Str} {a:Int}:a∈aqtf st xs ↔ ∃ (i:Nat) (hi:i < st.length),st[i]∈xs/\a=(i:Int):=by
 unfold aqtf;rw [Ah];constructor
 ·rintro ⟨⟨y,i⟩,hp,rfl⟩
  obtain ⟨h1,h2⟩:=Ay.mp hp
  have:=G0.mp h1
  simp at this;obtain ⟨hi,rfl⟩:=Ai.mp this;exact ⟨i,hi,by simpa using h2,rfl⟩
 ·rintro ⟨i,hi,hx,rfl⟩
  refine ⟨(st[i],i),Ay.mpr ⟨G0.mpr (by simp [hi]),by simpa using hx⟩,rfl⟩
theorem aqm8 (kv:aquf):kd kv=dkv (kv.map fun p=>(p.1,V.int p.2)):=by unfold kd dkv; rw [map_map]; rfl
theorem aY9 {X:Cx} {elt target iter:Expr} {ifs:List Expr} {scope:Scope} {pos:Pos} {cl:List (Str × Addr)} {N':List Str} {js:List (Option Nat)} {wi:TI} {g:TG} {tc:TT} {te:TE} {i:Nat} {y:Str} {py spos:Pos} (hN:X.N.Nodup) (hi':X.N[i]?=some y) (hy:X.env.scope.names.lookup y=some .local)
  (hsw:Hc (.ListComp elt [⟨target,iter,ifs,0⟩] scope pos) (some (.Name y py)) spos.line X.env=pure true) (k:CompOk X scope cl N' js) (hi:PI X target iter wi)
  (hg:∀ C s₀ H₀ ex pn,PG (aP X N' scope cl C s₀ H₀ ex pn) target g) (ht:∀ C s₀ H₀ ex pn,PIfs (aP X N' scope cl C s₀ H₀ ex pn) ifs tc) (he:∀ C s₀ H₀ ex pn,PE (aP X N' scope cl C s₀ H₀ ex pn) elt te) (hs:∀ x,Cd iter X.env x=pure x:=by intro _; rfl) :
  PS X (.Assign [.Name y py] (.ListComp elt [⟨target,iter,ifs,0⟩] scope pos) spos) (tAsg (aqd0 wi g tc te js) (azj i)) :=
 aqfi hN hi' hy hsw k.calm hi (ax2 k.clo) k.free k.hcl k.hhas k.cell k.kind k.names hg ht he hs
def aqss (n:Nat):List Int:=(Ar n).map fun (i:Nat)=>(i:Int)
structure Lot (names:List Str) (B:Int) (kv:aquf):Prop where
 kn:(kv.map (·.1)).Nodup
 sub:∀ q∈kv,q.1.Sublist (aqss names.length)
 wts:∀ q∈kv,1 <= q.2/\q.2 <= B
 cnt:(drop kv []).length <= 6
theorem aqej {kv:aquf} {k:List Int} (h:k ∉ kv.map (·.1)):drop kv k=kv:=by
 unfold drop;rw [Av];intro p hp
 simp
 rintro rfl;exact h (Ah.mpr ⟨p,hp,rfl⟩)
theorem ak2:∀ {kv:aquf} (k:List Int),(kv.map (·.1)).Nodup->kv.length <= (drop kv k).length + 1
 | [],k,_=>by simp
 | p :: kv,k,h=>by
  rw [map_cons,nodup_cons] at h
  by_cases e:p.1=k
  ·have e1:drop (p :: kv) k=drop kv k:=by unfold drop; rw [filter_cons_of_neg (by simp [e])]
   rw [e1,aqej (by rw [<- e]; exact h.1)]
   simp
  ·have e1:drop (p :: kv) k=p :: drop kv k:=by unfold drop; rw [filter_cons_of_pos (by simp [e])]
   have:=ak2 k h.2
   rw [e1,length_cons,length_cons];omega
theorem Lot.good {names:List Str} {B:Int} {kv:aquf} (g:Lot names B kv) (h6:names.length <= 6) (ok:∀ y∈names,aqi y) (nd:names.Nodup):Good names kv :=
 ⟨h6,ok,nd,by have:=ak2 [] g.kn; have:=g.cnt; omega,g.kn,g.sub⟩
theorem Lot.mono {names:List Str} {B B':Int} {kv:aquf} (g:Lot names B kv) (h:B <= B'):Lot names B' kv :=
 ⟨g.kn,g.sub,fun q hq=>⟨(g.wts q hq).1,Fi (g.wts q hq).2 h⟩,g.cnt⟩
theorem aZp (kv:aquf) (k:List Int) (v:Int):(put kv k v).map (·.1)=if (look kv k).isSome=true then kv.map (·.1) else kv.map (·.1)++[k]:=by
 unfold put;split
 ·rw [map_map]
  apply map_congr_left;intro p _;simp only [Ei];split <;> rfl
 ·rw [map_append]; rfl
theorem aqls {kv:aquf} {k:List Int} (h:¬ (look kv k).isSome=true):k ∉ kv.map (·.1):=fun z=>h (by rw [axz z]; rfl)
theorem aqfv {kv:aquf} {k:List Int} {v:Int} {q:List Int × Int} (h:q∈put kv k v):q=(k,v) \/ q∈kv:=by
 unfold put at h;split at h
 ·obtain ⟨p,hp,rfl⟩:=Ah.mp h
  split
  ·rename_i e; rw [e]; exact .inl rfl
  ·exact .inr hp
 ·rcases Dd.mp h with h | h
  ·exact .inr h
  ·exact .inl (D9.mp h)
theorem aqh7 (kv:aquf) (k:List Int) (v:Int):(put kv k v).length=if (look kv k).isSome=true then kv.length else kv.length + 1:=by
 have:=congrArg List.length (aZp kv k v)
 rw [length_map] at this;rw [this];split <;> simp
theorem aqfy {names:List Str} {B:Int} {kv:aquf} (g:Lot names B kv) {k:List Int} {v:Int} (hk:k.Sublist (aqss names.length)) (hv:1 <= v/\v <= B) (hc:(drop (put kv k v) []).length <= 6):Lot names B (put kv k v):=by
 refine ⟨?_,fun q hq=>?_,fun q hq=>?_,hc⟩
 ·rw [aZp]
  split
  ·exact g.kn
  ·rename_i hs
   exact Ih.mpr ⟨g.kn,by simp,fun a ha b hb=>by simp at hb; subst hb; rintro rfl; exact aqls hs ha⟩
 ·rcases aqfv hq with rfl | hq
  ·exact hk
  ·exact g.sub q hq
 ·rcases aqfv hq with rfl | hq
  ·exact hv
  ·exact g.wts q hq
theorem aqi7 {names:List Str} {B:Int} {kv:aquf} (g:Lot names B kv) (k:List Int):Lot names B (drop kv k):=by
 refine ⟨(E3 _ filter_sublist).nodup g.kn,fun q hq=>g.sub q (Ay.mp hq).1,fun q hq=>g.wts q (Ay.mp hq).1,?_⟩;have e:drop (drop kv k) []=drop (drop kv []) k:=by
  unfold drop;rw [Ho,Ho];apply Ik;intro p _;exact Bool.and_comm _ _
 rw [e];exact le_trans (length_filter_le _ _) g.cnt
theorem aqaw {kv:aquf} {k:List Int} {v:Int} (h:look kv k=some v):(k,v)∈kv:=by
 unfold look at h;cases e:kv.find? fun p=>decide (p.1=k) with
 | none=>rw [e] at h; cases h
 | some q =>
  rw [e] at h;cases h;have h1:=List.mem_of_find?_eq_some e;have h2:=List.find?_some e;simp at h2;rw [<- h2];exact h1
theorem Lot.wt {names:List Str} {B:Int} {kv:aquf} (g:Lot names B kv) (h0:0 <= B) (k:List Int):0 <= wt kv k/\wt kv k <= B:=by
 unfold L_k62.wt;cases e:look kv k with
 | none=>exact ⟨Kk _,h0⟩
 | some v=>have:=g.wts _ (aqaw e); exact ⟨by show 0 <= v; omega,this.2⟩
theorem Lot.wt1 {names:List Str} {B:Int} {kv:aquf} (g:Lot names B kv) {k:List Int} (h:(look kv k).isSome=true):1 <= L_k62.wt kv k:=by
 unfold L_k62.wt;cases e:look kv k with
 | none=>rw [e] at h; cases h
 | some v=>exact (g.wts _ (aqaw e)).1
theorem aXn {n:Nat} {k:Int} (h:k∈aqss n):0 <= k/\k < (n:Int):=by
 obtain ⟨i,hi,rfl⟩:=Ah.mp h
 have:=A0.mp hi
 omega
theorem aqf1 (n:Nat):(aqss n).Pairwise (· < ·):=by
 unfold aqss;rw [pairwise_map];exact Fk.imp fun h=>by omega
theorem aqlr (st xs:List Str):(aqtf st xs).Pairwise (· < ·):=(aqf1 st.length).sublist (aqhz st xs)
theorem aZi {names:List Str} {i:Nat} (hi:i < names.length):aqtg names (i:Int)=names[i]:=by
 unfold aqtg;simp [hi]
theorem aWi {names:List Str} {k:List Int} (hk:k.Sublist (aqss names.length)):∀ y∈k.map fun j=>aqtg names j,y∈names:=by
 intro y hy;obtain ⟨j,hj,rfl⟩:=Ah.mp hy;obtain ⟨i,hi,rfl⟩:=Ah.mp (hk.subset hj);rw [aZi (A0.mp hi)];exact getElem_mem _
theorem aqal {names:List Str} (nd:names.Nodup) {k:List Int} (hk:k.Sublist (aqss names.length)):aqtf names (k.map fun j=>aqtg names j)=k:=by
 refine ax1 (aqlr _ _) ((aqf1 _).sublist hk) fun x=>?_;rw [aqi5];constructor
 ·rintro ⟨i,hi,hx,rfl⟩
  obtain ⟨j,hj,e⟩:=Ah.mp hx;obtain ⟨i',hi',rfl⟩:=Ah.mp (hk.subset hj);have h':=A0.mp hi';rw [aZi h'] at e
  have:i'=i:=by
   rw [<- aqmf nd h',<- aqmf nd hi,e]
  rw [<- this]; exact hj
 ·intro hx
  obtain ⟨i,hi,rfl⟩:=Ah.mp (hk.subset hx);have h':=A0.mp hi;exact ⟨i,h',Ah.mpr ⟨_,hx,aZi h'⟩,rfl⟩
abbrev aXz:Stmt:=top 50
def pows6:List Int:=[1,2,4,8,16,32]
theorem aqhd:∀ i:Nat,i < 6->atI (pows6.map V.int) (i:Int)=some (.int (2 ^ i)):=by decide +kernel
theorem aqhc:∀ i:Nat,i < 6->(0:Int) < 2 ^ i/\(2:Int) ^ i < 1073741824:=by decide +kernel
theorem aVn (n:Nat):aqss (n + 1)=aqss n++[(n:Int)]:=by
 unfold aqss;rw [List.range_succ,map_append]; rfl
theorem aqgk {m n:Nat} (h:m <= n):(aqss m).Sublist (aqss n):=E3 _ (Lk.mpr h)
structure Fil (C:Addr) (H0:Hp) (p l d n lo:Addr) (names:List Str) (H:Hp) (kv:aquf) (B:Int):Prop where
 keep:∀ b o,H0 b=some o->b ≠ l->b ≠ d->H b=some o
 hall:HallAt C H p l d names kv
 hlo:H lo=some (.dT (kd kv))
 hn:H n=some (.lst (names.map V.str))
 lot:Lot names B kv
 nd:lo ≠ d
 l0:H0 lo=none
theorem Fil.keepS {C:Addr} {H0 H H':Hp} {p l d n lo:Addr} {names:List Str} {kv:aquf} {B:Int} (f:Fil C H0 p l d n lo names H kv B) (s:aqu9 H H'):Fil C H0 p l d n lo names H' kv B :=
 ⟨fun b o h1 h2 h3=>s _ _ (f.keep b o h1 h2 h3),f.hall.keep s,s _ _ f.hlo,s _ _ f.hn,f.lot,f.nd,f.l0⟩
theorem aKm {C:Addr} {H0 H H7 H8:Hp} {p l d n lo:Addr} {names:List Str} {kv kv':aquf} {B B':Int} (f:Fil C H0 p l d n lo names H kv B) (kp:∀ b o,H b=some o->b ≠ d->H7 b=some o) (hd:H7 d=some (.dT (kd kv'))) (s:aqu9 H7 H8) (lot:Lot names B' kv') :
  Fil C H0 p l d n lo names (upd H8 lo (.dT (kd kv'))) kv' B':=by
 obtain ⟨dx,h1⟩:=f.hall.ob;have k2:∀ b o,H b=some o->b ≠ d->b ≠ lo->(upd H8 lo (.dT (kd kv'))) b=some o:=fun b o hb h1 h2=>by rw [ae h2]; exact s _ _ (kp _ _ hb h1)
 refine ⟨fun b o hb h1 h2=>k2 _ _ (f.keep b o hb h1 h2) h2 (ac hb f.l0),⟨⟨dx,?_⟩,?_,?_⟩,aa,?_,lot,f.nd,f.l0⟩
 ·exact k2 _ _ h1 (azh h1 f.hall.ba nofun) (azh h1 f.hlo nofun)
 ·exact k2 _ _ f.hall.st (azh f.hall.st f.hall.ba nofun) (azh f.hall.st f.hlo nofun)
 ·rw [ae f.nd.symm]; exact s _ _ hd
 ·exact k2 _ _ f.hn (azh f.hn f.hall.ba nofun) (azh f.hn f.hlo nofun)
theorem aqb2 {kv:aquf} {k:List Int} {v:Int} (h:1 <= v):lay kv k v=put kv k v:=by unfold lay; rw [if_neg (by omega)]
theorem lims3 {r:Int} (h0:0 <= r) (h:r < 3):∃ w:Int,atI [V.int 4,V.int 4,V.int (10 ^ (9:Int).toNat)] r=some (.int w)/\1 <= w/\w <= 1000000000:=by
 obtain ⟨i,rfl⟩:=Dy h0
 have:i=0 \/ i=1 \/ i=2:=by omega
 rcases this with rfl | rfl | rfl
 ·exact ⟨4,rfl,by decide,by decide⟩
 ·exact ⟨4,rfl,by decide,by decide⟩
 ·exact ⟨1000000000,rfl,by decide,by decide⟩
def lims6:List Int:=[6,6,6,6,5,4]
theorem aqia:∀ i:Nat,i < 6->∃ w,atI (lims6.map V.int) (i:Int)=some (.int w)/\w <= 6:=fun i hi=>by
 have:i=0 \/ i=1 \/ i=2 \/ i=3 \/ i=4 \/ i=5:=by omega
 rcases this with rfl | rfl | rfl | rfl | rfl | rfl
 ·exact ⟨6,rfl,by decide⟩
 ·exact ⟨6,rfl,by decide⟩
 ·exact ⟨6,rfl,by decide⟩
 ·exact ⟨6,rfl,by decide⟩
 ·exact ⟨5,rfl,by decide⟩
 ·exact ⟨4,rfl,by decide⟩
theorem aqkj (names:List Str) (ks:List Int):((ks.map V.int).filter fun _=>true).map (fun v=>V.str (aqtg names (intV v)))=(ks.map fun j=>aqtg names j).map V.str:=by
 rw [Av.mpr (by simp),map_map,map_map]; rfl
def aYk (K:Frag) (C:Addr):Sp:=fun vs H Q _=>∃ (F:Hp) (p l d a n:Addr) (ns:List Int) (names:List Str),vs=[.ref p,.ref a,.ref n]/\HallAt C H p l d [] []/\aqu9 F H/\SqE K F a (ns.map V.int)/\ns.length <= 63/\F l=none/\F d=none/\H n=some (.lst (names.map V.str))/\n ≠ l/\1 <= names.length/\names.length <= 6/\names.Nodup/\(∀ y∈names,aqi y) /\
 ∀ lo H' kv,H lo=none->Fil C H p l d n lo names H' kv 51000000000->Q (.ref lo) H'
def Tf (C:Addr) (H0:Hp) (p a l d n:Addr) (names:List Str):TS:=fun D σ H=>∃ (lo r:Addr) (ks:List Int) (kv:aquf) (mv B:Int) (c4 c5 c6:Option V),σ=[some (.ref p),some (.ref a),some (.ref n),some (.ref lo),c4,c5,c6,some (.ref r),some (.int mv)]/\Fil C H0 p l d n lo names H kv B/\H r=some (.lst (ks.map V.int))/\ks.Sublist (aqss names.length)/\(1 <= mv/\mv <= 1000000000)/\(0 <= B/\B <= 51000000000)/\kv.length <= 6/\((look kv ks).isSome=true \/ kv.length < 6) /\
 ∀ H' kv',Fil C H0 p l d n lo names H' kv' (B + 1000000000)->kv'.length <= 6->D.nx σ H'
section
variable {P:Ak} {w:World} {K:Frag} {mg:Str->Option Value} {base:Heap} {C:Addr}
theorem ajy:FnScope ["hall","script","names","lots","name","k","cell","marks","many"] ["hall","script","names"] (af aXz):=fsc
theorem aqdu {f fS fC:Addr} {fd fdS fdC:Am} (F:Fun K "_law_filled" "_law_filled" aXz f fd) (T:Hx K mg C) (Gc:Fn P w K mg base 1 "_law_cell" ["script","k"] (spD K 2 aT)) (GS:FnOk P w K mg base CX0 1 fS fdS ["self","name"] (aqf8 C)) (bS:L2.Binds K fdS ["self","name"] []) (mS:Meth K C "stand" fS)
  (GC:FnOk P w K mg base CX0 2 fC fdC ["self","many","names"] (aqgo C)) (bC:L2.Binds K fdC ["self","many","names"] []) (mC:Meth K C "cast" fC):FnOk P w K mg base CX0 3 f fd ["hall","script","names"] (aYk K C):=by
 obtain ⟨fc,fdc,okc,mc,kc,bc⟩:=Gc;refine F.ok ajy (k:=2) (fun vs H Q E h=>?_) (fun cdv A outer s H vs Q E hr h=>?_)
 ·obtain ⟨_,_,_,_,_,_,_,_,rfl,_⟩:=h
  rfl
 ·obtain ⟨F0,p,l,d,a,n,ns,names,rfl,S,sm0,ha,h63,Fl,Fd,hn,nnl,h1n,h6,nd,hok,k⟩:=h
  have hr1:Room 1 _:=hm hr;refine ⟨_,aj (aq (i:=3) ajy.nd rfl (.inl rfl) aQu)
   (aj (aX4 Be rfl (aJ (pv 2)) (aq0 (i:=4) ajy.nd rfl (.inl rfl)) (av (aqz (axm (pv 0) T.cl mS GS hr1 bS .nil azs (gd (pv 4) cn)))))
   (aj (aX4 Be rfl (aqdj rfl T.zr (gd am (gd (aV (aqer rfl) rfl T.zmax aqq3 (gd am (gd (aV (aqeq rfl) rfl T.zmin aqq2 (gd (aV aqc rfl T.zlen awr (gd (pv 1) cn)) (gd am cn))) cn))) cn))) (aq0 (i:=5) ajy.nd rfl (.inl rfl))
    (aj (aq (i:=6) ajy.nd rfl (.inr rfl) (aq3 ax4 (aq3 aqop (aq6 okc hr1 rfl mc kc bc .nil azs (gd (pv 1) (gd (pv 5) cn))) am) am))
    (aj (aY9 (i:=7) ajy.nd rfl rfl rfl (cl:=_) (N':=["j","cell"]) (js:=[none,some 6]) (by o_reads)
     (av4 rfl T.zr (gd (aV aqc rfl T.zlen awr (gd (pv 2) cn)) cn))
     (fun _ _ _ _ _=>pgc 0)
     (fun _ _ _ _ _=>.inr ⟨_,rfl,aqd aqjw (aq3 ax4 (aq3 akq (pv 1) (aZa (aqmc (K:=K) rfl) (aWf (gd am (gd am (gd am (gd am (gd am (gd am cn))))))) (pv 0) (fun _ _=>rfl))) am) am (aqg _)⟩)
     (fun _ _ _ _ _=>pv 0))
    (aj (aq (i:=8) ajy.nd rfl (.inl rfl) (aq3 ax5 am (aq3 ax4 (aq3 akq (pv 6) am) (aZa aJ5 (aWf (gd am (gd am (gd (aq3 aqlc am am) cn)))) (aq3 ax4 (aq3 akq (pv 6) am) am) (fun _ _=>rfl)))))
    (av (aX3 (PW.pt (pw_or (aqh9 (aql7 (awp hr) (aqh aqf rfl T.ztuple avk (gd (pv 7) cn)) (pv 3))) (aqdg (aqd aqle (aV aJd rfl T.zlen awr (gd (pv 3) cn)) (aZa aJ5 (aWf (gd am (gd am (gd am (gd am (gd am (gd am cn))))))) (aq3 aZd (aV aqc rfl T.zlen awr (gd (pv 2) cn)) am) (fun _ _=>rfl)) (aqg _)))))
     (PSs.imp (t':=Tf C H p a l d n names) (aj (aqz (axm (pv 0) T.cl mC GC hr bC .nil azs (gd (pv 8) (gd (aj1 (cl:=_) (N':=["j","names"]) (js:=[none,some 2]) (tc:=awi) (te:=tOp (rIxL K) (aqsw 1) (aqsw 0)) (by o_reads)
      (aJ (pv 7)) (fun _ _ _ _ _=>pgc 0) pif0 (fun _ _ _ _ _=>aZa (aqmc rfl) (pv 1) (pv 0) (fun _ _=>rfl))) cn))))
     (av (aJt (awp hr) (pv 3) (aqh aqf rfl T.ztuple avk (gd (pv 7) cn)) (aq3 ax5 (akp (awp hr) (pv 3) (aqh aqf rfl T.ztuple avk (gd (pv 7) cn)) am ⟨rfl,rfl,rfl,rfl⟩) (pv 8)) rfl))) ?_) ajr))))))
   (av (av1 (pv 3))))),?_⟩
  ·rintro Dn σ H6 ⟨lo,r,ks,kv,mv,B,c4,c5,c6,rfl,f6,hr6,hks,hmv,hB,hl6,hf,q⟩
   obtain ⟨dx,h1⟩:=f6.hall.ob;have hkl:ks.length <= 6:=by have:=hks.length_le; simp [aqss] at this; omega
   have big:(((look kv ks).map V.int).getD (.int 0))=.int (wt kv ks):=by unfold wt; cases look kv ks <;> rfl
   have wtb:=f6.lot.wt hB.1 ks;have pl:(put kv ks (wt kv ks + mv)).length <= 6:=by
    rw [aqh7];rcases hf with h | h
    ·rw [if_pos h]; exact hl6
    ·split <;> omega
   refine ⟨_,rfl,p,dx,_,rfl,h1,ajf,_,rfl,_,rfl,r,rfl,⟨_,SqL.of hr6⟩,ak4 (SqL.of hr6) (by rw [length_map,Ao]; omega) (fun _=>true) (fun v=>.str (aqtg names (intV v))) (fun σ=>∃ c,σ=[c,some (.ref n)]) ⟨none,rfl⟩ (fun i2 x σ3 H3 hx hS sm=>?_) fun z hz=>?_⟩
   ·obtain ⟨c0,rfl⟩:=hS
    rw [getElem?_map] at hx;obtain ⟨y,hy,rfl⟩:=D7.mp hx;have hy':=aXn (hks.subset (mem_of_getElem? hy));exact ⟨⟨_,rfl⟩,fun R h=>h,fun R _ h=>⟨_,rfl,_,rfl,n,_,y,_,rfl,rfl,SqL.of (sm _ _ f6.hn),nm_at hy'.1 hy'.2,h⟩⟩
   ·rw [aqkj]
    have smz:aqu9 H6 (upd H6 z (.lst ((ks.map fun j=>aqtg names j).map V.str))):=ai hz;have hz7:(upd H6 z (.lst ((ks.map fun j=>aqtg names j).map V.str))) z=some (.lst ((ks.map fun j=>aqtg names j).map V.str)):=aa;generalize upd H6 z (.lst ((ks.map fun j=>aqtg names j).map V.str))=H7 at smz hz7 ⊢;have f7:=f6.keepS smz;refine ⟨p,l,d,z,names,kv,ks.map fun j=>aqtg names j,mv,rfl,f7.hall,hz7,h6,by rw [length_map]; omega,by omega,hok,fun y hy=>hok y (aWi hks y hy),aWi hks,?_⟩;rw [aqal nd hks];refine ⟨hf.imp id (fun h=>by omega),by omega,fun H8 kp8 hd8=>?_⟩;have hr8:=kp8 _ _ (smz _ _ hr6) (azh (smz _ _ hr6) f7.hall.ba nofun);have hlo8:=kp8 _ _ f7.hlo f7.nd;refine ⟨_,rfl,lo,rfl,.inr ⟨_,.inl hlo8⟩,_,rfl,r,_,rfl,.inl ⟨SqL.of hr8,fun b2 hb2=>?_⟩⟩;have sm9:aqu9 H8 (upd H8 b2 (.tup (ks.map V.int))):=ai hb2;have hb9:(upd H8 b2 (.tup (ks.map V.int))) b2=some (.tup ((ks.map Sum.inl:List Key).map kV)):=by rw [aa,aju]
    generalize upd H8 b2 (.tup (ks.map V.int))=H9 at sm9 hb9 ⊢;have g9:aqui H9 lo (.ref b2) (aqsr (kd kv) (ks.map Sum.inl)):=aqui.t (sm9 _ _ hlo8) hb9;rw [axa] at g9;refine ⟨_,g9,?_⟩;rw [big];refine ⟨_,rfl,_,_,rfl,rfl,_,rfl,_,rfl,r,_,rfl,.inl ⟨SqL.of (sm9 _ _ hr8),fun b3 hb3=>?_⟩⟩;have sm10:aqu9 H9 (upd H9 b3 (.tup (ks.map V.int))):=ai hb3;have hb10:(upd H9 b3 (.tup (ks.map V.int))) b3=some (.tup ((ks.map Sum.inl:List Key).map kV)):=by rw [aa,aju]
    generalize upd H9 b3 (.tup (ks.map V.int))=H10 at sm10 hb10 ⊢;refine ⟨lo,_,rfl,DPut.t (k:=ks.map Sum.inl) (sm10 _ _ (sm9 _ _ hlo8)) hb10 (by rw [kd_len,Ao]; omega),?_⟩;rw [aY6];rw [aqb2 (by omega)] at hd8;exact q _ _ (aKm f7 kp8 hd8 (sm9.trans sm10) (aqfy (f6.lot.mono (by omega)) hks (by omega) (le_trans (length_filter_le _ _) pl))) pl
  ·intro lo hlo
   have sm1:aqu9 H (upd H lo (.dT [])):=ai hlo;have lo1:(upd H lo (.dT [])) lo=some (.dT (kd [])):=aa;have nld:lo ≠ d:=(ac S.ba hlo).symm;have nll:lo ≠ l:=(ac S.st hlo).symm;generalize upd H lo (.dT [])=H1 at sm1 lo1 ⊢;have S1:=S.keep sm1;have hn1:=sm1 _ _ hn;refine ⟨_,rfl,n,rfl,⟨_,SqL.of hn1⟩,aqbj (K:=K) (a:=n) (xs:=names.map V.str) (fun i σ' H'=>(∃ c4,σ'=[some (.ref p),some (.ref a),some (.ref n),some (.ref lo),c4,none,none,none,none])/\HallAt C H' p l d (names.take i) []/\∀ b o,H1 b=some o->b ≠ l->H' b=some o)
    ⟨⟨_,rfl⟩,by rw [List.take_zero]; exact S1,fun b o h _=>h⟩ (fun i σ' H' hi hI=>SqL.of (hI.2.2 _ _ hn1 nnl)) (fun i x σ' H' hx hI=>?_) fun σ' H' hI=>?_⟩
   ·obtain ⟨⟨c4,rfl⟩,S2,kp⟩:=hI
    rw [getElem?_map] at hx;obtain ⟨x,hx',rfl⟩:=D7.mp hx;obtain ⟨hi,rfl⟩:=Ai.mp hx';obtain ⟨⟨dx,h1⟩,h2,h3⟩:=id S2;have hnot:names[i] ∉ names.take i:=fun hm=>by
     obtain ⟨j,hj,e⟩:=getElem_of_mem hm;rw [List.getElem_take] at e;have hj':j < i:=by rw [length_take] at hj; omega
     exact Bu.mp nd j i (by omega) hi hj' e
    refine ⟨_,rfl,p,dx,_,rfl,h1,ajf,_,rfl,p,l,d,names.take i,[],names[i],rfl,S2,by rw [length_take]; omega,hnot,hok _ (getElem_mem hi),fun y hy=>hok y (List.mem_of_mem_take hy),⟨_,rfl⟩,?_,fun b o hb hbl=>?_⟩
    ·rw [take_succ_eq_append_getElem hi]
     exact ⟨⟨dx,by rw [ae (azh h1 h2 nofun)]; exact h1⟩,aa,by rw [ae (azh h3 h2 nofun)]; exact h3⟩
    ·rw [ae hbl]; exact kp b o hb hbl
   ·obtain ⟨⟨c4,rfl⟩,S2,kp⟩:=hI
    rw [length_map,take_length] at S2;have fil0:Fil C H p l d n lo names H' [] (((0:Nat):Int) * 1000000000):=⟨fun b o h hbl _=>kp b o (sm1 _ _ h) hbl,S2,kp _ _ lo1 nll,kp _ _ hn1 nnl,⟨by simp,by simp,by simp,by simp [drop]⟩,nld,hlo⟩;clear S2 kp S1 hn1 lo1 sm1;have sF:∀ {H2:Hp} {kv:aquf} {B:Int},Fil C H p l d n lo names H2 kv B->aqu9 _ H2:=fun f b o hb=>f.keep b o (sm0 _ _ hb) (ac hb Fl) (ac hb Fd);have hj:∀ j:Int,j=(if (if (63:Int) < ((ns.map V.int).length:Int) then (63:Int) else ((ns.map V.int).length:Int)) > 18 then (if (63:Int) < ((ns.map V.int).length:Int) then (63:Int) else ((ns.map V.int).length:Int)) else 18)->18 <= j/\j <= 63:=by
     intro j e;rw [length_map] at e;split at e <;> split at e <;> omega
    refine ⟨_,rfl,a,_,rfl,.inl (aqt1 (sF fil0) ha).l,_,_,rfl,_,_,rfl,_,_,rfl,⟨by decide,by decide,by have:=hj _ rfl; omega,by have:=hj _ rfl; omega⟩,
     av8 (fun i σ' H'=>∃ c5 c6 c7 c8 kv,σ'=[some (.ref p),some (.ref a),some (.ref n),some (.ref lo),c4,c5,c6,c7,c8]/\Fil C H p l d n lo names H' kv (i * 1000000000)/\kv.length <= 6)
      ⟨_,_,_,_,[],rfl,fil0,by simp⟩ (fun i σ' H' hi hI=>?_) fun σ' H' hI=>?_⟩
    ·obtain ⟨c5,c6,c7,c8,kv,rfl,f,hl6⟩:=hI
     have hi51:i < 51:=by have:=hj _ rfl; omega
     have ce:=aqc3 ns (12 + i) (by omega);rw [show (((12 + i:Nat):Nat):Int)=12 + (i:Int) by omega] at ce;refine ⟨_,rfl,_,rfl,F0,[MB.ay ns,.int (12 + (i:Int))],_,sF f,.cons (.lst ha (aR ns)) (.cons (.int _) .nil),rfl,ce,fun v F' H2 e2 r2=>?_⟩;cases r2;generalize cellOf ns (12 + i)=c0;refine ⟨_,_,rfl,rfl,.inr ⟨by decide,by decide⟩,_,_,rfl,rfl,(by show (0:Int) < 2147483647; decide),?_⟩;dsimp only;generalize c0 * 48271 % 2147483647=c;have f2:=f.keepS e2.hh;clear ce hi hj sF e2 fil0;refine ⟨_,rfl,n,_,rfl,.inl (SqL.of f2.hn),_,rfl,by rw [length_map]; omega,by rw [length_map]; omega,fun r hr'=>?_⟩;refine ⟨fun i2 m σ3 H3=>m=names.length - i2/\i2 <= names.length/\(∃ c0,σ3=[c0,some (.int c)])/\aqu9 H2 H3/\∃ ks,H3 r=some (.lst ((ks:List Int).map V.int))/\ks.Sublist (aqss i2),⟨_,rfl,zero_le _,⟨none,rfl⟩,ai hr',[],aa,List.nil_sublist _⟩,?_⟩;rintro i2 m σ3 H3 ⟨rfl,hi2,⟨c0,rfl⟩,sm3,ks,hr3,hsub⟩;have hkl:ks.length <= 6:=by have:=hsub.length_le; simp [aqss] at this; omega
     by_cases hlt:i2 < names.length
     ·refine .inr ⟨by show i2 < ((names.map V.str).length:Int).toNat; rw [length_map]; omega,fun x H4 yl=>?_⟩
      obtain ⟨e1,rfl⟩:=yl;rw [e1];have e0:(0:Int) + (i2:Int)=(i2:Int):=by omega
      rw [e0];refine ⟨_,rfl,by show 6 <= Aj; decide,fun q hq=>⟨_,rfl,q,_,_,_,rfl,rfl,SqL.of aa,aqhd i2 (by omega),_,_,rfl,rfl,aqhc i2 (by omega),_,_,rfl,rfl,(by show (0:Int) < 2; decide),rfl,_,rfl,?_⟩⟩;have sq:aqu9 H3 (upd H3 q (.lst (pows6.map V.int))):=ai hq;have sm2:=sm3.trans sq;have hy2:=sq _ _ hr3;refine ite2 (fun _=>?_) fun _=>?_
      ·refine ⟨_,rfl,_,hy2,by rw [length_map,Ao]; omega,_,(by omega:names.length - (i2 + 1) < names.length - i2),rfl,hlt,⟨_,rfl⟩,fun b o hb=>?_,ks++[(i2:Int)],by rw [aa,map_append]; rfl,?_⟩
       ·rw [ae (ac hb hr')]; exact sm2 _ _ hb
       ·rw [aVn]; exact hsub.append (List.Sublist.refl _)
      ·refine ⟨_,(by omega:names.length - (i2 + 1) < names.length - i2),rfl,hlt,⟨_,rfl⟩,sm2,ks,hy2,?_⟩
       rw [aVn]; exact hsub.trans (List.sublist_append_left _ _)
     ·refine .inl ⟨by show ((names.map V.str).length:Int).toNat <= i2; rw [length_map]; omega,?_⟩
      have hks:ks.Sublist (aqss names.length):=hsub.trans (aqgk hi2);clear hsub hlt hi2;have f3:=f2.keepS sm3;obtain ⟨w3,hw,w0,w1⟩:=lims3 (Bt (c / 256) (b:=3) (by decide)) (Bk (c / 256) (b:=3) (by decide));refine ⟨_,rfl,_,_,rfl,rfl,⟨by decide,by decide⟩,_,_,rfl,rfl,⟨by decide,by decide,by decide⟩,by show 3 <= Aj; decide,fun q hq=>⟨_,rfl,_,_,rfl,rfl,⟨by decide,by decide⟩,_,_,rfl,rfl,(by show (0:Int) < 3; decide),q,_,_,_,rfl,rfl,SqL.of aa,hw,_,_,rfl,rfl,(by show (0:Int) < w3; omega),_,_,rfl,rfl,?_⟩⟩;have sm4:aqu9 H3 (upd H3 q (.lst [V.int 4,V.int 4,V.int (10 ^ (9:Int).toNat)])):=ai hq;generalize upd H3 q (.lst [V.int 4,V.int 4,V.int (10 ^ (9:Int).toNat)])=H4 at sm4 ⊢;have hr4:=sm4 _ _ hr3;have f4:=f3.keepS sm4;have mv0:=Bt (c / 64) (b:=w3) (by omega);have mv1:=Bk (c / 64) (b:=w3) (by omega);dsimp only;generalize hmv:1 + c / 64 % w3=mv;clear hw hq hr' hr3 sm3 sm4 f2 f3;refine ⟨_,rfl,r,_,rfl,.inl ⟨SqL.of hr4,fun b hb=>?_⟩⟩;have sm5:aqu9 H4 (upd H4 b (.tup (ks.map V.int))):=ai hb;have hb5:(upd H4 b (.tup (ks.map V.int))) b=some (.tup ((ks.map Sum.inl:List Key).map kV)):=by rw [aa,aju]
      generalize upd H4 b (.tup (ks.map V.int))=H5 at sm5 hb5 ⊢;have f5:=f4.keepS sm5;have hr5:=sm5 _ _ hr4;have g5:aqui H5 lo (.ref b) (aqsr (kd kv) (ks.map Sum.inl)):=aqui.t f5.hlo hb5;rw [axa] at g5;refine ⟨_,rfl,lo,_,rfl,g5,_,rfl,?_⟩;rw [show ((look kv ks).map V.int).isSome=(look kv ks).isSome by cases look kv ks <;> rfl];have e51:((i + 1:Nat):Int) * 1000000000=(i:Int) * 1000000000 + 1000000000:=by omega
      clear f4 g5
      by_cases hs:(look kv ks).isSome=true
      ·rw [hs]
       refine iteT ?_;refine iteT ?_;exact ⟨lo,r,ks,kv,mv,_,_,_,_,rfl,f5,hr5,hks,by omega,by omega,hl6,.inl hs,fun H' kv' f' l'=>⟨_,_,_,_,kv',rfl,by rw [e51]; exact f',l'⟩⟩
      ·rw [show (look kv ks).isSome=false by simpa using hs]
       refine aqti ?_;obtain ⟨w6,hw6,w6b⟩:=aqia (names.length - 1) (by omega);refine ⟨_,rfl,lo,_,rfl,f5.hlo,by show 6 <= Aj; decide,fun q hq=>⟨_,rfl,n,_,rfl,.inl (SqL.of ((ai hq) _ _ f5.hn)),_,_,rfl,rfl,q,_,_,_,rfl,rfl,SqL.of aa,(by rw [length_map,show (names.length:Int) - 1=((names.length - 1:Nat):Int) by omega]; exact hw6),_,_,rfl,rfl,_,rfl,?_⟩⟩;have sm6:aqu9 H5 (upd H5 q (.lst [V.int 6,V.int 6,V.int 6,V.int 6,V.int 5,V.int 4])):=ai hq;have f6:=f5.keepS sm6;have hr6:=sm6 _ _ hr5;generalize upd H5 q (.lst [V.int 6,V.int 6,V.int 6,V.int 6,V.int 5,V.int 4])=H6 at sm6 f6 hr6 ⊢;rw [kd_len];refine ite2 (fun hd=>?_) fun _=>?_
       ·have hl:kv.length < 6:=by have:=of_decide_eq_true hd; omega
        exact ⟨lo,r,ks,kv,mv,_,_,_,_,rfl,f6,hr6,hks,by omega,by omega,hl6,.inr hl,fun H' kv' f' l'=>⟨_,_,_,_,kv',rfl,by rw [e51]; exact f',l'⟩⟩
       ·exact ⟨_,_,_,_,kv,rfl,⟨f6.keep,f6.hall,f6.hlo,f6.hn,f6.lot.mono (by omega),f6.nd,f6.l0⟩,hl6⟩
    ·obtain ⟨c5,c6,c7,c8,kv,rfl,f,_⟩:=hI
     refine ⟨_,rfl,k lo _ kv hlo ⟨f.keep,f.hall,f.hlo,f.hn,f.lot.mono ?_,f.nd,f.l0⟩⟩
     have:=hj _ rfl
     omega
end
abbrev aQn:Stmt:=top 52
theorem aKv {K:Frag} {z:Addr} {xs:List V} {j:Nat} {te:TE} {js:List (Option Nat)} {σ:L2.St} {H:Hp} {Q:Addr->Hp->Prop} (hz:SqT K H z xs) (hlen:xs.length < Aj) (e:V->V) (S:L2.St->Prop) (hS:S (mkS js σ))
  (step:∀ (x:V) (σ':L2.St) (H':Hp),x∈xs->S σ'->aqu9 H H'->S (σ'.set j (some x))/\(∀ R:VK,R (e x) H'->te (σ'.set j (some x)) H' R))
  (k:∀ l,H l=none->Q l (upd H l (.lst (xs.map e)))) :
  ∀ l,H l=none->∃ W:Nat->Nat->L2.St->Hp->Prop,(∃ m,W 0 m (mkS js σ) (upd H l (.lst [])))/\∀ i m σ H,W i m σ H ->
   ((Itt K z).stop i H/\Q l H) \/ ((Itt K z).go i H/\∀ x H',(Itt K z).yld i H x H'->azj j x σ H' fun σ2 H2=>awi σ2 H2 fun b H3 =>
     if b=true then te σ2 H3 fun y H4=>∃ acc,H4 l=some (.lst acc)/\acc.length < Aj/\∃ m',m' < m/\W (i + 1) m' σ2 (upd H4 l (.lst (acc++[y]))) else ∃ m',m' < m/\W (i + 1) m' σ2 H3):=by
 intro l hl;refine ⟨fun i m σ' H'=>m=xs.length - i/\i <= xs.length/\S σ'/\H'=upd H l (.lst ((xs.take i).map e)),⟨_,rfl,zero_le _,hS,by simp⟩,?_⟩;rintro i m σ' H' ⟨rfl,hi,hs,rfl⟩;have sm:aqu9 H (upd H l (.lst ((xs.take i).map e))):=ai hl
 by_cases hlt:i < xs.length
 ·refine .inr ⟨⟨xs,xs[i],seqT sm hz,by simp [hlt]⟩,fun x H2 y=>?_⟩
  obtain ⟨rfl,y⟩:=y;have hx:=y xs (seqT sm hz);rw [getElem?_eq_getElem hlt] at hx;obtain rfl:=(Option.some.inj hx).symm;obtain ⟨s1,s3⟩:=step xs[i] σ' _ (getElem_mem hlt) hs sm;dsimp only [awi,azj];rw [if_pos rfl];refine s3 _ ⟨_,aa,by rw [length_map,length_take]; omega,_,(by omega:xs.length - (i + 1) < xs.length - i),rfl,hlt,s1,?_⟩;rw [take_succ_eq_append_getElem hlt,map_append]
  funext b
  by_cases hb:b=l
  ·subst hb; rw [aa,aa]; rfl
  ·rw [ae hb,ae hb,ae hb]
 ·have e1:i=xs.length:=by omega
  subst e1;refine .inl ⟨⟨xs,seqT sm hz,le_refl _⟩,?_⟩;rw [take_length];exact k l hl
theorem aYf (names:List Str) (ks:List Int):(ks.map V.int).map (fun v=>V.str (aqtg names (intV v)))=(ks.map fun j=>aqtg names j).map V.str:=by
 rw [map_map,map_map]; rfl
theorem aW7 {H:Hp} {a:Addr} {o o':HO}:upd (upd H a o) a o'=upd H a o':=by
 funext b
 by_cases hb:b=a
 ·subst hb; rw [aa,aa]
 ·rw [ae hb,ae hb,ae hb]
theorem aqi8 (kv:aquf) (k:List Int) (v:Int):look (put kv k v) k=some v:=by
 have:=aW5 (kd kv) (k.map Sum.inl) (k.map Sum.inl) (.int v)
 rw [if_pos rfl,aY6,axa] at this;cases e:look (put kv k v) k with
 | none=>rw [e] at this; cases this
 | some y=>rw [e] at this; cases this; rfl
theorem aXa (kv:aquf):(drop kv []).length=((kv.map (·.1)).filter fun k=>decide (k ≠ [])).length:=by
 unfold drop;rw [filter_map,length_map]; rfl
theorem aqdi {kv:aquf} {k:List Int} (v:Int) (h:k=[] \/ (look kv k).isSome=true):(drop (put kv k v) []).length=(drop kv []).length:=by
 rcases h with rfl | h
 ·rw [aqbp]
 ·rw [aXa,aXa,aZp,if_pos h]
theorem aqau {names:List Str} {B B':Int} {kv:aquf} (g:Lot names B kv) (hb:B <= B') {k:List Int} {v:Int} (hk:k.Sublist (aqss names.length)) (hv:1 <= v/\v <= B') (h:k=[] \/ (look kv k).isSome=true):Lot names B' (put kv k v) :=
 aqfy (g.mono hb) hk hv (by rw [aqdi v h]; exact g.cnt)
theorem aqm7 {kv:aquf} (h:(kv.map (·.1)).Nodup):(ajc (kv.map (·.1))).length=kv.length:=by
 have h1:=MT.keys_len (kv.map (·.1));have h2:=MB.aq7 h fun x hx=>MT.mem_keys.mpr hx;rw [length_map] at h1 h2;omega
def Tl (C:Addr) (H0:Hp) (p l d n lo:Addr) (names:List Str) (kv:aquf) (B c:Int):TS:=fun D σ H=>∃ (b:Addr) (k:List Int) (c5:Option V),σ=[some (.ref p),some (.ref lo),some (.ref n),some (.int c),some (.ref b),c5]/\Fil C H0 p l d n lo names H kv B/\H b=some (.tup (k.map V.int))/\k.Sublist (aqss names.length)/\(k=[] \/ (look kv k).isSome=true) /\
 ∀ σ' H' kv',Fil C H0 p l d n lo names H' kv' (B + 10000000000)->(∀ b o,H b=some o->b ≠ d->b ≠ lo->H' b=some o)->D.nx σ' H'
def aVs (C:Addr):Sp:=fun vs H Q _=>∃ (H0:Hp) (p l d n lo:Addr) (names:List Str) (kv:aquf) (B c:Int),vs=[.ref p,.ref lo,.ref n,.int c]/\Fil C H0 p l d n lo names H kv B/\0 <= B/\B <= 1000000000000/\names.length <= 6/\names.Nodup/\(∀ y∈names,aqi y) /\
 ∀ H' kv',Fil C H0 p l d n lo names H' kv' (B + 10000000000)->(∀ b o,H b=some o->b ≠ d->b ≠ lo->H' b=some o)->Q .non H'
section
variable {P:Ak} {w:World} {K:Frag} {mg:Str->Option Value} {base:Heap} {C:Addr}
theorem axi:FnScope ["hall","lots","names","cell","marks","many"] ["hall","lots","names","cell"] (af aQn):=fsc
theorem aqah {f fF fC:Addr} {fd fdF fdC:Am} (F:Fun K "_law_changed" "_law_changed" aQn f fd) (T:Hx K mg C) (GF:FnOk P w K mg base CX0 2 fF fdF ["self","many","names"] (spLift C)) (bF:L2.Binds K fdF ["self","many","names"] []) (mF:Meth K C "lift" fF)
  (GC:FnOk P w K mg base CX0 2 fC fdC ["self","many","names"] (aqgo C)) (bC:L2.Binds K fdC ["self","many","names"] []) (mC:Meth K C "cast" fC):FnOk P w K mg base CX0 3 f fd ["hall","lots","names","cell"] (aVs C):=by
 refine F.ok axi (k:=2) (fun vs H Q E h=>?_) (fun cdv A outer s H vs Q E hr h=>?_)
 ·obtain ⟨_,_,_,_,_,_,_,_,_,_,rfl,_⟩:=h
  rfl
 ·obtain ⟨H0,p,l,d,n,lo,names,kv,B,c,rfl,f0,hB0,hB1,h6,nd,hok,k⟩:=h
  refine ⟨_,aj (aq (i:=4) axi.nd rfl (.inl rfl) (aWe cn))
   (aj (aX3 (PW.pt (aqdh (aqd (aqoo (lt_of_le_of_lt (le_succ _) (awp hr))) (pv 1) aQu (aqg _)) (aVz (aqd op_gt (aq3 ax4 (pv 3) am) am (aqg _)))))
    (av (aq (i:=4) axi.nd rfl (.inl rfl) (aZa aJ5 (aV (azk hr.units rfl) rfl T.zsorted aj7 (gd (pv 1) cn)) (aq3 ax4 (aq3 akq (pv 3) am) (aV aJd rfl T.zlen awr (gd (pv 1) cn))) (fun _ _=>rfl)))) ajr)
   (PSs.imp (t':=Tl C H0 p l d n lo names kv B c) (av (aX3 (PW.pt (aqdh (aqd aqjw (aq3 ax4 (pv 3) am) am (aqg _)) (aVz (aqh9 (aql7 (awp hr) (pv 4) (pv 1))))))
    (aj (aq (i:=5) axi.nd rfl (.inl rfl) (aq3 ax5 am (aq3 ax4 (aq3 akq (pv 3) am) (aJv (awp hr) (pv 1) (pv 4) (fun _ _=>rfl)))))
    (aj (aqz (axm (pv 0) T.cl mF GF hr bF .nil azs (gd (pv 5) (gd (aj1 (cl:=_) (N':=["j","names"]) (js:=[none,some 2]) (tc:=awi) (te:=tOp (rIxL K) (aqsw 1) (aqsw 0)) (by o_reads)
      (aql2 (pv 4)) (fun _ _ _ _ _=>pgc 0) pif0 (fun _ _ _ _ _=>aZa (aqmc rfl) (pv 1) (pv 0) (fun _ _=>rfl))) cn))))
    (aj (aJt (awp hr) (pv 1) (pv 4) (aq3 aZd (aJv (awp hr) (pv 1) (pv 4) (fun _ _=>rfl)) (pv 5)) rfl)
    (av (aX3 (aqd aqjw (aJv (awp hr) (pv 1) (pv 4) (fun _ _=>rfl)) am (aqg _)) (av (aqz (aqdn (awp hr) (pv 1) (pv 4) ⟨rfl,rfl,rfl,rfl⟩))) ajr)))))
    (PSs.imp (t':=Tl C H0 p l d n lo names kv B c) (aj (aq (i:=5) axi.nd rfl (.inl rfl) (aq3 ax5 am (aq3 ax4 (aq3 akq (pv 3) am) (aq3 aqlc am am))))
    (aj (aqz (axm (pv 0) T.cl mC GC hr bC .nil azs (gd (pv 5) (gd (aj1 (cl:=_) (N':=["j","names"]) (js:=[none,some 2]) (tc:=awi) (te:=tOp (rIxL K) (aqsw 1) (aqsw 0)) (by o_reads)
      (aql2 (pv 4)) (fun _ _ _ _ _=>pgc 0) pif0 (fun _ _ _ _ _=>aZa (aqmc rfl) (pv 1) (pv 0) (fun _ _=>rfl))) cn))))
    (av (aJt (awp hr) (pv 1) (pv 4) (aq3 ax5 (akp (awp hr) (pv 1) (pv 4) am ⟨rfl,rfl,rfl,rfl⟩) (pv 5)) rfl)))) ?_))) ?_)),?_⟩
  ·rintro D σ H1 ⟨b,ks,c5,rfl,f,hb,hks,hin,q⟩
   obtain ⟨dx,h1⟩:=f.hall.ob;have hkl:ks.length <= 6:=by have:=hks.length_le; simp [aqss] at this; omega
   have wtb:=f.lot.wt hB0 ks;have l7:kv.length <= 7:=by have:=ak2 [] f.lot.kn; have:=f.lot.cnt; omega
   refine ⟨_,rfl,_,_,rfl,rfl,⟨by decide,by decide⟩,_,_,rfl,rfl,⟨by decide,by decide,by decide⟩,_,_,rfl,rfl,(by show (0:Int) < 10 ^ (10:Int).toNat; decide +kernel),_,_,rfl,rfl,?_⟩;dsimp only;rw [show (10:Int) ^ (10:Int).toNat=10000000000 by decide +kernel];have mv0:=Bt (c / 18) (b:=10000000000) (by decide);have mv1:=Bk (c / 18) (b:=10000000000) (by decide);generalize hmv:1 + c / 18 % 10000000000=mv;refine ⟨_,rfl,p,dx,_,rfl,h1,ajf,_,rfl,_,rfl,b,rfl,⟨_,.inl (.inl hb)⟩,aKv (xs:=ks.map V.int) (.inl (.inl hb)) (by rw [length_map,Ao]; omega) (fun v=>.str (aqtg names (intV v))) (fun σ=>∃ c,σ=[c,some (.ref n)]) ⟨none,rfl⟩ (fun x σ' H' hx hS sm=>?_) fun z hz=>?_⟩
   ·obtain ⟨c0,rfl⟩:=hS
    obtain ⟨y,hy,rfl⟩:=Ah.mp hx;have hy':=aXn (hks.subset hy);exact ⟨⟨_,rfl⟩,fun R h=>⟨_,rfl,_,rfl,n,_,y,_,rfl,rfl,SqL.of (sm _ _ f.hn),nm_at hy'.1 hy'.2,h⟩⟩
   ·rw [aYf]
    have smz:aqu9 H1 (upd H1 z (.lst ((ks.map fun j=>aqtg names j).map V.str))):=ai hz;have hz7:(upd H1 z (.lst ((ks.map fun j=>aqtg names j).map V.str))) z=some (.lst ((ks.map fun j=>aqtg names j).map V.str)):=aa;generalize upd H1 z (.lst ((ks.map fun j=>aqtg names j).map V.str))=H7 at smz hz7 ⊢;have f7:=f.keepS smz;refine ⟨p,l,d,z,names,kv,ks.map fun j=>aqtg names j,mv,rfl,f7.hall,hz7,h6,by rw [length_map]; omega,by omega,hok,fun y hy=>hok y (aWi hks y hy),aWi hks,?_⟩;rw [aqal nd hks];refine ⟨by exact .inr (by omega),by omega,fun H8 kp8 hd8=>?_⟩;have hb8:=kp8 _ _ (smz _ _ hb) (azh (smz _ _ hb) f7.hall.ba nofun);have hlo8:=kp8 _ _ f7.hlo f7.nd;have hb8':H8 b=some (.tup ((ks.map Sum.inl:List Key).map kV)):=by rw [aju]; exact hb8
    have g8:aqui H8 lo (.ref b) (aqsr (kd kv) (ks.map Sum.inl)):=aqui.t hlo8 hb8';rw [axa] at g8;have big:(((look kv ks).map V.int).getD (.int 0))=.int (wt kv ks):=by unfold wt; cases look kv ks <;> rfl
    refine ⟨_,rfl,lo,rfl,.inr ⟨_,.inl hlo8⟩,_,rfl,_,g8,?_⟩;rw [big];refine ⟨_,rfl,_,_,rfl,rfl,_,rfl,_,rfl,lo,_,rfl,DPut.t (k:=ks.map Sum.inl) hlo8 hb8' (by rw [kd_len,Ao]; omega),?_⟩;rw [aY6];rw [aqb2 (by omega)] at hd8;exact q _ _ _ (aKm f7 kp8 hd8 (aqu9.refl _) (aqau f.lot (by omega) hks (by omega) hin)) fun b' o hb' h1' h2'=>by rw [ae h2']; exact kp8 _ _ (smz _ _ hb') h1'
  ·rintro D σ H1 ⟨b,ks,c5,rfl,f,hb,hks,hin,q⟩
   obtain ⟨dx,h1⟩:=f.hall.ob;have hkl:ks.length <= 6:=by have:=hks.length_le; simp [aqss] at this; omega
   have wtb:=f.lot.wt hB0 ks;have l7:kv.length <= 7:=by have:=ak2 [] f.lot.kn; have:=f.lot.cnt; omega
   refine ⟨_,rfl,_,_,rfl,rfl,(by show (0:Int) < 3; decide),rfl,_,rfl,?_⟩;refine ite2 (fun _=>?_) fun _=>aqti ⟨b,ks,c5,rfl,f,hb,hks,hin,q⟩;have hb':H1 b=some (.tup ((ks.map Sum.inl:List Key).map kV)):=by rw [aju]; exact hb
   have g:aqui H1 lo (.ref b) (aqsr (kd kv) (ks.map Sum.inl)):=aqui.t f.hlo hb';rw [axa] at g;refine ⟨_,rfl,_,rfl,lo,_,rfl,g,_,rfl,?_⟩;rw [show ((look kv ks).map V.int).isSome=(look kv ks).isSome by cases look kv ks <;> rfl]
   by_cases hs:(look kv ks).isSome=true
   ·rw [hs]
    refine iteT ?_;have ls:look kv ks=some (wt kv ks):=by unfold wt; cases e:look kv ks with | none=>rw [e] at hs; cases hs | some y=>rfl
    rw [ls] at g;have w1:=f.lot.wt1 hs;refine ⟨_,rfl,_,_,rfl,rfl,⟨by decide,by decide⟩,_,rfl,_,rfl,lo,_,rfl,g,_,_,rfl,rfl,(by show (0:Int) < wt kv ks; omega),_,_,rfl,rfl,?_⟩;dsimp only;have mv0:=Bt (c / 18) (b:=wt kv ks) (by omega);have mv1:=Bk (c / 18) (b:=wt kv ks) (by omega);generalize hmv:1 + c / 18 % wt kv ks=mv;refine ⟨_,rfl,p,dx,_,rfl,h1,ajf,_,rfl,_,rfl,b,rfl,⟨_,.inl (.inl hb)⟩,aKv (xs:=ks.map V.int) (.inl (.inl hb)) (by rw [length_map,Ao]; omega) (fun v=>.str (aqtg names (intV v))) (fun σ=>∃ c,σ=[c,some (.ref n)]) ⟨none,rfl⟩ (fun x σ' H' hx hS sm=>?_) fun z hz=>?_⟩
    ·obtain ⟨c0,rfl⟩:=hS
     obtain ⟨y,hy,rfl⟩:=Ah.mp hx;have hy':=aXn (hks.subset hy);exact ⟨⟨_,rfl⟩,fun R h=>⟨_,rfl,_,rfl,n,_,y,_,rfl,rfl,SqL.of (sm _ _ f.hn),nm_at hy'.1 hy'.2,h⟩⟩
    ·rw [aYf]
     have smz:aqu9 H1 (upd H1 z (.lst ((ks.map fun j=>aqtg names j).map V.str))):=ai hz;have hz7:(upd H1 z (.lst ((ks.map fun j=>aqtg names j).map V.str))) z=some (.lst ((ks.map fun j=>aqtg names j).map V.str)):=aa;generalize upd H1 z (.lst ((ks.map fun j=>aqtg names j).map V.str))=H7 at smz hz7 ⊢;have f7:=f.keepS smz;refine ⟨p,l,d,z,names,kv,ks.map fun j=>aqtg names j,mv,rfl,f7.hall,hz7,h6,by rw [length_map]; omega,by omega,hok,fun y hy=>hok y (aWi hks y hy),aWi hks,?_⟩;rw [aqal nd hks];refine ⟨by omega,fun H8 kp8 hd8=>?_⟩;have hb8:=kp8 _ _ (smz _ _ hb) (azh (smz _ _ hb) f7.hall.ba nofun);have hlo8:=kp8 _ _ f7.hlo f7.nd;have hb8':H8 b=some (.tup ((ks.map Sum.inl:List Key).map kV)):=by rw [aju]; exact hb8
     have g8:aqui H8 lo (.ref b) (aqsr (kd kv) (ks.map Sum.inl)):=aqui.t hlo8 hb8';rw [axa] at g8;rw [ls] at g8;refine ⟨_,rfl,_,rfl,lo,_,rfl,g8,_,rfl,_,_,rfl,rfl,_,rfl,_,rfl,lo,_,rfl,DPut.t (k:=ks.map Sum.inl) hlo8 hb8' (by rw [kd_len,Ao]; omega),?_⟩;rw [aY6];have nbl:b ≠ lo:=azh hb8 hlo8 nofun;generalize hW:wt kv ks - mv=W' at hd8 ⊢;have hl9:(upd H8 lo (.dT (kd (put kv ks W')))) lo=some (.dT (kd (put kv ks W'))):=aa;have hb9:(upd H8 lo (.dT (kd (put kv ks W')))) b=some (.tup ((ks.map Sum.inl:List Key).map kV)):=by rw [ae nbl]; exact hb8'
     have lp:aqsr (kd (put kv ks W')) (ks.map Sum.inl)=some (.int W'):=by rw [axa,aqi8]; rfl
     have g9:aqui (upd H8 lo (.dT (kd (put kv ks W')))) lo (.ref b) (some (.int W')):=by rw [<- lp]; exact aqui.t hl9 hb9
     have kpf:∀ (o':HO) (b':Addr) (o:HO),H1 b'=some o->b' ≠ d->b' ≠ lo->(upd H8 lo o') b'=some o:=fun o' b' o hb' h1' h2'=>by rw [ae h2']; exact kp8 _ _ (smz _ _ hb') h1'
     refine ⟨_,rfl,_,rfl,lo,_,rfl,g9,rfl,_,rfl,?_⟩
     by_cases h0:W'=0
     ·rw [decide_eq_true (by rw [h0])]
      refine iteT ?_;refine ⟨_,rfl,lo,rfl,.inr ⟨_,.inl hl9⟩,_,rfl,_,ks.map Sum.inl,_,b,hl9,rfl,hb9,lp,?_⟩;rw [aqg9,aqbp,aW7];have e:lay kv ks W'=drop kv ks:=by unfold lay; rw [if_pos h0]
      rw [e] at hd8;exact q _ _ _ (aKm f7 kp8 hd8 (aqu9.refl _) ((aqi7 f.lot ks).mono (by omega))) (kpf _)
     ·rw [decide_eq_false (by simp [h0])]
      refine aqti ?_;rw [aqb2 (by omega)] at hd8;exact q _ _ _ (aKm f7 kp8 hd8 (aqu9.refl _) (aqau f.lot (by omega) hks (by omega) (.inr hs))) (kpf _)
   ·rw [show (look kv ks).isSome=false by simpa using hs]
    exact aqti ⟨b,ks,c5,rfl,f,hb,hks,hin,q⟩
  ·refine ⟨by show 0 <= Aj; decide,fun b hb=>?_⟩
   have sm1:aqu9 H (upd H b (.tup [])):=ai hb;have hb1:(upd H b (.tup [])) b=some (.tup (([]:List Int).map V.int)):=aa;generalize upd H b (.tup [])=H1 at sm1 hb1 ⊢;refine ⟨_,rfl,fun e he=>⟨lo,e,_,rfl,rfl,(ai he) _ _ (sm1 _ _ f0.hlo),aa,_,rfl,?_⟩⟩;have sm2:aqu9 H1 (upd H1 e (.dT [])):=ai he;generalize upd H1 e (.dT [])=H2 at sm2 ⊢;have s2:=sm1.trans sm2;have f2:=f0.keepS s2;have plain:Tl C H0 p l d n lo names kv B c { nx:=fun _ H=>Q .non H,rt:=Q } [some (.ref p),some (.ref lo),some (.ref n),some (.int c),some (.ref b),none] H2 :=
    ⟨b,[],none,rfl,f2,sm2 _ _ hb1,List.nil_sublist _,.inl rfl,fun σ' H' kv' f' kp'=>k H' kv' f' fun b o hb=>kp' b o (s2 _ _ hb)⟩
   refine ite2 (fun hne=>?_) fun _=>aqti plain;refine ⟨_,rfl,_,_,rfl,rfl,(by show (0:Int) < 3; decide),_,_,rfl,rfl,_,rfl,?_⟩;refine ite2 (fun _=>?_) fun _=>plain;have hne':0 < kv.length:=by
    rw [kd_len] at hne
    have:¬ kv.length=0:=by simpa using hne
    omega
   have hl':H2 lo=some (.dT (dkv (kv.map fun p=>(p.1,V.int p.2)))):=by rw [<- aqm8]; exact f2.hlo
   have ek:(kv.map fun p=>(p.1,V.int p.2)).map (·.1)=kv.map (·.1):=by rw [map_map]; rfl
   have l7:kv.length <= 7:=by have:=ak2 [] f0.lot.kn; have:=f0.lot.cnt; omega
   refine ⟨_,rfl,lo,_,rfl,hl',by rw [length_map]; omega,fun m bs hm hlen hbs=>?_⟩;rw [ek] at hlen hbs;have sm3:aqu9 H2 (upd H2 m (.lst (bs.map V.ref))):=ai hm;have hm3:(upd H2 m (.lst (bs.map V.ref))) m=some (.lst (bs.map V.ref)):=aa;generalize upd H2 m (.lst (bs.map V.ref))=H3 at sm3 hm3 ⊢;have f3:=f2.keepS sm3;have kl:=aqm7 f0.lot.kn;have i0:=Bt (c / 3) (b:=((kd kv).length:Int)) (by rw [kd_len]; omega);have i1:=Bk (c / 3) (b:=((kd kv).length:Int)) (by rw [kd_len]; omega);obtain ⟨j,hj⟩:=Dy i0;have i2:j < bs.length:=by rw [kd_len] at i0 i1 hj; omega
   have at3:atI (bs.map V.ref) (c / 3 % ((kd kv).length:Int))=some (.ref bs[j]):=by
    rw [hj];refine aK7 ?_;rw [getElem?_map,getElem?_eq_getElem i2]; rfl
   refine ⟨_,rfl,_,_,rfl,rfl,⟨by decide,by decide⟩,_,rfl,lo,_,rfl,f3.hlo,_,_,rfl,rfl,(by show (0:Int) < ((kd kv).length:Int); rw [kd_len]; omega),m,_,_,_,rfl,rfl,SqL.of hm3,at3,?_⟩;have hkm:(ajc (kv.map (·.1))).getD j []∈kv.map (·.1):=by
    rw [show (ajc (kv.map (·.1))).getD j []=(ajc (kv.map (·.1)))[j]'(by omega) by simp [getD_eq_getElem?_getD,show j < (ajc (kv.map (·.1))).length by omega]];exact MT.mem_keys.mp (getElem_mem _)
   refine ⟨bs[j],(ajc (kv.map (·.1))).getD j [],none,rfl,f3,sm3 _ _ (hbs j i2),?_,.inr (by rw [axz hkm]; rfl),fun σ' H' kv' f' kp'=>k H' kv' f' fun b o hb=>kp' b o (sm3 _ _ (s2 _ _ hb))⟩;obtain ⟨q,hq,e⟩:=Ah.mp hkm;rw [<- e];exact f0.lot.sub q hq
end
theorem aqjg {K:Frag} {z:Addr} {xs ys:List V} {j:Nat} {te:TE} {js:List (Option Nat)} {σ:L2.St} {H:Hp} {Q:Addr->Hp->Prop} (hz:SqL K H z xs) (hy:ys.length=xs.length) (hlen:xs.length < Aj) (S:L2.St->Prop) (hS:S (mkS js σ))
  (step:∀ (i:Nat) (x y:V) (σ':L2.St) (H':Hp),xs[i]?=some x->ys[i]?=some y->S σ'->aqu9 H H'->S (σ'.set j (some x))/\(∀ R:VK,R y H'->te (σ'.set j (some x)) H' R))
  (k:∀ l,H l=none->Q l (upd H l (.lst ys))) :
  ∀ l,H l=none->∃ W:Nat->Nat->L2.St->Hp->Prop,(∃ m,W 0 m (mkS js σ) (upd H l (.lst [])))/\∀ i m σ H,W i m σ H ->
   ((Itl K z).stop i H/\Q l H) \/ ((Itl K z).go i H/\∀ x H',(Itl K z).yld i H x H'->azj j x σ H' fun σ2 H2=>awi σ2 H2 fun b H3 =>
     if b=true then te σ2 H3 fun y H4=>∃ acc,H4 l=some (.lst acc)/\acc.length < Aj/\∃ m',m' < m/\W (i + 1) m' σ2 (upd H4 l (.lst (acc++[y]))) else ∃ m',m' < m/\W (i + 1) m' σ2 H3):=by
 intro l hl;refine ⟨fun i m σ' H'=>m=xs.length - i/\i <= xs.length/\S σ'/\H'=upd H l (.lst (ys.take i)),⟨_,rfl,zero_le _,hS,by simp⟩,?_⟩;rintro i m σ' H' ⟨rfl,hi,hs,rfl⟩;have sm:aqu9 H (upd H l (.lst (ys.take i))):=ai hl
 by_cases hlt:i < xs.length
 ·have hlt':i < ys.length:=by omega
  refine .inr ⟨⟨xs,xs[i],sm.seq hz,by simp [hlt]⟩,fun x H2 y=>?_⟩;obtain ⟨rfl,y⟩:=y;obtain ⟨s1,s3⟩:=step i x ys[i] σ' _ (y xs (sm.seq hz)) (getElem?_eq_getElem hlt') hs sm;dsimp only [awi,azj];rw [if_pos rfl];refine s3 _ ⟨_,aa,by rw [length_take]; omega,_,(by omega:xs.length - (i + 1) < xs.length - i),rfl,hlt,s1,?_⟩;rw [take_succ_eq_append_getElem hlt',aW7]
 ·have e1:i=xs.length:=by omega
  subst e1;refine .inl ⟨⟨xs,sm.seq hz,le_refl _⟩,?_⟩;rw [<- hy,take_length];exact k l hl
theorem aqkq {K:Frag} {F:Hp}:∀ {R:List aqua} {vs:List V},Reps K F vs (R.map aqt5)->∀ {i:Nat} {x:V},vs[i]?=some x->∃ t ws r,x=.ref t/\R[i]?=some r/\SqT K F t (.int r.1 :: ws)
 | [],_,h,i,x,e=>by cases h; cases e
 | r :: R,_,h,i,x,e=>by
  cases h with
  | cons h1 h2 =>
   cases i with
   | succ i=>exact aqkq h2 (by simpa using e)
   | zero =>
    cases h1 with
    | tup hT q =>
     cases q with
     | cons a q =>
      cases a;cases e;exact ⟨_,_,r,rfl,rfl,hT⟩
def aXg (h:List MB.aqud) (seats:Int) (names:List Str):List Str:=(bsR h seats).map fun k=>aqtg names k
def aqfa (K:Frag) (C:Addr):Sp:=fun vs H Q _=>∃ (p l d:Addr) (names:List Str) (kv:aquf) (seats:Int),vs=[.ref p,.int seats]/\HallAt C H p l d names kv/\Good names kv/\okW (hp kv)/\(0 <= seats/\seats <= 6) /\
 ∀ r H',aqu9 H H'->H r=none->H' r=some (.lst ((aXg (hp kv) seats names).map V.str))->Q (.ref r) H'
section
variable {P:Ak} {w:World} {K:Frag} {mg:Str->Option Value} {base:Heap} {C:Addr}
theorem scB:FnScope ["self","seats","told"] ["self","seats"] (af aqh2):=fsc
theorem aqai {f fH fO:Addr} {fd fdH fdO:Am} (F:Fun K "bench_of" "Hall.bench_of" aqh2 f fd) (T:Hx K mg C)
  (GH:FnOk P w K mg base CX0 3 fH fdH ["self"] (spHeap K C)) (bH:L2.Binds K fdH ["self"] []) (mH:Meth K C "heap" fH) (GO:FnOk P w K mg base CX0 1 fO fdO ["self","numbers"] (aVr K C)) (bO:L2.Binds K fdO ["self","numbers"] []) (mO:Meth K C "names_of" fO)
  (Gb:Fn P w K mg base 7 "bench" ["heap","seats"] (spD K 2 aw5)):FnOk P w K mg base CX0 8 f fd ["self","seats"] (aqfa K C):=by
 obtain ⟨fb,fdb,okb,mb,kb,bb⟩:=Gb;refine F.ok scB (k:=7) (fun vs H Q E h=>?_) (fun cdv A outer s H vs Q E hr h=>?_)
 ·obtain ⟨_,_,_,_,_,_,rfl,_⟩:=h
  rfl
 ·obtain ⟨p,l,d,names,kv,seats,rfl,S,g,okw,hse,k⟩:=h
  obtain ⟨⟨dx,h1⟩,h2,h3⟩:=id S;have hr1:Room 1 _:=hm hr;have hr3:Room 3 _:=hm hr;refine ⟨_,aj (aq (i:=2) scB.nd rfl (.inl rfl) (aq6 okb hr rfl mb kb bb .nil azs (gd (aqa2 (pv 0) T.cl mH GH hr3 bH .nil azs) (gd (pv 1) cn))))
   (av (av1 (axm (pv 0) T.cl mO GO hr1 bO .nil azs (gd (aj1 (cl:=_) (N':=["row"]) (js:=[none]) (tc:=awi) (te:=tOp (rIxT K) (aqsw 0) (tC (.int 0))) (by o_reads)
    (aJ (aq3 aqad (aZa aqe8 (pv 2) am (fun _ _=>rfl)) (aZa aqe8 (pv 2) am (fun _ _=>rfl)))) (fun _ _ _ _ _=>pgc 0) pif0
    (fun _ _ _ _ _=>aZa (ix_tK rfl) (pv 0) am (fun _ _=>rfl))) cn)))),?_⟩
  refine ⟨_,rfl,p,dx,_,rfl,h1,ajf,p,l,d,names,kv,rfl,S,by have:=g.l12; omega,g.kl,fun v2 F2 H2 A2 ow2 sF2 hA2 sm2=>?_⟩;have rf:=ow2.rep sF2 (aYe g.kn) (fun _ _=>rfl);clear ow2 sF2 hA2;refine ⟨_,rfl,H2,[MB.aF (hp kv),.int seats],_,aqu9.refl _,.cons rf (.cons (.int _) .nil),rfl,aqcc (hp kv) g.okH okw seats hse,fun v3 F3 H3 e3 r3=>?_⟩;have s3:=sm2.trans e3.hh;have bel:=aqc8 (seats:=seats) g.below;obtain ⟨l1,l2⟩:=aqjk (hp kv) seats;unfold aXg bsR at k;unfold bsR at bel;generalize ip (hp kv) seats=R1 at *;generalize aqy (hp kv) seats=R2 at *;cases r3 with
  | @tup a vs _ hT rr =>
  cases rr with
  | cons ra rr =>
  cases rr with
  | cons rb rr =>
  cases rr with
  | cons rc rr =>
  cases rr;clear ra;cases rb with
  | @lst z1 vs1 _ hq1 rr1 =>
  cases rc with
  | @lst z2 vs2 _ hq2 rr2 =>
  have rows:=rr1.append rr2;rw [<- map_append] at rows bel;rw [<- map_append] at k;have lv:(vs1++vs2).length=(R1++R2).length:=by have:=rows.length; simpa using this
  have hT3:=seqT e3.fh hT;have l12:(R1++R2).length <= 12:=by rw [length_append]; omega
  clear hT;refine ⟨_,rfl,p,dx,_,rfl,s3 _ _ h1,ajf,_,rfl,a,_,_,_,rfl,rfl,hT3,rfl,_,rfl,a,_,_,_,rfl,rfl,hT3,rfl,z1,z2,_,_,rfl,rfl,aqt1 e3.fh hq1,aqt1 e3.fh hq2,by rw [<- length_append,lv,Ao]; omega,fun q hq=>?_⟩;have sm4:aqu9 H3 (upd H3 q (.lst (vs1++vs2))):=ai hq;have hq4:(upd H3 q (.lst (vs1++vs2))) q=some (.lst (vs1++vs2)):=aa;generalize upd H3 q (.lst (vs1++vs2))=H4 at sm4 hq4 ⊢;have s4:=s3.trans sm4;refine ⟨q,rfl,⟨_,SqL.of hq4⟩,aqjg (ys:=((R1++R2).map (·.1)).map V.int) (SqL.of hq4) (by rw [length_map,length_map]; exact lv.symm) (by rw [lv,Ao]; omega) (fun σ=>∃ c,σ=[c]) ⟨none,rfl⟩ (fun i x y σ' H' hx hy hS sm=>?_) fun z hz=>?_⟩
  ·obtain ⟨c,rfl⟩:=hS
   obtain ⟨t,ws,r,rfl,hr',hTr⟩:=aqkq rows hx;rw [getElem?_map,getElem?_map,hr'] at hy;cases hy;exact ⟨⟨_,rfl⟩,fun R h=>⟨_,rfl,t,_,_,_,rfl,rfl,seqT (e3.fh.trans (sm4.trans sm)) hTr,aK7 (j:=0) rfl,h⟩⟩
  ·have smz:aqu9 H4 (upd H4 z (.lst (((R1++R2).map (·.1)).map V.int))):=ai hz
   have hz5:(upd H4 z (.lst (((R1++R2).map (·.1)).map V.int))) z=some (.lst (((R1++R2).map (·.1)).map V.int)):=aa;generalize upd H4 z (.lst (((R1++R2).map (·.1)).map V.int))=H5 at smz hz5 ⊢;have s5:=s4.trans smz;exact ⟨p,l,d,z,names,kv,_,rfl,S.keep s5,SqL.of hz5,bel,by rw [length_map]; omega,fun r hr=>k r _ (s5.trans (ai hr)) (s5.free hr) aa⟩
end
theorem aqp6 {K:Frag} {F0:Hp} {vs:List V} {ds:List D} {dd:D} (r:Reps K F0 vs ds) (hl:ds.length=1) (hg:lawD ds=some dd):∃ (a:Addr) (ns:List Int),vs=[.ref a]/\SqE K F0 a (ns.map V.int)/\ns.length <= 63/\dd=.bl true:=by
 cases r with
 | nil=>cases hl
 | cons r1 r=>cases r with
  | cons _ _=>cases hl
  | nil =>
   obtain ⟨ns,hn,hg⟩:=bind_some hg;split at hg
   ·rename_i h63
    cases hg;have e:=aJ4 hn;subst e;cases r1 with
    | lst hq rr =>
     refine ⟨_,ns,rfl,?_,h63,rfl⟩
     have:∀ {vs:List V} {ns:List Int},Reps K F0 vs (ns.map D.int)->vs=ns.map V.int:=by
      intro vs ns
      induction ns generalizing vs with
      | nil=>intro h; cases h; rfl
      | cons n ns ih =>
       intro h;cases h with
       | cons h t=>cases h; rw [ih t]; rfl
     rw [<- this rr];exact hq
   ·cases hg
theorem aqlt (h:List MB.aqud) (seats:Int) (names:List Str):nmD names (bsR h seats)=.lst ((aXg h seats names).map D.str):=by
 unfold nmD aXg;rw [map_map]; rfl
theorem Lot.okW {names:List Str} {B:Int} {kv:aquf} (g:Lot names B kv) (hB0:0 <= B) (hB:B <= 1000000000000) (l12:(hp kv).length <= 12):okW (hp kv):=by
 refine ⟨fun p hp=>?_,fun p hp=>?_,by omega⟩
 ·obtain ⟨k,hk,rfl⟩:=Ah.mp hp
  exact g.wt1 (by rw [axz (MT.mem_keys.mp hk)]; rfl)
 ·obtain ⟨k,hk,rfl⟩:=Ah.mp hp
  have:=(g.wt hB0 k).2
  show L_k62.wt kv k < 2 ^ 72;omega
theorem iteNe {d e:D} {A B:Prop} (h:eqD d e=true) (hB:B):if (if true=true then !eqD d e else eqD d e)=true then A else B:=by
 rw [h]; exact hB
def TL (C:Addr) (H0:Hp) (a p l d n lo:Addr) (names:List Str) (i:Nat):TS:=fun D σ H=>∃ (kv:aquf) (seats B:Int) (c6 c7 c8:Option V),σ=[some (.ref a),some (.ref n),some (.ref p),some (.ref lo),some (.int (0 + (i:Int))),some (.int seats),c6,c7,c8]/\Fil C H0 p l d n lo names H kv B/\(0 <= B/\B <= 900000000000)/\(0 <= seats/\seats <= 6) /\
 ∀ c4 c5 c6 c7 c8 H' kv',Fil C H0 p l d n lo names H' kv' (B + 10000000000)->D.nx [some (.ref a),some (.ref n),some (.ref p),some (.ref lo),c4,c5,c6,c7,c8] H'
def TK (K:Frag) (C:Addr) (a p l d n lo:Addr) (names:List Str):TT:=fun σ H Q=>∃ (kv:aquf) (seats i:Int) (vd:V) (c6 c8:Option V) (F:Hp),σ=[some (.ref a),some (.ref n),some (.ref p),some (.ref lo),some (.int i),some (.int seats),c6,some vd,c8]/\HallAt C H p l d names kv/\Good names kv/\okW (hp kv)/\(0 <= seats/\seats <= 6)/\aqu9 F H/\Rep K F vd (nmD names (bsR (hp kv) seats))/\∀ H',aqu9 H H'->Q false H'
section
variable {P:Ak} {w:World} {K:Frag} {mg:Str->Option Value} {base:Heap} {C:Addr}
theorem awk:FnScope ["script","names","hall","lots","k","seats","heap","due","found"] ["script"] (af aqgz):=fsc
set_option maxHeartbeats 8000000 in
theorem aqot {f fI fB fN:Addr} {fd fdI fdB fdN:Am} (F:Fun K "law" "law" aqgz f fd) (T:Hx K mg C) (Gn:Fn P w K mg base 2 "_law_names" ["script","at","many"] (aqf9 K)) (Gc:Fn P w K mg base 1 "_law_cell" ["script","k"] (spD K 2 aT))
  (Gf:Fn P w K mg base 3 "_law_filled" ["hall","script","names"] (aYk K C)) (Gu:Fn P w K mg base 8 "_law_due" ["heap","seats","names"] (spD K 3 azz)) (Gh:Fn P w K mg base 3 "_law_changed" ["hall","lots","names","cell"] (aVs C))
  (M:Mk K C fI) (GI:FnOk P w K mg base CX0 1 fI fdI ["self"] (spInit C)) (bI:L2.Binds K fdI ["self"] []) (GB:FnOk P w K mg base CX0 8 fB fdB ["self","seats"] (aqfa K C)) (bB:L2.Binds K fdB ["self","seats"] []) (mB:Meth K C "bench_of" fB)
  (GN:FnOk P w K mg base CX0 1 fN fdN ["self"] (aYj C)) (bN:L2.Binds K fdN ["self"] []) (mN:Meth K C "names" fN):FnOk P w K mg base CX0 12 f fd ["script"] (spD K 1 aqjx):=by
 obtain ⟨fn,fdn,okn,mn_,kn,bn⟩:=Gn;obtain ⟨fc,fdc,okc,mc,kc,bc⟩:=Gc;obtain ⟨ff,fdf,okf,mf,kf,bf⟩:=Gf;obtain ⟨fu,fdu,oku,mu,ku,bu⟩:=Gu;obtain ⟨fh,fdh,okh,mh,kh,bh⟩:=Gh;refine F.ok awk (k:=11) (fun vs H Q E h=>by obtain ⟨F,ds,d,_,r,hl,_⟩:=h; rw [r.length,hl]; rfl) fun cdv A outer s H vs Q E hr h=>?_;have hr1:Room 1 _:=hm hr;have hr2:Room 2 _:=hm hr;have hr3:Room 3 _:=hm hr;have hr8:Room 8 _:=hm hr;obtain ⟨F0,ds,dd,sm0,r,hl,hg,k⟩:=h;obtain ⟨a,ns,rfl,ha,h63,rfl⟩:=aqp6 r hl hg;clear r hl hg;have ce:∀ (j:Nat),j <= 1000->aT [MB.ay ns,.int (j:Int)]=some (.int (cellOf ns j)):=fun j hj=>aqc3 ns j hj;refine ⟨_,aj (aq (i:=1) awk.nd rfl (.inl rfl) (aq6 okn hr2 rfl mn_ kn bn .nil azs (gd (pv 0) (gd am (gd (aq3 ax5 am (aq3 ax4 (aq6 okc hr1 rfl mc kc bc .nil azs (gd (pv 0) (gd am cn))) am)) cn)))))
  (aj (aq (i:=2) awk.nd rfl (.inl rfl) (aqhg M GI hr2 rfl T.mgC bI .nil azs))
  (aj (aq (i:=3) awk.nd rfl (.inr rfl) (aq6 okf hr3 rfl mf kf bf .nil azs (gd (pv 2) (gd (pv 0) (gd (pv 1) cn)))))
  (aj (aX4 Be rfl (av4 rfl T.zr (gd am cn)) (aq0 (i:=4) awk.nd rfl (.inl rfl))
   (aj (aq (i:=5) awk.nd rfl (.inl rfl) (aq3 ax5 am (aq3 ax4 (aq6 okc hr1 rfl mc kc bc .nil azs (gd (pv 0) (gd am cn))) am)))
   (aj (aX3 (aqd aqjw (aq3 ax4 (aq6 okc hr1 rfl mc kc bc .nil azs (gd (pv 0) (gd am cn))) am) am (aqg _)) (av (aq (i:=5) awk.nd rfl (.inl rfl) (aq3 ax5 am (aq3 ax4 (aq3 ax5 (aq6 okc hr1 rfl mc kc bc .nil azs (gd (pv 0) (gd am cn))) (pv 4)) am)))) ajr)
   (PSs.imp (t':=fun D σ H'=>∃ (H0:Hp) (p l d n lo:Addr) (names:List Str) (i:Nat),aqu9 F0 H'/\i <= 10/\names.length <= 6/\names.Nodup/\(∀ y∈names,aqi y)/\TL C H0 a p l d n lo names i D σ H')
   (aj (aY9 (i:=6) awk.nd rfl rfl rfl (cl:=_) (N':=["marks","lots"]) (js:=[none,some 3]) (tc:=awi) (te:=tTup (az6 (aqjv (aqsw 1) (aqsw 0)) (az6 (tCB (rLOf K) (az6 (aqsw 0) aqsx)) aqsx))) (by o_reads)
    (aJ (aV (azk hr.units rfl) rfl T.zsorted aj7 (gd (pv 3) cn)))
    (fun _ _ _ _ _=>pgc 0)
    pif0
    (fun _ _ _ _ _=>aWe (gd (aJv (awp hr) (pv 1) (pv 0) (fun _ _=>rfl)) (gd (aqh (aZ5 rfl) rfl T.zlist ak7 (gd (pv 0) cn)) cn))))
   (aj (aq (i:=7) awk.nd rfl (.inl rfl) (aq6 oku hr8 rfl mu ku bu .nil azs (gd (pv 6) (gd (pv 5) (gd (pv 1) cn)))))
   (aj (aq (i:=8) awk.nd rfl (.inl rfl) (axm (pv 2) T.cl mB GB hr8 bB .nil azs (gd (pv 5) cn)))
   (aj (aX3 (PW.pt (pw_or (aqkw (aqh8 (aV (aqji aqih) rfl T.zisi aXf (gd (pv 8) (gd (aql5 (v:=.ty "list") rfl T.zlist ak7 rfl) cn))))) (aqdg (aqd (aqdq hr.units) (pv 8) (pv 7) (aqg _))))) (av (av1 pe_bl)) ajr)
   (aj (aqz (aqfn Br B0 B3 aj2 (pv 8) (gd aqhe cn)))
   (aj (aX3 (PW.pt (pw_or (PT.imp (t':=fun σ H' Q=>∃ (p l d n lo:Addr) (names:List Str),(∀ y∈names,aqi y)/\TK K C a p l d n lo names σ H' Q) (PW.pt (aqdh (aqd aqjw (pv 4) am (aqg _)) (aVz (aqd (aqdq hr.units) (axm (pv 2) T.cl mB GB hr8 bB .nil azs (gd (pv 5) cn)) (pv 7) (aqg _))))) ?_) (aqdg (aqd (aqdq hr.units) (aqa2 (pv 2) T.cl mN GN hr1 bN .nil azs) (pv 1) (aqg _))))) (av (av1 pe_bl)) ajr)
   (av (aqz (aq6 okh hr3 rfl mh kh bh .nil azs (gd (pv 2) (gd (pv 3) (gd (pv 1) (gd (aq6 okc hr1 rfl mc kc bc .nil azs (gd (pv 0) (gd (aq3 ax5 am (pv 4)) cn))) cn))))))))))))) ?_))))
  (av (av1 pe_bl))))),?_⟩
 ·rintro σ H' Q' ⟨p,l,d,n,lo,names,hok,kv,seats,i,vd,c6,c8,F1,rfl,S,g,okw,hse,sF1,rep,q⟩
  obtain ⟨dx,h1⟩:=S.ob;refine ⟨_,rfl,rfl,_,rfl,?_⟩;refine ite2 (fun _=>?_) fun _=>q _ (aqu9.refl _);refine ⟨_,rfl,p,dx,_,rfl,h1,ajf,_,rfl,p,l,d,names,kv,seats,rfl,S,g,okw,hse,fun r H2 sm2 hr2 h2=>?_⟩;have shn:shp 20 (nmD names (bsR (hp kv) seats))=true:=aqkn (fun x hx m=>aze (hok x hx) m) _ 19;refine ⟨_,rfl,H2,nmD names (bsR (hp kv) seats),_,aqu9.refl _,by rw [aqlt]; exact .lst (.inl (.inl h2)) (aq2 _),(axk (sF1.trans sm2)).1 rep,shn,shn,_,rfl,?_⟩;show Q' (!eqD _ _) H2;rw [aQ5 shn];exact q _ sm2
 ·rintro Dn σ H1 ⟨H0,p,l,d,n,lo,names,i,sF0,hi,h6,nd,hok,kv,seats,B,c6,c7,c8,rfl,f,hB,hse,q⟩
  obtain ⟨dx,h1⟩:=f.hall.ob;have g:=f.lot.good h6 hok nd;have okw:=f.lot.okW hB.1 (by omega) g.hlen;have shn:shp 20 (nmD names (bsR (hp kv) seats))=true:=aqkn (fun x hx m=>aze (hok x hx) m) _ 19;have hl':H1 lo=some (.dT (dkv (kv.map fun p=>(p.1,V.int p.2)))):=by rw [<- aqm8]; exact f.hlo
  have ek:(kv.map fun p=>(p.1,V.int p.2)).map (·.1)=kv.map (·.1):=by rw [map_map]; rfl
  refine ⟨_,rfl,lo,_,rfl,hl',by rw [length_map]; have:=g.l12; omega,fun m bs hm hlen hbs=>?_⟩;rw [ek] at hlen hbs;have sm1:aqu9 H1 (upd H1 m (.lst (bs.map V.ref))):=ai hm;refine ⟨m,rfl,⟨_,SqL.of aa⟩,aqby (val:=fun k=>wt kv k) (kvs:=kd kv) aa hlen (fun j hj=>sm1 _ _ (hbs j hj)) (sm1 _ _ f.hlo) (fun k hk=>?_) (by have:=MT.keys_len (kv.map (·.1)); rw [length_map] at this; have:=g.l12; rw [Ao]; omega) ⟨none,rfl⟩ fun r2 H2 F2 hr2 sm2 sF Fl hts=>?_⟩
  ·rw [axa,axz (MT.mem_keys.mp hk)]; rfl
  obtain ⟨ts,ht1,ht2⟩:=hts;have rph:Rep K H2 (.ref r2) (MB.aF (hp kv)):=by rw [aqiq]; exact .lst (.inl (.inl ht1)) ((axk sF).2 ht2)
  have s2:=sm1.trans sm2;clear ht1 ht2 sF Fl sm1 sm2 hlen hbs hm ek hl';refine ⟨_,rfl,_,rfl,_,rfl,H2,[MB.aF (hp kv),.int seats,nmsD names],_,aqu9.refl _,.cons rph (.cons (.int _) (.cons (.lst (.inl (.inl (s2 _ _ f.hn))) (aq2 _)) .nil)),rfl,aqpr g.okH okw seats hse g.below,fun vd F3 H3 e3 rd=>?_⟩;have s3:=s2.trans e3.hh;have f3:=f.keepS s3;refine ⟨_,rfl,p,dx,_,rfl,s3 _ _ h1,ajf,_,rfl,p,l,d,names,kv,seats,rfl,f3.hall,g,okw,hse,fun r H4 sm4 hr3 h4=>?_⟩;have rf4:Rep K H4 (.ref r) (nmD names (bsR (hp kv) seats)):=by rw [aqlt]; exact .lst (.inl (.inl h4)) (aq2 _)
  refine ⟨_,rfl,.ref r,_,H4,rfl,aqu9.refl _,rf4,_,rfl,aqti ?_⟩;refine ⟨_,rfl,_,rfl,H4,_,_,aqu9.refl _,rf4,(axk (e3.fh.trans sm4)).1 rd,shn,shn,_,rfl,iteNe (aQ5 shn) ?_⟩;have bl:(aXg (hp kv) seats names).length <= 12:=by
   have:=aqjk (hp kv) seats
   unfold aXg bsR;rw [length_map,length_append,length_map,length_map];omega
  refine ⟨_,rfl,.inl ⟨rfl,_,SqL.of h4⟩,r,_,_,rfl,rfl,h4,by rw [length_map,Ao]; omega,?_⟩;have s35:aqu9 H3 (upd H4 r (.lst ((aXg (hp kv) seats names).map V.str++[.str "more"]))):=fun b o hb=>by rw [ae (ac hb hr3)]; exact sm4 _ _ hb
  generalize upd H4 r (.lst ((aXg (hp kv) seats names).map V.str++[.str "more"]))=H5 at s35 ⊢;have f5:=f3.keepS s35;refine ⟨p,l,d,n,lo,names,hok,kv,seats,_,vd,_,_,F3,rfl,f5.hall,g,okw,hse,e3.fh.trans s35,rd,fun H6 s6=>?_⟩;have f6:=f5.keepS s6;obtain ⟨dx6,h61⟩:=f6.hall.ob;refine aqti ?_;refine ⟨_,rfl,p,dx6,_,rfl,h61,ajf,p,l,d,names,kv,rfl,f6.hall,fun m7 hm7=>?_⟩;have s7:aqu9 H6 (upd H6 m7 (.lst (names.map V.str))):=ai hm7;have h77:(upd H6 m7 (.lst (names.map V.str))) m7=some (.lst (names.map V.str)):=aa;generalize upd H6 m7 (.lst (names.map V.str))=H7 at s7 h77 ⊢;have f7:=f6.keepS s7;have shy:shp 20 (.lst (names.map D.str))=true:=axg hok 19;refine ⟨_,rfl,H7,.lst (names.map D.str),.lst (names.map D.str),aqu9.refl _,.lst (.inl (.inl h77)) (aq2 _),.lst (.inl (.inl f7.hn)) (aq2 _),shy,shy,_,rfl,iteNe (aQ5 shy) ?_⟩;have c7:=ce (7 + i) (by omega);rw [show (((7 + i:Nat):Nat):Int)=7 + (0 + (i:Int)) by omega] at c7;refine ⟨_,rfl,_,rfl,_,rfl,_,rfl,_,rfl,_,_,rfl,rfl,F0,[MB.ay ns,.int (7 + (0 + (i:Int)))],_,sF0.trans (s3.trans (s35.trans (s6.trans s7))),.cons (.lst ha (aR ns)) (.cons (.int _) .nil),rfl,c7,fun v8 F8 H8 e8 r8=>?_⟩;cases r8;exact ⟨H0,p,l,d,n,lo,names,kv,B,_,rfl,f7.keepS e8.hh,hB.1,by omega,h6,nd,hok,fun H9 kv9 f9 _=>q _ _ _ _ _ H9 kv9 f9⟩
 ·refine ⟨_,rfl,_,rfl,F0,[MB.ay ns,.int 4],_,sm0,.cons (.lst ha (aR ns)) (.cons (.int _) .nil),rfl,ce 4 (by omega),fun v1 F1 H1 e1 r1=>?_⟩
  cases r1;refine ⟨_,_,rfl,rfl,(by show (0:Int) < 6; decide),_,_,rfl,rfl,?_⟩;have c0:=Bt (cellOf ns 4) (b:=6) (by decide);have c1:=Bk (cellOf ns 4) (b:=6) (by decide);obtain ⟨m,hm⟩:∃ m:Nat,1 + cellOf ns 4 % 6=(m:Int):=⟨(1 + cellOf ns 4 % 6).toNat,by omega⟩;dsimp only;rw [hm];refine ⟨F0,a,ns,0,m,rfl,sm0.trans e1.hh,ha,h63,by omega,by omega,fun n H2 names s2 hn0 hn2 hnl hnd hnok=>?_⟩;have s02:=e1.hh.trans s2;intro p dx np ndx nep;refine ⟨p,dx,rfl,aa,fun l d H3 hl hd S3 kp3=>⟨rfl,?_⟩⟩;have sx:aqu9 H2 (upd (upd H2 dx (.own p)) p (.ins C dx [])):=fun b o e=>by
   rw [ae (ac e np),ae (ac e ndx)];exact e
  have s3:aqu9 H2 H3:=fun b o e=>kp3 b o (sx _ _ e) (ac e np);have l2:H2 l=none:=sx.free hl;have d2:H2 d=none:=sx.free hd;have s03:=s02.trans s3;clear sx kp3 hl hd np ndx nep;refine ⟨_,rfl,_,rfl,_,rfl,F0,p,l,d,a,n,ns,names,rfl,S3,sm0.trans s03,ha,h63,(sm0.trans s02).free l2,(sm0.trans s02).free d2,s3 _ _ hn2,ac hn2 l2,by omega,by omega,hnd,hnok,fun lo H4 kv0 hlo fil4=>?_⟩;have l0:H l=none:=s02.free l2;have d0:H d=none:=s02.free d2;have sF:∀ {H':Hp} {kv:aquf} {B:Int},Fil C H3 p l d n lo names H' kv B->aqu9 H H':=fun f b o hb=>f.keep b o (s03 _ _ hb) (ac hb l0) (ac hb d0);refine ⟨3,rfl,by decide,by decide,av8 (n:=(3:Int).toNat) (fun i σ' H'=>∃ c4 c5 c6 c7 c8 kv,σ'=[some (.ref a),some (.ref n),some (.ref p),some (.ref lo),c4,c5,c6,c7,c8]/\Fil C H3 p l d n lo names H' kv (51000000000 + (i:Int) * 10000000000))
   ⟨_,_,_,_,_,kv0,rfl,by exact fil4⟩ (fun i σ' H' hi hI=>?_) fun σ' H' hI=>?_⟩
  ·obtain ⟨c4,c5,c6,c7,c8,kv,rfl,fl⟩:=hI
   have hi3:i < 3:=hi;have end_:∀ c4 c5 c6 c7 c8 H' kv',Fil C H3 p l d n lo names H' kv' (51000000000 + (i:Int) * 10000000000 + 10000000000)->∃ b4 b5 b6 b7 b8 kv,([some (.ref a),some (.ref n),some (.ref p),some (.ref lo),c4,c5,c6,c7,c8]:L2.St)=[some (.ref a),some (.ref n),some (.ref p),some (.ref lo),b4,b5,b6,b7,b8]/\Fil C H3 p l d n lo names H' kv (51000000000 + ((i + 1:Nat):Int) * 10000000000):=fun c4 c5 c6 c7 c8 H' kv' f'=>⟨_,_,_,_,_,kv',rfl,by rw [show (51000000000:Int) + ((i + 1:Nat):Int) * 10000000000=51000000000 + (i:Int) * 10000000000 + 10000000000 by omega]; exact f'⟩;refine ⟨_,rfl,F0,[MB.ay ns,.int 5],_,sm0.trans (sF fl),.cons (.lst ha (aR ns)) (.cons (.int _) .nil),rfl,ce 5 (by omega),fun v5 F5 H5 e5 r5=>?_⟩;cases r5;refine ⟨_,_,rfl,rfl,(by show (0:Int) < 6; decide),_,_,rfl,rfl,?_⟩;have f5:=fl.keepS e5.hh;refine ⟨_,rfl,F0,[MB.ay ns,.int 6],_,sm0.trans (sF f5),.cons (.lst ha (aR ns)) (.cons (.int _) .nil),rfl,ce 6 (by omega),fun v6 F6 H6 e6 r6=>?_⟩;cases r6;refine ⟨_,_,rfl,rfl,(by show (0:Int) < 2; decide),rfl,_,rfl,?_⟩;have f6:=f5.keepS e6.hh;refine ite2 (fun _=>?_) fun _=>?_
   ·refine ⟨_,rfl,F0,[MB.ay ns,.int 5],_,sm0.trans (sF f6),.cons (.lst ha (aR ns)) (.cons (.int _) .nil),rfl,ce 5 (by omega),fun v7 F7 H7 e7 r7=>?_⟩
    cases r7;refine ⟨_,rfl,_,_,rfl,rfl,_,_,rfl,rfl,(by show (0:Int) < 6; decide),_,_,rfl,rfl,?_⟩;have f7:=f6.keepS e7.hh;have q0:=Bt (cellOf ns 5 + (0 + (i:Int))) (b:=6) (by decide);have q1:=Bk (cellOf ns 5 + (0 + (i:Int))) (b:=6) (by decide);exact ⟨H3,p,l,d,n,lo,names,i,sm0.trans (sF f7),by omega,by omega,hnd,hnok,kv,1 + (cellOf ns 5 + (0 + (i:Int))) % 6,_,_,_,_,rfl,f7,by omega,by omega,end_⟩
   ·have q0:=Bt (cellOf ns 5) (b:=6) (by decide)
    have q1:=Bk (cellOf ns 5) (b:=6) (by decide);exact ⟨H3,p,l,d,n,lo,names,i,sm0.trans (sF f6),by omega,by omega,hnd,hnok,kv,1 + cellOf ns 5 % 6,_,_,_,_,rfl,f6,by omega,by omega,end_⟩
  ·obtain ⟨c4,c5,c6,c7,c8,kv,rfl,fl⟩:=hI
   have smF:=sF fl;exact k (.bl true) F0 _ ⟨aqu9.refl _,sm0.trans smF,smF,fun _ _ h=>.inl h⟩ (.bl true)
end
def Dn (K:Frag) (x:Str) (st:Stmt):Prop:=∃ (f:Addr) (od an:Option Addr) (sl:Array (Option Value)) (oc kV dc pm cd ct:Value),nsIn K Aq x=some (some (.ref f))/\K.lookup f=some ⟨oc,od,.func (fnOf x x (aja st) (aqu st) (af st) .none kV dc pm an cd ct),sl⟩/\L5 K cd x=true/\Gr K (.ref f)=true
theorem dm {K:Frag} {x:Str} {st:Stmt} {f:Addr} {od an:Option Addr} {sl:Array (Option Value)} {oc kV dc pm cd ct:Value} (a:nsIn K Aq x=some (some (.ref f))) (l:K.lookup f=some ⟨oc,od,.func (fnOf x x (aja st) (aqu st) (af st) .none kV dc pm an cd ct),sl⟩) (c:L5 K cd x=true) (k:Gr K (.ref f)=true):Dn K x st:=⟨f,od,an,sl,oc,kV,dc,pm,cd,ct,a,l,c,k⟩
theorem dn {P:Ak} {w:World} {K:Frag} {mg:Str->Option Value} {base h:Heap} (X:K.In h) (G:h.Ns Aq mg) {x:Str} {st:Stmt} {k:Nat} {ps:List Str} {sp:Sp} (d:Dn K x st) (ok:∀ {f:Addr} {fd:Am},Fun K x x st f fd->FnOk P w K mg base CX0 k f fd ps sp) (b:∀ (kV doc pm:Value) (an:Option Addr) (cdv ct:Value) (us:List Value),us.length=ps.length->Hg (fnOf x x (aja st) (aqu st) (af st) .none kV doc pm an cdv ct) ⟨us,[]⟩=pure (ps.zip us)):Fn P w K mg base k x ps sp:=by
 obtain ⟨f,od,an,sl,oc,kV,dc,pm,cd,ct,a,l,c,kk⟩:=d;have F:=aqiu (st:=st) l c kk;exact ⟨_,_,ok F,mg_of X G a,kk,F.binds (ps:=ps) b⟩
theorem dn1 {P:Ak} {w:World} {K:Frag} {mg:Str->Option Value} {base h:Heap} (X:K.In h) (G:h.Ns Aq mg) {x p0:Str} {st:Stmt} {k:Nat} {sp:Sp} (d:Dn K x st) (ok:∀ {f:Addr} {fd:Am},Fun K x x st f fd->FnOk P w K mg base CX0 k f fd [p0] sp) (b:∀ (kV doc pm:Value) (an:Option Addr) (cdv ct:Value) a0,Hg (fnOf x x (aja st) (aqu st) (af st) .none kV doc pm an cdv ct) ⟨[a0],[]⟩=pure ([p0].zip [a0])):Fn P w K mg base k x [p0] sp :=
 dn X G d ok fun _ _ _ _ _ _ us hl=>by
  obtain ⟨a0,rfl⟩:=Cf.mp hl;exact b _ _ _ _ _ _ a0
theorem dn2 {P:Ak} {w:World} {K:Frag} {mg:Str->Option Value} {base h:Heap} (X:K.In h) (G:h.Ns Aq mg) {x p0 p1:Str} {st:Stmt} {k:Nat} {sp:Sp} (d:Dn K x st) (ok:∀ {f:Addr} {fd:Am},Fun K x x st f fd->FnOk P w K mg base CX0 k f fd [p0,p1] sp) (b:∀ (kV doc pm:Value) (an:Option Addr) (cdv ct:Value) a0 a1,Hg (fnOf x x (aja st) (aqu st) (af st) .none kV doc pm an cdv ct) ⟨[a0,a1],[]⟩=pure ([p0,p1].zip [a0,a1])):Fn P w K mg base k x [p0,p1] sp :=
 dn X G d ok fun _ _ _ _ _ _ us hl=>by
  cases us with
  | nil=>cases hl
  | cons a0 us =>
   obtain ⟨a1,rfl⟩:=Cf.mp (Nat.succ.inj hl);exact b _ _ _ _ _ _ a0 a1
theorem dn3 {P:Ak} {w:World} {K:Frag} {mg:Str->Option Value} {base h:Heap} (X:K.In h) (G:h.Ns Aq mg) {x p0 p1 p2:Str} {st:Stmt} {k:Nat} {sp:Sp} (d:Dn K x st) (ok:∀ {f:Addr} {fd:Am},Fun K x x st f fd->FnOk P w K mg base CX0 k f fd [p0,p1,p2] sp) (b:∀ (kV doc pm:Value) (an:Option Addr) (cdv ct:Value) a0 a1 a2,Hg (fnOf x x (aja st) (aqu st) (af st) .none kV doc pm an cdv ct) ⟨[a0,a1,a2],[]⟩=pure ([p0,p1,p2].zip [a0,a1,a2])):Fn P w K mg base k x [p0,p1,p2] sp :=
 dn X G d ok fun _ _ _ _ _ _ us hl=>by
  cases us with
  | nil=>cases hl
  | cons a0 us =>
   cases us with
   | nil=>cases hl
   | cons a1 us =>
    obtain ⟨a2,rfl⟩:=Cf.mp (Nat.succ.inj (Nat.succ.inj hl));exact b _ _ _ _ _ _ a0 a1 a2
theorem dn4 {P:Ak} {w:World} {K:Frag} {mg:Str->Option Value} {base h:Heap} (X:K.In h) (G:h.Ns Aq mg) {x p0 p1 p2 p3:Str} {st:Stmt} {k:Nat} {sp:Sp} (d:Dn K x st) (ok:∀ {f:Addr} {fd:Am},Fun K x x st f fd->FnOk P w K mg base CX0 k f fd [p0,p1,p2,p3] sp) (b:∀ (kV doc pm:Value) (an:Option Addr) (cdv ct:Value) a0 a1 a2 a3,Hg (fnOf x x (aja st) (aqu st) (af st) .none kV doc pm an cdv ct) ⟨[a0,a1,a2,a3],[]⟩=pure ([p0,p1,p2,p3].zip [a0,a1,a2,a3])):Fn P w K mg base k x [p0,p1,p2,p3] sp :=
 dn X G d ok fun _ _ _ _ _ _ us hl=>by
  cases us with
  | nil=>cases hl
  | cons a0 us =>
   cases us with
   | nil=>cases hl
   | cons a1 us =>
    cases us with
    | nil=>cases hl
    | cons a2 us =>
     obtain ⟨a3,rfl⟩:=Cf.mp (Nat.succ.inj (Nat.succ.inj (Nat.succ.inj hl)));exact b _ _ _ _ _ _ a0 a1 a2 a3
def Dx (K:Frag) (C:Addr) (x y:Str) (st:Stmt):Prop:=∃ (f:Addr) (od an:Option Addr) (sl:Array (Option Value)) (oc kV dc pm cd ct:Value),A7 K (.ref C) x=some (some (.ref f))/\G6 K (.ref f)=true/\K.lookup f=some ⟨oc,od,.func (fnOf x y (aja st) (aqu st) (af st) .none kV dc pm an cd ct),sl⟩/\L5 K cd y=true/\Gr K (.ref f)=true
theorem dx {K:Frag} {C:Addr} {x y:Str} {st:Stmt} {f:Addr} {od an:Option Addr} {sl:Array (Option Value)} {oc kV dc pm cd ct:Value} (a:A7 K (.ref C) x=some (some (.ref f))) (i:G6 K (.ref f)=true) (l:K.lookup f=some ⟨oc,od,.func (fnOf x y (aja st) (aqu st) (af st) .none kV dc pm an cd ct),sl⟩) (c:L5 K cd y=true) (k:Gr K (.ref f)=true):Dx K C x y st:=⟨f,od,an,sl,oc,kV,dc,pm,cd,ct,a,i,l,c,k⟩
theorem mx {P:Ak} {w:World} {K:Frag} {mg:Str->Option Value} {base:Heap} {C:Addr} {x y:Str} {st:Stmt} {k:Nat} {ps:List Str} {sp:Sp} (d:Dx K C x y st) (ok:∀ {f:Addr} {fd:Am},Fun K x y st f fd->FnOk P w K mg base CX0 k f fd ps sp) (b:∀ (kV doc pm:Value) (an:Option Addr) (cdv ct:Value) (us:List Value),us.length=ps.length->Hg (fnOf x y (aja st) (aqu st) (af st) .none kV doc pm an cdv ct) ⟨us,[]⟩=pure (ps.zip us)):∃ f fd,FnOk P w K mg base CX0 k f fd ps sp/\L2.Binds K fd ps []/\Meth K C x f:=by
 obtain ⟨f,od,an,sl,oc,kV,dc,pm,cd,ct,a,i,l,c,kk⟩:=d;have F:=aqiu (st:=st) l c kk;exact ⟨_,_,ok F,F.binds (ps:=ps) b,a,i,kk⟩
theorem len1 {p0:Str} {Q:List Value->Prop} (h:∀ a0,Q [a0]) (us:List Value) (hl:us.length=[p0].length):Q us:=by
 obtain ⟨a0,rfl⟩:=Cf.mp hl;exact h a0
theorem len2 {p0 p1:Str} {Q:List Value->Prop} (h:∀ a0 a1,Q [a0,a1]) (us:List Value) (hl:us.length=[p0,p1].length):Q us:=by
 cases us with
 | nil=>cases hl
 | cons a0 us=>exact len1 (p0:=p1) (Q:=fun us=>Q (a0 :: us)) (h a0) us (Nat.succ.inj hl)
theorem len3 {p0 p1 p2:Str} {Q:List Value->Prop} (h:∀ a0 a1 a2,Q [a0,a1,a2]) (us:List Value) (hl:us.length=[p0,p1,p2].length):Q us:=by
 cases us with
 | nil=>cases hl
 | cons a0 us=>exact len2 (p0:=p1) (p1:=p2) (Q:=fun us=>Q (a0 :: us)) (h a0) us (Nat.succ.inj hl)
theorem all_mk {l:Gv} {w:World} {K:Frag} {h:Heap} {mg:Str->Option Value} {fa C:Addr} {tk0 tk1 tk2:Tok} (X:K.In h) (G:h.Ns Aq mg) (hfa:mg "law"=some (.ref fa))
  (aC:nsIn K Aq "Hall"=some (some (.ref C)))
  (d0:Dn K "first_purses" aj0)
  (d1:Dn K "below" aYz)
  (d2:Dn K "least" aYw)
  (d3:Dn K "weight_of" az9)
  (d4:Dn K "likes_each" azf)
  (d5:Dn K "agreed" aX0)
  (d6:Dn K "likers" aXy)
  (d7:Dn K "divisor" aQm)
  (d8:Dn K "common_bottom" ajk)
  (d9:Dn K "tops_over" avb)
  (d10:Dn K "weight_at" ava)
  (d11:Dn K "share" aYt)
  (d12:Dn K "rate" aqgw)
  (d13:Dn K "liked" aYv)
  (d14:Dn K "offers" aXx)
  (d15:Dn K "minus" aYu)
  (d16:Dn K "purse_behind" ajz)
  (d17:Dn K "paid" aqgy)
  (d18:Dn K "rounds" aXw)
  (d19:Dn K "candidates_of" ajl)
  (d20:Dn K "weighed" aQl)
  (d21:Dn K "wait" aqgu)
  (d22:Dn K "waits" aYs)
  (d23:Dn K "plus" aqgx)
  (d24:Dn K "purses_behind" ajj)
  (d25:Dn K "grown" aYx)
  (d26:Dn K "last_purses" axj)
  (d27:Dn K "bench" aYy)
  (d28:Dn K "_law_cell" avc)
  (d29:Dn K "_law_due" akl)
  (d30:Dn K "tidy" aqgv)
  (d31:Dn K "_law_names" azg)
  (d32:Dn K "_law_filled" aXz)
  (d33:Dn K "_law_changed" aQn)
  (d34:Dn K "law" aqgz)
  (e0:Dx K C "__init__" "Hall.__init__" sInit)
  (e1:Dx K C "stand" "Hall.stand" aqh0)
  (e2:Dx K C "heap" "Hall.heap" sHeap)
  (e3:Dx K C "cast" "Hall.cast" sCast)
  (e4:Dx K C "lift" "Hall.lift" sLift)
  (e5:Dx K C "lay" "Hall.lay" sLay)
  (e6:Dx K C "numbers_of" "Hall.numbers_of" sNums)
  (e7:Dx K C "names_of" "Hall.names_of" aX1)
  (e8:Dx K C "names" "Hall.names" aqh1)
  (e9:Dx K C "bench_of" "Hall.bench_of" aqh2)
  (pg:E1 K C Str.empty=true)
  (hd:Fh K C=true)
  (po:Hy K C=true)
  (sa:A7 K (.ref C) "__setattr__"=some (some (.builtin "object.__setattr__")))
  (mk:Jm K C=true)
  (kc:Gr K (.ref C)=true)
  (nS:A7 K (.ref C) "standing"=some none)
  (nB:A7 K (.ref C) "ballots"=some none)
  (y0:nsIn K Aq "MOST_STANDING"=some (some (.int 6 tk0)))
  (y1:nsIn K Aq "MOST_PILES"=some (some (.int 12 tk1)))
  (y2:nsIn K Aq "MOST_BALLOTS"=some (some (.int 1000000000000000000 tk2)))
  (z0:nsIn K Aq "range"=some none)
  (z1:nsIn K Aq "len"=some none)
  (z2:nsIn K Aq "list"=some none)
  (z3:nsIn K Aq "tuple"=some none)
  (z4:nsIn K Aq "sorted"=some none)
  (z5:nsIn K Aq "max"=some none)
  (z6:nsIn K Aq "min"=some none)
  (z7:nsIn K Aq "all"=some none)
  (z8:nsIn K Aq "enumerate"=some none)
  (z9:nsIn K Aq "isinstance"=some none)
  (z10:nsIn K Aq "abs"=some none)
  (z11:nsIn K Aq "set"=some none)
  (z12:nsIn K Aq "sum"=some none)
  (z13:nsIn K Aq "zip"=some none) :
  ∃ fd:Am,(∀ (s:Shared) (v:Value),Ia s fd ⟨[v],[]⟩ [("script",v)])/\∀ base:Heap,K.In base->base.Ns Aq mg->FnOk l.prog w K mg base CX0 12 fa fd ["script"] (spD K 1 aqjx):=by
 obtain ⟨f,od,an,sl,oc,kV,dc,pm,cd,ct,a,l1,c,kk⟩:=d34;have e:=hfa.symm.trans (mg_of X G a);cases e;have T:Hx K mg C:=⟨⟨pg,hd,po,sa⟩,nS,nB,mg_of X G aC,⟨_,mg_of X G y0⟩,⟨_,mg_of X G y1⟩,⟨_,mg_of X G y2⟩,Bo X G z0,Bo X G z1,Bo X G z2,Bo X G z3,Bo X G z4,Bo X G z5,Bo X G z6,Bo X G z7,Bo X G z8,Bo X G z9⟩;have T1:Txt mg:=⟨Bo X G z10,Bo X G z7,Bo X G z8,Bo X G z1,Bo X G z2,Bo X G z11,Bo X G z4,Bo X G z12,Bo X G z13⟩;have F:=aqiu (st:=aqgz) l1 c kk;refine ⟨fnOf "law" "law" (aja aqgz) (aqu aqgz) (af aqgz) .none kV dc pm an cd ct,fun s v=>.of_eq rfl,fun base _ _=>?_⟩;have D1:=@dn1 l.prog w K mg base h X G;have D2:=@dn2 l.prog w K mg base h X G;have D3:=@dn3 l.prog w K mg base h X G;have D4:=@dn4 l.prog w K mg base h X G;have G_first_purses:=D2 d0 (fun F=>awn F T1) fun _ _ _ _ _ _ _ _ =>rfl;have G_below:=D2 d1 (fun F=>aqhy F T1) fun _ _ _ _ _ _ _ _ =>rfl;have G_least:=D1 d2 (fun F=>aqhv F T1 G_below) fun _ _ _ _ _ _ _ =>rfl;have G_weight_of:=D1 d3 (fun F=>aZe F T1) fun _ _ _ _ _ _ _ =>rfl;have G_likes_each:=D2 d4 (fun F=>aJy F T1) fun _ _ _ _ _ _ _ _ =>rfl;have G_agreed:=D2 d5 (fun F=>aqdv F T1 G_likes_each) fun _ _ _ _ _ _ _ _ =>rfl;have G_likers:=D2 d6 (fun F=>aqdt F T1 G_agreed) fun _ _ _ _ _ _ _ _ =>rfl;have G_divisor:=D2 d7 (fun F=>aqag F T1) fun _ _ _ _ _ _ _ _ =>rfl;have G_common_bottom:=D1 d8 (fun F=>akt F T1 G_divisor) fun _ _ _ _ _ _ _ =>rfl;have G_tops_over:=D2 d9 (fun F=>aZg F T1) fun _ _ _ _ _ _ _ _ =>rfl;have G_weight_at:=D2 d10 (fun F=>aZf F T1) fun _ _ _ _ _ _ _ _ =>rfl;have G_share:=D2 d11 (fun F=>aqhr F T1 G_divisor) fun _ _ _ _ _ _ _ _ =>rfl;have G_rate:=D4 d12 (fun F=>aqlh F T1 G_likers G_common_bottom G_tops_over G_weight_at G_share) fun _ _ _ _ _ _ _ _ _ _ =>rfl;have G_liked:=D1 d13 (fun F=>aqhu F T1) fun _ _ _ _ _ _ _ =>rfl;have G_offers:=D3 d14 (fun F=>aqds F T1 G_weight_of G_rate G_liked) fun _ _ _ _ _ _ _ _ _ =>rfl;have G_minus:=D2 d15 (fun F=>aqht F T1 G_share) fun _ _ _ _ _ _ _ _ =>rfl;have G_purse_behind:=D2 d16 (fun F=>awm F T1 G_below G_minus) fun _ _ _ _ _ _ _ _ =>rfl;have G_paid:=D4 d17 (fun F=>aqlj F T1 G_purse_behind G_likers) fun _ _ _ _ _ _ _ _ _ _ =>rfl;have G_rounds:=D2 d18 (fun F=>aqdr F T1 G_first_purses G_least G_offers G_paid) fun _ _ _ _ _ _ _ _ =>rfl;have G_candidates_of:=D1 d19 (fun F=>aku F T1) fun _ _ _ _ _ _ _ =>rfl;have G_weighed:=D3 d20 (fun F=>aqae F T1) fun _ _ _ _ _ _ _ _ _ =>rfl;have G_wait:=D3 d21 (fun F=>aqlf F T1 G_likers G_common_bottom G_weight_of G_weighed G_tops_over G_share G_weight_at) fun _ _ _ _ _ _ _ _ _ =>rfl;have G_waits:=D4 d22 (fun F=>aqhp F T1 G_wait G_liked) fun _ _ _ _ _ _ _ _ _ _ =>rfl;have G_plus:=D2 d23 (fun F=>aqli F T1 G_share) fun _ _ _ _ _ _ _ _ =>rfl;have G_purses_behind:=D3 d24 (fun F=>aks F T1 G_likers G_plus) fun _ _ _ _ _ _ _ _ _ =>rfl;have G_grown:=D4 d25 (fun F=>aqhw F T1 G_least G_waits G_purses_behind) fun _ _ _ _ _ _ _ _ _ _ =>rfl;have G_last_purses:=D3 d26 (fun F=>aQv F T1 G_first_purses) fun _ _ _ _ _ _ _ _ _ =>rfl;have G_bench:=D2 d27 (fun F=>aqhx F T1 G_rounds G_candidates_of G_grown G_last_purses) fun _ _ _ _ _ _ _ _ =>rfl;have G__law_cell:=D2 d28 (fun F=>aZh F T1) fun _ _ _ _ _ _ _ _ =>rfl;have G__law_due:=D3 d29 (fun F=>aWg F T1 G_bench) fun _ _ _ _ _ _ _ _ _ =>rfl;obtain ⟨_,_,oI,bI,mI⟩:=mx (P:=l.prog) (w:=w) (mg:=mg) (base:=base) e0 (fun F=>aqlm F T) (fun _ _ _ _ _ _=>len1 fun _=>rfl);obtain ⟨_,_,oS,bS,mS⟩:=mx (P:=l.prog) (w:=w) (mg:=mg) (base:=base) e1 (fun F=>aqhq F T) (fun _ _ _ _ _ _=>len2 fun _ _=>rfl);obtain ⟨_,_,oL,bL,mL⟩:=mx (P:=l.prog) (w:=w) (mg:=mg) (base:=base) e5 (fun F=>aqos F T) (fun _ _ _ _ _ _=>len3 fun _ _ _=>rfl);obtain ⟨_,_,oM,bM,mM⟩:=mx (P:=l.prog) (w:=w) (mg:=mg) (base:=base) e6 (fun F=>aqlk F T) (fun _ _ _ _ _ _=>len2 fun _ _=>rfl);obtain ⟨_,_,oO,bO,mO⟩:=mx (P:=l.prog) (w:=w) (mg:=mg) (base:=base) e7 (fun F=>aqaf F T) (fun _ _ _ _ _ _=>len2 fun _ _=>rfl);obtain ⟨_,_,oN,bN,mN⟩:=mx (P:=l.prog) (w:=w) (mg:=mg) (base:=base) e8 (fun F=>aqhs F T) (fun _ _ _ _ _ _=>len1 fun _=>rfl);obtain ⟨_,_,oC,bC,mC⟩:=mx (P:=l.prog) (w:=w) (mg:=mg) (base:=base) e3 (fun F=>aqlo F T oM bM mM oL bL mL) (fun _ _ _ _ _ _=>len3 fun _ _ _=>rfl);obtain ⟨_,_,oF,bF,mF⟩:=mx (P:=l.prog) (w:=w) (mg:=mg) (base:=base) e4 (fun F=>aqll F T oM bM mM oL bL mL) (fun _ _ _ _ _ _=>len3 fun _ _ _=>rfl);have Gt:=D1 d30 (fun F=>aqlg F T) fun _ _ _ _ _ _ _=>rfl;obtain ⟨_,_,oH,bH,mH⟩:=mx (P:=l.prog) (w:=w) (mg:=mg) (base:=base) e2 (fun F=>aqln F T Gt) (fun _ _ _ _ _ _=>len1 fun _=>rfl);obtain ⟨_,_,oB,bB,mB⟩:=mx (P:=l.prog) (w:=w) (mg:=mg) (base:=base) e9 (fun F=>aqai F T oH bH mH oO bO mO G_bench) (fun _ _ _ _ _ _=>len2 fun _ _=>rfl);have Gn:=D3 d31 (fun F=>aJz F T1 T.zr G__law_cell) fun _ _ _ _ _ _ _ _ _=>rfl;have Gf:=D3 d32 (fun F=>aqdu F T G__law_cell oS bS mS oC bC mC) fun _ _ _ _ _ _ _ _ _=>rfl;have Gch:=D4 d33 (fun F=>aqah F T oF bF mF oC bC mC) fun _ _ _ _ _ _ _ _ _ _=>rfl;exact aqot F T Gn G__law_cell Gf G__law_due Gch ⟨mk,mI.at_,mI.fn,kc⟩ oI bI oB bB mB oN bN mN
theorem walk {l:Gv} {qq:Ak} {loose:List Str} {XP:(Str->Option Value)->Heap->Prop} {YP:World->Heap->Prop} {d:DefRec} {K:Params->Frag} (hlaw:∀ ns:List Int,ns.length <= 63->aqjx [.lst (ns.map .int)]=some (.bl true)) (hn:l.most=some 63) (hdf:d.params.defaults=[])
  (hY:∀ (w:World) (h:Heap),YP w h->(K w.params).In h)
  (F:∀ (w:World) (mg:Str->Option Value) (fa:Addr) (h:Heap),(K w.params).In h->h.Ns Aq mg->mg d.name=some (.ref fa) ->
   ∃ fd:Am,(∀ (s:Shared) (u:Value),Ia s fd ⟨[u],[]⟩ [("script",u)])/\∀ base:Heap,(K w.params).In base->base.Ns Aq mg->FnOk l.prog w (K w.params) mg base CX0 12 fa fd ["script"] (spD (K w.params) 1 aqjx)) :
  Kx qq loose XP YP l.row.toRowW d [] (fun f vs=>PySem.call f vs) :=
 DL.aqey (n:=63) (k:=12) (x:="script") (CX:=fun _=>CX0) (sp:=fun w=>spD (K w.params) 1 aqjx) hn (by decide) hdf ⟨rfl,by decide,by decide⟩ hY F (fun _ _ a ns hl hS=>aqp5 (hlaw ns hl) hS) fun _ _ _ _ _ z=>z
end L_k62
namespace PySem.W.Fast
theorem tw6916679867941056880:True:=⟨⟩
theorem tw6721508023504807007:True:=⟨⟩
theorem tw8760890700246662687:True:=⟨⟩
theorem tw10708313874843926506:True:=⟨⟩
theorem tw16113642090677299834:True:=⟨⟩
theorem tw3524148160429691697:True:=⟨⟩
theorem tw15627593093689308368:True:=⟨⟩
theorem tw8220393611315455493:True:=⟨⟩
theorem tw5896938039599510047:True:=⟨⟩
theorem tw14698799234816260032:True:=⟨⟩
theorem tw8249404691207095120:True:=⟨⟩
theorem tw6621390098969521455:True:=⟨⟩
theorem tw13647951447588393054:True:=⟨⟩
theorem tw6609797256785127419:True:=⟨⟩
theorem tw5477529969740783113:True:=⟨⟩
theorem tw4761301660566863909:True:=⟨⟩
theorem tw280967464527562782:True:=⟨⟩
theorem tw13481972968803809187:True:=⟨⟩
theorem tw12919142511705826981:True:=⟨⟩
theorem tw11375478834444804197:True:=⟨⟩
theorem tw7167829678307765027:True:=⟨⟩
theorem tw5690993775769351233:True:=⟨⟩
theorem tw4798127954705525203:True:=⟨⟩
theorem tw9501969720354645089:True:=⟨⟩
theorem tw11445585239366487575:True:=⟨⟩
theorem tw60060727282289544:True:=⟨⟩
theorem tw805148931422925947:True:=⟨⟩
theorem tw3899770253685867583:True:=⟨⟩
theorem tw17192046314340432993:True:=⟨⟩
theorem tw9620812333888611320:True:=⟨⟩
theorem tw17719641320602081200:True:=⟨⟩
theorem tw10168951918832065866:True:=⟨⟩
theorem tw11500977632008458090:True:=⟨⟩
theorem tw6601068121375108257:True:=⟨⟩
theorem tw10454265530625427418:True:=⟨⟩
theorem tw12160926452290239090:True:=⟨⟩
theorem tw1358069368187085008:True:=⟨⟩
theorem tw5670802598263538903:True:=⟨⟩
theorem tw4554394536412695754:True:=⟨⟩
theorem tw15120888232216032482:True:=⟨⟩
end PySem.W.Fast
open PySem PySem.W PyProof.Rows
set_option maxRecDepth 100000 in
set_option maxHeartbeats 0 in
theorem PySem.Challenge.cw_pursebench_k62_benches_by_names_holds : PySem.Challenge.rw_pursebench_k62_benches_by_names.Holds := by
 w_on; o_law; k_head; (case hw=>w_witness2)
 k_fill
 refine L_k62.walk (l:=PySem.Challenge.rw_pursebench_k62_benches_by_names) L_k62.law_true rfl rfl (fun w h Y=>PySem.W.kIn_of Y) ?F
 case F =>
  intro w mg fa h KX G hmg
  refine' L_k62.all_mk KX G hmg ?_ ?_ ?_ ?_ ?_ ?_ ?_ ?_ ?_ ?_ ?_ ?_ ?_ ?_ ?_ ?_ ?_ ?_ ?_ ?_ ?_ ?_ ?_ ?_ ?_ ?_ ?_ ?_ ?_ ?_ ?_ ?_ ?_ ?_ ?_ ?_ ?_ ?_ ?_ ?_ ?_ ?_ ?_ ?_ ?_ ?_ ?_ ?_ ?_ ?_ ?_ ?_ ?_ ?_ ?_ ?_ ?_ ?_ ?_ ?_ ?_ ?_ ?_ ?_ ?_ ?_ ?_ ?_ ?_ ?_ ?_
  all_goals first | (refine' L_k62.dm ?a ?l ?c ?k; (case a=>k_is); (case l=>k_is); (case c=>k_is); (case k=>k_is)) | (refine' L_k62.dx ?a ?i ?l ?c ?k; (case a=>k_is); (case i=>k_is); (case l=>k_is); (case c=>k_is); (case k=>k_is)) | k_is | skip
