import PyProof.Rows.All
import Wide.All
import OpenK.AllK
import Wide.FinOn
import PyProof.EqAt
import PyProof.EqKinds
import PyProof.TupleCall
import KE.KDictSum
import KE.KRevIter
import KE.KEqDict
import PySem.Challenge.RW_pursebench_k62_benches_by_names
set_option Elab.async false
set_option linter.all false
local macro_rules | `(tactic| o_shape)=>`(tactic| first | exact Or.inl rfl | exact Or.inr rfl)
local macro_rules | `(tactic| o_reads)=>`(tactic| exact ⟨rfl,rfl,by repeat' (first | exact True.intro | rfl | o_shape | refine ⟨?_,?_⟩),by decide,rfl,by decide⟩)
set_option bootstrap.genMatcherCode false
set_option genSizeOf false
set_option genSizeOfSpec false
open PySem renaming wpAny_bind→Ac, wpAny_pure→Ad, sizeLine→Aj, Program→Ak, FuncData→Am, sizeLine_eq→Ao, starEach→Ap, mainGlobals→Aq, wpAny_ite_split→As, wpAny_call_entry→Ax, bootBuiltins→A6, wpAny_newObj_type→A8, wpAny_holding→Ba, wpAny_dictEntries→Bh, sysModules→Bi, wpAny_mono→Bj, wpAny_callSpecial?_slot→Bl, compareOp→Bm, codeAny_builtin→Bn, wpAny_setState_of→Bx, assignEach→B6, rawInt→B7, wpAny_Call_Name_kw→B9, foldedSetIterable→Cd, wpAny_setField→Ce, wpAny_askSetting→Ch, tupleKind_room_in1→Cj, wpAny_typeNameOfWhole_itemiter→Ck, intKind→Cm, codeAny_mono→Cn, wpAny_typeNameOfWhole_keyiter→Cp, relabel→Cq, behindInMarks→Cy, plainId_quiet→Cz, backTo→C1, wpAny_fieldsOf→C3, wpAny_passesOwn→De, wpAny_dictEpoch→Df, binaryOp→Dg, wpAny_field→Dk, wpAny_rule→Dm, codeAny→Dp, mem_of_lookup→Dq, wpAny_setEntries_of→Dr, pyNext→Dt, wpAny_isInstance→Dv, IsItemIter→Eb, wpAny_setField_rec→Ec, attributeBase→Ee, wpAny_attempt→Eg, builtinLookup_eq_fast→Ej, wpAny_notOrdered_dict→Ek, wpAny_truthy_bool→El, wpAny_pyIter_slot→En, firstArgMember→Ew, wpAny_eqBool_int→Ez, scanBound→E2, tupleKind→Fc, wpAny_newTuple→Fm, wpAny_Call_method→Fp, wpAny_isOneOf_itemiter→Fr, wpAny_load→Fy, IsPair→Ga, wpAny_newList→Gi, wpAny_execs_nil→Gp, letOwnedTupleGo→Gq, typeLookup_type→Gw, wpAny_specialOf→Gx, wpAny_updateSeq→Gy, callerA→G7, wpAny_richCompare_same_room→G9, swapsWith→Hc, bindArgs→Hg, wpAny_runValue→Hj, isSubtype_type→Hl, wpAny_missedRemoval_other→Ht, wpAny_pyIter_list→Hw, BindsTo→Ia, keywordEach→Ib, unsupported→Ig, assign→Il, wpAny_comprehension_free→Io, holding→I0, setsByText→Jd, wpAny_nextOf_list_item→Jg, wpAny_isTrue_Compare1→Jv, wpAny_isOneOf_keyiter→Jy, pyIter→J2, subscripted→J4, ZipApart→J5, relayAll→J7, wpAny_of_eq→J8, entryFor_alias→J9, wpAny_letGo→Kg, Keyword→Kl, valueAt→Ko, wpAny_standAt→Ku, wpAny_handled→Kz, IsItemIterOut→K3, builtinsNs→K5, typeLookup→K7, typeIs_str→K8, closureFor→K9, backToKw→Ln, getItem→Lo, seqIndex_neg→Lp, wpAny_typeOf→Ls, collect→Lt, getMethod→L1, Result→L3, cellsFrom→L4, updateSeq→L6, Fin→Ma, seqIndex_of→Mb, wpAny_throw→Mc, loadIfAlive→Me, standAt→Mg, newList→Mh, ElemsOf→Mi, GenState→Ml, isTrue→Mm, ReadsAll→Mn, compEnvC→Mo, entryFor→Mp, newExc→Mq, raiseNew→Mr, setField→Mt
open PySem.Heap renaming get?_push_of_some→Ae, lt_size→Af, get?_push_size→Ag, get?_update_other→Au, get?_update_self→Bf, size_push→By, size_update→Ci, get?_push_ne→Ep
open List renaming mem_map→Ah, getElem?_eq_some_iff→Ai, mem_cons→Al, range→Ar, filter_eq_self→Av, mem_filter→Ay, mem_range→A0, pairwise_iff_getElem→Bu, length_eq_zero_iff→Ca, length_eq_one_iff→Cf, replicate→C2, getElem?_append_left→C9, drop_eq_getElem_cons→Dc, mem_append→Dd, lookup→Dh, mem_filterMap→D0, take_of_length_le→D6, mem_singleton→D9, mem_append_left→Es, pairwise_cons→Fb, eraseIdx_cons_succ→Ff, pairwise_lt_range→Fk, all_eq_true→F9, nodup_cons→Gs, mem_zipIdx_iff_getElem?→G0, replicate_succ→G2, length_pos_iff→G4, idxOf_lt_length_of_mem→G8, getElem?_append_right→Hh, length_eraseIdx_of_lt→Hk, zip_cons_cons→Hn, filter_filter→Ho, find?_eq_none→Hq, getElem?_eq_none_iff→Hr, ext_getElem?→Ic, append_assoc→If, nodup_append→Ih, filter_congr→Ik, nodup_range→Iu, nil_append→Ju, getElem?_eq_none→Jx, singleton_append→J1, getElem?_of_mem→J6, perm_cons_erase→Ka, mem_erase_of_ne→Kb, getElem?_take→Lb, getElem_idxOf→Lf, range_sublist→Lk
open Bool renaming false_ne_true→An, false_eq_true→Aw, eq_iff_iff→A5, and_eq_true→C0, or_eq_true→Jp, or_false→Kw
open False renaming elim→Az
open PySem.W renaming findIn→A7, mg_none_of→Bo, emptyDict→Bw, instObj→Cr, kas_asc→Dj, kia_one→Ed, mroIn→Ef, plainGet→E1, kas_place→Fg, hasDictIn→Fh, kas_desc→Gm, keepIn→Gr, OpenLaw→Gv, plainGet_of→G1, isFn→G6, lookIn→Hf, kas_sort→Hm, methodObj→Hv, plainOver→Hy, specialIn→Hz, cellsFrom_some→Jb, takerIn→Jl, makesIn→Jm, methodCall_KW→Jw, typeIn→J3, kas_bin→Km, callWith_K0→Kp, WalkO→Kx, clsIn→K1, callWith_K→K6, kas_descPart→Lx, codeIn→L5, kas_tail3→L8, kas_count→L9, kas_rev→Mj
open Int renaming toNat_natCast→A9, natAbs_natCast→Bb, emod_lt_of_pos→Bk, emod_nonneg→Bt, gcd→Ds, eq_ofNat_of_zero_le→Dy, fmod_eq_emod_of_nonneg→Et, le_trans→Fi, natAbs_mul→Fo, mul_nonneg→Fs, mul_le_mul_of_nonneg_right→Gd, mul_pos→Go, fdiv_eq_ediv_of_nonneg→He, fdiv_eq_ediv_of_dvd→Iz, le_refl→Kk, ediv_mul_cancel→Ks, lt_of_le_of_lt→Li
open PySem.Around renaming under_plainId→Bc, under→Ll
open PySem.PassesOwn renaming never→Be
open PySem.Obj renaming mapSeq→Bg, mapFields→Co, data_mapFields→Ea, isFreed_of_fields→Fv, data_mapDictKeys→Ki
open PyProof.Rows renaming callWith_type1→Bp, seqObj→Bq, firstMet→C7, listUpdate_at→Gj, entry_proto_collect'→Gk, lt_int→G3, AllBare→G5, room_in_shaped→Hi, entry_list_iadd'→Is, envOfC→Ja, subscriptTail_builtinR→Jc, size_push'→Je, sortedHeap→Jf, entry_list_sort→Jq, get?_update_seq→Jr, slot_list_sort→Kc, args_list_sort→Kd, sortedHeap_old→Ke, seqEpoch_at→Kf, subscriptTail→Kv, firstMet_succ→Ky, sortedHeap_at→K0, plain_sorted→Lu, entry_sorted→Lv, args_sorted1→Lw, listItems_at→Ly, general'→Lz, kind_sorted→Md, SortKind→Ms
open PySem.F renaming plainAttrs_list→Br, plain_extend_loop→Bv, slot_dict_itemiterator_next→Bz, slot_list_append→B0, type_list_append→B3, plain_list_iadd→Cb, slot_dict_keyiterator_next→C5, plainAttrs_dict→Dw, called_set→D8, plain_proto_collect→Eo, slot_dict_itemiterator_iter→E9, slot_dict_get→Fw, slot_dict_pop→Fx, slot_dict_items_iter→Gz, args_dict_get_3→Iw, slot_dict_items→Iy, entry_dict_get→Jh, slot_dict_iter→Ji, slot_tuple_lt→Js, type_dict_pop→Jz, slot_dict_len→J0, slot_dict_ne→Kj, entry_extend_loop→Kr
open Ne renaming symm→B4
open PySem.Builtin.Dict_items renaming ownsTuple→B5, pairFromOwner→Dl, ownedTupleIsFree→E8, ownedTupleFields→Fa
open PySem.Calls renaming spliced_cons→B8, callWith_builtin→Ct, call_function_entry→Db, spliced_nil→Di, evalArgs_plain→Eu, Name_function_global→Hd
open PySem.Builtin.List renaming listExtendWith→Cc, listLengthHint→Cv, listSameRef→Do, listTooLong→E6
open PySem.Heap.SameBut renaming update→Cg
open Rat renaming mul_le_mul_of_nonneg_right→Cl, normalize_eq_mkRat→Cw, div_mul_cancel→C6, mul_le_mul_of_nonneg_left→Dz, mul_assoc→Eh, le_of_mul_le_mul_right→Ey, le_of_lt→Fu, le_trans→Hb, mul_comm→Jk, mul_div_cancel→Lj, le_refl→Mf
open PySem.Str renaming ofString→Cu
open Array renaming perm_iff_toList_perm→C4, getElem?_eq_getElem→Da, getD_eq_getD_getElem?→Em, map→Kn, append_assoc→K4, forIn_toList→Le
open PySem.Builtin.Dict renaming showsAll→C8, dictSlotArgs→Hu, samePairs→Jj, takeOut→Kh
open PySem.SetTable renaming grown→Du
open PySem.SeqAt renaming canLay_of_shaped→D5
open Option renaming map_eq_some_iff→D7, isSome_iff_exists→Im, isNone_some→Lg, isNone_none→Lh
open Function renaming comp→Ei, comp_def→Ii
open Nat renaming mul_lt_mul_of_pos_right→Er, mul_le_mul_right→Ex, gcd→Ij, le_max_right→Iq, le_mul_of_pos_right→Iv, le_max_left→Jn, div_le_self→Jt, mul_le_mul_left→Kt, le_of_dvd→K2, not_lt→La, pos_of_ne_zero→Lc, mul_comm→L0
open PySem.PyData renaming canLay0→Ev, eqv→Fz, eqvAll→Ge, canLayAll0→Ie, depthAll→Jo
open List.Sublist renaming map→E3
open PySem.Builtin.SmallTypes renaming nextOf→E4, ownedTupleIsFree→E7
open Classical renaming byContradiction→E5
open PyProof.Rows.F renaming plain_set_update_loop→Fe, entry_set_update_loop→Ir
open PySem.SetTable.below renaming go→Fj
open PySem.Shared renaming TypeIs→Gg
open PySem.Builtin.Str renaming strSliceIndices→Ha, occurrences→Ix
open PySem.SetTable.Slot renaming noConfusion→Hs
open List.Perm renaming eq_of_pairwise→Ip
open PySem.Builtin.Int renaming intBits→Kq
open PySem.W.KasT renaming kasWp→Ld, bind→L7
open PySem.Code renaming isFrame→Lm
open Iff renaming rfl→Lq
open PySem.pickOrder renaming go→Lr
open List (any_cons any_eq_true append_nil drop_of_length_le ext_getElem filterMap_cons filter_cons filter_cons_of_neg filter_cons_of_pos filter_map filter_sublist find?_cons forIn_cons getD_eq_getElem?_getD getElem?_eq_getElem getElem?_map getElem?_set_ne getElem?_set_self getElem_inj getElem_map getElem_mem getElem_of_mem length_append length_cons length_filter_le length_map length_take mapM_cons map_append map_congr_left map_cons map_map map_nil mem_append_right mem_cons mem_cons_of_mem mem_cons_self mem_of_getElem? nodup_cons nodup_nil not_mem_nil of_mem_zip pairwise_cons pairwise_map size_toArray sum_cons take_length take_succ_eq_append_getElem)
open Option (isSome_map)
open Nat (le_of_lt le_refl le_succ le_trans lt_irrefl lt_of_le_of_lt lt_of_lt_of_le lt_succ_of_lt lt_succ_self lt_trans mod_lt mul_ne_zero mul_pos ne_of_gt ne_of_lt pow_add pow_le_pow_right zero_le)
open Array (getElem?_eq_none getElem?_toList length_toList)
open PySem.W (Frag codeIn fnOf keepIn mg_none_of mg_of nsIn)
set_option maxRecDepth 100000
namespace L2
open PySem PySem.Spec PyProof.Rows
abbrev Key:=Sum Int Str
def _qjz:Key->Value->Bool
 | .inl k,v=>Value.isInt k v
 | .inr x,v=>Value.isStrOf x v
def keyH (w:World):Key->Int
 | .inl k=>hashInt k
 | .inr x=>hashStr w x
theorem _U:∀ {k:Key} {v:Value},_qjz k v=true->(∃ i t,k=Sum.inl i/\v=Value.int i t) \/ (∃ x t,k=Sum.inr x/\v=Value.str x t)
 | .inl i,v,h=>by
  obtain ⟨t,e⟩:=Value.isInt_shape (k:=i) (v:=v) h;exact .inl ⟨i,t,rfl,e⟩
 | .inr x,v,h=>by
  obtain ⟨t,e⟩:=Value.isStrOf_shape (x:=x) (v:=v) h;exact .inr ⟨x,t,rfl,e⟩
theorem _qe7 (i:Int) (t:Tok):_qjz (.inl i) (.int i t)=true:=by simp [_qjz,Value.isInt]
theorem _qe6 (x:Str) (t:Tok):_qjz (.inr x) (.str x t)=true:=by simp [_qjz,Value.isStrOf]
theorem _qpa (a b:Int):decide ((Sum.inl a:Key)=Sum.inl b)=(a == b):=by
 by_cases e:a=b
 ·subst e; simp
 ·have h:¬ (Sum.inl a:Key)=Sum.inl b:=fun q=>e (Sum.inl.inj q)
  rw [decide_eq_false h];exact (beq_eq_false_iff_ne.mpr e).symm
theorem _qp7 (a b:Str):decide ((Sum.inr a:Key)=Sum.inr b)=decide (a=b):=by
 by_cases e:a=b
 ·subst e; simp
 ·have h:¬ (Sum.inr a:Key)=Sum.inr b:=fun q=>e (Sum.inr.inj q)
  rw [decide_eq_false h,decide_eq_false e]
theorem _qp9 (a:Int) (b:Str):decide ((Sum.inl a:Key)=Sum.inr b)=false:=decide_eq_false (fun q=>nomatch q)
theorem _qp8 (a:Str) (b:Int):decide ((Sum.inr a:Key)=Sum.inl b)=false:=decide_eq_false (fun q=>nomatch q)
def _qj (prog:Ak) (w:World):PySem.KeyKind prog w Key where
 is:=_qjz
 hash:=keyH w
 inj:=fun v a b ha hb=>by
  rcases _U ha with ⟨i,t,rfl,rfl⟩ | ⟨x,t,rfl,rfl⟩
  ·rcases _U hb with ⟨j,u,rfl,e⟩ | ⟨y,u,rfl,e⟩
   ·injection e with e1 _; rw [e1]
   ·exact nomatch e
  ·rcases _U hb with ⟨j,u,rfl,e⟩ | ⟨y,u,rfl,e⟩
   ·exact nomatch e
   ·injection e with e1 _; rw [e1]
 byValue:=fun k v h=>by
  rcases _U h with ⟨i,t,rfl,rfl⟩ | ⟨x,t,rfl,rfl⟩ <;> rfl
 pyHash:=fun hv h=>by
  rcases _U hv with ⟨i,t,rfl,rfl⟩ | ⟨x,t,rfl,rfl⟩
  ·exact wpAny_pyHash_int h
  ·exact wpAny_pyHash_str h
 eqBool:=fun hu hv h=>by
  rcases _U hu with ⟨i,t,rfl,rfl⟩ | ⟨x,t,rfl,rfl⟩
  ·rcases _U hv with ⟨j,u,rfl,rfl⟩ | ⟨y,u,rfl,rfl⟩
   ·rw [_qpa] at h; exact Ez h
   ·rw [_qp9] at h; exact SeqAt.EqAt.int_str i t y u _ _ _ _ h
  ·rcases _U hv with ⟨j,u,rfl,rfl⟩ | ⟨y,u,rfl,rfl⟩
   ·rw [_qp8] at h; exact SeqAt.EqAt.str_int x t j u _ _ _ _ h
   ·rw [_qp7] at h; exact wpAny_eqBool_str h
 «strs»:=fun k x t v h=>by
  rcases _U h with ⟨i,u,rfl,e⟩ | ⟨y,u,rfl,e⟩
  ·exact nomatch e
  ·injection e with e1 _
   subst e1;cases v <;> rfl
theorem _Wk (prog:Ak) (w:World) (i:Int) (t:Tok):(_qj prog w).is (.inl i) (.int i t)=true:=_qe7 i t
theorem _Wj (prog:Ak) (w:World) (x:Str) (t:Tok):(_qj prog w).is (.inr x) (.str x t)=true:=_qe6 x t
inductive V where
 | non | bl (b:Bool) | int (i:Int) | str (x:Str) | byt (b:Array UInt8) | flt (b:UInt64) | ref (a:Addr) | ty (n:String)
 deriving DecidableEq
def RelV:V->Value->Prop
 | .non,u=>u=Value.none
 | .bl b,u=>u=Value.bool b
 | .int i,u=>∃ t,u=Value.int i t
 | .str x,u=>∃ t,u=Value.str x t
 | .byt b,u=>∃ t,u=Value.bytes b t
 | .flt b,u=>∃ t,u=Value.float b t
 | .ref a,u=>u=Value.ref a
 | .ty n,u=>u=Value.type n
abbrev _qu8:List V->List Value->Prop:=Paired RelV
theorem _qu8.length {xs:List V} {us:List Value} (r:_qu8 xs us):xs.length=us.length:=Paired.length r
theorem _qu8.get:∀ {xs:List V} {us:List Value} {i:Nat} {x:V},_qu8 xs us->xs[i]?=some x->∃ u,us[i]?=some u/\RelV x u
 | _,_,_,_,.nil,e=>by simp at e
 | _,_,0,_,.cons r _,e=>by simp at e; subst e; exact ⟨_,rfl,r⟩
 | _,_,i + 1,x,.cons _ t,e=>by
  obtain ⟨u,h1,h2⟩:=_qu8.get (i:=i) (x:=x) t (by simpa using e);exact ⟨u,by simpa using h1,h2⟩
theorem _qu8.set {x:V} {u:Value} (r:RelV x u):∀ {xs:List V} {us:List Value} (i:Nat),_qu8 xs us->_qu8 (xs.set i x) (us.set i u)
 | _,_,_,.nil=>.nil
 | _,_,0,.cons _ t=>.cons r t
 | _,_,i + 1,.cons q t=>.cons q (_qu8.set r i t)
theorem _qu8.append:∀ {xs ys:List V} {us ws:List Value},_qu8 xs us->_qu8 ys ws->_qu8 (xs++ys) (us++ws)
 | _,_,_,_,.nil,s=>s
 | _,_,_,_,.cons r t,s=>.cons r (_qu8.append t s)
theorem _qu8.take:∀ {xs:List V} {us:List Value} (n:Nat),_qu8 xs us->_qu8 (xs.take n) (us.take n)
 | _,_,0,_=>.nil
 | _,_,_ + 1,.nil=>.nil
 | _,_,n + 1,.cons r t=>.cons r (_qu8.take n t)
theorem _qu8.drop:∀ {xs:List V} {us:List Value} (n:Nat),_qu8 xs us->_qu8 (xs.drop n) (us.drop n)
 | _,_,0,r=>r
 | _,_,_ + 1,.nil=>.nil
 | _,_,n + 1,.cons _ t=>_qu8.drop n t
theorem _qu8.none_of:∀ {xs:List V} {us:List Value} {i:Nat},_qu8 xs us->xs[i]?=none->us[i]?=none:=fun {xs us i} r e=>by
 have h1:=r.length;have h2:xs.length <= i:=Hr.mp e;exact Hr.mpr (by omega)
def _qub:Option V->Option Value->Prop
 | some v,some u=>RelV v u
 | none,none=>True
 | _,_=>False
def KV {κ:Type}:List (κ × V)->List (κ × Value)->Prop:=Paired fun (p:κ × V) (q:κ × Value)=>p.1=q.1/\RelV p.2 q.2
def kV:Key->V
 | .inl i=>.int i
 | .inr x=>.str x
inductive HO where
 | lst (xs:List V)
 | tup (xs:List V)
 | dK (kvs:List (Key × V)) | dT (kvs:List (List Key × V))
 | set (S:Int->Bool) (n:Nat)
 | ins (C dx:Addr) (fs:List (Str × V))
 | own (x:Addr)
 | xd (fs:List (Str × V))
 | met (f x:Addr)
 | rng (lo hi:Int)
 | frz (o:Obj) (u:HO)
 | tbl (ps:Array Value)
 | ext (φ:Heap->Prop)
abbrev Hp:=Addr->Option HO
def upd (H:Hp) (a:Addr) (o:HO):Hp:=fun b=>if b=a then some o else H b
theorem _a {H:Hp} {a:Addr} {o:HO}:upd H a o a=some o:=by unfold upd; rw [if_pos rfl]
theorem _e {H:Hp} {a b:Addr} {o:HO} (h:b ≠ a):upd H a o b=H b:=by unfold upd; rw [if_neg h]
theorem _W7 {H:Hp} {a:Addr} {o u:HO}:upd (upd H a o) a u=upd H a u:=by
 funext b; unfold upd; split <;> rfl
theorem _zh {H:Hp} {a b:Addr} {o u:HO} (h:H a=some o) (h':H b=some u) (d:o ≠ u):a ≠ b:=by
 intro e; subst e; rw [h] at h'; exact d (Option.some.inj h')
theorem _c {H:Hp} {a b:Addr} {o:HO} (h:H a=some o) (h':H b=none):a ≠ b:=by
 intro e; subst e; rw [h] at h'; cases h'
section
variable (P:Ak) (w:World)
def _zn (H:Hp) (h:Heap) (a:Addr):HO->Prop
 | .lst xs=>xs.length <= Aj/\∃ (its:List Value) (n:Nat),_qu8 xs its/\h.get? a=some { cls:=.type "list",data:=.seq its.toArray n }
 | .tup xs=>xs.length <= Aj/\∃ its:List Value,_qu8 xs its/\IsTup h a its.toArray
 | .dK kvs=>kvs.length <= Aj/\(a == Bi)=false/\∃ vs,KV kvs vs/\h.DictOf (_qj P w) a vs
 | .dT kvs=>kvs.length <= Aj/\(a == Bi)=false/\∃ xs:List (List Key × Addr × Value),
   Paired (fun (p:List Key × V) (q:List Key × Addr × Value)=>p.1=q.1/\H q.2.1=some (.tup (p.1.map kV))/\RelV p.2 q.2.2) kvs xs /\
   ∃ o es ep,h.get? a=some o/\o.ExactDict/\o.data=.dict es ep/\es.toList=xs.map (entryOfKey (Fc (_qj P w)))/\(xs.map (·.1)).Nodup
 | .set S n=>h.SetOf (Cm P w) a S n
 | .ins C dx fs=>H dx=some (.own a)/\fs.length <= 1000/\dx ≠ a/\h.get? a=some (Cr C dx) /\
   ∃ mA,h.Ns1 dx mA/\(∀ f,_qub (fs.lookup f) (mA f))/\PySem.Within mA (fs.map (·.1))
 | .own _=>∃ o,h.get? a=some o
 | .xd fs=>∃ mA,h.Ns1 a mA/\∀ f,_qub (fs.lookup f) (mA f)
 | .rng lo hi=>∃ t u v,h.get? a=some { cls:=.type "range",data:=.fields #[.int lo t,.int hi u,.int 1 v] }
 | .frz o u=>h.get? a=some o/\_zn H h a u
 | .tbl ps=>h.get? a=some { cls:=.none,data:=.fields ps }
 | .met f x=>h.get? a=some (Hv (.ref f) (.ref x))
 | .ext φ=>φ h/\(∃ o,h.get? a=some o)/\∀ h1 h2:Heap,φ h1->(∀ o,h1.get? a=some o->h2.get? a=some o)->φ h2
def HOk (H:Hp) (h:Heap):Prop:=∀ a o,H a=some o->_zn P w H h a o
end
section
variable {P:Ak} {w:World} {H H':Hp} {h h':Heap} {a:Addr} {o:HO}
theorem _zn.lt (x:_zn P w H h a o):a < h.objs.size:=by
 cases o with
 | lst xs=>obtain ⟨_,_,_,_,e⟩:=x; exact Af e
 | tup xs=>obtain ⟨_,_,_,p⟩:=x; exact p.lt
 | dK kvs=>obtain ⟨_,_,_,_,o,_,_,e,_⟩:=x; exact Af e
 | dT kvs=>obtain ⟨_,_,_,_,o,_,_,e,_⟩:=x; exact Af e
 | set S n=>obtain ⟨o,_,_,_,e,_⟩:=x; exact Af e
 | ins C dx fs=>obtain ⟨_,_,_,e,_⟩:=x; exact Af e
 | own y=>obtain ⟨_,e⟩:=x; exact Af e
 | xd fs=>obtain ⟨_,⟨_,_,_,e,_⟩,_⟩:=x; exact Af e
 | rng lo hi=>obtain ⟨_,_,_,e⟩:=x; exact Af e
 | frz ob u=>obtain ⟨e,_⟩:=x; exact Af e
 | tbl ps=>exact Af (show h.get? a=some _ from x)
 | met f y=>exact Af (show h.get? a=some _ from x)
 | ext φ=>obtain ⟨_,⟨_,e⟩,_⟩:=x; exact Af e
theorem Paired.mapP {α β:Type} {F G:α->β->Prop}:∀ {l₁:List α} {l₂:List β},Paired F l₁ l₂->(∀ a b,F a b->G a b)->Paired G l₁ l₂
 | _,_,.nil,_=>.nil
 | _,_,.cons r t,f=>.cons (f _ _ r) (Paired.mapP t f)
theorem _zn.stay (x:_zn P w H h a o) (k:∀ b u,(b=a \/ H b=some (.own a))->h.get? b=some u->h'.get? b=some u)
  (ho:∀ b,H b=some (.own a)->H' b=some (.own a)) (ht:∀ b xs,H b=some (.tup xs)->H' b=some (.tup xs)):_zn P w H' h' a o:=by
 induction o with
 | lst xs=>obtain ⟨z,its,n,r,e⟩:=x; exact ⟨z,its,n,r,k _ _ (.inl rfl) e⟩
 | tup xs=>obtain ⟨z,its,r,ob,e,c⟩:=x; exact ⟨z,its,r,ob,k _ _ (.inl rfl) e,c⟩
 | dK kvs=>obtain ⟨z,y,vs,r,ob,es,ep,e,c⟩:=x; exact ⟨z,y,vs,r,ob,es,ep,k _ _ (.inl rfl) e,c⟩
 | dT kvs =>
  obtain ⟨z,y,xs,r,ob,es,ep,e,c⟩:=x;exact ⟨z,y,xs,Paired.mapP r fun p q z=>⟨z.1,ht _ _ z.2.1,z.2.2⟩,ob,es,ep,k _ _ (.inl rfl) e,c⟩
 | set S n=>obtain ⟨ob,es,ep,t,e,c⟩:=x; exact ⟨ob,es,ep,t,k _ _ (.inl rfl) e,c⟩
 | ins C dx fs =>
  obtain ⟨d,z,ne,e,mA,⟨od,es,ep,e2,c⟩,r⟩:=x;exact ⟨ho _ d,z,ne,k _ _ (.inl rfl) e,mA,⟨od,es,ep,k _ _ (.inr d) e2,c⟩,r⟩
 | own y=>obtain ⟨ob,e⟩:=x; exact ⟨ob,k _ _ (.inl rfl) e⟩
 | xd fs=>obtain ⟨mA,⟨od,es,ep,e,c⟩,r⟩:=x; exact ⟨mA,⟨od,es,ep,k _ _ (.inl rfl) e,c⟩,r⟩
 | rng lo hi=>obtain ⟨t,u,v,e⟩:=x; exact ⟨t,u,v,k _ _ (.inl rfl) e⟩
 | frz ob u ih=>obtain ⟨e,q⟩:=x; exact ⟨k _ _ (.inl rfl) e,ih q⟩
 | tbl ps =>
  have e:h.get? a=some { cls:=.none,data:=.fields ps }:=x;show h'.get? a=some { cls:=.none,data:=.fields ps };exact k a _ (.inl rfl) e
 | met f y =>
  have e:h.get? a=some (Hv (.ref f) (.ref y)):=x;show h'.get? a=some (Hv (.ref f) (.ref y));exact k a _ (.inl rfl) e
 | ext φ=>obtain ⟨p,⟨o,e⟩,st⟩:=x; exact ⟨st _ _ p fun o q=>k _ _ (.inl rfl) q,⟨o,k _ _ (.inl rfl) e⟩,st⟩
theorem HOk.lt (x:HOk P w H h) (e:H a=some o):a < h.objs.size:=(x a o e).lt
theorem HOk.fresh (x:HOk P w H h) (e:h.objs.size <= a):H a=none:=by
 cases q:H a with
 | none=>rfl
 | some u=>exact absurd (lt_of_lt_of_le (x.lt q) e) (lt_irrefl _)
theorem HOk.kept (x:HOk P w H h) (k:∀ b u,h.get? b=some u->h'.get? b=some u):HOk P w H h':=fun a o e =>
 (x a o e).stay (fun b u _ q=>k b u q) (fun _ q=>q) fun _ _ q=>q
theorem HOk.laid (x:HOk P w H h) (k:∀ b u,h.get? b=some u->h'.get? b=some u) (hp:h.objs.size <= a) (new:_zn P w (upd H a o) h' a o):HOk P w (upd H a o) h':=fun b u e=>by
 have hn:=x.fresh hp
 by_cases hb:b=a
 ·subst hb; rw [_a] at e; cases e; exact new
 ·rw [_e hb] at e
  exact (x b u e).stay (fun c v _ q=>k c v q) (fun c q=>by rw [_e (_c q hn)]; exact q) fun c xs q=>by rw [_e (_c q hn)]; exact q
end
def Rd (H:Hp) (a:Addr) (u:HO):Prop:=H a=some u \/ ∃ o,H a=some (.frz o u)
theorem Rd.of {H:Hp} {a:Addr} {u:HO} (h:H a=some u):Rd H a u:=.inl h
theorem Rd.ok {P:Ak} {w:World} {H:Hp} {h:Heap} {a:Addr} {u:HO} (r:Rd H a u) (x:HOk P w H h):_zn P w H h a u:=by
 rcases r with r | ⟨o,r⟩
 ·exact x a u r
 ·obtain ⟨_,q⟩:=x a _ r
  exact q
def Mut:Option HO->Prop
 | some (.lst _)=>True
 | some (.dK _)=>True
 | some (.dT _)=>True
 | some (.set _ _)=>True
 | some (.ins _ _ _)=>True
 | some (.ext _)=>True
 | _=>False
section
variable {P:Ak} {w:World} {H:Hp} {h h':Heap} {x e:Addr} {o':HO}
theorem HOk.write (ok:HOk P w H h) (mu:Mut (H x)) (he:e=x \/ H e=some (.own x)) (k:∀ b u,b ≠ e->h.get? b=some u->h'.get? b=some u) (heo:∃ u,h'.get? e=some u)
  (new:_zn P w (upd H x o') h' x o'):HOk P w (upd H x o') h':=fun b u q=>by
 have nown:∀ c y,H c=some (.own y)->c ≠ x:=fun c y r z=>by subst z; rw [r] at mu; exact mu
 have ntup:∀ c xs,H c=some (.tup xs)->c ≠ x:=fun c xs r z=>by subst z; rw [r] at mu; exact mu
 by_cases hb:b=x
 ·subst hb; rw [_a] at q; cases q; exact new
 ·rw [_e hb] at q
  by_cases hbe:b=e
  ·have q':H b=some (.own x):=by
    rcases he with z | z
    ·exact absurd (hbe.trans z) hb
    ·rw [hbe]; exact z
   rw [q] at q'; cases q';obtain ⟨v,hv⟩:=heo;exact ⟨v,by rw [hbe]; exact hv⟩
  ·refine (ok b u q).stay (fun c v hc r=>k c v ?_ r) (fun c r=>by rw [_e (nown c b r)]; exact r) fun c xs r=>by rw [_e (ntup c xs r)]; exact r
   rcases hc with rfl | hc
   ·exact hbe
   ·rintro rfl
    rcases he with z | z
    ·exact nown c b hc z
    ·rw [hc] at z; cases z; exact hb rfl
end
structure Un (fs ex:List Addr) (H H':Hp) (h h':Heap):Prop where
 keep:∀ b o,h.get? b=some o->H b=none->b ∉ fs->b ∉ ex->h'.get? b=some o
 slot:∀ b o,h.get? b=some o->H b=none->b∈fs->b ∉ ex->∃ sl,h'.get? b=some { o with slots:=sl }
 free:∀ b o,h.get? b=some o->H b=none->b ∉ ex->H' b=none
 there:∀ b o,h.get? b=some o->b ∉ ex->∃ o',h'.get? b=some o'
 tups:∀ b xs,H b=some (.tup xs)->H' b=some (.tup xs)
 frzs:∀ b o u,H b=some (.frz o u)->H' b=some (.frz o u)
 tbls:∀ b ps,H b=some (.tbl ps)->∃ more,H' b=some (.tbl (ps++more))
section
variable {fs fs' ex ex':List Addr} {H H1 H2:Hp} {h h1 h2 h':Heap} {a x e:Addr} {o:HO}
theorem Un.any (u:Un fs ex H H1 h h1) {b:Addr} {ob:Obj} (q:h.get? b=some ob) (n:H b=none) (hx:b ∉ ex):∃ sl,h1.get? b=some { ob with slots:=sl }:=by
 by_cases hb:b∈fs
 ·exact u.slot b ob q n hb hx
 ·exact ⟨ob.slots,u.keep b ob q n hb hx⟩
theorem Un.trans (a:Un fs ex H H1 h h1) (b:Un fs ex H1 H2 h1 h2):Un fs ex H H2 h h2 where
 keep:=fun c ob q n hc hx=>b.keep c ob (a.keep c ob q n hc hx) (a.free c ob q n hx) hc hx
 slot:=fun c ob q n hc hx=>by
  obtain ⟨sl,e1⟩:=a.slot c ob q n hc hx;obtain ⟨sl',e2⟩:=b.slot c _ e1 (a.free c ob q n hx) hc hx;exact ⟨sl',e2⟩
 free:=fun c ob q n hx=>by
  obtain ⟨o',e1⟩:=a.there c ob q hx;exact b.free c o' e1 (a.free c ob q n hx) hx
 there:=fun c ob q hx=>by
  obtain ⟨o',e1⟩:=a.there c ob q hx;exact b.there c o' e1 hx
 tups:=fun c xs q=>b.tups c xs (a.tups c xs q)
 frzs:=fun c ob xs q=>b.frzs c ob xs (a.frzs c ob xs q)
 tbls:=fun c ps q=>by
  obtain ⟨m1,e1⟩:=a.tbls c ps q;obtain ⟨m2,e2⟩:=b.tbls c _ e1;exact ⟨m1++m2,by rw [e2,K4]⟩
theorem Un.kept (k:∀ b u,h.get? b=some u->h'.get? b=some u):Un fs ex H H h h' :=
 ⟨fun b ob q _ _ _=>k b ob q,fun b ob q _ _ _=>⟨ob.slots,k b ob q⟩,fun _ _ _ n _=>n,fun b ob q _=>⟨ob,k b ob q⟩,fun _ _ q=>q,fun _ _ _ q=>q,fun _ ps q=>⟨#[],by rw [q]; simp⟩⟩
theorem Un.refl:Un fs ex H H h h:=Un.kept fun _ _ q=>q
theorem Un.laid (k:∀ b u,h.get? b=some u->h'.get? b=some u) (hp:h.objs.size <= a) (hn:H a=none):Un fs ex H (upd H a o) h h' where
 keep:=fun b u q _ _ _=>k b u q
 slot:=fun b u q _ _ _=>⟨u.slots,k b u q⟩
 free:=fun b u q n _=>by rw [_e (ne_of_lt (lt_of_lt_of_le (Af q) hp))]; exact n
 there:=fun b u q _=>⟨u,k b u q⟩
 tups:=fun b xs q=>by rw [_e (_c q hn)]; exact q
 frzs:=fun b u xs q=>by rw [_e (_c q hn)]; exact q
 tbls:=fun b ps q=>⟨#[],by rw [_e (_c q hn),q]; simp⟩
theorem Un.write (mu:Mut (H x)) (he:e=x \/ H e=some (.own x)) (k:∀ b u,b ≠ e->h.get? b=some u->h'.get? b=some u) (heo:∃ u,h'.get? e=some u):Un fs ex H (upd H x o) h h':=by
 have hx:∀ b,H b=none->b ≠ x:=fun b n z=>by subst z; rw [n] at mu; exact mu
 have hb:∀ b,H b=none->b ≠ e:=fun b n z=>by
  subst z;rcases he with r | r
  ·exact hx b n r
  ·rw [n] at r; cases r
 have hm:∀ b u,H b=some u->¬ Mut (some u)->b ≠ x:=fun b u q nm z=>by subst z; rw [q] at mu; exact nm mu
 refine ⟨fun b u q n _ _=>k b u (hb b n) q,fun b u q n _ _=>⟨u.slots,k b u (hb b n) q⟩,fun b u q n _=>by rw [_e (hx b n)]; exact n,fun b u q _=>?_,
  fun b xs q=>by rw [_e (hm b _ q fun z=>z)]; exact q,fun b u xs q=>by rw [_e (hm b _ q fun z=>z)]; exact q,fun b ps q=>⟨#[],by rw [_e (hm b _ q fun z=>z),q]; simp⟩⟩
 by_cases hbe:b=e
 ·subst hbe; exact heo
 ·exact ⟨u,k b u hbe q⟩
theorem Un.mono (u:Un fs ex H H1 h h1) (hs:∀ b∈fs,b∈fs') (hx:∀ b∈ex,b∈ex'):Un fs' ex' H H1 h h1 :=
 ⟨fun b ob q n hb he=>u.keep b ob q n (fun z=>hb (hs b z)) fun z=>he (hx b z),fun _ _ q n _ he=>u.any q n fun z=>he (hx _ z),fun b ob q n he=>u.free b ob q n fun z=>he (hx b z),fun b ob q he=>u.there b ob q fun z=>he (hx b z),u.tups,u.frzs,u.tbls⟩
end
def trk (h:Heap) (H:Hp):List Addr:=(Ar h.objs.size).filter fun a=>(H a).isSome
def hidT (h:Heap) (H:Hp):Heap:=PySem.W.hideAll h (trk h H)
theorem _qee (h:Heap) (H:Hp):(hidT h H).objs.size=h.objs.size:=PySem.W.hideAll_size _ _
theorem _qip {h:Heap} {H:Hp} {b:Addr} {o:Obj} (e:h.get? b=some o) (n:H b=none):(hidT h H).get? b=some o :=
 PySem.W.hideAll_get _ e fun hm=>by
  have q:(H b).isSome=true:=(Ay.mp hm).2;rw [n] at q; simp at q
theorem _qlq {h:Heap} {H:Hp} {b:Addr} {o:Obj} (e:(hidT h H).get? b=some o):h.get? b=some o/\H b=none:=by
 have e':h.get? b=some o:=PySem.W.of_hideAll (trk h H) e;refine ⟨e',?_⟩;cases q:H b with
 | none=>rfl
 | some x =>
  have hm:b∈trk h H:=Ay.mpr ⟨A0.mpr (Af e'),by simp [q]⟩;have z:(hidT h H).get? b=none:=PySem.W.hideAll_none (trk h H) hm;rw [z] at e; cases e
def allNews (g h:Heap) (L:Addr):List (Addr × Obj):=(Ar h.objs.size).filterMap fun a=>if a=L \/ (g.get? a).isSome=true then none else (h.get? a).map fun o=>(a,o)
def _qt6 (g h:Heap) (L d:Addr):List (Addr × Obj):=(allNews g h L).filter fun p=>decide (p.1 ≠ d)
structure Mod (K:Frag) (mg:Str->Option Value) (base:Heap):Prop where
 kin:K.In base
 glob:base.Ns Aq mg
 blt:∃ mb,base.Ns K5 mb/\∀ x:Str,x ≠ "__name__"->mb x=A6 x
 nolimit:base.NoLimit
structure Cx where
 prog:Ak
 w:World
 K:Frag
 mg:Str->Option Value
 base:Heap
 A:Around
 N:List Str
 s₀:Shared
 H₀:Hp
 env:Env
 outer:List Env
 stack:List Env
 ex:List Addr
 fn:Str->Bool
 calm:Bool
 pn:List (Addr × Obj)
 xe:Value->Shared->Prop
def frs (l:List Env):List Addr:=l.filterMap (·.frame)
abbrev Cx.fs (X:Cx):List Addr:=frs X.outer
def Vis (sc:Scope) (x:Str):Prop:=sc.names.lookup x=some .local \/ sc.names.lookup x=some .cell \/ sc.names.lookup x=some .free
def Loc (sc:Scope) (x:Str):Prop:=sc.names.lookup x=some .local \/ sc.names.lookup x=some .cell
def Look (env:Env) (h:Heap) (m:Str->Option Value) (x:Str) (u:Value):Prop :=
 (env.kindOf x=some .local/\m x=some u) \/ ((env.kindOf x=some .cell \/ env.kindOf x=some .free)/\∃ c,env.cells.lookup x=some c/\h.IsCell c (some u))
structure Cx.Ok (X:Cx):Prop where
 mod:Mod X.K X.mg X.base
 kind:X.env.scope.kind=.function
 glob:X.env.globals=Aq
 blt:X.env.builtins=K5
 above:X.s₀.heap.objs.size <= X.env.locals
 inj:∀ x y c,X.env.cells.lookup x=some c->X.env.cells.lookup y=some c->x=y
 has:∀ x,(X.env.kindOf x=some .cell \/ X.env.kindOf x=some .free)->∃ c,X.env.cells.lookup x=some c
 cab:∀ x c,X.fn x=true->X.env.cells.lookup x=some c->X.s₀.heap.objs.size <= c
 hd:X.calm=true->X.A.handled=none
 frames:X.A.frames=some X.stack
 stk:X.stack=X.outer \/ (X.stack=X.env :: X.outer/\X.env.frame=some X.env.locals)
 exf:∀ b∈X.ex,b ≠ X.env.locals/\∀ x c,X.env.cells.lookup x=some c->c ≠ b
 bs:∀ b o,X.base.get? b=some o->X.s₀.heap.get? b=some o/\X.H₀ b=none
 bsz:X.base.objs.size <= X.s₀.heap.objs.size
 noex:∀ b o,X.base.get? b=some o->b ∉ X.ex
 exfs:∀ b∈X.ex,b ∉ X.fs
 funs:X.s₀.heap.FunFrames X.base X.outer
 frf:∀ b∈X.fs,X.H₀ b=none
structure Inv (X:Cx) (pins:List (Addr × Obj)) (σ:List (Option V)) (H:Hp) (s:Shared):Prop where
 ok:X.Ok
 os:s.os=X.s₀.os
 bare:G5 s.gens
 base:Un X.fs X.ex X.H₀ H X.s₀.heap s.heap
 loc:∃ m,s.heap.Ns X.env.locals m/\∀ (i:Nat) (x:Str) (v:V),X.N[i]?=some x->σ[i]?=some (some v)->Vis X.env.scope x->∃ u,RelV v u/\Look X.env s.heap m x u
 cell:∀ x c,X.env.cells.lookup x=some c->∃ v,s.heap.IsCell c v
 free:H X.env.locals=none
 freeC:∀ x c,X.env.cells.lookup x=some c->H c=none
 pin:∀ p∈X.pn++pins,s.heap.get? p.1=some p.2/\H p.1=none/\p.1 ≠ X.env.locals/\p.1 ∉ X.fs/\∀ v,p.2.data ≠ .cell v
 hok:HOk X.prog X.w H s.heap
 len:σ.length=X.N.length
section
variable {X:Cx} {pins:List (Addr × Obj)} {σ:List (Option V)} {H H':Hp} {s:Shared} {h':Heap}
theorem Cx.Ok.nofr (ok:X.Ok) {b:Addr} {o:Obj} (e:X.base.get? b=some o):b ∉ X.fs:=fun hb=>by
 have:=(ok.funs.mem hb).1
 rw [e] at this; cases this
theorem Inv.bs (I:Inv X pins σ H s):∀ b o,X.base.get? b=some o->s.heap.get? b=some o/\H b=none:=fun b o e =>
 ⟨I.base.keep b o (I.ok.bs b o e).1 (I.ok.bs b o e).2 (I.ok.nofr e) (I.ok.noex b o e),I.base.free b o (I.ok.bs b o e).1 (I.ok.bs b o e).2 (I.ok.noex b o e)⟩
theorem Inv.bk (I:Inv X pins σ H s):∀ b o,X.base.get? b=some o->s.heap.get? b=some o:=fun b o e=>(I.bs b o e).1
theorem Inv.mod (I:Inv X pins σ H s):Mod X.K X.mg X.base:=I.ok.mod
theorem Inv.kIn (I:Inv X pins σ H s):X.K.In s.heap:=I.ok.mod.kin.keeps I.bk
theorem Inv.nolimit (I:Inv X pins σ H s):s.heap.NoLimit:=I.ok.mod.nolimit.keeps I.bk
theorem Inv.lt (I:Inv X pins σ H s):X.env.locals < s.heap.objs.size:=let ⟨_,hn,_⟩:=I.loc; hn.lt
theorem Inv.sz (I:Inv X pins σ H s):X.s₀.heap.objs.size <= s.heap.objs.size:=le_trans I.ok.above (le_of_lt I.lt)
theorem Inv.nofs (I:Inv X pins σ H s) {a:Addr} (h:s.heap.objs.size <= a):a ∉ X.fs:=fun hb=>by
 obtain ⟨_,o,ho,_⟩:=I.ok.funs.mem hb;exact absurd (lt_of_lt_of_le (Af ho) (le_trans I.sz h)) (lt_irrefl _)
theorem Inv.cne (I:Inv X pins σ H s):∀ x c,X.env.cells.lookup x=some c->c ≠ X.env.locals:=fun x c e z=>by
 obtain ⟨v,o,ho,hd⟩:=I.cell x c e;obtain ⟨m,⟨o',es,ep,ho',hd',_⟩,_⟩:=I.loc;rw [z,ho'] at ho; cases ho; rw [hd'] at hd; cases hd
theorem Inv.funs (I:Inv X pins σ H s):s.heap.FunFrames X.base X.outer:=by
 have all:∀ (l:List Env),(∀ b∈frs l,b∈X.fs)->X.s₀.heap.FunFrames X.base l->s.heap.FunFrames X.base l:=by
  intro l
  induction l with
  | nil=>intro _ _; trivial
  | cons env r ih =>
   intro hs hl;obtain ⟨hk,⟨L,o,hf,hn,ho,hd⟩,hr⟩:=hl;have hL:L∈X.fs:=hs L (by unfold frs; rw [filterMap_cons,hf]; exact mem_cons_self);obtain ⟨sl,e⟩:=I.base.slot L o ho (I.ok.frf L hL) hL fun z=>I.ok.exfs L z hL;exact ⟨hk,⟨L,_,hf,hn,e,hd⟩,ih (fun b hb=>hs b (by unfold frs; rw [filterMap_cons,hf]; exact mem_cons_of_mem _ hb)) hr⟩
 exact all X.outer (fun _ hb=>hb) I.ok.funs
theorem Inv.stack (I:Inv X pins σ H s):s.heap.FunFrames X.base X.stack:=by
 rcases I.ok.stk with e | ⟨e,hf⟩
 ·rw [e]; exact I.funs
 ·rw [e]
  obtain ⟨m,hn,_⟩:=I.loc;refine .cons (by rw [I.ok.kind]; decide) hf hn ?_ I.funs;exact Heap.get?_none_of_le (le_trans I.ok.bsz I.ok.above)
theorem Inv.stkSub (I:Inv X pins σ H s):∀ b∈frs X.stack,b∈X.env.locals :: X.fs:=fun b hb=>by
 rcases I.ok.stk with e | ⟨e,hf⟩
 ·rw [e] at hb; exact mem_cons_of_mem _ hb
 ·rw [e] at hb
  unfold frs at hb;rw [filterMap_cons,hf] at hb;exact hb
theorem Inv.stkFree (I:Inv X pins σ H s):∀ b∈frs X.stack,H b=none:=fun b hb=>by
 rcases Al.mp (I.stkSub b hb) with e | hb
 ·rw [e]; exact I.free
 ·obtain ⟨_,o,ho,_⟩:=I.ok.funs.mem hb
  exact I.base.free b o ho (I.ok.frf b hb) fun z=>I.ok.exfs b z hb
theorem Inv.step {g':Array Ml} {t':Nat} {d':Drawn} {ch:List Addr} (I:Inv X pins σ H s)
  (hch:∀ b∈ch,(b∈X.ex \/ X.s₀.heap.objs.size <= b)/\b ≠ X.env.locals/\(∀ x c,X.env.cells.lookup x=some c->c ≠ b)/\∀ p∈X.pn++pins,p.1 ≠ b)
  (keep:∀ b o,b ≠ X.env.locals->b ∉ X.fs->b ∉ ch->s.heap.get? b=some o->H b=none->h'.get? b=some o)
  (slot:∀ b o,b ≠ X.env.locals->b∈X.fs->b ∉ ch->s.heap.get? b=some o->H b=none->∃ sl,h'.get? b=some { o with slots:=sl }) (free:∀ b o,b ∉ ch->s.heap.get? b=some o->H b=none->H' b=none)
  (there:∀ b o,b ∉ ch->s.heap.get? b=some o->∃ o',h'.get? b=some o')
  (tups:∀ b xs,H b=some (.tup xs)->H' b=some (.tup xs)) (frzs:∀ b o u,H b=some (.frz o u)->H' b=some (.frz o u)) (tbls:∀ b ps,H b=some (.tbl ps)->∃ more,H' b=some (.tbl (ps++more)))
  (ns:∀ m,s.heap.Ns X.env.locals m->h'.Ns X.env.locals m) (hok:HOk X.prog X.w H' h') (hg:G5 g') :
  Inv X pins σ H' { s with heap:=h',gens:=g',drawn:=d',toks:=t' }:=by
 have neL:∀ b o,X.s₀.heap.get? b=some o->b ≠ X.env.locals:=fun b o e=>ne_of_lt (lt_of_lt_of_le (Af e) I.ok.above);have neC:∀ b o,X.s₀.heap.get? b=some o->b ∉ X.ex->b ∉ ch:=fun b o e hx hb=>by
  rcases (hch b hb).1 with z | z
  ·exact hx z
  ·exact absurd (lt_of_lt_of_le (Af e) z) (lt_irrefl _)
 have cellK:∀ x c,X.env.cells.lookup x=some c->∀ v,s.heap.IsCell c v->h'.IsCell c v:=fun x c e v ⟨o,ho,hd⟩=>by
  have nch:c ∉ ch:=fun z=>(hch c z).2.2.1 x c e rfl
  by_cases hc:c∈X.fs
  ·obtain ⟨sl,q⟩:=slot c o (I.cne x c e) hc nch ho (I.freeC x c e)
   exact ⟨_,q,hd⟩
  ·exact ⟨o,keep c o (I.cne x c e) hc nch ho (I.freeC x c e),hd⟩
 refine ⟨I.ok,I.os,hg,⟨fun b o e n hb hx=>?_,fun b o e n hb hx=>?_,fun b o e n hx=>?_,fun b o e hx=>?_,fun b xs e=>tups b xs (I.base.tups b xs e),fun b o xs e=>frzs b o xs (I.base.frzs b o xs e),fun b ps e=>?_⟩,?_,fun x c e=>?_,?_,fun x c e=>?_,fun p hp=>?_,hok,I.len⟩
 ·exact keep b o (neL b o e) hb (neC b o e hx) (I.base.keep b o e n hb hx) (I.base.free b o e n hx)
 ·obtain ⟨sl,e1⟩:=I.base.slot b o e n hb hx
  obtain ⟨sl',e2⟩:=slot b _ (neL b o e) hb (neC b o e hx) e1 (I.base.free b o e n hx);exact ⟨sl',e2⟩
 ·obtain ⟨o',e1⟩:=I.base.there b o e hx
  exact free b o' (neC b o e hx) e1 (I.base.free b o e n hx)
 ·obtain ⟨o',e1⟩:=I.base.there b o e hx
  exact there b o' (neC b o e hx) e1
 ·obtain ⟨m1,e1⟩:=I.base.tbls b ps e
  obtain ⟨m2,e2⟩:=tbls b _ e1;exact ⟨m1++m2,by rw [e2,K4]⟩
 ·obtain ⟨m,hn,hl⟩:=I.loc
  refine ⟨m,ns m hn,fun i x v e1 e2 e3=>?_⟩;obtain ⟨u,r,l⟩:=hl i x v e1 e2 e3;refine ⟨u,r,?_⟩;rcases l with l | ⟨k,c,e,z⟩
  ·exact .inl l
  ·exact .inr ⟨k,c,e,cellK x c e _ z⟩
 ·obtain ⟨v,z⟩:=I.cell x c e
  exact ⟨v,cellK x c e v z⟩
 ·obtain ⟨m,⟨o,_,_,ho,_⟩,_⟩:=I.loc
  exact free _ o (fun z=>(hch _ z).2.1 rfl) ho I.free
 ·obtain ⟨v,o,ho,hd⟩:=I.cell x c e
  exact free c o (fun z=>(hch c z).2.2.1 x c e rfl) ho (I.freeC x c e)
 ·obtain ⟨e,n,ne,nf,d⟩:=I.pin p hp
  have nch:p.1 ∉ ch:=fun z=>(hch p.1 z).2.2.2 p hp rfl;exact ⟨keep p.1 p.2 ne nf nch e n,free p.1 p.2 nch e n,ne,nf,d⟩
theorem Inv.un {t':Nat} (I:Inv X pins σ H s) (u:Un X.fs [] H H' s.heap h') (hok:HOk X.prog X.w H' h'):Inv X pins σ H' { s with heap:=h',toks:=t' }:=by
 obtain ⟨m,⟨o,es,ep,ho,r⟩,_⟩:=id I.loc;obtain ⟨sl,hL⟩:=u.any ho I.free (by simp);exact I.step (g':=s.gens) (d':=s.drawn) (ch:=[]) (fun _ z=>nomatch z) (fun b o _ hb _ e n=>u.keep b o e n hb (by simp)) (fun b o _ hb _ e n=>u.slot b o e n hb (by simp)) (fun b o _ e n=>u.free b o e n (by simp)) (fun b o _ e=>u.there b o e (by simp)) u.tups u.frzs u.tbls (fun m' hm=>by
  obtain ⟨o',es',ep',ho',r'⟩:=hm;rw [ho] at ho'; cases ho';exact ⟨_,es',ep',hL,r'⟩) hok I.bare
theorem Inv.call {g':Array Ml} {t':Nat} {d':Drawn} {ch:List Addr} (I:Inv X pins σ H s) (u:Un (frs X.stack) ch H H' s.heap h') (hok:HOk X.prog X.w H' h') (hg:G5 g')
  (hch:∀ b∈ch,(b∈X.ex \/ X.s₀.heap.objs.size <= b)/\b ≠ X.env.locals/\(∀ x c,X.env.cells.lookup x=some c->c ≠ b)/\∀ p∈X.pn++pins,p.1 ≠ b) :
  Inv X pins σ H' { s with heap:=h',gens:=g',drawn:=d',toks:=t' }:=by
 obtain ⟨m,⟨o,es,ep,ho,r⟩,_⟩:=id I.loc;obtain ⟨sl,hL⟩:=u.any ho I.free fun z=>(hch _ z).2.1 rfl;exact I.step (ch:=ch) hch (fun b o hL hb hc e n=>u.keep b o e n (fun z=>(Al.mp (I.stkSub b z)).elim hL hb) hc) (fun b o _ _ hc e n=>u.any e n hc) (fun b o hc e n=>u.free b o e n hc) (fun b o hc e=>u.there b o e hc) u.tups u.frzs u.tbls (fun m' hm=>by
  obtain ⟨o',es',ep',ho',r'⟩:=hm;rw [ho] at ho'; cases ho';exact ⟨_,es',ep',hL,r'⟩) hok hg
theorem Inv.turned {t':Nat} {it:Addr} (I:Inv X pins σ H s) (k:∀ b o,b ≠ it->s.heap.get? b=some o->h'.get? b=some o) (hn:H it=none) (hL:it ≠ X.env.locals)
  (h1:it∈X.ex \/ X.s₀.heap.objs.size <= it) (h2:∀ x c,X.env.cells.lookup x=some c->c ≠ it) (h3:∀ p∈X.pn++pins,p.1 ≠ it):Inv X pins σ H { s with heap:=h',toks:=t' }:=by
 have nit:∀ b u,H b=some u->b ≠ it:=fun b u e z=>by rw [z,hn] at e; cases e
 refine I.step (g':=s.gens) (d':=s.drawn) (ch:=[it]) (fun b hb=>?_) (fun b o _ _ hc e _=>k b o (fun z=>hc (by simp [z])) e) (fun b o _ _ hc e _=>⟨o.slots,k b o (fun z=>hc (by simp [z])) e⟩) (fun _ _ _ _ n=>n)
  (fun b o hc e=>⟨o,k b o (fun z=>hc (by simp [z])) e⟩) (fun _ _ e=>e) (fun _ _ _ e=>e) (fun b ps e=>⟨#[],by rw [e]; simp⟩) (fun m hm=>?_) (fun b u e=>?_) I.bare
 ·have e:b=it:=by simpa using hb
  subst e;exact ⟨h1,hL,h2,h3⟩
 ·obtain ⟨o,es,ep,ho,r⟩:=hm
  exact ⟨o,es,ep,k _ o (B4 hL) ho,r⟩
 ·refine (I.hok b u e).stay (fun c v hc q=>k c v ?_ q) (fun _ q=>q) fun _ _ q=>q
  rcases hc with z | z
  ·rw [z]; exact nit b u e
  ·exact nit c _ z
theorem Inv.tok (I:Inv X pins σ H s) (t:Nat):Inv X pins σ H { s with toks:=t }:=I.un (h':=s.heap) (t':=t) Un.refl I.hok
theorem Inv.kept {t':Nat} (I:Inv X pins σ H s) (k:∀ b u,s.heap.get? b=some u->h'.get? b=some u):Inv X pins σ H { s with heap:=h',toks:=t' }:=I.un (Un.kept k) (I.hok.kept k)
theorem Inv.laid {a:Addr} {o:HO} {t':Nat} (I:Inv X pins σ H s) (k:∀ b u,s.heap.get? b=some u->h'.get? b=some u) (hp:s.heap.objs.size <= a) (new:_zn X.prog X.w (upd H a o) h' a o) :
  Inv X pins σ (upd H a o) { s with heap:=h',toks:=t' }:=I.un (Un.laid k hp (I.hok.fresh hp)) (I.hok.laid k hp new)
theorem Inv.write {x e:Addr} {o:HO} {t':Nat} (I:Inv X pins σ H s) (mu:Mut (H x)) (he:e=x \/ H e=some (.own x)) (k:∀ b u,b ≠ e->s.heap.get? b=some u->h'.get? b=some u) (heo:∃ u,h'.get? e=some u)
  (new:_zn X.prog X.w (upd H x o) h' x o):Inv X pins σ (upd H x o) { s with heap:=h',toks:=t' }:=I.un (Un.write mu he k heo) (I.hok.write mu he k heo new)
theorem Inv.pins_of {pins':List (Addr × Obj)} (I:Inv X pins σ H s) (h:∀ p∈pins',s.heap.get? p.1=some p.2/\H p.1=none/\p.1 ≠ X.env.locals/\p.1 ∉ X.fs/\∀ v,p.2.data ≠ .cell v):Inv X pins' σ H s :=
 ⟨I.ok,I.os,I.bare,I.base,I.loc,I.cell,I.free,I.freeC,fun p hp=>(Dd.mp hp).elim (fun z=>I.pin p (Es _ z)) (h p),I.hok,I.len⟩
theorem _qan {N:List Str} (hN:N.Nodup) {i j:Nat} {x:Str} (a:N[i]?=some x) (b:N[j]?=some x):i=j:=by
 obtain ⟨h1,e1⟩:=Ai.mp a;obtain ⟨h2,e2⟩:=Ai.mp b;exact (getElem_inj hN).mp (e1.trans e2.symm)
theorem _Vq {M:Model} {A:Around} {E:Value->Shared->Prop} {i:Nat} {x:Str} {v:V} {u:Value} {Q:Unit->Shared->Prop} (I:Inv X pins σ H s) (hN:X.N.Nodup) (hi:X.N[i]?=some x) (hx:Loc X.env.scope x) (r:RelV v u)
  (h:∀ s',Inv X pins (σ.set i (some v)) H s'->(∃ a,Heap.SameBut a s.heap s'.heap/\(a=X.env.locals \/ X.env.cells.lookup x=some a))->Q () s') (hf:X.fn x=true \/ X.env.scope.names.lookup x=some .local:=by first | exact .inl rfl | exact .inr rfl | assumption):wpAny M A (storeName X.env x u) Q E s:=by
 obtain ⟨m,hn,hl⟩:=id I.loc;have hcls:(X.env.scope.kind == .class || (X.env.scope.kind == .module && X.env.locals != X.env.globals))=false:=by rw [I.ok.kind]; rfl
 have hiσ:i < σ.length:=by rw [I.len]; exact (Ai.mp hi).1
 have cne:=I.cne;have tracked:∀ {a:Addr} {h':Heap},(∃ o,s.heap.get? a=some o/\H a=none)->Heap.SameBut a s.heap h'->HOk X.prog X.w H h':=fun {a h'} ha hs b ob e=>by
  obtain ⟨_,_,hfree⟩:=ha;refine (I.hok b ob e).stay (fun c w' hc q=>(hs.2 c ?_).trans q) (fun _ q=>q) fun _ _ q=>q;rintro rfl;rcases hc with rfl | hc
  ·rw [hfree] at e; cases e
  ·rw [hfree] at hc; cases hc
 rcases hx with hk | hk
 ·refine wpAny_storeName_local hk hn (fun h' hn' hs=>?_) hcls
  obtain ⟨oL,_,_,hoL,_⟩:=id hn;refine h _ ⟨I.ok,I.os,I.bare,⟨fun b o e n hb hx=>?_,fun b o e n hb hx=>?_,I.base.free,fun b o e hx=>?_,I.base.tups,I.base.frzs,I.base.tbls⟩,⟨_,hn',fun j y v' e1 e2 e3=>?_⟩,fun y c e=>?_,I.free,I.freeC,fun p hp=>?_,tracked ⟨oL,hoL,I.free⟩ hs,by simpa using I.len⟩ ⟨_,hs,.inl rfl⟩
  ·exact (hs.2 b (ne_of_lt (lt_of_lt_of_le (Af e) I.ok.above))).trans (I.base.keep b o e n hb hx)
  ·obtain ⟨sl,e1⟩:=I.base.slot b o e n hb hx
   exact ⟨sl,(hs.2 b (ne_of_lt (lt_of_lt_of_le (Af e) I.ok.above))).trans e1⟩
  ·obtain ⟨o',e1⟩:=I.base.there b o e hx
   exact ⟨o',(hs.2 b (ne_of_lt (lt_of_lt_of_le (Af e) I.ok.above))).trans e1⟩
  ·by_cases hj:j=i
   ·subst hj
    rw [hi] at e1; cases e1;rw [getElem?_set_self hiσ] at e2;cases e2;exact ⟨u,r,.inl ⟨hk,by simp⟩⟩
   ·rw [getElem?_set_ne (B4 hj)] at e2
    obtain ⟨u',r',q⟩:=hl j y v' e1 e2 e3;refine ⟨u',r',?_⟩;rcases q with ⟨k,e⟩ | ⟨k,c,e,z⟩
    ·refine .inl ⟨k,?_⟩
     have:y ≠ x:=fun e=>hj (_qan hN e1 (e ▸ hi))
     simp [this,e]
    ·exact .inr ⟨k,c,e,z.sameBut hs (cne y c e)⟩
  ·obtain ⟨w',z⟩:=I.cell y c e
   exact ⟨w',z.sameBut hs (cne y c e)⟩
  ·obtain ⟨e,n,ne,nf,d⟩:=I.pin p hp
   exact ⟨(hs.2 p.1 ne).trans e,n,ne,nf,d⟩
 ·have hfn:X.fn x=true:=by
   rcases hf with z | z
   ·exact z
   ·rw [z] at hk; cases hk
  obtain ⟨c,hc⟩:=I.ok.has x (.inl hk);obtain ⟨w',z⟩:=I.cell x c hc;refine wpAny_storeName_cell I.ok.kind hk hc z (fun h' hc' hs=>?_);obtain ⟨oc,hoc,hocd⟩:=id z;refine h { s with heap:=h' } ⟨I.ok,I.os,I.bare,⟨fun b o e n hb hx=>?_,fun b o e n hb hx=>?_,I.base.free,fun b o e hx=>?_,I.base.tups,I.base.frzs,I.base.tbls⟩,⟨m,hn.sameBut hs (B4 (cne x c hc)),fun j y v' e1 e2 e3=>?_⟩,fun y c' e=>?_,I.free,I.freeC,fun p hp=>?_,tracked ⟨oc,hoc,I.freeC x c hc⟩ hs,by simpa using I.len⟩ ⟨c,hs,.inr hc⟩
  ·exact (hs.2 b (ne_of_lt (lt_of_lt_of_le (Af e) (I.ok.cab x c hfn hc)))).trans (I.base.keep b o e n hb hx)
  ·obtain ⟨sl,e1⟩:=I.base.slot b o e n hb hx
   exact ⟨sl,(hs.2 b (ne_of_lt (lt_of_lt_of_le (Af e) (I.ok.cab x c hfn hc)))).trans e1⟩
  ·obtain ⟨o',e1⟩:=I.base.there b o e hx
   exact ⟨o',(hs.2 b (ne_of_lt (lt_of_lt_of_le (Af e) (I.ok.cab x c hfn hc)))).trans e1⟩
  ·by_cases hj:j=i
   ·subst hj
    rw [hi] at e1; cases e1;rw [getElem?_set_self hiσ] at e2;cases e2;exact ⟨u,r,.inr ⟨.inl hk,c,hc,hc'⟩⟩
   ·rw [getElem?_set_ne (B4 hj)] at e2
    obtain ⟨u',r',q⟩:=hl j y v' e1 e2 e3;refine ⟨u',r',?_⟩;rcases q with q | ⟨k,c',e,z'⟩
    ·exact .inl q
    ·refine .inr ⟨k,c',e,z'.sameBut hs ?_⟩
     rintro rfl;exact hj (_qan hN e1 (I.ok.inj _ _ _ e hc ▸ hi))
  ·by_cases hcc:c'=c
   ·subst hcc; exact ⟨_,hc'⟩
   ·obtain ⟨w2,z2⟩:=I.cell y c' e
    exact ⟨w2,z2.sameBut hs hcc⟩
  ·obtain ⟨e,n,ne,nf,d⟩:=I.pin p hp
   refine ⟨(hs.2 p.1 ?_).trans e,n,ne,nf,d⟩;intro q;rw [q,hoc] at e;have q':oc=p.2:=Option.some.inj e;exact d w' (by rw [<- q']; exact hocd)
theorem _Yg {M:Model} {A:Around} {E:Value->Shared->Prop} {i:Nat} {x:Str} {v:V} {u:Value} {Q:Unit->Shared->Prop} (I:Inv X pins σ H s) (hN:X.N.Nodup) (hi:X.N[i]?=some x) (hx:Loc X.env.scope x) (r:RelV v u)
  (h:∀ s',Inv X pins (σ.set i (some v)) H s'->Q () s') (hf:X.fn x=true \/ X.env.scope.names.lookup x=some .local:=by first | exact .inl rfl | exact .inr rfl | assumption):wpAny M A (storeName X.env x u) Q E s :=
 _Vq I hN hi hx r (fun s' I' _=>h s' I') hf
theorem Inv.call' {s':Shared} {ch:List Addr} (I:Inv X pins σ H s) (ho:s'.os=s.os) (u:Un (frs X.stack) ch H H' s.heap s'.heap) (hok:HOk X.prog X.w H' s'.heap) (hg:G5 s'.gens)
  (hch:∀ b∈ch,(b∈X.ex \/ X.s₀.heap.objs.size <= b)/\b ≠ X.env.locals/\(∀ x c,X.env.cells.lookup x=some c->c ≠ b)/\∀ p∈X.pn++pins,p.1 ≠ b):Inv X pins σ H' s':=by
 obtain ⟨h',g',d',t',o'⟩:=s';have e:o'=s.os:=ho;subst e;exact I.call (g':=g') (t':=t') (d':=d') u hok hg hch
end
abbrev XK:=Value->Option Addr->Hp->Prop
abbrev St:=List (Option V)
abbrev VK:=V->Hp->Prop
abbrev TE:=St->Hp->VK->Prop
abbrev TT:=St->Hp->(Bool->Hp->Prop)->Prop
abbrev TA:=St->Hp->(List V->Hp->Prop)->Prop
structure Ends where
 nx:St->Hp->Prop
 rt:VK
 bk:St->Hp->Prop:=fun _ _=>False
 ct:St->Hp->Prop:=fun _ _=>False
abbrev TS:=Ends->St->Hp->Prop
def EP (X:Cx) (pins:List (Addr × Obj)) (σ:St) (Q:VK) (u:Value) (s':Shared):Prop:=∃ v H',Inv X pins σ H' s'/\RelV v u/\Q v H'
def TP (X:Cx) (pins:List (Addr × Obj)) (σ:St) (Q:Bool->Hp->Prop) (b:Bool) (s':Shared):Prop:=∃ H',Inv X pins σ H' s'/\Q b H'
def AP (X:Cx) (pins:List (Addr × Obj)) (σ:St) (Q:List V->Hp->Prop) (us:List Value) (s':Shared):Prop:=∃ vs H',Inv X pins σ H' s'/\_qu8 vs us/\Q vs H'
def SP (X:Cx) (pins:List (Addr × Obj)) (D:Ends) (f:Flow) (s':Shared):Prop :=
 match f with
 | .next=>∃ σ' H',Inv X pins σ' H' s'/\D.nx σ' H'
 | .brk=>∃ σ' H',Inv X pins σ' H' s'/\D.bk σ' H'
 | .cont=>∃ σ' H',Inv X pins σ' H' s'/\D.ct σ' H'
 | .ret u=>∃ v σ' H',Inv X pins σ' H' s'/\RelV v u/\D.rt v H'
def PE (X:Cx) (e:Expr) (t:TE):Prop :=
 ∀ (pins:List (Addr × Obj)) (s:Shared) (σ:St) (H:Hp) (Q:VK),Inv X pins σ H s->t σ H Q->wpAny (model X.prog X.w) X.A (eval e X.env) (EP X pins σ Q) X.xe s
def PT (X:Cx) (e:Expr) (t:TT):Prop :=
 ∀ (pins:List (Addr × Obj)) (s:Shared) (σ:St) (H:Hp) (Q:Bool->Hp->Prop),Inv X pins σ H s->t σ H Q->wpAny (model X.prog X.w) X.A (Mm e X.env (eval e X.env)) (TP X pins σ Q) X.xe s
def PW (X:Cx) (e:Expr) (t:TT):Prop :=
 ∀ (whole:Sem Value) (pins:List (Addr × Obj)) (s:Shared) (σ:St) (H:Hp) (Q:Bool->Hp->Prop),Inv X pins σ H s->t σ H Q->wpAny (model X.prog X.w) X.A (Mm e X.env whole) (TP X pins σ Q) X.xe s
theorem PW.pt {X:Cx} {e:Expr} {t:TT} (h:PW X e t):PT X e t:=h _
def PA (X:Cx) (es:List Expr) (t:TA):Prop :=
 ∀ (pos:Pos) (pins:List (Addr × Obj)) (s:Shared) (σ:St) (H:Hp) (Q:List V->Hp->Prop),Inv X pins σ H s->t σ H Q->wpAny (model X.prog X.w) X.A (spliced (C1 pos (Ap es X.env))) (AP X pins σ Q) X.xe s
def PS (X:Cx) (st:Stmt) (t:TS):Prop :=
 ∀ (pins:List (Addr × Obj)) (s:Shared) (σ:St) (H:Hp) (D:Ends),Inv X pins σ H s->t D σ H->wpAny (model X.prog X.w) X.A (exec st X.env) (SP X pins D) X.xe s
def PSs (X:Cx) (st:List Stmt) (t:TS):Prop :=
 ∀ (pins:List (Addr × Obj)) (s:Shared) (σ:St) (H:Hp) (D:Ends),Inv X pins σ H s->t D σ H->wpAny (model X.prog X.w) X.A (execs st X.env) (SP X pins D) X.xe s
theorem thn {α:Type} {t:Sem α} {Q Q':α->Shared->Prop} {M:Model} {A:Around} {E:Value->Shared->Prop} {s:Shared} (h:wpAny M A t Q E s) (hQ:∀ a s,Q a s->Q' a s):wpAny M A t Q' E s:=Bj h hQ fun _ _ x=>x
section
variable {X:Cx}
def _qsw (i:Nat):TE:=fun σ H Q=>∃ v,σ[i]?=some (some v)/\Q v H
def tC (v:V):TE:=fun _ H Q=>Q v H
theorem _qoi {i:Nat} {x:Str} {pos:Pos} (hN:X.N[i]?=some x) (hv:Vis X.env.scope x) (hd:(x == ("__debug__":Str))=false:=by decide) (hcd:(x == ("__classdict__":Str))=false:=by decide):PE X (.Name x pos) (_qsw i):=by
 intro pins s σ H Q I h;obtain ⟨v,e,h⟩:=h;obtain ⟨m,hn,hl⟩:=I.loc;obtain ⟨u,r,l⟩:=hl i x v hN e hv;have fin:EP X pins σ Q u s:=⟨v,H,I,r,h⟩;rcases l with ⟨hk,hm⟩ | ⟨hk,c,hc,hcell⟩
 ·exact wpAny_Name (wpAny_loadName_local I.ok.kind hk hn hm fin) hd
 ·rcases hk with hk | hk
  ·exact wpAny_Name (wpAny_loadName_cell I.ok.kind hk hc hcell fin) hd
  ·exact wpAny_Name (wpAny_loadName_free I.ok.kind hk hc hcell fin hcd) hd
theorem _m {i j pos}:PE X (.Constant (.int i) j pos) (tC (.int i)):=fun _ _ _ H _ I h=>wpAny_Constant_int ⟨.int i,H,I.tok _,⟨_,rfl⟩,h⟩
theorem pe_bl {b j pos}:PE X (.Constant (.bool b) j pos) (tC (.bl b)):=fun _ _ _ H _ I h=>Constant_bool ⟨.bl b,H,I,rfl,h⟩
theorem _ql4 {j pos}:PE X (.Constant .none j pos) (tC .non):=fun _ _ _ H _ I h=>Constant_none ⟨.non,H,I,rfl,h⟩
theorem _qhe {x j pos}:PE X (.Constant (.str x) j pos) (tC (.str x)):=fun _ _ _ H _ I h=>Calls.Constant_str ⟨.str x,H,I.tok _,⟨_,rfl⟩,h⟩
def Gl (X:Cx) (x:Str):Prop:=X.env.kindOf x=some .globalImplicit
theorem _qb1 {E:Value->Shared->Prop} {pins:List (Addr × Obj)} {s:Shared} {σ:St} {H:Hp} {x:Str} {u:Value} {pos:Pos} {Q:Value->Shared->Prop} (I:Inv X pins σ H s) (hg:Gl X x) (hm:X.mg x=some u) (h:Q u s)
  (hd:(x == ("__debug__":Str))=false:=by decide):wpAny (model X.prog X.w) X.A (eval (.Name x pos) X.env) Q E s :=
 Hd I.ok.kind hg (Calls.loadGlobal_global (by rw [I.ok.glob]; exact I.mod.glob.keeps I.bk) hm h) hd
theorem _wo {E:Value->Shared->Prop} {pins:List (Addr × Obj)} {s:Shared} {σ:St} {H:Hp} {x:Str} {u:Value} {pos:Pos} {Q:Value->Shared->Prop} (I:Inv X pins σ H s) (hg:Gl X x) (hm:X.mg x=none) (hv:A6 x=some u) (h:Q u s)
  (hn:x ≠ "__name__":=by decide) (hd:(x == ("__debug__":Str))=false:=by decide):wpAny (model X.prog X.w) X.A (eval (.Name x pos) X.env) Q E s:=by
 obtain ⟨mb,h1,h2⟩:=I.mod.blt;exact Hd I.ok.kind hg (Calls.loadGlobal_builtin (by rw [I.ok.glob]; exact I.mod.glob.keeps I.bk) hm (by rw [I.ok.blt]; exact h1.keeps I.bk) ((h2 x hn).trans hv) h) hd
theorem _qa3 {x:Str} {v:V} {u:Value} {pos:Pos} (hg:Gl X x) (hm:X.mg x=some u) (r:RelV v u) (hd:(x == ("__debug__":Str))=false:=by decide):PE X (.Name x pos) (tC v) :=
 fun _ _ _ H _ I h=>_qb1 I hg hm ⟨v,H,I,r,h⟩ hd
theorem _ql5 {x:Str} {v:V} {u:Value} {pos:Pos} (hg:Gl X x) (hm:X.mg x=none) (hv:A6 x=some u) (r:RelV v u) (hn:x ≠ "__name__":=by decide) (hd:(x == ("__debug__":Str))=false:=by decide):PE X (.Name x pos) (tC v) :=
 fun _ _ _ H _ I h=>_wo I hg hm hv ⟨v,H,I,r,h⟩ hn hd
variable {a b:Expr} {ta tb:TE} {pos:Pos}
def PC (X:Cx) (op:CmpOp) (a b:Expr) (t:TE):Prop :=
 ∀ (pins:List (Addr × Obj)) (s:Shared) (σ:St) (H:Hp) (Q:VK),Inv X pins σ H s->t σ H Q ->
  wpAny (model X.prog X.w) X.A (eval a X.env) (fun v s₁=>wpAny (model X.prog X.w) X.A (eval b X.env) (fun u s₂=>wpAny (model X.prog X.w) X.A (Bm op v u) (EP X pins σ Q) X.xe s₂) X.xe s₁) X.xe s
theorem nobehind (b:Expr) {op:CmpOp} (h:op ≠ .In) (h2:op ≠ .NotIn):Cy op b=false:=by
 have e1:(op == CmpOp.In)=false:=by cases op <;> first | rfl | exact absurd rfl h
 have e2:(op == CmpOp.NotIn)=false:=by cases op <;> first | rfl | exact absurd rfl h2
 cases b <;> simp [Cy,e1,e2]
def tB (t:TE):TT:=fun σ H Q=>t σ H fun x H1=>∃ c,x=.bl c/\Q c H1
theorem _qh9 {op:CmpOp} {t:TE} (h:PC X op a b t) (h1:Cy op b=false:=by first | exact nobehind _ (by decide) (by decide) | rfl):PT X (.Compare a [op] [b] pos) (tB t):=by
 intro pins s σ H Q I hw;refine Jv (thn (h pins s σ H _ I hw) fun v s1 h1=>thn h1 fun u s2 h2=>thn h2 fun c s3 hQ=>?_) h1;obtain ⟨x,H1,I1,r1,q1⟩:=hQ;obtain ⟨d,rfl,q⟩:=q1;cases r1;exact El ⟨H1,I1,q⟩
theorem _qh8 {e:Expr} {t:TE} (h:PE X e t) (he:∀ whole,Mm e X.env whole=(do let v <- whole; Mg e.pos; I0 [v] (truthy v)):=by intro _; rfl):PT X e (tB t):=by
 intro pins s σ H Q I hw;refine isTrue_plain (thn (h pins s σ H _ I hw) fun v s1 hQ=>?_) (he _);obtain ⟨x,H1,I1,r1,q1⟩:=hQ;obtain ⟨d,rfl,q⟩:=q1;cases r1;exact El ⟨H1,I1,q⟩
variable {tA tB':TT} {_qt6:List Expr}
def tAnd (t u:TT):TT:=fun σ H Q=>t σ H fun c H1=>if c=true then u σ H1 Q else Q false H1
def tOr (t u:TT):TT:=fun σ H Q=>t σ H fun c H1=>if c=true then Q true H1 else u σ H1 Q
def tNot (t:TT):TT:=fun σ H Q=>t σ H fun c H1=>Q (!c) H1
theorem _Vz (ha:PT X a tA):PW X (.BoolOp .And [a] pos) tA:=by
 intro wh pins s σ H Q I h;refine isTrue_and (thn (ha pins s σ H Q I h) fun c s1 e=>?_);cases c with
 | true=>exact isTrue_and_nil e
 | false=>exact e
theorem _qdg (ha:PT X a tA):PW X (.BoolOp .Or [a] pos) tA:=by
 intro wh pins s σ H Q I h;refine isTrue_or (thn (ha pins s σ H Q I h) fun c s1 e=>?_);cases c with
 | false=>exact isTrue_or_nil e
 | true=>exact e
theorem _qdh (ha:PT X a tA) (hb:PW X (.BoolOp .And (b :: _qt6) pos) tB'):PW X (.BoolOp .And (a :: b :: _qt6) pos) (tAnd tA tB'):=by
 intro wh pins s σ H Q I h;refine isTrue_and (thn (ha pins s σ H _ I h) fun c s1 hQ=>?_);obtain ⟨H1,I1,q1⟩:=hQ;cases c with
 | true=>exact hb wh pins s1 σ H1 Q I1 q1
 | false=>exact ⟨H1,I1,q1⟩
theorem pw_or (ha:PT X a tA) (hb:PW X (.BoolOp .Or (b :: _qt6) pos) tB'):PW X (.BoolOp .Or (a :: b :: _qt6) pos) (tOr tA tB'):=by
 intro wh pins s σ H Q I h;refine isTrue_or (thn (ha pins s σ H _ I h) fun c s1 hQ=>?_);obtain ⟨H1,I1,q1⟩:=hQ;cases c with
 | true=>exact ⟨H1,I1,q1⟩
 | false=>exact hb wh pins s1 σ H1 Q I1 q1
theorem _qkw (ha:PT X a tA):PT X (.UnaryOp .Not a pos) (tNot tA):=by
 intro pins s σ H Q I h;exact isTrue_not (ha pins s σ H (fun c H1=>Q (!c) H1) I h)
def tIf (t:TT) (ta tb:TE):TE:=fun σ H Q=>t σ H fun c H1=>if c=true then ta σ H1 Q else tb σ H1 Q
theorem _qhh {c:Expr} (hc:PT X c tA) (ha:PE X a ta) (hb:PE X b tb):PE X (.IfExp c a b pos) (tIf tA ta tb):=by
 intro pins s σ H Q I h;refine wpAny_IfExp (thn (hc pins s σ H _ I h) fun d s1 hQ=>?_);obtain ⟨H1,I1,q1⟩:=hQ;cases d with
 | true=>exact ha pins s1 σ H1 Q I1 q1
 | false=>exact hb pins s1 σ H1 Q I1 q1
end
def SqL (K:Frag) (H:Hp) (a:Addr) (xs:List V):Prop :=
 Rd H a (.lst xs) \/
  ∃ (o:Obj) (its:Array Value) (n:Nat),K.lookup a=some o/\o.cls=.type "list"/\o.dict=none/\o.data=.seq its n/\its.size <= Aj/\_qu8 xs its.toList
def SqT (K:Frag) (H:Hp) (a:Addr) (xs:List V):Prop :=
 Rd H a (.tup xs) \/
  ∃ (o:Obj) (its:Array Value) (n:Nat),K.lookup a=some o/\o.cls=.type "tuple"/\o.data=.seq its n/\its.size <= Aj/\_qu8 xs its.toList
def absV:Value->Option V
 | .none=>some .non
 | .bool b=>some (.bl b)
 | .int i _=>some (.int i)
 | .str x _=>some (.str x)
 | .bytes b _=>some (.byt b)
 | .float b _=>some (.flt b)
 | .ref a=>some (.ref a)
 | .type n=>some (.ty n)
 | _=>none
theorem RelV.abs {x:V} {u:Value} (r:RelV x u):absV u=some x:=by
 cases x with
 | non=>cases r; rfl
 | bl _=>cases r; rfl
 | int _=>obtain ⟨t,rfl⟩:=r; rfl
 | str _=>obtain ⟨t,rfl⟩:=r; rfl
 | byt _=>obtain ⟨t,rfl⟩:=r; rfl
 | flt _=>obtain ⟨t,rfl⟩:=r; rfl
 | ref _=>cases r; rfl
 | ty _=>cases r; rfl
theorem RelV.inj {x y:V} {u:Value} (r:RelV x u) (q:RelV y u):x=y:=Option.some.inj (r.abs.symm.trans q.abs)
theorem _qu8.inj:∀ {xs ys:List V} {us:List Value},_qu8 xs us->_qu8 ys us->xs=ys
 | _,_,_,.nil,.nil=>rfl
 | _,_,_,.cons r t,.cons r' t'=>by rw [r.inj r',_qu8.inj t t']
section
variable {X:Cx} {pins:List (Addr × Obj)} {σ:St} {H:Hp} {s:Shared} {a:Addr} {xs ys:List V}
theorem SqL.of {K:Frag} (h:H a=some (.lst xs)):SqL K H a xs:=.inl (.inl h)
theorem SqT.of {K:Frag} (h:H a=some (.tup xs)):SqT K H a xs:=.inl (.inl h)
theorem Inv.list (I:Inv X pins σ H s) (h:SqL X.K H a xs):∃ its:List Value,_qu8 xs its/\PlainL s.heap a its.toArray/\xs.length <= Aj:=by
 rcases h with h | ⟨o,its,n,hk,hc,hd,hs,hz,r⟩
 ·obtain ⟨z,its,n,r,e⟩:=h.ok I.hok
  exact ⟨its,r,⟨_,n,e,rfl,rfl,rfl⟩,z⟩
 ·refine ⟨its.toList,r,⟨o,n,I.kIn a o hk,hc,hd,by simpa using hs⟩,?_⟩
  have e:=r.length;simp only [length_toList] at e;omega
theorem Inv.tuple (I:Inv X pins σ H s) (h:SqT X.K H a xs):∃ its:List Value,_qu8 xs its/\IsTup s.heap a its.toArray/\xs.length <= Aj:=by
 rcases h with h | ⟨o,its,n,hk,hc,hs,hz,r⟩
 ·obtain ⟨z,its,r,p⟩:=h.ok I.hok
  exact ⟨its,r,p,z⟩
 ·refine ⟨its.toList,r,⟨o,I.kIn a o hk,hc,n,by simpa using hs⟩,?_⟩
  have e:=r.length;simp only [length_toList] at e;omega
theorem Inv.list_inj (I:Inv X pins σ H s) (h:SqL X.K H a xs) (h':SqL X.K H a ys):xs=ys:=by
 obtain ⟨its,r,⟨o,n,e,_,_,d⟩,_⟩:=I.list h;obtain ⟨its',r',⟨o',n',e',_,_,d'⟩,_⟩:=I.list h';rw [e] at e'; cases e';rw [d] at d';injection d' with d1 _
 have:its=its':=by simpa using congrArg Array.toList d1
 subst this;exact r.inj r'
theorem Inv.tuple_inj (I:Inv X pins σ H s) (h:SqT X.K H a xs) (h':SqT X.K H a ys):xs=ys:=by
 obtain ⟨its,r,⟨o,e,_,n,d⟩,_⟩:=I.tuple h;obtain ⟨its',r',⟨o',e',_,n',d'⟩,_⟩:=I.tuple h';rw [e] at e'; cases e';rw [d] at d';injection d' with d1 _
 have:its=its':=by simpa using congrArg Array.toList d1
 subst this;exact r.inj r'
end
abbrev Cx.wish (X:Cx) (E:Value->Shared->Prop):Cx:={ X with xe:=E }
abbrev Cx.nox (X:Cx):Cx:=X.wish fun _ _=>False
theorem Cx.Ok.wish {X:Cx} (ok:X.Ok) (E:Value->Shared->Prop):(X.wish E).Ok :=
 ⟨ok.mod,ok.kind,ok.glob,ok.blt,ok.above,ok.inj,ok.has,ok.cab,ok.hd,ok.frames,ok.stk,ok.exf,ok.bs,ok.bsz,ok.noex,ok.exfs,ok.funs,ok.frf⟩
theorem Cx.Ok.unwish {X:Cx} {E:Value->Shared->Prop} (ok:(X.wish E).Ok):X.Ok :=
 ⟨ok.mod,ok.kind,ok.glob,ok.blt,ok.above,ok.inj,ok.has,ok.cab,ok.hd,ok.frames,ok.stk,ok.exf,ok.bs,ok.bsz,ok.noex,ok.exfs,ok.funs,ok.frf⟩
section
variable {X:Cx} {pins:List (Addr × Obj)} {σ:St} {H:Hp} {s:Shared} {E:Value->Shared->Prop}
theorem Inv.wish (I:Inv X pins σ H s) (E:Value->Shared->Prop):Inv (X.wish E) pins σ H s:=⟨I.ok.wish E,I.os,I.bare,I.base,I.loc,I.cell,I.free,I.freeC,I.pin,I.hok,I.len⟩
theorem Inv.unwish (I:Inv (X.wish E) pins σ H s):Inv X pins σ H s:=⟨I.ok.unwish,I.os,I.bare,I.base,I.loc,I.cell,I.free,I.freeC,I.pin,I.hok,I.len⟩
theorem SP.unwish {D:Ends} {f:Flow} {s':Shared} (h:SP (X.wish E) pins D f s'):SP X pins D f s':=by
 cases f with
 | next=>obtain ⟨σ',H',I,q⟩:=h; exact ⟨σ',H',I.unwish,q⟩
 | brk=>obtain ⟨σ',H',I,q⟩:=h; exact ⟨σ',H',I.unwish,q⟩
 | cont=>obtain ⟨σ',H',I,q⟩:=h; exact ⟨σ',H',I.unwish,q⟩
 | ret u=>obtain ⟨v,σ',H',I,r,q⟩:=h; exact ⟨v,σ',H',I.unwish,r,q⟩
theorem PE.nox {e:Expr} {t:TE} (h:PE X.nox e t):PE X e t:=fun pins s σ H Q I hw =>
 Bj (h pins s σ H Q (I.wish _) hw) (fun _ _ ⟨v,H',I',r,q⟩=>⟨v,H',I'.unwish,r,q⟩) fun _ _ z=>Az z
theorem PT.nox {e:Expr} {t:TT} (h:PT X.nox e t):PT X e t:=fun pins s σ H Q I hw =>
 Bj (h pins s σ H Q (I.wish _) hw) (fun _ _ ⟨H',I',q⟩=>⟨H',I'.unwish,q⟩) fun _ _ z=>Az z
theorem PSs.nox {st:List Stmt} {t:TS} (h:PSs X.nox st t):PSs X st t:=fun pins s σ H D I hw =>
 Bj (h pins s σ H D (I.wish _) hw) (fun _ _ q=>q.unwish) fun _ _ z=>Az z
end
section
variable {X:Cx} {st:Stmt} {_qt6:List Stmt} {t u:TS} {e:Expr} {te:TE} {pos:Pos}
def tNext:TS:=fun D σ H=>D.nx σ H
def tSeq (t u:TS):TS:=fun D σ H=>t { D with nx:=u D } σ H
theorem _jr:PSs X [] tNext:=fun _ _ σ H _ I h=>Gp ⟨σ,H,I,h⟩
theorem _j (h1:PS X st t) (h2:PSs X _qt6 u):PSs X (st :: _qt6) (tSeq t u):=by
 intro pins s σ H D I h;refine wpAny_execs_cons (thn (h1 pins s σ H { D with nx:=u D } I h) fun f s1 q=>?_);cases f with
 | next =>
  obtain ⟨σ',H',I',q⟩:=q;exact h2 pins s1 σ' H' D I' q
 | ret v=>exact q
 | brk=>exact q
 | cont=>exact q
theorem _v (h1:PS X st t):PSs X [st] t:=by
 intro pins s σ H D I h;refine wpAny_execs_cons (thn (h1 pins s σ H D I h) fun f s1 q=>?_);cases f with
 | next=>exact Gp q
 | ret v=>exact q
 | brk=>exact q
 | cont=>exact q
theorem Inv.quiet {pins:List (Addr × Obj)} {σ:St} {H:Hp} {s:Shared} (I:Inv X pins σ H s):interactive X.env=false:=by simp [interactive,I.ok.kind]
def tDrop (te:TE):TS:=fun D σ H=>te σ H fun _ H1=>D.nx σ H1
theorem _qz (he:PE X e te) (hs:Hc e none pos.line X.env=pure false:=by rfl):PS X (.Expr e pos) (tDrop te):=by
 intro pins s σ H D I h;exact wpAny_Expr_any (thn (he pins s σ H _ I h) fun v s1 ⟨x,H1,I1,r1,q1⟩=>⟨σ,H1,I1,q1⟩) I.quiet hs
def tRet (te:TE):TS:=fun D σ H=>te σ H D.rt
theorem _v1 (he:PE X e te):PS X (.Return (some e) pos) (tRet te):=by
 intro pins s σ H D I h;exact wpAny_Return_some (thn (he pins s σ H _ I h) fun v s1 ⟨x,H1,I1,r1,q1⟩=>⟨x,σ,H1,I1,r1,q1⟩)
def tIfS (c:TT) (t u:TS):TS:=fun D σ H=>c σ H fun b H1=>if b=true then t D σ H1 else u D σ H1
theorem _X3 {c:Expr} {a b:List Stmt} {tc:TT} (hc:PT X c tc) (ha:PSs X a t) (hb:PSs X b u):PS X (.If c a b pos) (tIfS tc t u):=by
 intro pins s σ H D I h;refine wpAny_If (thn (hc pins s σ H _ I h) fun d s1 hQ=>?_);obtain ⟨H1,I1,q1⟩:=hQ;cases d with
 | true=>exact ha pins s1 σ H1 D I1 q1
 | false=>exact hb pins s1 σ H1 D I1 q1
def tNever:TS:=fun _ _ _=>False
theorem _qha:PS X st tNever:=fun _ _ _ _ _ _ h=>h.elim
end
abbrev TG:=V->St->Hp->(St->Hp->Prop)->Prop
abbrev TGs:=List V->St->Hp->(St->Hp->Prop)->Prop
def PG (X:Cx) (target:Expr) (t:TG):Prop :=
 ∀ (pins:List (Addr × Obj)) (s:Shared) (σ:St) (H:Hp) (v:V) (u:Value) (Q:St->Hp->Prop),Inv X pins σ H s->RelV v u->t v σ H Q ->
  wpAny (model X.prog X.w) X.A (Il target X.env u) (fun _ s'=>∃ σ' H',Inv X pins σ' H' s'/\Q σ' H') X.xe s
def PGs (X:Cx) (ts:List Expr) (t:TGs):Prop :=
 ∀ (pins:List (Addr × Obj)) (s:Shared) (σ:St) (H:Hp) (vs:List V) (us:List Value) (Q:St->Hp->Prop),Inv X pins σ H s->_qu8 vs us->t vs σ H Q ->
  wpAny (model X.prog X.w) X.A (assignInOrder ((B6 ts X.env).map (·.2)) us) (fun _ s'=>∃ σ' H',Inv X pins σ' H' s'/\Q σ' H') X.xe s
abbrev TSet:=V->V->V->Hp->(Hp->Prop)->Prop
def PSet (X:Cx) (t:TSet):Prop :=
 ∀ (pins:List (Addr × Obj)) (s:Shared) (σ:St) (H:Hp) (o i v:V) (ov iv u:Value) (Q:Hp->Prop),Inv X pins σ H s->RelV o ov->RelV i iv->RelV v u->t o i v H Q ->
  wpAny (model X.prog X.w) X.A (setItem ov iv u) (fun _ s'=>∃ H',Inv X pins σ H' s'/\Q H') X.xe s
section
variable {X:Cx} {pos:Pos}
def _zj (i:Nat):TG:=fun v σ H Q=>Q (σ.set i (some v)) H
theorem _q0 {i:Nat} {x:Str} (hN:X.N.Nodup) (hi:X.N[i]?=some x) (hx:Loc X.env.scope x) (hf:X.fn x=true \/ X.env.scope.names.lookup x=some .local:=by first | exact .inl rfl | exact .inr rfl | assumption):PG X (.Name x pos) (_zj i):=by
 intro pins s σ H v u Q I r h;exact wpAny_assign_Name (_Yg I hN hi hx r (fun s' I'=>⟨_,H,I',h⟩) hf)
def gNil:TGs:=fun vs σ H Q=>vs=[]/\Q σ H
def _qbh (t:TG) (u:TGs):TGs:=fun vs σ H Q=>∃ v r,vs=v :: r/\t v σ H fun σ' H'=>u r σ' H' Q
theorem _Ju:PGs X [] gNil:=by
 intro pins s σ H vs us Q I r h;obtain ⟨e,h⟩:=h;subst e;cases r;exact assignInOrder_nil ⟨σ,H,I,h⟩
theorem _xl {e:Expr} {es:List Expr} {t:TG} {u:TGs} (h1:PG X e t) (h2:PGs X es u)
  (hs:(B6 (e :: es) X.env).map (·.2)=Il e X.env :: (B6 es X.env).map (·.2):=by rfl):PGs X (e :: es) (_qbh t u):=by
 intro pins s σ H vs us Q I r h;obtain ⟨v,vr,e1,h⟩:=h;subst e1;cases r with
 | cons r rr =>
  rw [hs];refine assignInOrder_cons (thn (h1 pins s σ H _ _ _ I r h) fun _ s1 hQ=>?_);obtain ⟨σ1,H1,I1,q1⟩:=hQ;exact h2 pins s1 σ1 H1 _ _ Q I1 rr q1
def gTup (K:Frag) (n:Nat) (t:TGs):TG:=fun v σ H Q=>∃ a xs,v=.ref a/\SqT K H a xs/\xs.length=n/\t xs σ H Q
theorem _qdl {es:List Expr} {k:Nat} {t:TGs} {n:Nat} (hc:X.calm=true) (h:PGs X es t)
  (hn:(B6 es X.env).length=n:=by rfl) (hst:(B6 es X.env).findIdx? (·.1)=none:=by rfl):PG X (.Tuple es k pos) (gTup X.K n t):=by
 intro pins s σ H v u Q I r hw;obtain ⟨a,xs,e1,hq,hl,hw⟩:=hw;subst e1;cases r;obtain ⟨its,rv,ht,hz⟩:=I.tuple hq;refine assign_Tuple_tuple (I.ok.hd hc) ht (by simp [hn,<- hl,rv.length]) hst fun h' hx=>?_;have I1:Inv X pins σ H { s with heap:=h' }:=I.kept (t':=s.toks) fun b o e=>hx b o (ne_of_lt (Af e)) e;exact h pins _ σ H xs _ Q I1 (by simpa using rv) hw
def gSub (to ti:TE) (t:TSet):TG:=fun v σ H Q=>to σ H fun o H1=>ti σ H1 fun i H2=>t o i v H2 fun H3=>Q σ H3
theorem _qoh {o i:Expr} {to ti:TE} {t:TSet} (ho:PE X o to) (hi:PE X i ti) (hs:PSet X t)
  (ha:∀ v,Il (.Subscript o i pos) X.env v=(do
   let ov <- I0 [v] (eval o X.env)
   let iv <- I0 [v,ov] (eval i X.env)
   Mg pos
   I0 [v,ov,iv] (setItem ov iv v)
   release [v,ov,iv] []):=by intro _; rfl):PG X (.Subscript o i pos) (gSub to ti t):=by
 intro pins s σ H v u Q I r h;rw [ha];refine Ac (Ba (thn (ho pins s σ H _ I h) fun ov s1 hQ=>?_));obtain ⟨x,H1,I1,r1,q1⟩:=hQ;refine Ac (Ba (thn (hi pins s1 σ H1 _ I1 q1) fun iv s2 hQ=>?_));obtain ⟨y,H2,I2,r2,q2⟩:=hQ;refine Ac (Ku (Ac (Ba (thn (hs pins s2 σ H2 x y v ov iv u _ I2 r1 r2 r q2) fun _ s3 hQ=>?_))));obtain ⟨H3,I3,q3⟩:=hQ;exact wpAny_release ⟨σ,H3,I3,q3⟩
def tAsg (te:TE) (g:TG):TS:=fun D σ H=>te σ H fun x H1=>g x σ H1 D.nx
theorem _qoe {tg e:Expr} {te:TE} {g:TG} (he:PE X e te) (hg:PG X tg g) (hs:swapsWithSole [tg] e pos.line X.env=pure false:=by rfl) (hw:swappedStores [tg] e X.env=pure none:=by rfl)
  (h1:(B6 [tg] X.env).map (·.2)=[Il tg X.env]:=by rfl):PS X (.Assign [tg] e pos) (tAsg te g):=by
 intro pins s σ H D I h;refine wpAny_Assign_stores (thn (he pins s σ H _ I h) fun v s1 hQ=>?_) hs hw;obtain ⟨x,H1,I1,r1,q1⟩:=hQ;rw [h1];exact thn (hg pins s1 σ H1 x v _ I1 r1 q1) fun _ s2 q=>q
theorem _q {i:Nat} {x:Str} {e:Expr} {te:TE} {pos':Pos} (hN:X.N.Nodup) (hi:X.N[i]?=some x) (hx:Loc X.env.scope x) (he:PE X e te) (hs:Hc e (some (.Name x pos')) pos.line X.env=pure false:=by rfl) (hf:X.fn x=true \/ X.env.scope.names.lookup x=some .local:=by first | exact .inl rfl | exact .inr rfl | assumption) :
  PS X (.Assign [.Name x pos'] e pos) (tAsg te (_zj i)):=by
 intro pins s σ H D I h;refine wpAny_Assign_Name (thn (he pins s σ H _ I h) fun v s1 hQ=>?_) hs;obtain ⟨y,H1,I1,r1,q1⟩:=hQ;exact _Yg I1 hN hi hx r1 (fun s2 I2=>⟨_,H1,I2,q1⟩) hf
end
section
variable {X:Cx} {pos:Pos}
def tWhile (c:TT) (tb:TS):TS:=fun D σ H=>∃ W:Nat->St->Hp->Prop,(∃ m,W m σ H)/\∀ m σ H,W m σ H ->
 c σ H fun b H1=>if b=true then ∃ N:St->Hp->Prop,(∀ σ' H',N σ' H'->∃ m',m' < m/\W m' σ' H')/\tb { D with nx:=N,ct:=N,bk:=D.nx } σ H1 else D.nx σ H1
theorem _Y8 {c:Expr} {body:List Stmt} {tc:TT} {tb:TS} (hp:PassesOwn (model X.prog X.w) X.A X.env X.xe) (hc:PT X c tc) (hb:PSs X body tb):PS X (.While c body [] pos) (tWhile tc tb):=by
 intro pins s σ H D I h;obtain ⟨W,⟨m0,w0⟩,turn⟩:=h;refine wpAny_While (codeAny_whileLoop (fun n s'=>∃ σ' H',Inv X pins σ' H' s'/\W n σ' H') ?_ m0 ⟨σ,H,I,w0⟩);rintro n s1 ⟨σ1,H1,I1,w1⟩;refine De hp (thn (hc pins s1 σ1 H1 _ I1 (turn n σ1 H1 w1)) fun b s2 hQ=>?_);obtain ⟨H2,I2,q2⟩:=hQ;cases b with
 | true =>
  obtain ⟨N,hN,q2⟩:=q2;rw [if_pos rfl];refine De hp (thn (hb pins s2 σ1 H2 _ I2 q2) fun f s3 q3=>?_);cases f with
  | next =>
   obtain ⟨σ3,H3,I3,n3⟩:=q3;obtain ⟨m',hm,w3⟩:=hN σ3 H3 n3;exact ⟨m',hm,σ3,H3,I3,w3⟩
  | cont =>
   obtain ⟨σ3,H3,I3,n3⟩:=q3;obtain ⟨m',hm,w3⟩:=hN σ3 H3 n3;exact ⟨m',hm,σ3,H3,I3,w3⟩
  | brk=>exact q3
  | ret v=>exact q3
 | false =>
  rw [if_neg An];exact Gp ⟨σ1,H2,I2,q2⟩
end
structure It where
 go:Nat->Hp->Prop
 yld:Nat->Hp->V->Hp->Prop
 stop:Nat->Hp->Prop
def FpOk (X:Cx) (pins:List (Addr × Obj)) (H:Hp) (b:Addr):Prop :=
 H b=none/\b ≠ X.env.locals/\b ∉ X.fs/\(b∈X.ex \/ X.s₀.heap.objs.size <= b)/\(∀ x c,X.env.cells.lookup x=some c->c ≠ b)/\∀ p∈X.pn++pins,p.1 ≠ b
theorem Inv.fpOk {X:Cx} {pins:List (Addr × Obj)} {σ:St} {H H':Hp} {s:Shared} {b:Addr} (I:Inv X pins σ H s) (hb:s.heap.objs.size <= b) (hn:H' b=none):FpOk X pins H' b:=by
 refine ⟨hn,ne_of_gt (lt_of_lt_of_le I.lt hb),I.nofs hb,.inr (le_trans I.sz hb),fun x c e z=>?_,fun p hp z=>?_⟩
 ·obtain ⟨v,q⟩:=I.cell x c e
  exact absurd (lt_of_lt_of_le q.lt (by rw [z]; exact hb)) (lt_irrefl _)
 ·exact absurd (lt_of_lt_of_le (Af (I.pin p hp).1) (by rw [z]; exact hb)) (lt_irrefl _)
structure Turn (P:Ak) (w:World) (K:Frag) (tg:Expr) (J:It) (fp:List Addr) (it:Addr) (tn:Nat->Heap->Prop):Prop where
 mem:it∈fp
 obj:∀ i h,tn i h->∀ b∈fp,∃ o,h.get? b=some o/\∀ v,o.data ≠ .cell v
 keep:∀ i h h',tn i h->(∀ b∈fp,∀ o,h.get? b=some o->h'.get? b=some o)->tn i h'
 item:∀ (X:Cx),X.prog=P->X.w=w->X.K=K->X.calm=true->∀ (i:Nat) (pins:List (Addr × Obj)) (s:Shared) (σ:St) (H:Hp) (E:Value->Shared->Prop),Inv X pins σ H s->(∀ b∈fp,FpOk X pins H b)->tn i s.heap->J.go i H ->
  wpAny (model P w) X.A (Dt (.ref it)) (fun r s1=>∃ u,r=some u /\
   wpAny (model P w) X.A (Gq tg (.ref it) u) (fun _ s2=>∃ x H',Inv X pins σ H' s2/\RelV x u/\J.yld i H x H'/\tn (i + 1) s2.heap/\∀ b∈fp,H' b=none) E s1) E s
 done:∀ (X:Cx),X.prog=P->X.w=w->X.K=K->X.calm=true->∀ (i:Nat) (pins:List (Addr × Obj)) (s:Shared) (σ:St) (H:Hp) (E:Value->Shared->Prop),Inv X pins σ H s->(∀ b∈fp,FpOk X pins H b)->tn i s.heap->J.stop i H ->
  wpAny (model P w) X.A (Dt (.ref it)) (fun r s1=>r=none/\Inv X pins σ H s1) E s
 self:∀ (A:Around) (i:Nat) (s:Shared) (Q:Value->Shared->Prop) (E:Value->Shared->Prop),tn i s.heap->Q (.ref it) s->wpAny (model P w) A (J2 (.ref it)) Q E s
abbrev TI:=St->Hp->(It->Hp->Prop)->Prop
def PIE (X:Cx) (pins:List (Addr × Obj)) (σ:St) (tg:Expr) (R:It->Hp->Prop) (itv:Value) (s2:Shared):Prop :=
 ∃ (it:Addr) (fp:List Addr) (tn:Nat->Heap->Prop) (J:It) (H':Hp),itv=.ref it/\Inv X pins σ H' s2/\Turn X.prog X.w X.K tg J fp it tn/\tn 0 s2.heap/\(∀ b∈fp,FpOk X pins H' b)/\R J H'
def PI (X:Cx) (tg iter:Expr) (wi:TI):Prop :=
 ∀ (pins:List (Addr × Obj)) (s:Shared) (σ:St) (H:Hp) (R:It->Hp->Prop),Inv X pins σ H s->wi σ H R ->
  wpAny (model X.prog X.w) X.A (eval iter X.env) (fun v s1=>wpAny (model X.prog X.w) X.A (J2 v) (PIE X pins σ tg R) X.xe s1) X.xe s
theorem go_of {M:Model} {A:Around} {E:Value->Shared->Prop} {s:Shared} {tg:Expr} {it:Addr} {u:Value} {o:Obj} {n:String} {vs:Array Value} {Q:Unit->Shared->Prop} (ho:s.heap.get? it=some o) (hc:o.cls=.type n) (hd:o.data=.fields vs)
  (hn:["enumerate","zip","dict_itemiterator","dict_reverseitemiterator","odict_iterator","itertools.zip_longest","itertools.pairwise"].contains n=false) (hQ:Q () s):wpAny M A (Gq tg (.ref it) u) Q E s:=by
 unfold Gq;cases tg <;> first
  | exact Ad hQ
  | (cases u <;> first
    | exact Ad hQ
    | (refine Ac (Fy ho ?_)
       rw [hc,hd];show wpAny M A (if (["enumerate","zip","dict_itemiterator","dict_reverseitemiterator","odict_iterator","itertools.zip_longest","itertools.pairwise"].contains n && vs[0]? == some (B7 _))=true then _ else _) Q E s;rw [if_neg (by intro h; rw [hn,Bool.false_and] at h; cases h)];exact Ad hQ))
def Itl (K:Frag) (a:Addr):It :=
 ⟨fun i H=>∃ xs x,SqL K H a xs/\xs[i]?=some x,fun i H x H'=>H'=H/\∀ xs,SqL K H a xs->xs[i]?=some x,fun i H=>∃ xs,SqL K H a xs/\xs.length <= i⟩
def Itt (K:Frag) (a:Addr):It :=
 ⟨fun i H=>∃ xs x,SqT K H a xs/\xs[i]?=some x,fun i H x H'=>H'=H/\∀ xs,SqT K H a xs->xs[i]?=some x,fun i H=>∃ xs,SqT K H a xs/\xs.length <= i⟩
def Itr (lo:Int) (n:Nat):It:=⟨fun i _=>i < n,fun i H x H'=>H'=H/\x=.int (lo + i),fun i _=>n <= i⟩
theorem _qcw {P:Ak} {w:World} {K:Frag} {tg:Expr} (a it:Addr):Turn P w K tg (Itl K a) [it] it (fun i h=>h.IsListIter it a i) where
 mem:=by simp
 obj:=fun i h st b hb=>by
  have e:b=it:=by simpa using hb
  subst e;obtain ⟨o,e,c,d⟩:=st;exact ⟨o,e,fun v z=>by rw [d] at z; cases z⟩
 keep:=fun i h h' st k=>st.at fun o e=>k it (by simp) o e
 item:=by
  intro X hP hw hK hc i pins s σ H E I hf st hg;subst hP hw hK;obtain ⟨xs,x,hq,hx⟩:=hg;obtain ⟨its,rv,p,hz⟩:=I.list hq;obtain ⟨u,hu,ru⟩:=rv.get hx;obtain ⟨f0,f1,f2,f3,f4,f5⟩:=hf it (by simp);refine wpAny_pyNext_list_item st p.isList (x:=u) (by simpa using hu) fun h' st' sb=>?_;have I1:Inv X pins σ H { s with heap:=h' }:=I.turned (t':=s.toks) (fun b o hb e=>(sb.2 b hb).trans e) f0 f1 f3 f4 f5;obtain ⟨o,e,c,d⟩:=id st';exact ⟨u,rfl,go_of (s:={ s with heap:=h' }) e c d (by decide) ⟨x,H,I1,ru,⟨rfl,fun ys hy=>by rw [I.list_inj hy hq]; exact hx⟩,st',fun b hb=>(hf b hb).1⟩⟩
 done:=by
  intro X hP hw hK hc i pins s σ H E I hf st hg;subst hP hw hK;obtain ⟨xs,hq,hx⟩:=hg;obtain ⟨its,rv,p,hz⟩:=I.list hq;obtain ⟨f0,f1,f2,f3,f4,f5⟩:=hf it (by simp);have hl:=rv.length;exact wpAny_pyNext_list_end (I.ok.hd hc) st p.isList (by simp; omega) fun h' eb=>⟨rfl,I.turned (t':=s.toks) (fun b o hb e=>eb b o hb e) f0 f1 f3 f4 f5⟩
 self:=fun _ _ _ _ _ st h=>wpAny_pyIter_listiter st h
theorem _W8 {P:Ak} {w:World} {K:Frag} {tg:Expr} (a it:Addr):Turn P w K tg (Itt K a) [it] it (fun i h=>h.IsTupleIter it a i) where
 mem:=by simp
 obj:=fun i h st b hb=>by
  have e:b=it:=by simpa using hb
  subst e;obtain ⟨o,e,c,d⟩:=st;exact ⟨o,e,fun v z=>by rw [d] at z; cases z⟩
 keep:=fun i h h' st k=>st.at fun o e=>k it (by simp) o e
 item:=by
  intro X hP hw hK hc i pins s σ H E I hf st hg;subst hP hw hK;obtain ⟨xs,x,hq,hx⟩:=hg;obtain ⟨its,rv,p,hz⟩:=I.tuple hq;obtain ⟨u,hu,ru⟩:=rv.get hx;obtain ⟨f0,f1,f2,f3,f4,f5⟩:=hf it (by simp);refine wpAny_pyNext_tuple_item st (show s.heap.IsTuple a its.toArray from p) (x:=u) (by simpa using hu) fun h' st' sb=>?_;have I1:Inv X pins σ H { s with heap:=h' }:=I.turned (t':=s.toks) (fun b o hb e=>(sb.2 b hb).trans e) f0 f1 f3 f4 f5;obtain ⟨o,e,c,d⟩:=id st';exact ⟨u,rfl,go_of (s:={ s with heap:=h' }) e c d (by decide) ⟨x,H,I1,ru,⟨rfl,fun ys hy=>by rw [I.tuple_inj hy hq]; exact hx⟩,st',fun b hb=>(hf b hb).1⟩⟩
 done:=by
  intro X hP hw hK hc i pins s σ H E I hf st hg;subst hP hw hK;obtain ⟨xs,hq,hx⟩:=hg;obtain ⟨its,rv,p,hz⟩:=I.tuple hq;obtain ⟨f0,f1,f2,f3,f4,f5⟩:=hf it (by simp);have hl:=rv.length;exact wpAny_pyNext_tuple_end (I.ok.hd hc) st (show s.heap.IsTuple a its.toArray from p) (by simp; omega) fun h' eb=>⟨rfl,I.turned (t':=s.toks) (fun b o hb e=>eb b o hb e) f0 f1 f3 f4 f5⟩
 self:=fun _ _ _ _ _ st h=>wpAny_pyIter_tupleiter st h
theorem _W9 {P:Ak} {w:World} {K:Frag} {tg:Expr} (it:Addr) (lo:Int) (n:Nat):Turn P w K tg (Itr lo n) [it] it (fun i h=>IsRangeIter h it (lo + (i:Nat) * 1) ((n:Int) - (i:Nat)) 1) where
 mem:=by simp
 obj:=fun i h st b hb=>by
  have e:b=it:=by simpa using hb
  subst e;exact ⟨_,st,fun v z=>by
   have z':Data.fields _=Data.cell v:=z;cases z'⟩
 keep:=fun i h h' st k=>k it (by simp) _ st
 item:=by
  intro X hP hw hK hc i pins s σ H E I hf st hg;subst hP hw hK;obtain ⟨f0,f1,f2,f3,f4,f5⟩:=hf it (by simp);have W:=Walks.range (prog:=X.prog) (w:=X.w) (I.ok.hd hc) it lo 1 n;refine W.item i s _ _ hg st fun v h' tk hv st' kk=>?_;obtain ⟨t,rfl⟩:=hv;have I1:Inv X pins σ H { s with heap:=h',toks:=tk }:=I.turned (fun b o hb e=>kk b o (by simpa using hb) e) f0 f1 f3 f4 f5;refine ⟨_,rfl,go_of (s:={ s with heap:=h',toks:=tk }) (n:="range_iterator") st' rfl rfl (by decide) ⟨.int (lo + i),H,I1,⟨t,?_⟩,⟨rfl,rfl⟩,st',fun b hb=>(hf b hb).1⟩⟩;rw [Int.mul_one]
 done:=by
  intro X hP hw hK hc i pins s σ H E I hf st hg;subst hP hw hK;obtain ⟨f0,f1,f2,f3,f4,f5⟩:=hf it (by simp);exact wpAny_pyNext_range_end (I.ok.hd hc) st (by have:n <= i:=hg; omega) fun h' eb=>⟨rfl,I.turned (t':=s.toks) (fun b o hb e=>eb b o hb e) f0 f1 f3 f4 f5⟩
 self:=fun _ _ _ _ _ st h=>wpAny_pyIter_rangeiter st h
section
variable {X:Cx} {tg:Expr}
def _qmh (K:Frag) (tl:TE):TI:=fun σ H R=>tl σ H fun x H1=>∃ a,x=.ref a/\(∃ xs,SqL K H1 a xs)/\R (Itl K a) H1
def iTup (K:Frag) (tl:TE):TI:=fun σ H R=>tl σ H fun x H1=>∃ a,x=.ref a/\(∃ xs,SqT K H1 a xs)/\R (Itt K a) H1
theorem _J {l:Expr} {tl:TE} (hl:PE X l tl):PI X tg l (_qmh X.K tl):=by
 intro pins s σ H R I h;refine thn (hl pins s σ H _ I h) fun v s1 hQ=>?_;obtain ⟨x,H1,I1,r1,q1⟩:=hQ;obtain ⟨a,e,⟨xs,hq⟩,q⟩:=q1;subst e;cases r1;obtain ⟨its,rv,p,hz⟩:=I1.list hq;refine Hw p.isList ?_;refine ⟨s1.heap.objs.size,[s1.heap.objs.size],_,_,H1,rfl,I1.kept (t':=s1.toks) fun b o e=>Ae _ e,_qcw a _,⟨_,Ag _ rfl,rfl,rfl⟩,fun b hb=>?_,q⟩;have e:b=s1.heap.objs.size:=by simpa using hb
 subst e;exact I1.fpOk (le_refl _) (I1.hok.fresh (le_refl _))
theorem _ql2 {l:Expr} {tl:TE} (hl:PE X l tl):PI X tg l (iTup X.K tl):=by
 intro pins s σ H R I h;refine thn (hl pins s σ H _ I h) fun v s1 hQ=>?_;obtain ⟨x,H1,I1,r1,q1⟩:=hQ;obtain ⟨a,e,⟨xs,hq⟩,q⟩:=q1;subst e;cases r1;obtain ⟨its,rv,p,hz⟩:=I1.tuple hq;refine wpAny_pyIter_tuple (show s1.heap.IsTuple a its.toArray from p) ?_;refine ⟨s1.heap.objs.size,[s1.heap.objs.size],_,_,H1,rfl,I1.kept (t':=s1.toks) fun b o e=>Ae _ e,_W8 a _,⟨_,Ag _ rfl,rfl,rfl⟩,fun b hb=>?_,q⟩;have e:b=s1.heap.objs.size:=by simpa using hb
 subst e;exact I1.fpOk (le_refl _) (I1.hok.fresh (le_refl _))
theorem _Y4 {pins:List (Addr × Obj)} {σ:St} {H:Hp} {s:Shared} {R:It->Hp->Prop} {E:Value->Shared->Prop} {lo hi:Int} {t u v:Tok} {tk:Nat} (I:Inv X pins σ H s) (h1:-(2 ^ 62) <= lo) (h2:lo < 2 ^ 62) (h3:-(2 ^ 62) <= hi) (h4:hi < 2 ^ 62)
  (q:R (Itr lo (hi - lo).toNat) H):wpAny (model X.prog X.w) X.A (J2 (.ref s.heap.objs.size)) (PIE X pins σ tg R) E { s with heap:=s.heap.push { cls:=.type "range",data:=.fields #[.int lo t,.int hi u,.int 1 v] },toks:=tk }:=by
 refine wpAny_pyIter_range (IsRange.new ..) (small_one h1 h2 h3 h4) ?_;have I1:Inv X pins σ H { s with heap:=s.heap.push { cls:=.type "range",data:=.fields #[.int lo t,.int hi u,.int 1 v] },toks:=tk }:=I.kept fun b o e=>Ae _ e;refine ⟨(s.heap.push { cls:=.type "range",data:=.fields #[.int lo t,.int hi u,.int 1 v] }).objs.size,[(s.heap.push { cls:=.type "range",data:=.fields #[.int lo t,.int hi u,.int 1 v] }).objs.size],_,_,H,rfl,
  I1.kept (t':=tk) fun b o e=>Ae _ e,_W9 _ lo (hi - lo).toNat,?_,fun b hb=>?_,q⟩
 ·have e1:lo + ((0:Nat):Int) * 1=lo:=by simp
  have e2:(((hi - lo).toNat:Nat):Int) - ((0:Nat):Int)=Builtin.Range.rangeSize lo hi 1:=by rw [rangeSize_one]; split <;> omega
  show IsRangeIter _ _ (lo + ((0:Nat):Int) * 1) ((((hi - lo).toNat:Nat):Int) - ((0:Nat):Int)) 1;rw [e1,e2];exact Ag _ rfl
 ·have e:b=(s.heap.push { cls:=.type "range",data:=.fields #[.int lo t,.int hi u,.int 1 v] }).objs.size:=by simpa using hb
  subst e;exact I1.fpOk (le_refl _) (I1.hok.fresh (le_refl _))
def iRng1 (ta:TA):TI:=fun σ H R=>ta σ H fun vs H1=>∃ j:Int,vs=[.int j]/\-(2 ^ 62) <= j/\j < 2 ^ 62/\R (Itr 0 j.toNat) H1
def iRng2 (ta:TA):TI:=fun σ H R=>ta σ H fun vs H1=>∃ i j:Int,vs=[.int i,.int j]/\(-(2 ^ 62) <= i/\i < 2 ^ 62/\-(2 ^ 62) <= j/\j < 2 ^ 62)/\R (Itr i (j - i).toNat) H1
theorem _v4 {a:Expr} {ta:TA} {p pos:Pos} (hg:Gl X "range") (hm:X.mg "range"=none) (ha:PA X [a] ta) (hs:Ap [a] X.env=[(false,eval a X.env)]:=by rfl):PI X tg (.Call (.Name "range" p) [a] [] pos) (iRng1 ta):=by
 intro pins s σ H R I h;refine Call_ (_wo I hg hm boot_range (Bp (thn (ha pos pins s σ H _ I h) fun us s1 hQ=>?_) hs rfl));obtain ⟨vs,H1,I1,r1,q1⟩:=hQ;obtain ⟨j,e,q1,q2,q⟩:=q1;subst e;cases r1 with
 | cons r rr =>
  cases rr;obtain ⟨t,rfl⟩:=r;exact call_range_1 (_Y4 I1 (by omega) (by omega) q1 q2 (by simpa using q))
theorem _qdj {a b:Expr} {ta:TA} {p pos:Pos} (hg:Gl X "range") (hm:X.mg "range"=none) (ha:PA X [a,b] ta) (hs:Ap [a,b] X.env=[(false,eval a X.env),(false,eval b X.env)]:=by rfl) (hs2:Ap [b] X.env=[(false,eval b X.env)]:=by rfl) :
  PI X tg (.Call (.Name "range" p) [a,b] [] pos) (iRng2 ta):=by
 intro pins s σ H R I h;refine Call_ (_wo I hg hm boot_range (Bp (thn (ha pos pins s σ H _ I h) fun us s1 hQ=>?_) (by rw [hs,hs2]) (by rw [hs2]; rfl)));obtain ⟨vs,H1,I1,r1,q1⟩:=hQ;obtain ⟨i,j,e,⟨q1,q2,q3,q4⟩,q⟩:=q1;subst e;cases r1 with
 | cons r rr =>
  cases rr with
  | cons r' rr =>
   cases rr;obtain ⟨t,rfl⟩:=r;obtain ⟨t',rfl⟩:=r';exact call_range_2 (_Y4 I1 q1 q2 q3 q4 q)
def tFor (wi:TI) (g:TG) (tb:TS):TS:=fun D σ H=>wi σ H fun J H1=>∃ W:Nat->Nat->St->Hp->Prop,(∃ m,W 0 m σ H1)/\∀ i m σ H,W i m σ H ->
 (J.stop i H/\D.nx σ H) \/ (J.go i H/\∃ N:St->Hp->Prop,(∀ σ' H',N σ' H'->∃ m',m' < m/\W (i + 1) m' σ' H')/\∀ x H',J.yld i H x H'->g x σ H' fun σ2 H2=>tb { D with nx:=N,ct:=N,bk:=D.nx } σ2 H2)
def _X7 (fp:List Addr) (h:Heap):List (Addr × Obj):=fp.filterMap fun b=>(h.get? b).map fun o=>(b,o)
theorem _zx {fp:List Addr} {h:Heap} {b:Addr} {o:Obj} (hb:b∈fp) (e:h.get? b=some o):(b,o)∈_X7 fp h:=D0.mpr ⟨b,hb,by rw [e]; rfl⟩
theorem _qdx {fp:List Addr} {h:Heap} {p:Addr × Obj} (hp:p∈_X7 fp h):p.1∈fp/\h.get? p.1=some p.2:=by
 obtain ⟨b,hb,e⟩:=D0.mp hp;cases q:h.get? b with
 | none=>rw [q] at e; cases e
 | some o =>
  rw [q] at e;have e':(b,o)=p:=Option.some.inj e;subst e';exact ⟨hb,q⟩
theorem Inv.pinned {pins:List (Addr × Obj)} {σ:St} {H:Hp} {s:Shared} {fp:List Addr} (I:Inv X pins σ H s) (hf:∀ b∈fp,FpOk X pins H b) (ho:∀ b∈fp,∃ o,s.heap.get? b=some o/\∀ v,o.data ≠ .cell v):Inv X (pins++_X7 fp s.heap) σ H s :=
 I.pins_of fun p hp=>(Dd.mp hp).elim (fun z=>I.pin p (mem_append_right _ z)) fun z=>by
  obtain ⟨hb,e⟩:=_qdx z;obtain ⟨f0,f1,f2,_⟩:=hf p.1 hb;obtain ⟨o,e',d⟩:=ho p.1 hb;rw [e] at e'; cases e';exact ⟨e,f0,f1,f2,d⟩
theorem Inv.unpinned {pins pl:List (Addr × Obj)} {σ:St} {H:Hp} {s:Shared} (I:Inv X (pins++pl) σ H s):Inv X pins σ H s:=I.pins_of fun p hp=>I.pin p (mem_append_right _ (Es _ hp))
theorem _X4 {iter:Expr} {body:List Stmt} {wi:TI} {g:TG} {tb:TS} {pos:Pos} (hp:PassesOwn (model X.prog X.w) X.A X.env X.xe) (hc:X.calm=true) (hi:PI X tg iter wi) (hg:PG X tg g) (hb:PSs X body tb)
  (hs:∀ x,Cd iter X.env x=pure x:=by intro _; rfl):PS X (.For tg iter body [] pos) (tFor wi g tb):=by
 intro pins s σ H D I h;refine wpAny_For (thn (hi pins s σ H _ I h) fun v s1 h1=>thn h1 fun itv s2 h2=>?_) hs;obtain ⟨it,fp,tn,J,H2,e,I2,T,st2,f2,W,⟨m0,w0⟩,turn⟩:=h2;subst e;have stat:∀ {H':Hp},(∀ b∈fp,H' b=none)->∀ b∈fp,FpOk X pins H' b:=fun hn b hb=>⟨hn b hb,(f2 b hb).2⟩;refine codeAny_forLoop_any (fun n s'=>∃ i σ' H',Inv X pins σ' H' s'/\tn i s'.heap/\(∀ b∈fp,H' b=none)/\W i n σ' H') ?_ m0 ⟨0,σ,H2,I2,st2,fun b hb=>(f2 b hb).1,w0⟩;rintro n s3 ⟨i,σ3,H3,I3,st3,fr3,w3⟩;rcases turn i n σ3 H3 w3 with ⟨stop,qn⟩ | ⟨go,N,hN,step⟩
 ·refine De hp (thn (T.done X rfl rfl rfl hc i pins s3 σ3 H3 X.xe I3 (stat fr3) st3 stop) fun r s4 hQ=>?_)
  obtain ⟨hr,I4⟩:=hQ;subst hr;exact Gp ⟨σ3,H3,I4,qn⟩
 ·refine De hp (thn (T.item X rfl rfl rfl hc i pins s3 σ3 H3 X.xe I3 (stat fr3) st3 go) fun r s4 hQ=>?_)
  obtain ⟨u,hr,h4⟩:=hQ;subst hr;refine De hp (thn h4 fun _ s5 hQ=>?_);obtain ⟨x,H5,I5,r5,y5,st5,fr5⟩:=hQ;have I5':=I5.pinned (stat fr5) (T.obj _ _ st5);refine De hp (thn (hg _ s5 σ3 H5 x u _ I5' r5 (step x H5 y5)) fun _ s6 hQ=>?_);obtain ⟨σ6,H6,I6,q6⟩:=hQ;refine De hp (thn (hb _ s6 σ6 H6 _ I6 q6) fun f s7 q7=>?_);have again:∀ {σ7:St} {H7:Hp},Inv X (pins++_X7 fp s5.heap) σ7 H7 s7->N σ7 H7->∃ m,m < n/\∃ i σ' H',Inv X pins σ' H' s7/\tn i s7.heap/\(∀ b∈fp,H' b=none)/\W i m σ' H':=fun {σ7 H7} I7 n7=>by
   obtain ⟨m',hm,w7⟩:=hN σ7 H7 n7;refine ⟨m',hm,i + 1,σ7,H7,I7.unpinned,T.keep _ _ _ st5 fun b hb o e=>(I7.pin (b,o) (mem_append_right _ (mem_append_right _ (_zx hb e)))).1,fun b hb=>?_,w7⟩;obtain ⟨o,e,d⟩:=T.obj _ _ st5 b hb;exact (I7.pin (b,o) (mem_append_right _ (mem_append_right _ (_zx hb e)))).2.1
  cases f with
  | next=>obtain ⟨σ7,H7,I7,n7⟩:=q7; exact again I7 n7
  | cont=>obtain ⟨σ7,H7,I7,n7⟩:=q7; exact again I7 n7
  | brk=>obtain ⟨σ7,H7,I7,q7⟩:=q7; exact ⟨σ7,H7,I7.unpinned,q7⟩
  | ret v=>obtain ⟨x7,σ7,H7,I7,r7,q7⟩:=q7; exact ⟨x7,σ7,H7,I7.unpinned,r7,q7⟩
end
theorem _qbj {K:Frag} {a:Addr} {xs:List V} {g:TG} {tb:TS} {D:Ends} {σ:St} {H:Hp} (Pv:Nat->St->Hp->Prop) (h0:Pv 0 σ H) (hl:∀ i σ H,i <= xs.length->Pv i σ H->SqL K H a xs)
  (hs:∀ i x σ H,xs[i]?=some x->Pv i σ H->g x σ H fun σ2 H2=>tb { D with nx:=Pv (i + 1),ct:=Pv (i + 1),bk:=D.nx } σ2 H2) (hd:∀ σ H,Pv xs.length σ H->D.nx σ H) :
  ∃ W:Nat->Nat->St->Hp->Prop,(∃ m,W 0 m σ H)/\∀ i m σ H,W i m σ H ->
   ((Itl K a).stop i H/\D.nx σ H) \/ ((Itl K a).go i H/\∃ N:St->Hp->Prop,(∀ σ' H',N σ' H'->∃ m',m' < m/\W (i + 1) m' σ' H')/\∀ x H',(Itl K a).yld i H x H'->g x σ H' fun σ2 H2=>tb { D with nx:=N,ct:=N,bk:=D.nx } σ2 H2):=by
 refine ⟨fun i m σ H=>m=xs.length - i/\i <= xs.length/\Pv i σ H,⟨xs.length,by simp,zero_le _,h0⟩,?_⟩;rintro i m σ H ⟨rfl,hi,p⟩;have q:=hl i σ H hi p
 by_cases hlt:i < xs.length
 ·refine .inr ⟨⟨xs,xs[i],q,by simp [hlt]⟩,Pv (i + 1),fun σ' H' p'=>⟨xs.length - (i + 1),by omega,rfl,hlt,p'⟩,fun x H' y=>?_⟩
  obtain ⟨e,y⟩:=y;subst e;exact hs i x σ _ (y xs q) p
 ·have e:i=xs.length:=by omega
  subst e;exact .inl ⟨⟨xs,q,le_refl _⟩,hd σ H p⟩
theorem _v8 {lo:Int} {n:Nat} {g:TG} {tb:TS} {D:Ends} {σ:St} {H:Hp} (Pv:Nat->St->Hp->Prop) (h0:Pv 0 σ H)
  (hs:∀ i σ H,i < n->Pv i σ H->g (.int (lo + i)) σ H fun σ2 H2=>tb { D with nx:=Pv (i + 1),ct:=Pv (i + 1),bk:=D.nx } σ2 H2) (hd:∀ σ H,Pv n σ H->D.nx σ H) :
  ∃ W:Nat->Nat->St->Hp->Prop,(∃ m,W 0 m σ H)/\∀ i m σ H,W i m σ H ->
   ((Itr lo n).stop i H/\D.nx σ H) \/ ((Itr lo n).go i H/\∃ N:St->Hp->Prop,(∀ σ' H',N σ' H'->∃ m',m' < m/\W (i + 1) m' σ' H')/\∀ x H',(Itr lo n).yld i H x H'->g x σ H' fun σ2 H2=>tb { D with nx:=N,ct:=N,bk:=D.nx } σ2 H2):=by
 refine ⟨fun i m σ H=>m=n - i/\i <= n/\Pv i σ H,⟨n,by simp,zero_le _,h0⟩,?_⟩;rintro i m σ H ⟨rfl,hi,p⟩
 by_cases hlt:i < n
 ·refine .inr ⟨hlt,Pv (i + 1),fun σ' H' p'=>⟨n - (i + 1),by omega,rfl,hlt,p'⟩,fun x H' y=>?_⟩
  obtain ⟨e,y⟩:=y;subst e y;exact hs i σ _ hlt p
 ·have e:i=n:=by omega
  subst e;exact .inl ⟨le_refl _,hd σ H p⟩
abbrev R2:=V->V->Hp->VK->Prop
def OpR (X:Cx) (f:Value->Value->Sem Value) (r:R2):Prop :=
 ∀ (pins:List (Addr × Obj)) (s:Shared) (σ:St) (H:Hp) (x y:V) (v u:Value) (Q:VK),Inv X pins σ H s->RelV x v->RelV y u->r x y H Q ->
  wpAny (model X.prog X.w) X.A (f v u) (EP X pins σ Q) X.xe s
def UnR (X:Cx) (f:Value->Sem Value) (r:V->Hp->VK->Prop):Prop :=
 ∀ (pins:List (Addr × Obj)) (s:Shared) (σ:St) (H:Hp) (x:V) (v:Value) (Q:VK),Inv X pins σ H s->RelV x v->r x H Q ->
  wpAny (model X.prog X.w) X.A (f v) (EP X pins σ Q) X.xe s
def _wh (X:Cx) (f:Value) (r:List V->Hp->VK->Prop):Prop :=
 ∀ (pins:List (Addr × Obj)) (s:Shared) (σ:St) (H:Hp) (xs:List V) (us:List Value) (Q:VK),Inv X pins σ H s->_qu8 xs us->r xs H Q ->
  wpAny (model X.prog X.w) X.A (call f us) (EP X pins σ Q) X.xe s
def tOp (r:R2) (ta tb:TE):TE:=fun σ H Q=>ta σ H fun x H1=>tb σ H1 fun y H2=>r x y H2 Q
def tUn (r:V->Hp->VK->Prop) (ta:TE):TE:=fun σ H Q=>ta σ H fun x H1=>r x H1 Q
def rI (C:Int->Int->Prop) (g:Int->Int->V):R2:=fun x y H Q=>∃ i j,x=.int i/\y=.int j/\C i j/\Q (g i j) H
def rI0 (g:Int->Int->V):R2:=fun x y H Q=>∃ i j,x=.int i/\y=.int j/\Q (g i j) H
def rU (g:Int->V):V->Hp->VK->Prop:=fun x H Q=>∃ i,x=.int i/\Q (g i) H
section
variable {X:Cx} {a b c:Expr} {ta tb tc:TE} {pos:Pos}
theorem binT (ha:PE X a ta) (hb:PE X b tb) {pins:List (Addr × Obj)} {s:Shared} {σ:St} {H:Hp} {R:V->V->Hp->Prop} (I:Inv X pins σ H s)
  (h:ta σ H fun x H1=>tb σ H1 fun y H2=>R x y H2) {Q:Value->Shared->Prop} {f:Value->Value->Sem Value}
  (hf:∀ v u s2 x y H2,Inv X pins σ H2 s2->RelV x v->RelV y u->R x y H2->wpAny (model X.prog X.w) X.A (f v u) Q X.xe s2) :
  wpAny (model X.prog X.w) X.A (eval a X.env) (fun v s₁=>wpAny (model X.prog X.w) X.A (eval b X.env) (fun u s₂=>wpAny (model X.prog X.w) X.A (f v u) Q X.xe s₂) X.xe s₁) X.xe s:=by
 refine thn (ha pins s σ H _ I h) fun v s1 hQ=>?_;obtain ⟨x,H1,I1,r1,q1⟩:=hQ;refine thn (hb pins s1 σ H1 _ I1 q1) fun u s2 hQ=>?_;obtain ⟨y,H2,I2,r2,q2⟩:=hQ;exact hf v u s2 x y H2 I2 r1 r2 q2
theorem _q3 {op:Operator} {r:R2} (ho:OpR X (Dg op) r) (ha:PE X a ta) (hb:PE X b tb):PE X (.BinOp a op b pos) (tOp r ta tb):=by
 intro pins s σ H Q I h;exact wpAny_BinOp (binT ha hb I h fun v u s2 x y H2 I2 rx ry q=>ho pins s2 σ H2 x y v u Q I2 rx ry q)
theorem pe_un {op:UnaryOp} {r:V->Hp->VK->Prop} (ho:UnR X (unaryOp op) r) (ha:PE X a ta):PE X (.UnaryOp op a pos) (tUn r ta):=by
 intro pins s σ H Q I h;exact UnaryOp_ (thn (ha pins s σ H _ I h) fun v s1 ⟨x,H1,I1,r1,q1⟩=>ho pins s1 σ H1 x v Q I1 r1 q1)
theorem opI {f:Value->Value->Sem Value} {C:Int->Int->Prop} {g:Int->Int->Int}
  (rule:∀ (i j:Int) (t u:Tok) (s:Shared) (Q:Value->Shared->Prop) (E:Value->Shared->Prop),C i j->Q (.int (g i j) s.toks) { s with toks:=s.toks + 1 }->wpAny (model X.prog X.w) X.A (f (.int i t) (.int j u)) Q E s) :
  OpR X f (rI C fun i j=>.int (g i j)):=by
 intro pins s σ H x y v u Q I rx ry h;obtain ⟨i,j,rfl,rfl,hc,q⟩:=h;obtain ⟨t,rfl⟩:=rx;obtain ⟨t',rfl⟩:=ry;exact rule i j t t' s _ _ hc ⟨.int (g i j),H,I.tok _,⟨_,rfl⟩,q⟩
theorem opI0 {f:Value->Value->Sem Value} {g:Int->Int->Int}
  (rule:∀ (i j:Int) (t u:Tok) (s:Shared) (Q:Value->Shared->Prop) (E:Value->Shared->Prop),Q (.int (g i j) s.toks) { s with toks:=s.toks + 1 }->wpAny (model X.prog X.w) X.A (f (.int i t) (.int j u)) Q E s) :
  OpR X f (rI0 fun i j=>.int (g i j)):=by
 intro pins s σ H x y v u Q I rx ry h;obtain ⟨i,j,rfl,rfl,q⟩:=h;obtain ⟨t,rfl⟩:=rx;obtain ⟨t',rfl⟩:=ry;exact rule i j t t' s _ _ ⟨.int (g i j),H,I.tok _,⟨_,rfl⟩,q⟩
theorem opB0 {f:Value->Value->Sem Value} {g:Int->Int->Bool}
  (rule:∀ (i j:Int) (t u:Tok) (s:Shared) (Q:Value->Shared->Prop) (E:Value->Shared->Prop),Q (.bool (g i j)) s->wpAny (model X.prog X.w) X.A (f (.int i t) (.int j u)) Q E s) :
  OpR X f (rI0 fun i j=>.bl (g i j)):=by
 intro pins s σ H x y v u Q I rx ry h;obtain ⟨i,j,rfl,rfl,q⟩:=h;obtain ⟨t,rfl⟩:=rx;obtain ⟨t',rfl⟩:=ry;exact rule i j t t' s _ _ ⟨.bl (g i j),H,I,rfl,q⟩
def CDiv (i j:Int):Prop:=0 < j/\j < 1073741824
def CPow (i j:Int):Prop:=0 <= j/\j <= 1000000/\i.natAbs < 2 ^ 64
def CMul (i j:Int):Prop:=(-(2 ^ 64) < i/\i < 2 ^ 64) \/ (-(2 ^ 64) < j/\j < 2 ^ 64)
theorem CMul.ok {i j:Int} (h:CMul i j):IntMulOk i j:=by
 rcases h with ⟨h1,h2⟩ | ⟨h1,h2⟩
 ·exact .of_left (intBits_le_64 h1 h2)
 ·exact .of_right (intBits_le_64 h1 h2)
theorem _x5:OpR X (Dg .Add) (rI0 fun i j=>.int (i + j)):=opI0 fun _ _ _ _ _ _ _ q=>add_int q
theorem _Zd:OpR X (Dg .Sub) (rI0 fun i j=>.int (i - j)):=opI0 fun _ _ _ _ _ _ _ q=>sub_int q
theorem _qop:OpR X (Dg .Mult) (rI CMul fun i j=>.int (i * j)):=opI fun _ _ _ _ _ _ _ hc q=>mul_int q hc.ok
theorem _kq:OpR X (Dg .FloorDiv) (rI CDiv fun i j=>.int (i / j)):=opI fun i j _ _ _ _ _ hc q=>by
 have h1:(0:Int) < j:=hc.1;have h2:j < 1073741824:=hc.2;exact floordiv_int (by omega) (by rw [He i (by omega)]; exact q) (.inl (PyProof.noPylong_small (by omega)))
theorem _x4:OpR X (Dg .Mod) (rI (fun _ j=>0 < j) fun i j=>.int (i % j)):=opI fun i j _ _ _ _ _ hc q=>by
 have h1:(0:Int) < j:=hc;exact mod_int' (by omega) (by rw [Et i (by omega)]; exact q)
theorem _qaa:OpR X (Dg .Mod) (rI (fun _ j=>j ≠ 0) fun i j=>.int (i.fmod j)):=opI fun _ _ _ _ _ _ _ hc q=>mod_int' hc q
theorem _qlc:OpR X (Dg .Pow) (rI CPow fun i j=>.int (i ^ j.toNat)):=opI fun _ _ _ _ _ _ _ hc q=>pow_int_small hc.1 hc.2.1 hc.2.2 q
theorem unI {f:Value->Sem Value} {g:Int->Int}
  (rule:∀ (i:Int) (t:Tok) (s:Shared) (Q:Value->Shared->Prop) (E:Value->Shared->Prop),Q (.int (g i) s.toks) { s with toks:=s.toks + 1 }->wpAny (model X.prog X.w) X.A (f (.int i t)) Q E s) :
  UnR X f (rU fun i=>.int (g i)):=by
 intro pins s σ H x v Q I rx h;obtain ⟨i,rfl,q⟩:=h;obtain ⟨t,rfl⟩:=rx;exact rule i t s _ _ ⟨.int (g i),H,I.tok _,⟨_,rfl⟩,q⟩
theorem _qk6:UnR X (unaryOp .USub) (rU fun i=>.int (-i)):=unI fun _ _ _ _ _ q=>neg_int q
end
def scal:V->V->Bool
 | .non,.non=>true | .non,.int _=>true | .int _,.non=>true | .non,.bl _=>true | .bl _,.non=>true | .non,.str _=>true | .str _,.non=>true
 | .int _,.int _=>true | .bl _,.bl _=>true | .str _,.str _=>true | .byt _,.byt _=>true
 | .int _,.str _=>true | .str _,.int _=>true | .bl _,.str _=>true | .str _,.bl _=>true
 | _,_=>false
def rEq:R2:=fun x y H Q=>scal x y=true/\Q (.bl (decide (x=y))) H
theorem _qmw {i j:Int}:decide (V.int i=V.int j)=(i == j):=by
 rw [A5]
 simp
theorem _qpv {i j:Bool}:decide (V.bl i=V.bl j)=(i == j):=by
 rw [A5]
 simp
theorem _qmv {i j:Str}:decide (V.str i=V.str j)=(i == j):=by
 rw [A5]
 simp
theorem _qmx {i j:Array UInt8}:decide (V.byt i=V.byt j)=(i.toList == j.toList):=by
 rw [A5];cases i;cases j
 simp
section
variable {X:Cx} {a b c:Expr} {ta tb tc:TE} {pos:Pos}
theorem _xt {pins:List (Addr × Obj)} {σ:St} {H:Hp} {s:Shared} {Q:VK} {k k':Bool} (I:Inv X pins σ H s) (q:Q (.bl k) H) (e:k=k'):EP X pins σ Q (.bool k') s:=by
 subst e;exact ⟨.bl k,H,I,rfl,q⟩
theorem _qjw:OpR X (Bm .Eq) rEq:=by
 intro pins s σ H x y v u Q I rx ry h;obtain ⟨hs,q⟩:=h;cases x with
 | non =>
  cases rx;cases y with
  | non=>cases ry; exact PySem.EqNone.eq_none_none (_xt I q (by simp))
  | bl j=>cases ry; exact PySem.EqNone.eq_none_bool (_xt I q (by simp))
  | int j=>obtain ⟨t',rfl⟩:=ry; exact PySem.EqNone.eq_none_int (_xt I q (by simp))
  | str j=>obtain ⟨t',rfl⟩:=ry; exact PySem.EqNone.eq_none_str (_xt I q (by simp))
  | _=>exact absurd (show false=true from hs) An
 | bl i =>
  cases rx;cases y with
  | non=>cases ry; exact PySem.EqNone.eq_bool_none (_xt I q (by simp))
  | bl j=>cases ry; exact eq_bool (_xt I q _qpv)
  | str j=>obtain ⟨t',rfl⟩:=ry; exact PySem.EqMixed.eq_bool_str (_xt I q (by simp))
  | _=>exact absurd (show false=true from hs) An
 | int i =>
  obtain ⟨t,rfl⟩:=rx;cases y with
  | non=>cases ry; exact PySem.EqNone.eq_int_none (_xt I q (by simp))
  | int j=>obtain ⟨t',rfl⟩:=ry; exact eq_int (_xt I q _qmw)
  | str j=>obtain ⟨t',rfl⟩:=ry; exact PySem.EqMixed.eq_int_str (_xt I q (by simp))
  | _=>exact absurd (show false=true from hs) An
 | str i =>
  obtain ⟨t,rfl⟩:=rx;cases y with
  | non=>cases ry; exact PySem.EqNone.eq_str_none (_xt I q (by simp))
  | bl j=>cases ry; exact PySem.EqMixed.eq_str_bool (_xt I q (by simp))
  | int j=>obtain ⟨t',rfl⟩:=ry; exact PySem.EqMixed.eq_str_int (_xt I q (by simp))
  | str j=>obtain ⟨t',rfl⟩:=ry; exact eq_str (_xt I q _qmv)
  | _=>exact absurd (show false=true from hs) An
 | byt i =>
  obtain ⟨t,rfl⟩:=rx;cases y with
  | byt j=>obtain ⟨t',rfl⟩:=ry; exact PySem.W.eq_bytes (_xt I q _qmx)
  | _=>exact absurd (show false=true from hs) An
 | _=>cases y <;> exact absurd (show false=true from hs) An
theorem _qle:OpR X (Bm .Lt) (rI0 fun i j=>.bl (decide (i < j))):=opB0 fun _ _ _ _ _ _ _ q=>lt_int q
theorem op_le:OpR X (Bm .LtE) (rI0 fun i j=>.bl (decide (i <= j))):=opB0 fun _ _ _ _ _ _ _ q=>le_int q
theorem op_gt:OpR X (Bm .Gt) (rI0 fun i j=>.bl (decide (j < i))):=opB0 fun _ _ _ _ _ _ _ q=>gt_int q
theorem op_ge:OpR X (Bm .GtE) (rI0 fun i j=>.bl (decide (j <= i))):=opB0 fun _ _ _ _ _ _ _ q=>ge_int q
theorem _qoq:OpR X (Bm .Is) (fun x y H Q=>y=.non/\Q (.bl (decide (x=.non))) H):=by
 intro pins s σ H x y v u Q I rx ry h;obtain ⟨rfl,q⟩:=h;cases ry;refine is_none_gen (_xt I q ?_);cases x <;> first
  | (cases rx; rfl)
  | (obtain ⟨t,rfl⟩:=rx; rfl)
theorem _qld:OpR X (Bm .IsNot) (fun x y H Q=>y=.non/\Q (.bl (!decide (x=.non))) H):=by
 intro pins s σ H x y v u Q I rx ry h;obtain ⟨rfl,q⟩:=h;cases ry;refine isnot_none_gen (_xt I q ?_);cases x <;> first
  | (cases rx; rfl)
  | (obtain ⟨t,rfl⟩:=rx; rfl)
theorem OpR.or {f:Value->Value->Sem Value} {r r':R2} (h:OpR X f r) (h':OpR X f r'):OpR X f (fun x y H Q=>r x y H Q \/ r' x y H Q):=by
 intro pins s σ H x y v u Q I rx ry q;rcases q with q | q
 ·exact h pins s σ H x y v u Q I rx ry q
 ·exact h' pins s σ H x y v u Q I rx ry q
theorem _qg (b:Expr) {op:CmpOp} (h:op ≠ .In:=by decide) (h2:op ≠ .NotIn:=by decide):Cy op b=false:=by
 have e1:(op == CmpOp.In)=false:=by cases op <;> first | rfl | exact absurd rfl h
 have e2:(op == CmpOp.NotIn)=false:=by cases op <;> first | rfl | exact absurd rfl h2
 cases b <;> simp [Cy,e1,e2]
theorem _qfm {op:CmpOp} {r:R2} (ho:OpR X (Bm op) r) (ha:PE X a ta) (hb:PE X b tb) (hm:Cy op b=false):PE X (.Compare a [op] [b] pos) (tOp r ta tb):=by
 intro pins s σ H Q I h;exact wpAny_Compare1 (binT ha hb I h fun v u s2 x y H2 I2 rx ry q=>ho pins s2 σ H2 x y v u Q I2 rx ry q) hm
def tTest (t:TE):TT:=fun σ H Q=>t σ H fun x H'=>∃ k,x=.bl k/\Q k H'
theorem _qd {op:CmpOp} {r:R2} (ho:OpR X (Bm op) r) (ha:PE X a ta) (hb:PE X b tb) (hm:Cy op b=false):PT X (.Compare a [op] [b] pos) (tTest (tOp r ta tb)):=by
 intro pins s σ H Q I h;refine Jv (thn (ha pins s σ H _ I h) fun v s1 ⟨x,H1,I1,r1,q1⟩=>thn (hb pins s1 σ H1 _ I1 q1) fun u s2 ⟨y,H2,I2,r2,q2⟩ =>
  thn (ho pins s2 σ H2 x y v u _ I2 r1 r2 q2) fun c s3 ⟨z,H3,I3,r3,k,e,q3⟩=>?_) hm
 subst e;cases r3;exact El ⟨H3,I3,q3⟩
theorem _qax:(Aj:Nat) < 2 ^ 63:=by rw [Ao]; decide
theorem _kr:OpR X (Dg .Add) (fun x y H Q=>∃ i j,x=.str i/\y=.str j/\i.length + j.length <= Aj/\Q (.str (i++j)) H):=by
 intro pins s σ H x y v u Q I rx ry h;obtain ⟨i,j,rfl,rfl,hz,q⟩:=h;obtain ⟨t,rfl⟩:=rx;obtain ⟨t',rfl⟩:=ry;exact add_str (fun t' tk=>⟨.str (i++j),H,I.tok _,⟨_,rfl⟩,q⟩) hz
theorem vals1 {x:V} {us:List Value} (r:_qu8 [x] us):∃ u,us=[u]/\RelV x u:=by
 cases r with
 | cons r1 r2=>cases r2; exact ⟨_,rfl,r1⟩
theorem vals2 {x y:V} {us:List Value} (r:_qu8 [x,y] us):∃ u w',us=[u,w']/\RelV x u/\RelV y w':=by
 cases r with
 | cons r1 r2 =>
  cases r2 with
  | cons r3 r4=>cases r4; exact ⟨_,_,rfl,r1,r3⟩
theorem _qc7:_wh X (.builtin "abs") (fun xs H Q=>∃ i,xs=[.int i]/\Q (.int (if i < 0 then -i else i)) H):=by
 intro pins s σ H xs us Q I r h;obtain ⟨i,rfl,q⟩:=h;obtain ⟨u,rfl,t,rfl⟩:=vals1 r;exact call_abs_int fun u tk=>⟨.int (if i < 0 then -i else i),H,I.tok _,⟨_,rfl⟩,q⟩
theorem _qer (hc:X.calm=true):_wh X (.builtin "max") (fun xs H Q=>∃ i j,xs=[.int i,.int j]/\Q (.int (if j > i then j else i)) H):=by
 intro pins s σ H xs us Q I r h;obtain ⟨i,j,rfl,q⟩:=h;obtain ⟨u,w',rfl,⟨t,rfl⟩,⟨t',rfl⟩⟩:=vals2 r;refine max_two_ints (I.ok.hd hc) fun h' tk k=>⟨_,H,I.kept k,?_,q⟩
 by_cases hj:j > i
 ·rw [if_pos hj,if_pos hj]; exact ⟨_,rfl⟩
 ·rw [if_neg hj,if_neg hj]; exact ⟨_,rfl⟩
theorem _qeq (hc:X.calm=true):_wh X (.builtin "min") (fun xs H Q=>∃ i j,xs=[.int i,.int j]/\Q (.int (if j < i then j else i)) H):=by
 intro pins s σ H xs us Q I r h;obtain ⟨i,j,rfl,q⟩:=h;obtain ⟨u,w',rfl,⟨t,rfl⟩,⟨t',rfl⟩⟩:=vals2 r;refine min_two_ints (I.ok.hd hc) fun h' tk k=>⟨_,H,I.kept k,?_,q⟩
 by_cases hj:j < i
 ·rw [if_pos hj,if_pos hj]; exact ⟨_,rfl⟩
 ·rw [if_neg hj,if_neg hj]; exact ⟨_,rfl⟩
end
structure ObjM (h:Heap) (x dx C:Addr) (mA:Str->Option Value):Prop where
 obj:h.get? x=some (Cr C dx)
 ns:h.Ns1 dx mA
 ne:dx ≠ x
theorem _qe2 {h:Heap} {dx:Addr} {mA:Str->Option Value} (n:h.Ns1 dx mA):∃ od,h.get? dx=some od/\∀ name,Hf name od=some (mA name):=by
 obtain ⟨o,es,ep,ho,hd,hk,_,hm⟩:=n;refine ⟨o,ho,fun name=>?_⟩;have e:=hm name;unfold nsFind findBy at e;rw [<- Array.find?_toList] at e;unfold Hf;rw [hd];dsimp only;split
 ·rename_i y q
  rw [q] at e;exact congrArg some e
 ·rename_i q
  rw [q] at e;have a:es.toList.any (·.refKey)=false:=by
   rw [List.any_eq_false];intro y hy;obtain ⟨z,t,hkey⟩:=hk y (Array.mem_toList_iff.mp hy);simp [DictEntry.refKey,hkey]
  have a':¬ es.toList.any (·.refKey)=true:=by rw [a]; exact An
  rw [if_neg a'];exact congrArg some e
theorem ObjM.look {h:Heap} {x dx C:Addr} {mA:Str->Option Value} (I:ObjM h x dx C mA):∃ od,PySem.W.InstAt h x (Cr C dx) C (some od)/\∀ name,Hf name od=some (mA name) :=
 let ⟨od,ho,hl⟩:=_qe2 I.ns
 ⟨od,⟨I.obj,rfl,rfl,ho⟩,hl⟩
section
variable {prog:Ak} {w:World} {A:Around} {E:Value->Shared->Prop} {s:Shared} {K:Frag} {x dx C f:Addr} {mA:Str->Option Value} {name:Str} {v:Value}
theorem get_map {expr:Bool} {Q:Value->Shared->Prop} (X:K.In s.heap) (I:ObjM s.heap x dx C mA) (hg:E1 K C name=true) (hh:Fh K C=true)
  (ha:A7 K (.ref C) name=some none) (hv:mA name=some v) (hv':PySem.W.handedIn v=true) (h:Q v { s with toks:=s.toks + 1 }) :
  wpAny (model prog w) A (getAttr (.ref x) name expr) Q E s:=by
 obtain ⟨od,J,hl⟩:=I.look;exact PySem.W.get_value X J (G1 hg).1 (PySem.W.findObj_own hh ha rfl (by rw [hl,hv])) hv' h
theorem _qis {pl:Sem Bool} {Q:Value × List Value->Shared->Prop} (X:K.In s.heap) (I:ObjM s.heap x dx C mA) (hg:E1 K C name=true)
  (hf:A7 K (.ref C) name=some (some (.ref f))) (ht:G6 K (.ref f)=true) (hv:mA name=none) (h:Q (.ref f,[.ref x]) s) :
  wpAny (model prog w) A (L1 (.ref x) name pl) Q E s:=by
 obtain ⟨od,J,hl⟩:=I.look;exact PySem.W.method_fn X J (G1 hg).1 (G1 hg).2 hf (beq_iff_eq.mp ht) (by show (Hf name od).map (·.isSome)=some false; rw [hl,hv]; rfl) h
theorem _qko {ns:List Str} {Q:Unit->Shared->Prop} (X:K.In s.heap) (I:ObjM s.heap x dx C mA)
  (hs:A7 K (.ref C) "__setattr__"=some (some (.builtin "object.__setattr__"))) (hp:Hy K C=true) (ht:Jl K C name=some none) (hh:Fh K C=true)
  (hw:PySem.Within mA ns) (hsz:ns.length <= Aj)
  (h:∀ h',ObjM h' x dx C (fun y=>if y=name then some v else mA y)->Heap.SameBut dx s.heap h'->Q () { s with heap:=h',toks:=s.toks + 2 }) :
  wpAny (model prog w) A (setAttr (.ref x) name v) Q E s:=by
 obtain ⟨od,J,hl⟩:=I.look;refine PySem.W.set_plain X J hs (PySem.W.osa_open (s:={ s with toks:=s.toks + 1 }) (r:=none) X J hp ht fun b=>?_);obtain ⟨cd,hc,hd'⟩:=PySem.W.any_some hh;have hx:s.heap.get? x=some ⟨.ref C,some dx,.plain,#[]⟩:=I.obj;refine Ac (Ad (Ac (Ac (wpAny_loadPart hx (Ac (PySem.W.Looks.here (s:={ s with toks:=s.toks + 1 }) (PySem.W.looks_clsIn X hc) ?_))))));rw [hd'];refine Ad (a:=some dx) (Ac (Ad (Ac ?_)));refine wpAny_nsSet1 (s:={ s with toks:=s.toks + 1 }) I.ns fun h' hn2 hs2=>?_;obtain ⟨oD,esD,epD,hoD,hdD,hcD⟩:=hn2.count (PySem.Within.cons name v hw);refine Ac (wpAny_lookBehind hoD (by rw [hdD]; exact pastItsLine_dict (le_trans hcD (by rw [length_cons]; omega))) ?_);exact Ad (h _ ⟨(hs2.2 _ (B4 I.ne)).trans I.obj,hn2,I.ne⟩ hs2)
theorem _qi6 {R:L3->Shared->Prop} {vs:List Value} {kw:List (Str × Value)} (X:K.In s.heap) (hm:Jm K C=true)
  (hi:A7 K (.ref C) "__init__"=some (some (.ref f))) (hf:J3 K (.ref f)=some (.type "function"))
  (h:Dp (model prog w) (A.under (.builtin "type.__call__" ⟨.ref C :: vs,kw⟩)) (.call (.ref f) ⟨.ref (s.heap.objs.size + 1) :: vs,kw⟩) (PySem.W.InitBack (s.heap.objs.size + 1) R)
   { s with heap:=(s.heap.push Bw).push (Cr C s.heap.objs.size) }) :
  Dp (model prog w) A (.call (.ref C) ⟨vs,kw⟩) R s:=by
 obtain ⟨hh,g,d,t,os⟩:=s;exact PySem.W.make_core (PySem.W.makes_of X hm) (PySem.W.looks_findIn X hi) (fun self=>PySem.W.bind_fn X self hf) (.inl rfl) h
end
def _qt8 (f:Str) (v:V):List (Str × V)->List (Str × V)
 | []=>[(f,v)]
 | (g,x) :: r=>if g=f then (g,v) :: r else (g,x) :: _qt8 f v r
theorem _qq (f g:Str) (v:V):∀ fs:List (Str × V),(_qt8 f v fs).lookup g=if g=f then some v else fs.lookup g
 | []=>by
  show Dh g [(f,v)]=_
  by_cases h:g=f
  ·have hb:(g == f)=true:=beq_iff_eq.mpr h
   simp only [Dh,hb,if_pos h]
  ·have hb:(g == f)=false:=beq_eq_false_iff_ne.mpr h
   simp only [Dh,hb,if_neg h]
 | (k,x) :: r=>by
  have ih:=_qq f g v r;rw [show _qt8 f v ((k,x) :: r)=(if k=f then (k,v) :: r else (k,x) :: _qt8 f v r) from rfl]
  by_cases hk:k=f
  ·rw [if_pos hk]
   by_cases h:g=k
   ·have hb:(g == k)=true:=beq_iff_eq.mpr h
    simp only [Dh,hb,if_pos (h.trans hk)]
   ·have hb:(g == k)=false:=beq_eq_false_iff_ne.mpr h
    simp only [Dh,hb,if_neg (fun e:g=f=>h (e.trans hk.symm))]
  ·rw [if_neg hk]
   by_cases h:g=k
   ·have hb:(g == k)=true:=beq_iff_eq.mpr h
    simp only [Dh,hb,if_neg (fun e:g=f=>hk (h.symm.trans e))]
   ·have hb:(g == k)=false:=beq_eq_false_iff_ne.mpr h
    simp only [Dh,hb];exact ih
theorem _Q0 (f:Str) (v:V):∀ fs:List (Str × V),f∈(_qt8 f v fs).map (·.1)/\∀ g,g∈fs.map (·.1)->g∈(_qt8 f v fs).map (·.1)
 | []=>⟨by simp [_qt8],fun g h=>by simp at h⟩
 | (k,x) :: r=>by
  obtain ⟨i1,i2⟩:=_Q0 f v r;rw [show _qt8 f v ((k,x) :: r)=(if k=f then (k,v) :: r else (k,x) :: _qt8 f v r) from rfl]
  by_cases hk:k=f
  ·rw [if_pos hk]
   subst hk;exact ⟨by simp,fun g h=>by simpa using h⟩
  ·rw [if_neg hk]
   refine ⟨?_,fun g h=>?_⟩
   ·rw [map_cons]
    exact mem_cons_of_mem _ i1
   ·rw [map_cons] at h ⊢
    rcases Al.mp h with e | e
    ·exact Al.mpr (.inl e)
    ·exact mem_cons_of_mem _ (i2 g e)
theorem _w7 (f:Str) (v:V):∀ fs:List (Str × V),(_qt8 f v fs).length <= fs.length + 1
 | []=>by simp [_qt8]
 | (k,x) :: r=>by
  have ih:=_w7 f v r;rw [show _qt8 f v ((k,x) :: r)=(if k=f then (k,v) :: r else (k,x) :: _qt8 f v r) from rfl]
  by_cases hk:k=f
  ·rw [if_pos hk,length_cons,length_cons]; omega
  ·rw [if_neg hk,length_cons,length_cons]; omega
theorem _qub.some_of {v:V} {o:Option Value} (r:_qub (some v) o):∃ u,o=some u/\RelV v u:=by
 cases o with
 | none=>exact (show False from r).elim
 | some u=>exact ⟨u,rfl,r⟩
theorem _qub.none_of {o:Option Value} (r:_qub none o):o=none:=by
 cases o with
 | none=>rfl
 | some u=>exact (show False from r).elim
theorem _qef {v:V} {u:Value} (r:RelV v u):PySem.W.handedIn u=true:=by
 cases v with
 | non=>cases (show u=Value.none from r); rfl
 | bl b=>cases (show u=Value.bool b from r); rfl
 | int i=>obtain ⟨t,e⟩:=(show ∃ t,u=Value.int i t from r); cases e; rfl
 | str x=>obtain ⟨t,e⟩:=(show ∃ t,u=Value.str x t from r); cases e; rfl
 | byt b=>obtain ⟨t,e⟩:=(show ∃ t,u=Value.bytes b t from r); cases e; rfl
 | flt b=>obtain ⟨t,e⟩:=(show ∃ t,u=Value.float b t from r); cases e; rfl
 | ref a=>cases (show u=Value.ref a from r); rfl
 | ty n=>cases (show u=Value.type n from r); rfl
section
variable {P:Ak} {w:World} {H H':Hp} {h h':Heap} {a C dx:Addr} {fs fs':List (Str × V)}
theorem _qbd (hok:HOk P w H h) (e:H a=some (.ins C dx fs)):∃ mA,ObjM h a dx C mA/\(∀ f,_qub (fs.lookup f) (mA f))/\PySem.Within mA (fs.map (·.1))/\fs.length <= 1000/\H dx=some (.own a):=by
 obtain ⟨d,z,ne,ob,mA,n,r,q⟩:=(show _zn P w H h a (.ins C dx fs) from hok a _ e);exact ⟨mA,⟨ob,n,ne⟩,r,q,z,d⟩
end
structure Cls (K:Frag) (C:Addr):Prop where
 pg:E1 K C Str.empty=true
 hd:Fh K C=true
 po:Hy K C=true
 sa:A7 K (.ref C) "__setattr__"=some (some (.builtin "object.__setattr__"))
theorem Cls.get {K:Frag} {C:Addr} (c:Cls K C) (f:Str):E1 K C f=true:=c.pg
def _Xk (K:Frag) (C:Addr) (f:Str):Prop:=A7 K (.ref C) f=some none
theorem _Xk.taker {K:Frag} {C:Addr} {f:Str} (n:_Xk K C f):Jl K C f=some none:=by
 unfold Jl;rw [show A7 K (.ref C) f=some none from n];rfl
structure Con (K:Frag) (C:Addr) (f:Str) (v:V) (u:Value):Prop where
 at_:A7 K (.ref C) f=some (some u)
 rel:RelV v u
 get:Hz K u "__get__"=some none
 cp:PySem.W.copiedNames.contains f=false
structure Meth (K:Frag) (C:Addr) (m:Str) (f:Addr):Prop where
 at_:A7 K (.ref C) m=some (some (.ref f))
 fn:G6 K (.ref f)=true
 kp:Gr K (.ref f)=true
section
variable {X:Cx} {pins:List (Addr × Obj)} {σ:St} {H:Hp} {s:Shared} {a C dx:Addr} {fs:List (Str × V)} {f:Str} {v:V} {A:Around} {E:Value->Shared->Prop}
theorem _qbf {b:Bool} {Q:Value->Shared->Prop} (I:Inv X pins σ H s) (e:H a=some (.ins C dx fs)) (c:Cls X.K C) (n:_Xk X.K C f) (l:fs.lookup f=some v)
  (h:∀ u s',Inv X pins σ H s'->RelV v u->Q u s'):wpAny (model X.prog X.w) A (getAttr (.ref a) f b) Q E s:=by
 obtain ⟨mA,O,r,_,_,_⟩:=_qbd I.hok e;obtain ⟨u,hu,ru⟩:=_qub.some_of (v:=v) (o:=mA f) (by rw [<- l]; exact r f);exact get_map I.kIn O (c.get f) c.hd n hu (_qef ru) (h u _ (I.tok _) ru)
theorem _J8 {m:Str} {g:Addr} {pl:Sem Bool} {Q:Value × List Value->Shared->Prop} (I:Inv X pins σ H s) (e:H a=some (.ins C dx fs)) (c:Cls X.K C) (k:Meth X.K C m g) (l:fs.lookup m=none)
  (h:Q (.ref g,[.ref a]) s):wpAny (model X.prog X.w) A (L1 (.ref a) m pl) Q E s:=by
 obtain ⟨mA,O,r,_,_,_⟩:=_qbd I.hok e;have hn:mA m=none:=_qub.none_of (by rw [<- l]; exact r m);exact _qis I.kIn O (c.get m) k.at_ k.fn hn h
theorem _Yo {y:V} {u:Value} {Q:Unit->Shared->Prop} (I:Inv X pins σ H s) (e:H a=some (.ins C dx fs)) (c:Cls X.K C) (n:_Xk X.K C f) (hl:fs.length < 1000) (ry:RelV y u)
  (h:∀ s',Inv X pins σ (upd H a (.ins C dx (_qt8 f y fs))) s'->Q () s'):wpAny (model X.prog X.w) A (setAttr (.ref a) f u) Q E s:=by
 obtain ⟨mA,O,r,wi,_,ho⟩:=_qbd I.hok e;have hz:(fs.map (·.1)).length <= Aj:=by rw [length_map,Ao]; omega
 refine _qko I.kIn O c.sa c.po n.taker c.hd wi hz fun h' O' sb=>h _ ?_;have hd:∃ o,h'.get? dx=some o:=let ⟨o,_,_,e',_⟩:=O'.ns; ⟨o,e'⟩;refine I.write (x:=a) (e:=dx) (by rw [e]; exact True.intro) (.inr ho) (fun b q hb z=>(sb.2 b hb).trans z) hd ?_;refine ⟨by rw [_e O.ne]; exact ho,?_,O.ne,O'.obj,_,O'.ns,fun g=>?_,fun g hg=>?_⟩
 ·have:=_w7 f y fs; omega
 ·show _qub ((_qt8 f y fs).lookup g) (if g=f then some u else mA g)
  rw [_qq]
  by_cases q:g=f
  ·rw [if_pos q,if_pos q]; exact ry
  ·rw [if_neg q,if_neg q]; exact r g
 ·by_cases q:g=f
  ·rw [q]; exact (_Q0 f y fs).1
  ·refine (_Q0 f y fs).2 g (wi g fun z=>hg ?_)
   show (if g=f then some u else mA g)=none;rw [if_neg q]; exact z
theorem Inv.made (I:Inv X pins σ H s):Inv X pins σ (upd (upd H s.heap.objs.size (.own (s.heap.objs.size + 1))) (s.heap.objs.size + 1) (.ins C s.heap.objs.size []))
  { s with heap:=(s.heap.push Bw).push (Cr C s.heap.objs.size) }:=by
 have e1:(s.heap.push Bw).get? s.heap.objs.size=some Bw:=Ag s.heap rfl;have e2:((s.heap.push Bw).push (Cr C s.heap.objs.size)).get? (s.heap.objs.size + 1)=some (Cr C s.heap.objs.size):=by
  have:=Ag (s.heap.push Bw) (o:=Cr C s.heap.objs.size) rfl
  rwa [By] at this
 have e3:(s.heap.push Bw).Ns s.heap.objs.size (fun _=>none):=⟨Bw,#[],_,e1,rfl,(fun e he=>absurd he (by simp)),fun _=>rfl⟩;have I1:=I.laid (a:=s.heap.objs.size) (o:=.own (s.heap.objs.size + 1)) (h':=s.heap.push Bw) (t':=s.toks) (fun b u q=>Ae _ q) (le_refl _) ⟨_,e1⟩;refine I1.laid (a:=s.heap.objs.size + 1) (o:=.ins C s.heap.objs.size []) (t':=s.toks) (fun b u q=>Ae _ q) (Nat.le_of_eq (By _ _)) ?_;have ne:s.heap.objs.size ≠ s.heap.objs.size + 1:=ne_of_lt (lt_succ_self _);refine ⟨by rw [_e ne,_a],zero_le _,ne,e2,fun _=>none,(Heap.Ns1.of_empty e3).at fun o q=>Ae _ q,fun _=>True.intro,fun y hy=>absurd rfl hy⟩
theorem _qng {prog:Ak} {w:World} {env:Env} {e:Expr} {f:Str} {pos:Pos} {s:Shared} {Q:Value->Shared->Prop} (hb:Ee e f env (eval e env)=eval e env)
  (h:wpAny (model prog w) A (eval e env) (fun o s₁=>wpAny (model prog w) A (getAttr o f true) Q E s₁) E s):wpAny (model prog w) A (eval (.Attribute e f pos) env) Q E s :=
 Attribute_any_ h (by rw [arm_eval_Attribute,hb])
end
def tFld (K:Frag) (ta:TE) (f:Str):TE:=fun σ H Q=>ta σ H fun x H1=>∃ a C dx fs v,x=.ref a/\H1 a=some (.ins C dx fs)/\Cls K C/\_Xk K C f/\fs.lookup f=some v/\Q v H1
def sFld (K:Frag) (ta tv:TE) (f:Str):TS:=fun D σ H=>tv σ H fun y H1=>ta σ H1 fun x H2=>∃ a C dx fs,x=.ref a/\H2 a=some (.ins C dx fs)/\Cls K C/\_Xk K C f/\fs.length < 1000 /\
 D.nx σ (upd H2 a (.ins C dx (_qt8 f y fs)))
section
variable {X:Cx} {o e value:Expr} {f:Str} {pos pos' tpos:Pos} {ta tv:TE}
theorem _ve (he:PE X e ta) (hb:Ee e f X.env (eval e X.env)=eval e X.env):PE X (.Attribute e f pos) (tFld X.K ta f):=by
 intro pins s σ H Q I h;refine _qng hb (thn (he pins s σ H _ I h) fun u s1 hQ=>?_);obtain ⟨x,H1,I1,rx,a,C,dx,fs,v,ex,ea,c,n,l,q⟩:=hQ;subst ex;obtain rfl:u=Value.ref a:=rx;exact _qbf I1 ea c n l fun u' s2 I2 ru=>⟨v,H1,I2,ru,q⟩
theorem _qkx (ha:PE X o ta) (hv:PE X value tv) (hs:Hc value (some (.Attribute o f pos')) pos.line X.env=pure false):PS X (.Assign [.Attribute o f pos'] value pos) (sFld X.K ta tv f):=by
 intro pins s σ H D I h;refine plainObj_wpAny_Assign_Attribute (thn (hv pins s σ H _ I h) fun u s1 ⟨y,H1,I1,ry,q⟩=>thn (ha pins s1 σ H1 _ I1 q) fun ov s2 hQ=>?_) hs;obtain ⟨x,H2,I2,rx,a,C,dx,fs,ex,ea,c,n,l,q2⟩:=hQ;subst ex;obtain rfl:ov=Value.ref a:=rx;exact _Yo I2 ea c n l ry fun s3 I3=>⟨σ,_,I3,q2⟩
end
section
variable {X:Cx} {pins:List (Addr × Obj)} {σ:St} {H:Hp} {s:Shared} {A:Around} {E:Value->Shared->Prop} {Q:Value->Shared->Prop} {c:Value} {b:Bool}
inductive TyOf (K:Frag) (H:Hp):V->Value->Prop where
 | non:TyOf K H .non (.type "NoneType")
 | bl (x:Bool):TyOf K H (.bl x) (.type "bool")
 | int (i:Int):TyOf K H (.int i) (.type "int")
 | str (x:Str):TyOf K H (.str x) (.type "str")
 | flt (x:UInt64):TyOf K H (.flt x) (.type "float")
 | lst {a:Addr} {xs:List V} (e:H a=some (.lst xs)):TyOf K H (.ref a) (.type "list")
 | frz {a:Addr} {o:Obj} {xs:List V} (e:H a=some (.frz o (.lst xs))):TyOf K H (.ref a) (.type "list")
 | tup {a:Addr} {xs:List V} (e:H a=some (.tup xs)):TyOf K H (.ref a) (.type "tuple")
 | dK {a:Addr} {kvs:List (Key × V)} (e:H a=some (.dK kvs)):TyOf K H (.ref a) (.type "dict")
 | dT {a:Addr} {kvs:List (List Key × V)} (e:H a=some (.dT kvs)):TyOf K H (.ref a) (.type "dict")
 | ins {a C dx:Addr} {fs:List (Str × V)} (e:H a=some (.ins C dx fs)) (cl:Cls K C) (ha:A7 K (.ref C) "__class__"=some (some (.builtin "object.__class__")))
   (hn:Hz K (.builtin "object.__class__") "__get__"=some (some (.builtin "getset_descriptor.__get__"))) (htk:PySem.W.takesIn K (.builtin "object.__class__")=some true)
   (hm:Ef K C (.type "object")=some true):TyOf K H (.ref a) (.ref C)
end
structure Room (k:Nat) (A:Around):Prop where
 hd:A.handled=none
 dp:A.depth + 3 * k + 5 < recursionLimit
 un:A.units + 16 * k + 200 < cLine
theorem Room.mono {j k:Nat} {A:Around} (r:Room k A) (h:j <= k):Room j A:=⟨r.hd,by have:=r.dp; omega,by have:=r.un; omega⟩
theorem Room.deeper {k:Nat} {A:Around} (r:Room (k + 1) A) (env:Env):Room k (A.deeper env) :=
 ⟨r.hd,by have:=r.dp; show A.depth + 1 + 3 * k + 5 < _; omega,by have:=r.un; show A.units + 3 + 16 * k + 200 < _; omega⟩
theorem Room.in1 {k:Nat} {A:Around} (r:Room (k + 1) A):Room k A.in1 :=
 ⟨r.hd,by have:=r.dp; show A.depth + 3 * k + 5 < _; omega,by have:=r.un; show A.units + 1 + 16 * k + 200 < _; omega⟩
theorem _qas {A:Around} {C:Addr} {us:List Value} {kw:List (Str × Value)}:(A.under (.builtin "type.__call__" ⟨.ref C :: us,kw⟩)).depth=A.depth + 1:=by
 first | rfl | simp [Ll,Code.weight,Code.isCreation,Code.isGuard,Code.isCaller,Code.frames,Lm,guardIds]
theorem _qar {A:Around} {C:Addr} {us:List Value} {kw:List (Str × Value)}:(A.under (.builtin "type.__call__" ⟨.ref C :: us,kw⟩)).units=A.units + 1:=by
 first | rfl | simp [Ll,Code.cUnits,Code.frames,Lm]
theorem Room.make {k:Nat} {A:Around} (r:Room (k + 1) A) (C:Addr) (us:List Value) (kw:List (Str × Value)):Room k (A.under (.builtin "type.__call__" ⟨.ref C :: us,kw⟩)) :=
 ⟨r.hd,by have:=r.dp; rw [_qas]; omega,by have:=r.un; rw [_qar]; omega⟩
theorem Room.depth {k:Nat} {A:Around} (r:Room k A):A.depth < recursionLimit:=by have:=r.dp; omega
theorem Room.units {k:Nat} {A:Around} (r:Room k A):A.units + 64 < cLine:=by have:=r.un; omega
def _qsx:TA:=fun _ H Q=>Q [] H
def _z6 (ta:TE) (tr:TA):TA:=fun σ H Q=>ta σ H fun x H1=>tr σ H1 fun xs H2=>Q (x :: xs) H2
section
variable {X:Cx} {e:Expr} {es:List Expr} {te:TE} {t:TA} {pos:Pos}
theorem _n:PA X [] _qsx:=fun _ _ _ _ H Q I h=>Di ⟨[],H,I,.nil,h⟩
theorem _d (ha:PE X e te) (hr:PA X es t) (hs:Ap (e :: es) X.env=(false,eval e X.env) :: Ap es X.env:=by rfl):PA X (e :: es) (_z6 te t):=by
 intro pos pins s σ H Q I h;rw [hs];show wpAny _ _ (spliced ((false,eval e X.env) :: C1 pos (Ap es X.env))) _ _ s;refine B8 (thn (ha pins s σ H _ I h) fun u s1 hQ=>?_);obtain ⟨x,H1,I1,r1,q1⟩:=hQ;exact thn (hr pos pins s1 σ H1 _ I1 q1) fun us s2 ⟨xs,H2,I2,r2,q2⟩=>⟨x :: xs,H2,I2,.cons r1 r2,q2⟩
def tTup (t:TA):TE:=fun σ H Q=>t σ H fun xs H1=>xs.length <= Aj/\∀ p,H1 p=none->Q (.ref p) (upd H1 p (.tup xs))
def tLst (t:TA):TE:=fun σ H Q=>t σ H fun xs H1=>xs.length <= Aj/\∀ p,H1 p=none->Q (.ref p) (upd H1 p (.lst xs))
theorem _We {x1} (h:PA X es t):PE X (.Tuple es x1 pos) (tTup t):=by
 intro pins s σ H Q I hq;refine wpAny_Tuple_spliced (thn (h pos pins s σ H _ I hq) fun us s1 ⟨xs,H1,I1,r,z,q⟩=>⟨by rw [<- r.length]; exact z,?_⟩);have hf:H1 s1.heap.objs.size=none:=I1.hok.fresh (le_refl _);refine ⟨.ref s1.heap.objs.size,upd H1 s1.heap.objs.size (.tup xs),I1.laid (t':=s1.toks) (fun b u e=>Ae _ e) (le_refl _) ?_,rfl,q _ hf⟩;exact ⟨z,us,r,⟨_,Ag _ rfl,rfl,_,rfl⟩⟩
theorem _Wf (h:PA X es t):PE X (.List es pos) (tLst t):=by
 intro pins s σ H Q I hq;refine wpAny_List_spliced (thn (h pos pins s σ H _ I hq) fun us s1 ⟨xs,H1,I1,r,z,q⟩=>⟨by rw [<- r.length]; exact z,?_⟩);have hf:H1 s1.heap.objs.size=none:=I1.hok.fresh (le_refl _);refine ⟨.ref s1.heap.objs.size,upd H1 s1.heap.objs.size (.lst xs),I1.laid (t':=s1.toks) (fun b u e=>Ae _ e) (le_refl _) ?_,rfl,q _ hf⟩;exact ⟨z,us,0,r,Ag _ rfl⟩
end
abbrev Sp:=List V->Hp->VK->XK->Prop
abbrev CXT:=List Env->Hp->Shared->XK->Value->Shared->Prop
structure Env0 (P:Ak) (w:World) (K:Frag) (mg:Str->Option Value) (base:Heap) (A:Around) (outer:List Env) (s:Shared) (H:Hp):Prop where
 frames:A.frames=some outer
 mod:Mod K mg base
 bs:∀ b o,base.get? b=some o->s.heap.get? b=some o/\H b=none
 bsz:base.objs.size <= s.heap.objs.size
 funs:s.heap.FunFrames base outer
 frf:∀ b∈frs outer,H b=none
 hok:HOk P w H s.heap
 bare:G5 s.gens
def CE (outer:List Env) (P:Ak) (w:World) (H:Hp) (s:Shared) (Q:VK) (u:Value) (s':Shared):Prop :=
 ∃ v H',s'.os=s.os/\G5 s'.gens/\Un (frs outer) [] H H' s.heap s'.heap/\HOk P w H' s'.heap/\RelV v u/\Q v H'
def CR (CX:CXT) (outer:List Env) (P:Ak) (w:World) (H:Hp) (s:Shared) (Q:VK) (E:XK) (r:L3) (s':Shared):Prop :=
 match r with
 | .ok (.ret u)=>CE outer P w H s Q u s'
 | .ok _=>False
 | .error e=>CX outer H s E e s'
structure FnOk (P:Ak) (w:World) (K:Frag) (mg:Str->Option Value) (base:Heap) (CX:CXT) (k:Nat) (f:Addr) (fd:Am) (ps:List Str) (sp:Sp):Prop where
 len:∀ vs H Q E,sp vs H Q E->vs.length=ps.length
 run:∀ (A:Around) (outer:List Env) (s:Shared) (H:Hp) (args:Args) (us:List Value) (vs:List V) (Q:VK) (E:XK),Room k A->Env0 P w K mg base A outer s H->Ia s fd args (ps.zip us)->_qu8 vs us->sp vs H Q E ->
  Dp (model P w) A (.call (.ref f) args) (CR CX outer P w H s Q E) s
theorem FnOk.mono {P:Ak} {w:World} {K:Frag} {mg:Str->Option Value} {base:Heap} {CX:CXT} {j k:Nat} {f:Addr} {fd:Am} {ps:List Str} {sp:Sp} (F:FnOk P w K mg base CX j f fd ps sp) (h:j <= k) :
  FnOk P w K mg base CX k f fd ps sp:=⟨F.len,fun A outer s H args us vs Q E hr=>F.run A outer s H args us vs Q E (hr.mono h)⟩
theorem FnOk.imp {P:Ak} {w:World} {K:Frag} {mg:Str->Option Value} {base:Heap} {CX:CXT} {k:Nat} {f:Addr} {fd:Am} {ps:List Str} {sp sp':Sp} (F:FnOk P w K mg base CX k f fd ps sp)
  (h:∀ vs H Q E,sp' vs H Q E->sp vs H Q E):FnOk P w K mg base CX k f fd ps sp' :=
 ⟨fun vs H Q E q=>F.len vs H Q E (h _ _ _ _ q),fun A outer s H args us vs Q E hr he hb hv hs=>F.run A outer s H args us vs Q E hr he hb hv (h _ _ _ _ hs)⟩
theorem Env0.make {P:Ak} {w:World} {K:Frag} {mg:Str->Option Value} {base:Heap} {A:Around} {outer:List Env} {s:Shared} {H:Hp} (e:Env0 P w K mg base A outer s H) (C:Addr) (us:List Value) (kw:List (Str × Value)) :
  Env0 P w K mg base (A.under (.builtin "type.__call__" ⟨.ref C :: us,kw⟩)) outer s H:=⟨by first | exact e.frames | (simpa [Ll,Code.envs,Lm,pushEnvs] using e.frames),e.mod,e.bs,e.bsz,e.funs,e.frf,e.hok,e.bare⟩
theorem Env0.in1 {P:Ak} {w:World} {K:Frag} {mg:Str->Option Value} {base:Heap} {A:Around} {outer:List Env} {s:Shared} {H:Hp} (e:Env0 P w K mg base A outer s H) :
  Env0 P w K mg base A.in1 outer s H:=⟨e.frames,e.mod,e.bs,e.bsz,e.funs,e.frf,e.hok,e.bare⟩
section
variable {X:Cx} {pins:List (Addr × Obj)} {σ:St} {H:Hp} {s s':Shared}
theorem Inv.env0 (I:Inv X pins σ H s):Env0 X.prog X.w X.K X.mg X.base X.A X.stack s H :=
 ⟨I.ok.frames,I.ok.mod,I.bs,le_trans I.ok.bsz I.sz,I.stack,I.stkFree,I.hok,I.bare⟩
theorem Inv.after {Q:VK} {u:Value} (I:Inv X pins σ H s) (h:CE X.stack X.prog X.w H s Q u s'):EP X pins σ Q u s':=by
 obtain ⟨v,H',os,bare,un,hok,r,q⟩:=h;obtain ⟨hh,g,d,t,os'⟩:=s';obtain rfl:os'=s.os:=os;exact ⟨v,H',I.call (h':=hh) (g':=g) (d':=d) (t':=t) (ch:=[]) un hok bare (fun b z=>absurd z (by simp)),r,q⟩
end
def tCall (sp:Sp) (dvs:List V) (E:XK) (t:TA):TE:=fun σ H Q=>t σ H fun vs H1=>sp (vs++dvs) H1 Q E
def tMeth (C:Addr) (m:Str) (sp:Sp) (dvs:List V) (E:XK) (ta:TE) (t:TA):TE:=fun σ H Q=>ta σ H fun x H1=>∃ a dx fs,x=.ref a/\H1 a=some (.ins C dx fs)/\fs.lookup m=none /\
 t σ H1 fun vs H2=>sp (x :: (vs++dvs)) H2 Q E
def tMake (C:Addr) (sp:Sp) (dvs:List V) (E:XK) (t:TA):TE:=fun σ H Q=>t σ H fun vs H1=>∀ x dx,H1 x=none->H1 dx=none->dx ≠ x ->
 sp (.ref x :: (vs++dvs)) (upd (upd H1 dx (.own x)) x (.ins C dx [])) (fun v H2=>v=.non/\Q (.ref x) H2) E
def Binds (K:Frag) (fd:Am) (ps:List Str) (ds:List Value):Prop :=
 ∀ (s:Shared) (us:List Value),K.In s.heap->(us++ds).length=ps.length->Ia s fd ⟨us,[]⟩ (ps.zip (us++ds))
theorem Binds.all {K:Frag} {fd:Am} {ps:List Str} (h:∀ us:List Value,us.length=ps.length->Hg fd ⟨us,[]⟩=pure (ps.zip us)):Binds K fd ps []:=fun s us _ hl=>by
 rw [append_nil] at hl ⊢;exact .of_eq (h us hl)
def _Vj (CX:CXT) (X:Cx) (E:XK):Prop:=∀ (pins:List (Addr × Obj)) (σ:St) (H:Hp) (s:Shared) (e:Value) (s':Shared),Inv X pins σ H s->CX X.stack H s E e s'->X.xe e s'
section
variable {X:Cx} {CX:CXT} {k:Nat} {f C:Addr} {fd:Am} {ps:List Str} {sp:Sp} {dvs:List V} {ds:List Value} {E:XK} {x m:Str} {p pos apos:Pos} {e o:Expr} {es:List Expr} {ta:TE} {t:TA}
theorem _qh4 {pins:List (Addr × Obj)} {σ:St} {H:Hp} {s:Shared} {Q:VK} {us:List Value} {vs:List V} (F:FnOk X.prog X.w X.K X.mg X.base CX k f fd ps sp) (hr:Room k X.A) (hb:Binds X.K fd ps ds) (hd:_qu8 dvs ds) (hx:_Vj CX X E)
  (I:Inv X pins σ H s) (r:_qu8 vs us) (h:sp (vs++dvs) H Q E):wpAny (model X.prog X.w) X.A (call (.ref f) us) (EP X pins σ Q) X.xe s:=by
 have r2:_qu8 (vs++dvs) (us++ds):=r.append hd;have hl:(us++ds).length=ps.length:=by rw [<- r2.length]; exact F.len _ _ _ _ h
 refine wpAny_call (Cn (F.run X.A X.stack s H ⟨us,[]⟩ (us++ds) (vs++dvs) Q E hr I.env0 (hb s us I.kIn hl) r2 h) fun r s' hq=>?_);cases r with
 | error e=>exact hx pins σ H s e s' I hq
 | ok fl =>
  cases fl with
  | ret u=>exact I.after hq
  | next=>exact Az hq
  | brk=>exact Az hq
  | cont=>exact Az hq
theorem _q6 (F:FnOk X.prog X.w X.K X.mg X.base CX k f fd ps sp) (hr:Room k X.A) (hg:Gl X x) (hm:X.mg x=some (.ref f)) (hk:Gr X.K (.ref f)=true) (hb:Binds X.K fd ps ds) (hd:_qu8 dvs ds) (hx:_Vj CX X E)
  (ha:PA X (e :: es) t) (hdb:(x == ("__debug__":Str))=false:=by decide) (he:Ap (e :: es) X.env=(false,eval e X.env) :: Ap es X.env:=by rfl) (hpl:(C1 pos (Ap es X.env)).any (·.1)=false:=by rfl) :
  PE X (.Call (.Name x p) (e :: es) [] pos) (tCall sp dvs E t):=by
 intro pins s σ H Q I h;refine B9 (_qb1 I hg hm ?_ hdb);refine K6 (h₀:=X.base) I.ok.mod.kin hk (thn (ha pos pins s σ H _ I h) fun us s1 ⟨vs,H1,I1,r,q⟩=>⟨I1.kIn,?_⟩) he hpl;exact _qh4 F hr hb hd hx I1 r q
theorem _xm {pl:Sem Bool} (he:PE X o ta) (c:Cls X.K C) (hm:Meth X.K C m f) (F:FnOk X.prog X.w X.K X.mg X.base CX k f fd ps sp) (hr:Room k X.A) (hb:Binds X.K fd ps ds) (hd:_qu8 dvs ds) (hx:_Vj CX X E) (ha:PA X (e :: es) t)
  (hst:Ap (e :: es) X.env=(false,eval e X.env) :: Ap es X.env:=by rfl) (hpl:(C1 pos (Ap es X.env)).any (·.1)=false:=by rfl)
  (ht:eval (.Call (.Attribute o m apos) (e :: es) [] pos) X.env=(do
   let ov <- eval o X.env
   Mg apos.atName
   let (f,first) <- I0 [ov] (L1 ov m pl)
   callWith pos f first (C1 pos (Ap (e :: es) X.env)) (Ln pos (Ib [] X.env))):=by rfl) :
  PE X (.Call (.Attribute o m apos) (e :: es) [] pos) (tMeth C m sp dvs E ta t):=by
 intro pins s σ H Q I h;refine Jw (pl:=pl) (thn (he pins s σ H _ I h) fun u s1 hQ=>?_) ht;obtain ⟨x,H1,I1,rx,a,dx,fs,ex,ea,l,q⟩:=hQ;subst ex;obtain rfl:u=Value.ref a:=rx;refine _J8 I1 ea c hm l ?_;refine K6 (first:=[.ref a]) (h₀:=X.base) I.ok.mod.kin hm.kp (thn (ha pos pins s1 σ H1 _ I1 q) fun us s2 ⟨vs,H2,I2,r,q2⟩=>⟨I2.kIn,?_⟩) hst hpl;exact _qh4 (us:=.ref a :: us) (vs:=.ref a :: vs) F hr hb hd hx I2 (.cons rfl r) q2
theorem _qa2 {pl:Sem Bool} (he:PE X o ta) (c:Cls X.K C) (hm:Meth X.K C m f) (F:FnOk X.prog X.w X.K X.mg X.base CX k f fd ps sp) (hr:Room k X.A) (hb:Binds X.K fd ps ds) (hd:_qu8 dvs ds) (hx:_Vj CX X E)
  (ht:eval (.Call (.Attribute o m apos) [] [] pos) X.env=(do
   let ov <- eval o X.env
   Mg apos.atName
   let (f,first) <- I0 [ov] (L1 ov m pl)
   callWith pos f first (C1 pos (Ap [] X.env)) (Ln pos (Ib [] X.env))):=by rfl) :
  PE X (.Call (.Attribute o m apos) [] [] pos) (tMeth C m sp dvs E ta _qsx):=by
 intro pins s σ H Q I h;refine Jw (pl:=pl) (thn (he pins s σ H _ I h) fun u s1 hQ=>?_) ht;obtain ⟨x,H1,I1,rx,a,dx,fs,ex,ea,l,q⟩:=hQ;subst ex;obtain rfl:u=Value.ref a:=rx;refine _J8 I1 ea c hm l ?_;exact Kp (first:=[.ref a]) I1.kIn hm.kp (_qh4 (us:=[.ref a]) (vs:=[.ref a]) F hr hb hd hx I1 (.cons rfl .nil) q)
structure Mk (K:Frag) (C f:Addr):Prop where
 makes:Jm K C=true
 init:A7 K (.ref C) "__init__"=some (some (.ref f))
 fn:G6 K (.ref f)=true
 kp:Gr K (.ref C)=true
theorem _qh3 {pins:List (Addr × Obj)} {σ:St} {H:Hp} {s:Shared} {Q:VK} {us:List Value} {vs:List V} (M:Mk X.K C f) (F:FnOk X.prog X.w X.K X.mg X.base CX k f fd ps sp) (hr:Room (k + 1) X.A) (hb:Binds X.K fd ps ds) (hd:_qu8 dvs ds)
  (hx:_Vj CX X E) (I:Inv X pins σ H s) (r:_qu8 vs us)
  (h:∀ x dx,H x=none->H dx=none->dx ≠ x->sp (.ref x :: (vs++dvs)) (upd (upd H dx (.own x)) x (.ins C dx [])) (fun v H2=>v=.non/\Q (.ref x) H2) E) :
  wpAny (model X.prog X.w) X.A (call (.ref C) us) (EP X pins σ Q) X.xe s:=by
 have hq:=h (s.heap.objs.size + 1) s.heap.objs.size (I.hok.fresh (le_succ _)) (I.hok.fresh (le_refl _)) (ne_of_lt (lt_succ_self _));have I2:=Inv.made (C:=C) I;have r2:_qu8 (V.ref (s.heap.objs.size + 1) :: (vs++dvs)) (Value.ref (s.heap.objs.size + 1) :: (us++ds)):=.cons rfl (r.append hd);have hl:(Value.ref (s.heap.objs.size + 1) :: us++ds).length=ps.length:=by
  have e:=r2.length;rw [F.len _ _ _ _ hq] at e;exact e.symm
 refine wpAny_call (_qi6 (f:=f) I.kIn M.makes M.init (beq_iff_eq.mp M.fn) (Cn (F.run _ X.stack _ _ ⟨Value.ref (s.heap.objs.size + 1) :: us,[]⟩ (Value.ref (s.heap.objs.size + 1) :: (us++ds)) _ _ E (hr.make C us [])
  (I2.env0.make C us []) (hb _ (Value.ref (s.heap.objs.size + 1) :: us) I2.kIn hl) r2 hq) fun r s' hq'=>?_))
 cases r with
 | error e=>exact hx pins σ _ _ e s' I2 hq'
 | ok fl =>
  cases fl with
  | ret u =>
   obtain ⟨v,H',I3,rv,ev,q3⟩:=I2.after hq';subst ev;exact ⟨rv,⟨V.ref (s.heap.objs.size + 1),H',I3,rfl,q3⟩⟩
  | next=>exact Az hq'
  | brk=>exact Az hq'
  | cont=>exact Az hq'
theorem _qhg (M:Mk X.K C f) (F:FnOk X.prog X.w X.K X.mg X.base CX k f fd ps sp) (hr:Room (k + 1) X.A) (hg:Gl X x) (hm:X.mg x=some (.ref C)) (hb:Binds X.K fd ps ds) (hd:_qu8 dvs ds) (hx:_Vj CX X E)
  (hdb:(x == ("__debug__":Str))=false:=by decide):PE X (.Call (.Name x p) [] [] pos) (tMake C sp dvs E _qsx):=by
 intro pins s σ H Q I h;refine B9 (_qb1 I hg hm ?_ hdb);exact Kp I.kIn M.kp (_qh3 (us:=[]) M F hr hb hd hx I .nil h)
end
section
variable {X:Cx} {CX:CXT} {k:Nat} {f C:Addr} {fd:Am} {ps ks:List Str} {sp:Sp} {E:XK} {x m:Str} {p pos apos kpos:Pos} {e o:Expr} {es:List Expr} {kws:List Kl} {te ta:TE} {t tk:TA} {nm:Option Str}
structure KBinds (K:Frag) (fd:Am) (ps ks:List Str) (g:List Value->List Value->List Value) (gV:List V->List V->List V):Prop where
 to:∀ (s:Shared) (us ws:List Value),K.In s.heap->(g us ws).length=ps.length->Ia s fd ⟨us,ks.zip ws⟩ (ps.zip (g us ws))
 rel:∀ {vs:List V} {us:List Value} {zs:List V} {ws:List Value},_qu8 vs us->_qu8 zs ws->_qu8 (gV vs zs) (g us ws)
variable {g:List Value->List Value->List Value} {gV:List V->List V->List V}
end
structure FnScope (N P:List Str) (sc:Scope):Prop where
 kind:sc.kind=.function
 co:sc.isCoroutine=false
 gen:sc.isGenerator=false
 nd:N.Nodup
 pre:N.take P.length=P
 par:∀ x∈P,sc.names.lookup x=some .local \/ sc.names.lookup x=some .cell
 nofree:∀ y∈sc.names,y.2 ≠ .free
theorem _K1 {kindOf:Str->Option NameKind} {x:Str}:∀ {binds:List (Str × Value)} {m:Str->Option Value},(∀ v,(x,v) ∉ binds)->bindL kindOf binds m x=m x
 | [],_,_=>rfl
 | (n,v) :: r,m,h=>by
  unfold bindL;rw [_K1 fun w hw=>h w (mem_cons_of_mem _ hw)];split
  ·have:x ≠ n:=by rintro rfl; exact h v mem_cons_self
   simp [this]
  ·rfl
theorem _K3 {kindOf:Str->Option NameKind} {x:Str}:∀ {binds:List (Str × Value)} {m:Str->Option Value},(∀ v,(x,v) ∉ binds)->bindC kindOf binds m x=m x
 | [],_,_=>rfl
 | (n,v) :: r,m,h=>by
  unfold bindC;rw [_K3 fun w hw=>h w (mem_cons_of_mem _ hw)];split
  ·rfl
  ·have:x ≠ n:=by rintro rfl; exact h v mem_cons_self
   simp [this]
theorem _K2 {kindOf:Str->Option NameKind} {x:Str} {v:Value}:∀ {P:List Str} {vs:List Value} {i:Nat} {m:Str->Option Value},P.Nodup->P[i]?=some x->vs[i]?=some v->kindOf x=some .local ->
  bindL kindOf (P.zip vs) m x=some v
 | [],_,_,_,_,h,_,_=>by simp at h
 | _ :: _,[],_,_,_,_,h,_=>by simp at h
 | p :: P,w :: vs,0,m,nd,h1,h2,hk=>by
  simp at h1 h2; subst h1; subst h2;show bindL kindOf ((p,w) :: P.zip vs) m p=_;unfold bindL;rw [_K1 fun v hv=>(Gs.mp nd).1 (of_mem_zip hv).1,if_pos hk]
  simp
 | p :: P,w :: vs,i + 1,m,nd,h1,h2,hk=>by
  show bindL kindOf ((p,w) :: P.zip vs) m x=_;unfold bindL;exact _K2 (i:=i) (Gs.mp nd).2 (by simpa using h1) (by simpa using h2) hk
theorem _K4 {kindOf:Str->Option NameKind} {x:Str} {v:Value}:∀ {P:List Str} {vs:List Value} {i:Nat} {m:Str->Option Value},P.Nodup->P[i]?=some x->vs[i]?=some v->kindOf x ≠ some .local ->
  bindC kindOf (P.zip vs) m x=some v
 | [],_,_,_,_,h,_,_=>by simp at h
 | _ :: _,[],_,_,_,_,h,_=>by simp at h
 | p :: P,w :: vs,0,m,nd,h1,h2,hk=>by
  simp at h1 h2; subst h1; subst h2;show bindC kindOf ((p,w) :: P.zip vs) m p=_;unfold bindC;rw [_K3 fun v hv=>(Gs.mp nd).1 (of_mem_zip hv).1,if_neg hk]
  simp
 | p :: P,w :: vs,i + 1,m,nd,h1,h2,hk=>by
  show bindC kindOf ((p,w) :: P.zip vs) m x=_;unfold bindC;exact _K4 (i:=i) (Gs.mp nd).2 (by simpa using h1) (by simpa using h2) hk
def start (N:List Str) (vs:List V):St:=vs.map some++C2 (N.length - vs.length) none
def cxOf (CX:CXT) (P:Ak) (w:World) (K:Frag) (mg:Str->Option Value) (base:Heap) (N:List Str) (qual:Str) (scope:Scope) (f:Addr) (cd:Value) (A:Around) (outer:List Env) (s:Shared) (H:Hp) (E:XK):Cx where
 prog:=P
 w:=w
 K:=K
 mg:=mg
 base:=base
 A:=A.deeper (Ja qual scope s.heap.objs.size f cd)
 N:=N
 s₀:=s
 H₀:=H
 env:=Ja qual scope s.heap.objs.size f cd
 outer:=outer
 stack:=Ja qual scope s.heap.objs.size f cd :: outer
 ex:=[]
 calm:=true
 fn:=fun _=>true
 pn:=[]
 xe:=fun e s'=>wpAny (model P w) (A.deeper (Ja qual scope s.heap.objs.size f cd)) (leaving (Ja qual scope s.heap.objs.size f cd) e) (fun _ s''=>CX outer H s E e s'') (fun e' s''=>CX outer H s E e' s'') s'
theorem _qc2 {sc:Scope} {n:Nat} {x:Str} (h:sc.names.lookup x=some .cell):∃ c,(L4 n sc.names []).lookup x=some c:=by
 have q:=Jb sc.names n [] (.inl h);exact Im.mp q
theorem _qeb {CX:CXT} {P:Ak} {w:World} {K:Frag} {mg:Str->Option Value} {base:Heap} {N ps:List Str} {qual:Str} {scope:Scope} {f:Addr} {cd:Value} {A:Around} {outer:List Env} {s s1:Shared} {H:Hp} {E:XK} {us:List Value} {vs:List V}
  (S:FnScope N ps scope) (hd:A.handled=none) (e0:Env0 P w K mg base A outer s H) (hl:vs.length=ps.length) (r:_qu8 vs us)
  (x:InCallC s s.heap.objs.size (bindL (Ja qual scope s.heap.objs.size f cd).kindOf (ps.zip us) fun _=>none) (L4 (s.heap.objs.size + 1) scope.names []) (bindC (Ja qual scope s.heap.objs.size f cd).kindOf (ps.zip us) fun _=>none) s1) :
  Inv (cxOf CX P w K mg base N qual scope f cd A outer s H E) [] (start N vs) H s1:=by
 have hpl:ps.length <= N.length:=by have:=congrArg List.length S.pre; rw [length_take] at this; omega
 obtain ⟨h1,tk,rfl,hk⟩:=x.done;have noA:∀ b:Addr,b ∉ (cxOf CX P w K mg base N qual scope f cd A outer s H E).ex:=fun b z=>absurd (show b∈([]:List Addr) from z) (by simp);refine ⟨⟨e0.mod,S.kind,rfl,rfl,le_refl _,fun y z c h1 h2=>?_,fun y hy=>?_,fun y c _ h=>?_,fun _=>hd,Around.frames_deeper e0.frames,.inr ⟨rfl,rfl⟩,fun b z=>absurd z (noA b),e0.bs,e0.bsz,fun b _ _=>noA b,fun b z=>absurd z (noA b),e0.funs,e0.frf⟩,
  rfl,e0.bare,Un.kept hk,⟨_,x.toInCall.ns,fun i y v h1 h2 h3=>?_⟩,fun y c h=>⟨_,x.cell y c h⟩,e0.hok.fresh (le_refl _),fun y c h=>?_,fun p hp=>absurd (show p∈([]:List (Addr × Obj)) from hp) (by simp),e0.hok.kept hk,?_⟩
 ·exact name_of_addr x.apart (Dq h1) (Dq h2)
 ·have hy:scope.names.lookup y=some .cell \/ scope.names.lookup y=some .free:=hy
  rcases hy with hy | hy
  ·exact _qc2 hy
  ·exact absurd rfl (S.nofree _ (Dq hy))
 ·exact le_of_lt (x.above y c (Dq h))
 ·have hi:i < vs.length:=by
   unfold start at h2
   by_cases hi:i < vs.length
   ·exact hi
   ·rw [Hh (by simpa using hi)] at h2
    rw [List.getElem?_replicate] at h2;split at h2 <;> cases h2
  have ha:vs[i]?=some v:=by
   unfold start at h2;rw [C9 (by simpa using hi),getElem?_map] at h2;cases e:vs[i]? with
   | none=>rw [e] at h2; cases h2
   | some a=>rw [e] at h2; cases h2; rfl
  obtain ⟨u,hu,rv⟩:=r.get ha;have hp:ps[i]?=some y:=by
   rw [<- S.pre,List.getElem?_take_of_lt (by omega)]; exact h1
  have ndP:ps.Nodup:=by rw [<- S.pre]; exact S.nd.sublist (List.take_sublist _ _)
  refine ⟨u,rv,?_⟩;rcases S.par y (mem_of_getElem? hp) with k | k
  ·exact .inl ⟨k,_K2 ndP hp hu k⟩
  ·obtain ⟨c,e⟩:=_qc2 (n:=s.heap.objs.size + 1) k
   refine .inr ⟨.inl k,c,e,?_⟩;have q:=x.cell y c e;rw [_K4 ndP hp hu (by show scope.names.lookup y ≠ _; rw [k]; decide)] at q;exact q
 ·exact e0.hok.fresh (le_of_lt (x.above y c (Dq h)))
 ·unfold start
  show _=N.length;rw [length_append,length_map,List.length_replicate];omega
theorem fn_of {CX:CXT} {P:Ak} {w:World} {K:Frag} {mg:Str->Option Value} {base:Heap} {k:Nat} {f:Addr} {name qual:Str} {params:Arguments} {body:List Stmt} {scope:Scope} {dV kV doc pm cdv ct oc:Value} {an od:Option Addr}
  {osl:Array (Option Value)} {N ps:List Str} {sp:Sp} (lk:K.lookup f=some ⟨oc,od,.func (fnOf name qual params body scope dV kV doc pm an cdv ct),osl⟩) (hcd:L5 K cdv qual=true) (S:FnScope N ps scope)
  (len:∀ vs H Q E,sp vs H Q E->vs.length=ps.length)
  (hbody:∀ (A:Around) (outer:List Env) (s:Shared) (H:Hp) (vs:List V) (Q:VK) (E:XK),Room k (A.deeper (Ja qual scope s.heap.objs.size f cdv))->sp vs H Q E ->
   ∃ t,PSs (cxOf CX P w K mg base N qual scope f cdv A outer s H E) body t/\t { nx:=fun _ H'=>Q .non H',rt:=Q } (start N vs) H) :
  FnOk P w K mg base CX (k + 1) f (fnOf name qual params body scope dV kV doc pm an cdv ct) ps sp:=by
 refine ⟨len,fun A outer s H args us vs Q E hr e0 hb r hsp=>?_⟩;have hl:=len _ _ _ _ hsp;have KX:K.In s.heap:=e0.mod.kin.keeps fun b o e=>(e0.bs b o e).1;have lim:s.heap.NoLimit:=e0.mod.nolimit.keeps fun b o e=>(e0.bs b o e).1;have hkind:∀ y∈ps.zip us,scope.names.lookup y.1=some .local \/ (scope.names.lookup y.1=some .cell/\((L4 (s.heap.objs.size + 1) scope.names []).lookup y.1).isSome=true):=fun ⟨n,v⟩ hy=>by
  rcases S.par n (of_mem_zip hy).1 with q | q
  ·exact .inl q
  ·exact .inr ⟨q,Jb _ _ _ (.inl q)⟩
 refine codeAny_call_function hr.depth (KX _ _ lk) rfl S.co S.gen rfl (PySem.W.codeRec_of KX hcd) (hb _ _ _ _ ?_);refine wpAny_newFunctionEnv_cells S.kind hkind fun env he s1 x=>?_;subst he;refine ⟨lim.keeps x.toInCall.keep,codeAny_func ?_⟩;obtain ⟨t,ht,hq⟩:=hbody A outer s H vs Q E (hr.deeper _) hsp;have I:Inv (cxOf CX P w K mg base N qual scope f cdv A outer s H E) [] (start N vs) H s1:=_qeb S hr.hd e0 hl r x;refine Bj (ht [] s1 (start N vs) H _ I hq) (fun fl s' hs=>?_) fun e s' hs=>hs;have fin:∀ {σ':St} {H':Hp} {v:V} {u:Value},Inv (cxOf CX P w K mg base N qual scope f cdv A outer s H E) [] σ' H' s'->RelV v u->Q v H'->CE outer P w H s Q u s' :=
  fun {σ' H' v u} J rv q=>⟨v,H',J.os,J.bare,J.base,J.hok,rv,q⟩
 cases fl with
 | ret u =>
  obtain ⟨v,σ',H',J,rv,q⟩:=hs;exact fin J rv q
 | next =>
  obtain ⟨σ',H',J,q⟩:=hs;exact fin (v:=V.non) (u:=Value.none) J rfl q
 | brk =>
  obtain ⟨_,_,_,q⟩:=hs;exact Az q
 | cont =>
  obtain ⟨_,_,_,q⟩:=hs;exact Az q
section
variable {X:Cx} {x:Str} {p pos:Pos} {e:Expr} {es:List Expr} {t:TA} {id T:String} {r:List V->Hp->VK->Prop}
def tCB (r:List V->Hp->VK->Prop) (t:TA):TE:=fun σ H Q=>t σ H fun vs H1=>r vs H1 Q
theorem _V (hc:_wh X (.builtin id) r) (hg:Gl X x) (hm:X.mg x=none) (hv:A6 x=some (.builtin id)) (ha:PA X (e :: es) t) (hn:x ≠ "__name__":=by decide) (hdb:(x == ("__debug__":Str))=false:=by decide)
  (he:Ap (e :: es) X.env=(false,eval e X.env) :: Ap es X.env:=by rfl) (hpl:(C1 pos (Ap es X.env)).any (·.1)=false:=by rfl):PE X (.Call (.Name x p) (e :: es) [] pos) (tCB r t):=by
 intro pins s σ H Q I h;refine B9 (_wo I hg hm hv ?_ hn hdb);exact PyProof.Rows.callWith_builtin1 (thn (ha pos pins s σ H _ I h) fun us s1 ⟨vs,H1,I1,r1,q1⟩=>hc pins s1 σ H1 vs us Q I1 r1 q1) he hpl
theorem _qh (hc:_wh X (.type T) r) (hg:Gl X x) (hm:X.mg x=none) (hv:A6 x=some (.type T)) (ha:PA X (e :: es) t) (hn:x ≠ "__name__":=by decide) (hdb:(x == ("__debug__":Str))=false:=by decide)
  (he:Ap (e :: es) X.env=(false,eval e X.env) :: Ap es X.env:=by rfl) (hpl:(C1 pos (Ap es X.env)).any (·.1)=false:=by rfl):PE X (.Call (.Name x p) (e :: es) [] pos) (tCB r t):=by
 intro pins s σ H Q I h;refine B9 (_wo I hg hm hv ?_ hn hdb);exact Bp (thn (ha pos pins s σ H _ I h) fun us s1 ⟨vs,H1,I1,r1,q1⟩=>hc pins s1 σ H1 vs us Q I1 r1 q1) he hpl
end
end L2
namespace HT
open PySem PyProof.Rows
section
open PySem.SeqAt
open PySem.AutoSeq1 (wpAny_loadPart')
open PySem.MeetsSeq PySem.MeetsSeq2 PySem.MeetsSeq3
end
section
variable {prog:Ak} {w:World} {A:Around} {E:Value->Shared->Prop} {s:Shared}
end
end HT
namespace L2
open PySem PySem.Spec PyProof.Rows
abbrev TO:=St->Hp->(Option Int->Hp->Prop)->Prop
def PO (X:Cx) (e:Option Expr) (t:TO):Prop :=
 ∀ (pins:List (Addr × Obj)) (s:Shared) (σ:St) (H:Hp) (Q:Option Int->Hp->Prop),Inv X pins σ H s->t σ H Q ->
  wpAny (model X.prog X.w) X.A (evalPart e X.env) (fun u s'=>∃ o H',Inv X pins σ H' s'/\IsPart u o/\Q o H') X.xe s
def tNoPart:TO:=fun _ H Q=>Q none H
def tPart (t:TE):TO:=fun σ H Q=>t σ H fun x H1=>∃ i,x=.int i/\Q (some i) H1
theorem intsAre_of {ns:List Int}:∀ {us:List Value},_qu8 (ns.map V.int) us->IntsAre us ns:=by
 induction ns with
 | nil=>intro us r; rw [map_nil] at r; cases r; exact .nil
 | cons n ns ih =>
  intro us r;rw [map_cons] at r;cases r with
  | cons r1 r2 =>
   obtain ⟨t,e⟩:=r1;subst e;exact .cons n t (ih r2)
section
variable {X:Cx} {e:Expr} {te:TE} {lo hi:Option Expr} {tl th:TO} {pos p2:Pos}
theorem _ql0:PO X none tNoPart:=by
 intro pins s σ H Q I h;rw [evalPart_none];exact Ad ⟨none,H,I,.none,h⟩
theorem _qkz (h:PE X e te):PO X (some e) (tPart te):=by
 intro pins s σ H Q I hw;rw [evalPart_some];refine thn (h pins s σ H _ I hw) fun u s1 hQ=>?_;obtain ⟨x,H1,I1,r1,q1⟩:=hQ;obtain ⟨i,rfl,q⟩:=q1;obtain ⟨t,rfl⟩:=r1;exact ⟨some i,H1,I1,.int i t,q⟩
def SlR (X:Cx) (r:V->Option Int->Option Int->Hp->VK->Prop):Prop :=
 ∀ (pins:List (Addr × Obj)) (s:Shared) (σ:St) (H:Hp) (x:V) (v vl vu:Value) (lo hi:Option Int) (sl:Addr) (Q:VK),Inv X pins σ H s->RelV x v->s.heap.IsSliceOf sl vl vu .none->IsPart vl lo->IsPart vu hi->r x lo hi H Q ->
  ∃ T id,K7 (.type T) "__getitem__"=pure (some (.builtin id))/\s.TypeIs v T/\wpAny (model X.prog X.w) X.A (Lo v (.ref sl)) (EP X pins σ Q) X.xe s
theorem SlR.or {r r':V->Option Int->Option Int->Hp->VK->Prop} (h:SlR X r) (h':SlR X r'):SlR X (fun x lo hi H Q=>r x lo hi H Q \/ r' x lo hi H Q):=by
 intro pins s σ H x v vl vu lo hi sl Q I rx hs pl pu q;rcases q with q | q
 ·exact h pins s σ H x v vl vu lo hi sl Q I rx hs pl pu q
 ·exact h' pins s σ H x v vl vu lo hi sl Q I rx hs pl pu q
def tSl (r:V->Option Int->Option Int->Hp->VK->Prop) (te:TE) (tl th:TO):TE:=fun σ H Q=>te σ H fun x H1=>tl σ H1 fun l H2=>th σ H2 fun u H3=>r x l u H3 Q
theorem _qhf {r:V->Option Int->Option Int->Hp->VK->Prop} (hr:SlR X r) (he:PE X e te) (hl:PO X lo tl) (hu:PO X hi th):PE X (.Subscript e (.Slice lo hi none p2) pos) (tSl r te tl th):=by
 intro pins s σ H Q I h;refine Subscript_ (thn (he pins s σ H _ I h) fun v s1 hQ=>?_);obtain ⟨x,H1,I1,r1,q1⟩:=hQ;refine wpAny_Slice (thn (hl pins s1 σ H1 _ I1 q1) fun vl s2 ⟨l,H2,I2,pl,q2⟩=>thn (hu pins s2 σ H2 _ I2 q2) fun vu s3 hQ=>?_);obtain ⟨u,H3,I3,pu,q3⟩:=hQ;rw [evalPart_none];refine Ad ?_;have I4:Inv X pins σ H3 { s3 with heap:=s3.heap.push { cls:=.type "slice",data:=.fields #[vl,vu,.none] } }:=I3.kept (t':=s3.toks) fun b ob q=>Ae _ q;obtain ⟨T,id,hT,ht,hg⟩:=hr pins { s3 with heap:=s3.heap.push { cls:=.type "slice",data:=.fields #[vl,vu,.none] } } σ H3 x v vl vu l u s3.heap.objs.size Q I4 r1 (Heap.IsSliceOf.new ..) pl pu q3;show wpAny (model X.prog X.w) X.A (Kv e (.Slice lo hi none p2) v (.ref s3.heap.objs.size)) (EP X pins σ Q) X.xe { s3 with heap:=s3.heap.push { cls:=.type "slice",data:=.fields #[vl,vu,.none] } };exact tail_any (ops:=[.ref s3.heap.objs.size,v]) ht hT hg (by with_unfolding_all rfl)
end
def ixN (n:Nat) (i:Int):Option Nat:=if 0 <= i then (if i < n then some i.toNat else none) else if -(n:Int) <= i then some (i + n).toNat else none
def atI {α:Type} (xs:List α) (i:Int):Option α:=(ixN xs.length i).bind fun j=>xs[j]?
theorem _qb8 {n:Nat} {i:Int} {j:Nat} (h:ixN n i=some j):seqIndex? i n=some j/\j < n/\-(n:Int) <= i/\i < n:=by
 unfold ixN at h
 by_cases h0:0 <= i
 ·rw [if_pos h0] at h
  by_cases h1:i < n
  ·rw [if_pos h1] at h
   have e:i.toNat=j:=Option.some.inj h;exact ⟨by rw [Mb h0 h1,e],by omega,by omega,h1⟩
  ·rw [if_neg h1] at h; cases h
 ·rw [if_neg h0] at h
  by_cases h1:-(n:Int) <= i
  ·rw [if_pos h1] at h
   have e:(i + n).toNat=j:=Option.some.inj h;exact ⟨by rw [Lp (by omega) h1,e],by omega,h1,by omega⟩
  ·rw [if_neg h1] at h; cases h
theorem _qco {α:Type} {xs:List α} {i:Int} {v:α} (h:atI xs i=some v):∃ j,seqIndex? i xs.length=some j/\xs[j]?=some v/\j < xs.length/\-(xs.length:Int) <= i/\i < xs.length:=by
 unfold atI at h;cases e:ixN xs.length i with
 | none=>rw [e] at h; cases h
 | some j =>
  rw [e] at h;obtain ⟨h1,h2,h3,h4⟩:=_qb8 e;exact ⟨j,h1,h,h2,h3,h4⟩
theorem _K7 {α:Type} {xs:List α} {j:Nat} {v:α} (h:xs[j]?=some v):atI xs (j:Int)=some v:=by
 have hj:j < xs.length:=(Ai.mp h).1;have e:ixN xs.length (j:Int)=some j:=by
  unfold ixN;rw [if_pos (by omega),if_pos (by omega)]; simp
 unfold atI; rw [e]; exact h
def _qgg (b:Expr):Prop:=∀ o i,J4 b false o i=operate [o,i] (Lo o i)
def IxR (X:Cx) (r:R2):Prop :=
 ∀ (value slice:Expr) (pins:List (Addr × Obj)) (s:Shared) (σ:St) (H:Hp) (x y:V) (v u:Value) (Q:VK),Inv X pins σ H s->RelV x v->RelV y u->r x y H Q ->
  J4 slice false v u=operate [v,u] (Lo v u)->wpAny (model X.prog X.w) X.A (Kv value slice v u) (EP X pins σ Q) X.xe s
def MtR (X:Cx) (id:String) (r:V->List V->Hp->VK->Prop):Prop :=
 ∀ (pins:List (Addr × Obj)) (s:Shared) (σ:St) (H:Hp) (x:V) (xs:List V) (v:Value) (us:List Value) (Q:VK),Inv X pins σ H s->RelV x v->_qu8 xs us->r x xs H Q ->
  wpAny (model X.prog X.w) X.A (call (.builtin id) (v :: us)) (EP X pins σ Q) X.xe s
section
variable {X:Cx} {a b:Expr} {ta tb:TE} {pos:Pos}
theorem IxR.or {r r':R2} (h:IxR X r) (h':IxR X r'):IxR X (fun x y H Q=>r x y H Q \/ r' x y H Q):=by
 intro value slice pins s σ H x y v u Q I rx ry q hs;rcases q with q | q
 ·exact h value slice pins s σ H x y v u Q I rx ry q hs
 ·exact h' value slice pins s σ H x y v u Q I rx ry q hs
theorem MtR.or {id:String} {r r':V->List V->Hp->VK->Prop} (h:MtR X id r) (h':MtR X id r'):MtR X id (fun x xs H Q=>r x xs H Q \/ r' x xs H Q):=by
 intro pins s σ H x xs v us Q I rx rs q;rcases q with q | q
 ·exact h pins s σ H x xs v us Q I rx rs q
 ·exact h' pins s σ H x xs v us Q I rx rs q
theorem _Za {r:R2} (hr:IxR X r) (ha:PE X a ta) (hb:PE X b tb) (hs:_qgg b):PE X (.Subscript a b pos) (tOp r ta tb):=by
 intro pins s σ H Q I h;exact Subscript_ (binT ha hb I h fun v u s2 x y H2 I2 rx ry q=>hr a b pins s2 σ H2 x y v u Q I2 rx ry q (hs _ _))
def rIxL (K:Frag):R2:=fun x y H Q=>∃ p xs i v,x=.ref p/\y=.int i/\SqL K H p xs/\atI xs i=some v/\Q v H
def rIxT (K:Frag):R2:=fun x y H Q=>∃ p xs i v,x=.ref p/\y=.int i/\SqT K H p xs/\atI xs i=some v/\Q v H
def rIxS:R2:=fun x y H Q=>∃ z i c,x=.str z/\y=.int i/\z.length <= Aj/\atI z.cps.toList i=some c/\Q (.str ⟨#[c]⟩) H
theorem _J5:IxR X (rIxL X.K):=by
 intro value slice pins s σ H x y v u Q I rx ry h hs;obtain ⟨p,xs,i,z,rfl,rfl,hq,he,q⟩:=h;cases rx;obtain ⟨t,rfl⟩:=ry;obtain ⟨its,r,pl,hz⟩:=I.list hq;obtain ⟨j,h1,h2,h3,h4,h5⟩:=_qco he;obtain ⟨w,ew,rw'⟩:=r.get h2;have hl:=r.length;have hn:=_qax;have fin:EP X pins σ Q w s:=⟨z,H,I,rw',q⟩
 by_cases h0:0 <= i
 ·have hj:i.toNat=j:=by
   rw [Mb h0 h5] at h1;exact Option.some.inj h1
  exact item_listR pl.isList h0 (by omega) (by rw [hj]; simpa using ew) fin hs
 ·have hj:(i + (its.toArray.size:Int)).toNat=j:=by
   rw [Lp (by omega) h4] at h1;rw [size_toArray,<- hl];exact Option.some.inj h1
  exact Jc (x:=w) pl.isList.typeIs slot_list_getitem.lookup
   (wpAny_getItem_list_neg (Q:=fun r s'=>r=w/\EP X pins σ Q r s') pl.isList (by omega) (by rw [size_toArray] <;> omega) (by omega) (by rw [hj]; simpa using ew) ⟨rfl,fin⟩) hs
theorem _qe8:IxR X (rIxT X.K):=by
 intro value slice pins s σ H x y v u Q I rx ry h hs;obtain ⟨p,xs,i,z,rfl,rfl,hq,he,q⟩:=h;cases rx;obtain ⟨t,rfl⟩:=ry;obtain ⟨its,r,pl,hz⟩:=I.tuple hq;obtain ⟨j,h1,h2,h3,h4,h5⟩:=_qco he;obtain ⟨w,ew,rw'⟩:=r.get h2;have hl:=r.length;have hn:=_qax;have fin:EP X pins σ Q w s:=⟨z,H,I,rw',q⟩;exact Jc (x:=w) pl.typeIs slot_tuple_getitem.lookup
  (getItem_tuple (j:=j) (Q:=fun r s'=>r=w/\EP X pins σ Q r s') pl (by omega) (by omega) (by rw [size_toArray,<- hl]; exact h1) (by simpa using ew) ⟨rfl,fin⟩) hs
theorem _qii:IxR X rIxS:=by
 intro value slice pins s σ H x y v u Q I rx ry h hs;obtain ⟨z,i,c,rfl,rfl,hz,he,q⟩:=h;obtain ⟨t,rfl⟩:=rx;obtain ⟨t',rfl⟩:=ry;obtain ⟨j,h1,h2,h3,h4,h5⟩:=_qco he;have hl:z.cps.toList.length=z.length:=by simp [Str.length]
 rw [hl] at h1 h4 h5;have hn:=_qax;exact tail_any (K8 s z t) slot_str_getitem.lookup (getItem_str (c:=c) (by
  have e1:decide (i < -(2 ^ 63:Int))=false:=decide_eq_false (by omega);have e2:decide (i ≥ 2 ^ 63)=false:=decide_eq_false (by omega);rw [e1,e2,Kw]) (by rw [h1]; simpa using h2) ⟨.str ⟨#[c]⟩,H,I.tok _,⟨_,rfl⟩,q⟩) hs
theorem _qaq (its:List Value) (n j:Nat) (u:Value):Bg (·.setIfInBounds j u) { cls:=.type "list",data:=.seq its.toArray n }={ cls:=.type "list",data:=.seq (its.set j u).toArray n }:=by
 simp [Bg]
theorem Inv.lst {pins:List (Addr × Obj)} {σ:St} {H:Hp} {s:Shared} {p:Addr} {xs:List V} (I:Inv X pins σ H s) (h:H p=some (.lst xs)) :
  ∃ (its:List Value) (n:Nat),_qu8 xs its/\s.heap.get? p=some { cls:=.type "list",data:=.seq its.toArray n }/\xs.length <= Aj:=by
 obtain ⟨z,its,n,r,e⟩:=I.hok p _ h;exact ⟨its,n,r,e,z⟩
theorem Inv.lstUpd {pins:List (Addr × Obj)} {σ:St} {H:Hp} {s:Shared} {p:Addr} {xs ys:List V} {its its':List Value} {n n':Nat} {f:Obj->Obj} (I:Inv X pins σ H s) (h:H p=some (.lst xs))
  (ho:s.heap.get? p=some { cls:=.type "list",data:=.seq its.toArray n }) (hf:f { cls:=.type "list",data:=.seq its.toArray n }={ cls:=.type "list",data:=.seq its'.toArray n' }) (r:_qu8 ys its') (hz:ys.length <= Aj) (t:Nat) :
  Inv X pins σ (upd H p (.lst ys)) { s with heap:=s.heap.update p f,toks:=t }:=by
 have e:(s.heap.update p f).get? p=some { cls:=.type "list",data:=.seq its'.toArray n' }:=by
  rw [Bf f ho (by rw [hf] <;> rfl),hf]
 refine I.write (x:=p) (e:=p) (by rw [h]; trivial) (.inl rfl) (fun b u hb q=>(Au _ _ (B4 hb)).trans q) ⟨_,e⟩ ?_;exact ⟨hz,its',n',r,e⟩
def rSetL:V->V->V->Hp->(Hp->Prop)->Prop:=fun o i v H Q=>∃ p xs k j,o=.ref p/\i=.int k/\H p=some (.lst xs)/\ixN xs.length k=some j/\Q (upd H p (.lst (xs.set j v)))
theorem _qgq:PSet X rSetL:=by
 intro pins s σ H o i v ov iv u Q I ro ri rv h;obtain ⟨p,xs,k,j,rfl,rfl,hp,hj,q⟩:=h;cases ro;obtain ⟨t,rfl⟩:=ri;obtain ⟨its,n,r,ho,hz⟩:=I.lst hp;obtain ⟨h1,h2,h3,h4⟩:=_qb8 hj;have hl:=r.length;have hn:=_qax;have I':Inv X pins σ (upd H p (.lst (xs.set j v))) { s with heap:=s.heap.update p (Bg (·.setIfInBounds j u)) } :=
  I.lstUpd hp ho (_qaq its n j u) (r.set rv j) (by rw [List.length_set]; exact hz) s.toks
 by_cases h0:0 <= k
 ·have hk:k.toNat=j:=by
   rw [Mb h0 h4] at h1;exact Option.some.inj h1
  exact PySem.W.ki_setAt ho h0 (by omega) (by rw [size_toArray,<- hl]; exact h4) (by rw [hk]; exact ⟨_,I',q⟩)
 ·have hk:(k + (its.toArray.size:Int)).toNat=j:=by
   rw [Lp (by omega) h3] at h1;rw [size_toArray,<- hl];exact Option.some.inj h1
  exact PySem.W.ki_setBack ho (by omega) (by rw [size_toArray,<- hl]; exact h3) (by omega) (by rw [hk]; exact ⟨_,I',q⟩)
theorem _qc:_wh X (.builtin "len") (fun xs H Q=>∃ p ys,xs=[.ref p]/\(SqL X.K H p ys \/ SqT X.K H p ys)/\Q (.int ys.length) H):=by
 intro pins s σ H xs us Q I r h;obtain ⟨p,ys,rfl,hq,q⟩:=h;obtain ⟨u,rfl,rx⟩:=vals1 r;cases rx;have hn:=_qax;rcases hq with hq | hq
 ·obtain ⟨its,r',pl,hz⟩:=I.list hq
  have hlen:=r'.length;exact Calls.call_len_list pl.isList (by simp only [size_toArray] <;> omega) ⟨.int ys.length,H,I.tok _,⟨s.toks + 1,by rw [size_toArray,hlen]⟩,q⟩
 ·obtain ⟨its,r',pl,hz⟩:=I.tuple hq
  have hlen:=r'.length;exact len_tuple pl (by simp only [size_toArray] <;> omega) ⟨.int ys.length,H,I.tok _,⟨s.toks + 1,by rw [size_toArray,hlen]⟩,q⟩
theorem _wh.or {f:Value} {r r':List V->Hp->VK->Prop} (h:_wh X f r) (h':_wh X f r'):_wh X f (fun xs H Q=>r xs H Q \/ r' xs H Q):=by
 intro pins s σ H xs us Q I rs q;rcases q with q | q
 ·exact h pins s σ H xs us Q I rs q
 ·exact h' pins s σ H xs us Q I rs q
theorem _j6:_wh X (.type "list") (fun xs H Q=>∃ p ys,xs=[.ref p]/\(SqL X.K H p ys \/ SqT X.K H p ys)/\∀ l,H l=none->Q (.ref l) (upd H l (.lst ys))):=by
 intro pins s σ H xs us Q I r h;obtain ⟨p,ys,rfl,hq,q⟩:=h;obtain ⟨u,rfl,rx⟩:=vals1 r;cases rx;have fin:∀ (its:List Value),_qu8 ys its->ys.length <= Aj->∀ (h':Heap) (c':Nat),(∀ b o',s.heap.get? b=some o'->h'.get? b=some o') ->
   h'.get? s.heap.objs.size=some { cls:=.type "list",dict:=none,data:=.seq its.toArray c',slots:=#[] }->EP X pins σ Q (.ref s.heap.objs.size) { s with heap:=h' }:=fun its r' hz h' c' kp e =>
  ⟨.ref s.heap.objs.size,_,I.laid (t':=s.toks) kp (le_refl _) (show _zn X.prog X.w _ h' _ (.lst ys) from ⟨hz,its,c',r',e⟩),rfl,q _ (I.hok.fresh (le_refl _))⟩
 rcases hq with hq | hq
 ·obtain ⟨its,r',pl,hz⟩:=I.list hq
  have hlen:=r'.length;obtain ⟨o,ho,hc,n,hd⟩:=pl.isList;exact call_list_seq p (.inl rfl) ho hc hd (fun h' c' kp e=>fin its r' hz h' c' kp e) (by simp only [size_toArray] <;> omega)
 ·obtain ⟨its,r',pl,hz⟩:=I.tuple hq
  have hlen:=r'.length;obtain ⟨o,ho,hc,n,hd⟩:=pl;exact call_list_seq p (.inr rfl) ho hc hd (fun h' c' kp e=>fin its r' hz h' c' kp e) (by simp only [size_toArray] <;> omega)
theorem _qf:_wh X (.type "tuple") (fun xs H Q=>∃ p ys,xs=[.ref p]/\((SqL X.K H p ys/\∀ l,H l=none->Q (.ref l) (upd H l (.tup ys))) \/ (SqT X.K H p ys/\Q (.ref p) H))):=by
 intro pins s σ H xs us Q I r h;obtain ⟨p,ys,rfl,h⟩:=h;obtain ⟨u,rfl,rx⟩:=vals1 r;cases rx;rcases h with ⟨hq,q⟩ | ⟨hq,q⟩
 ·obtain ⟨its,r',pl,hz⟩:=I.list hq
  have hlen:=r'.length;refine call_tuple_list pl.isList (fun h' kp=>?_) (by simp only [size_toArray] <;> omega);have I1:Inv X pins σ H { s with heap:=h' }:=I.kept (t':=s.toks) kp;have I2:Inv X pins σ (upd H h'.objs.size (.tup ys)) { s with heap:=h'.push { cls:=.type "tuple",data:=.seq its.toArray } } :=
   I1.laid (t':=s.toks) (fun b o e=>Ae _ e) (le_refl _) (show _zn X.prog X.w _ _ _ (.tup ys) from ⟨hz,its,r',IsTup.new _ _⟩)
  exact ⟨.ref h'.objs.size,_,I2,rfl,q _ (I1.hok.fresh (le_refl _))⟩
 ·obtain ⟨its,r',pl,hz⟩:=I.tuple hq
  exact call_tuple_same pl ⟨.ref p,H,I,rfl,q⟩
def tyV (K:Frag) (T:String) (x:V) (H:Hp):Prop:=match x with
 | .str _=>T="str"
 | .int _=>T="int"
 | .ref p=>(T="list"/\∃ xs,SqL K H p xs) \/ (T="tuple"/\∃ o,K.lookup p=some o/\o.cls=.type "tuple"/\o.dict=none) \/
   (T="dict"/\((∃ kvs,H p=some (.dK kvs)) \/ ∃ kvs,H p=some (.dT kvs))) \/ (T="set"/\∃ S n,H p=some (.set S n))
 | _=>False
theorem _qob {pins:List (Addr × Obj)} {σ:St} {H:Hp} {s:Shared} {T:String} {x:V} {v:Value} (I:Inv X pins σ H s) (r:RelV x v) (ty:tyV X.K T x H) :
  s.TypeIs v T/\∀ a,v=.ref a->∃ ob,s.heap.get? a=some ob/\ob.dict=none:=by
 cases x with
 | str z =>
  obtain ⟨t,rfl⟩:=r;cases (show T="str" from ty);exact ⟨K8 s z t,fun _ e=>nomatch e⟩
 | int i =>
  obtain ⟨t,rfl⟩:=r;cases (show T="int" from ty);exact ⟨typeIs_int s i t,fun _ e=>nomatch e⟩
 | ref p =>
  cases r;rcases ty with ⟨rfl,xs,hq⟩ | ⟨rfl,o,hk,hc,hd⟩ | ⟨rfl,hk⟩ | ⟨rfl,S,n,hk⟩
  ·obtain ⟨its,_,pl,_⟩:=I.list hq
   refine ⟨pl.isList.typeIs,fun a e=>?_⟩;cases e;obtain ⟨o,n,e,c,hd,_⟩:=pl;exact ⟨o,e,hd⟩
  ·refine ⟨⟨o,I.kIn p o hk,hc⟩,fun a e=>?_⟩
   cases e;exact ⟨o,I.kIn _ o hk,hd⟩
  ·have z:∃ o,s.heap.get? p=some o/\o.ExactDict:=by
    rcases hk with ⟨kvs,hk⟩ | ⟨kvs,hk⟩
    ·obtain ⟨_,_,_,_,o,_,_,e,ex,_⟩:=I.hok p _ hk
     exact ⟨o,e,ex⟩
    ·obtain ⟨_,_,_,_,o,_,_,e,ex,_⟩:=I.hok p _ hk
     exact ⟨o,e,ex⟩
   obtain ⟨o,e,ex⟩:=z;refine ⟨⟨o,e,ex.1⟩,fun a e2=>?_⟩;cases e2;exact ⟨o,e,ex.2.1⟩
  ·obtain ⟨o,_,_,_,e,ex,_⟩:=I.hok p _ hk
   refine ⟨⟨o,e,ex.1⟩,fun a e2=>?_⟩;cases e2;exact ⟨o,e,ex.2.1⟩
 | _=>exact Az ty
def tBM (K:Frag) (T:String) (r:V->List V->Hp->VK->Prop) (to:TE) (t:TA):TE:=fun σ H Q=>to σ H fun x H1=>tyV K T x H1/\t σ H1 fun xs H2=>r x xs H2 Q
variable {o e:Expr} {es:List Expr} {to:TE} {t:TA} {name:Str} {apos cpos:Pos} {T id:String} {r:V->List V->Hp->VK->Prop}
theorem _qfn (pa:PlainAttrs T) (slot:Slot T name id) (hty:typeOf (.builtin id)=pure (.type "method_descriptor")) (hm:MtR X id r) (ho:PE X o to) (ha:PA X (e :: es) t)
  (hbase:Ee o name X.env (eval o X.env)=eval o X.env:=by rfl)
  (hfew:((C1 cpos (Ap (e :: es) X.env)).all (fun x=>!x.1) && (Ln cpos (Ib [] X.env)).all (fun x=>x.1.isSome)
   && decide ((e :: es).length + ([]:List Kl).length + (if ([]:List Kl).isEmpty then 0 else 1) < 30))=true:=by rfl)
  (hline:(apos.endLine == cpos.line)=true:=by rfl) (hs:Ap (e :: es) X.env=(false,eval e X.env) :: Ap es X.env:=by rfl) (hplain:(C1 cpos (Ap es X.env)).any (·.1)=false:=by rfl) :
  PE X (.Call (.Attribute o name apos) (e :: es) [] cpos) (tBM X.K T r to t):=by
 intro pins s σ H Q I h;refine wpAny_Call_method_late hbase hfew hline rfl (thn (ho pins s σ H _ I h) fun v s1 hQ=>?_);obtain ⟨x,H1,I1,r1,ty,q1⟩:=hQ;obtain ⟨h1,h2⟩:=_qob I1 r1 ty;refine ⟨T,id,pa,slot,hty,h1,h2,?_⟩;have hA:=ha cpos pins s1 σ H1 _ I1 q1;rw [hs] at hA ⊢;refine Ct (by show (false || (C1 cpos (Ap es X.env)).any (·.1))=false; rw [hplain] <;> rfl) (Eu ?_);exact thn hA fun us s2 ⟨vs,H2,I2,r2,q2⟩=>hm pins s2 σ H2 x vs v us Q I2 r1 r2 q2
end
def MtM (X:Cx) (id:String) (r:V->List V->Hp->VK->Prop):Prop :=
 ∀ (pins:List (Addr × Obj)) (s:Shared) (σ:St) (H:Hp) (x:V) (xs:List V) (v:Value) (us:List Value) (Q:VK),Inv X pins σ H s->RelV x v->_qu8 xs us->r x xs H Q ->
  wpAny (model X.prog X.w) X.A (call (.builtin id) (v :: us)) (EP X pins σ Q) X.xe s
theorem _qu8.one:∀ {x:V} {us:List Value},_qu8 [x] us->∃ u,us=[u]/\RelV x u
 | _,_,.cons r .nil=>⟨_,rfl,r⟩
theorem _qu8.eraseIdx:∀ {xs:List V} {us:List Value} (i:Nat),_qu8 xs us->_qu8 (xs.eraseIdx i) (us.eraseIdx i)
 | _,_,_,.nil=>.nil
 | _,_,0,.cons _ t=>t
 | _,_,i + 1,.cons r t=>.cons r (_qu8.eraseIdx i t)
theorem _qu8.reverse {xs:List V} {us:List Value} (h:_qu8 xs us):_qu8 xs.reverse us.reverse:=by
 induction h with
 | nil=>exact .nil
 | cons r t ih=>rw [List.reverse_cons,List.reverse_cons]; exact _qu8.append ih (.cons r .nil)
theorem _qu8.rep {xs:List V} {us:List Value} (h:_qu8 xs us):∀ k:Nat,_qu8 (C2 k xs).flatten (C2 k us).flatten
 | 0=>.nil
 | k + 1=>by
  rw [G2,G2,List.flatten_cons,List.flatten_cons];exact _qu8.append h (_qu8.rep h k)
section
variable {X:Cx} {pins:List (Addr × Obj)} {σ:St} {H:Hp} {s:Shared} {l b:Addr} {xs ys zs:List V}
theorem Inv.lset {its its':List Value} {n:Nat} {f:Array Value->Array Value} {t':Nat} (I:Inv X pins σ H s) (hH:H l=some (.lst xs))
  (e:s.heap.get? l=some { cls:=.type "list",data:=.seq its.toArray n }) (hf:f its.toArray=its'.toArray) (hv:_qu8 ys its') (hz:ys.length <= Aj) :
  Inv X pins σ (upd H l (.lst ys)) { s with heap:=s.heap.update l (Bg f),toks:=t' }:=by
 have q:=PySem.IsL.update e f;rw [hf] at q;refine I.write (x:=l) (e:=l) (by rw [hH]; exact trivial) (.inl rfl) (fun b' u hb hu=>(Au s.heap (Bg f) (B4 hb)).trans hu) ⟨_,q⟩ ?_;exact ⟨hz,its',_,hv,q⟩
theorem Inv.lnew {its:List Value} {t':Nat} (I:Inv X pins σ H s) (hv:_qu8 ys its) (hz:ys.length <= Aj) :
  Inv X pins σ (upd H s.heap.objs.size (.lst ys)) { s with heap:=s.heap.push { cls:=.type "list",data:=.seq its.toArray },toks:=t' } :=
 I.laid (fun _ _ q=>Ae _ q) (le_refl _) ⟨hz,its,0,hv,Ag _ rfl⟩
theorem Inv.fresh (I:Inv X pins σ H s):H s.heap.objs.size=none:=I.hok.fresh (le_refl _)
theorem Inv.lstM (I:Inv X pins σ H s) (hH:H l=some (.lst xs)):xs.length <= Aj/\∃ (its:List Value) (n:Nat),_qu8 xs its/\xs.length=its.length/\s.heap.get? l=some { cls:=.type "list",data:=.seq its.toArray n }:=by
 obtain ⟨z,its,n,r,e⟩:=I.hok l _ hH;exact ⟨z,its,n,r,r.length,e⟩
theorem notLongL {n:Nat} (h:n <= Aj):E6 n=false:=by
 unfold E6;exact decide_eq_false (by omega)
end
section
variable {X:Cx}
def _qfg:V->List V->Hp->VK->Prop:=fun x vs H Q=>∃ l xs y,x=.ref l/\vs=[y]/\H l=some (.lst xs)/\xs.length < Aj/\Q .non (upd H l (.lst (xs++[y])))
theorem _j2:MtM X "list.append" _qfg:=by
 intro pins s σ H x vs v us Q I rx rv h;obtain ⟨l,xs,y,rfl,rfl,hH,hz,q⟩:=h;cases rx;obtain ⟨u,rfl,ru⟩:=rv.one;obtain ⟨z,its,n,r,hl,e⟩:=I.lstM hH;refine call_meets F.slot_list_append ⟨_,e,rfl⟩ F.entry_list_append (F.args_list_append_2 _ _) (PySem.list_append l its.toArray n u (by rw [size_toArray]; omega)) ⟨e,?_⟩;refine ⟨.non,_,I.lset (its':=its++[u]) hH e (by simp) (r.append (.cons ru .nil)) ?_,rfl,q⟩;rw [length_append,List.length_singleton];omega
end
section
variable {prog:Ak} {w:World} {A:Around} {E:Value->Shared->Prop} {s:Shared}
end
section
variable {X:Cx}
end
end L2
namespace Att
open PySem PySem.W PySem.Calls PyProof.Rows
theorem ints_of_wellAll {P:Params} {h:Heap}:∀ (ns:List Int) (vs:List Value),WellAll P h vs (ns.map WData.int)->IntsAre vs ns:=by
 intro ns
 induction ns with
 | nil =>
  intro vs w;rw [map_nil] at w;cases w;exact .nil
 | cons n ns ih =>
  intro vs w;rw [map_cons] at w;cases w with
  | cons a b =>
   cases a;exact .cons _ _ (ih _ b)
theorem script_of {l:OpenLaw} {n:Nat} (hn:l.most=some n) {P:Params} {h:Heap} {args:List WData} {vals:List Value}
  (hpre:l.row.toRowW.claim.pre args=true) (hwl:WellAll P h vals args) :
  ∃ a vs ns,vals=[Value.ref a]/\args=[WData.list (ns.map WData.int)]/\h.get? a=some { cls:=.type "list",data:=.seq vs.toArray }/\IntsAre vs ns/\ns.length <= n:=by
 have hsh:WShape.hasAll [] args [.list .int]=true:=(pre_splitW hpre).1;have hc:l.pre.holds [] { args:=args }=true:=(pre_splitW hpre).2;obtain ⟨d,r,rfl,h1,h2⟩:=hasAllW_cons hsh;obtain rfl:=hasAllW_nil h2;obtain ⟨xs,rfl,h3⟩:=hasW_list h1;obtain ⟨ns,rfl⟩:=items_int h3;have hlen:ns.length <= n:=by
  unfold OpenLaw.pre at hc;have h4:(WTm.not (.lt (.lit (.int (n:Int))) (.len (.arg 0)))).holds [] { args:=[.list (ns.map .int)] }=true:=by
   have h4:=(holds_andW hc).1;rw [hn] at h4;exact h4
  have h5:=condW_of h4 (w_not (w_lt w_lit (w_len_list (w_arg rfl))));rw [length_map] at h5;refine Nat.le_of_not_lt fun q=>?_;have q':(n:Int) < ((ns.length:Nat):Int):=by omega
  first
   | (rw [decide_eq_true q'] at h5; exact absurd h5 (by decide))
   | (simp at h5; omega)
 cases hwl with
 | cons w1 w2 =>
  cases w2;cases w1 with
  | list ho hall=>exact ⟨_,_,ns,rfl,rfl,ho,ints_of_wellAll ns _ hall,hlen⟩
theorem post_true (l:OpenLaw) (args:List WData):l.row.toRowW.claim.post args (.bool true) args=true :=
 postW_of (r:=l.row.toRowW) (X:=(true == true))
  (show WShape.has [] (.bool true) .bool=true by first | rfl | decide | simp [WShape.has,WShape.arms,WShape.armsAll])
  (show (WTm.eq .res (.lit (.bool true))).value [] { args:=args,res:=some (.bool true),after:=args }=some (.bool (true == true)) from w_eq_bool (w_res rfl) w_lit) rfl
theorem attach_call {l:OpenLaw} {n:Nat} {q:Ak} {loose:List Str} {XP:(Str->Option Value)->Heap->Prop} {YP:World->Heap->Prop} {d:DefRec}
  (hn:l.most=some n) (hdf:d.params.defaults=[])
  (call:∀ (w:World) (s₀ s₁:Shared) (mg mb:Str->Option Value) (fa:Addr) (o:Obj) (pm cd doc:Value) (a:Addr) (vs:List Value) (ns:List Int),
   Ground q loose [] XP w s₀ mg mb s₁.heap->YP w s₁.heap ->
   s₁.heap.get? fa=some o->o.data=.func (docDef d.name d.params d.body d.scope pm cd doc)->s₁.heap.CodeRec cd d.name->mg d.name=some (.ref fa) ->
   s₁.heap.get? a=some { cls:=.type "list",data:=.seq vs.toArray }->IntsAre vs ns->ns.length <= n->s₁.gens=#[] ->
   Dp (model l.prog w) G7 (.call (.ref fa) ⟨[.ref a],[]⟩) (fun r s'=>r=.ok (.ret (.bool true))/\OldK s₁.heap s'.heap/\s'.os=s₁.os/\G5 s'.gens) s₁) :
  WalkO q loose XP YP l.row.toRowW d [] (fun f vs=>PySem.call f vs):=by
 intro w s₀ s₁ mg mb G Y fa o pm cd doc dV kV ho hd hcd hD hmg hg args vals as hpre hlay hrd hwl hlo;obtain rfl:dV=.none:=Dflts.none hD hdf;obtain rfl:kV=.none:=Dflts.noKw hD;obtain ⟨a,vs,ns,rfl,rfl,hobj,hints,hlen⟩:=script_of hn hpre hwl;refine enter_call (Cn (call w s₀ s₁ mg mb fa o pm cd doc a vs ns G Y ho (fd_plain hd) hcd hmg hobj hints hlen hg) fun r s' hq=>?_);obtain ⟨rfl,h2,h3,h4⟩:=hq;exact ⟨.inl ⟨.bool true,.bool true,[],rfl,fun _=>rfl,.bool true,post_true l _,fun _=>⟨List.Pairwise.nil,fun _ hm=>(nomatch hm)⟩⟩,h2,h3,h4⟩
section
variable {prog:Ak} {w:World} {A:Around} {E:Value->Shared->Prop} {s:Shared} {K:Frag}
end
end Att
namespace L2
open PySem PySem.Spec PyProof.Rows
theorem _Qe:∀ {vs:List Value} {ns:List Int},IntsAre vs ns->_qu8 (ns.map V.int) vs
 | _,_,.nil=>.nil
 | _,_,.cons n t h=>.cons ⟨t,rfl⟩ (_Qe h)
def Only (H:Hp):Prop:=∀ b,H b=none \/ ∃ o xs,H b=some (.frz o (.lst xs))
theorem law_call {P:Ak} {w:World} {K:Frag} {mg mb:Str->Option Value} {CX:CXT} {k:Nat} {fa a:Addr} {fd:Am} {x:Str} {sp:Sp} {s₁:Shared} {vs:List Value} {ns:List Int}
  (KX:K.In s₁.heap) (hns:s₁.heap.Ns Aq mg) (hb:s₁.heap.Ns K5 mb) (hbb:∀ x:Str,x ≠ "__name__"->mb x=A6 x) (hlim:s₁.heap.NoLimit) (hg:s₁.gens=#[])
  (ha:s₁.heap.get? a=some { cls:=.type "list",data:=.seq vs.toArray }) (hi:IntsAre vs ns) (hl:ns.length <= Aj) (hr:Room k G7)
  (F:∀ base:Heap,K.In base->base.Ns Aq mg->FnOk P w K mg base CX k fa fd [x] sp) (hbind:∀ (s:Shared) (u:Value),Ia s fd ⟨[u],[]⟩ [(x,u)])
  (hsp:∀ H:Hp,Only H->SqL K H a (ns.map V.int)->sp [.ref a] H (fun v _=>v=.bl true) fun _ _ _=>False)
  (hCX:∀ H e s',CX [] H s₁ (fun _ _ _=>False) e s'->False) :
  Dp (model P w) G7 (.call (.ref fa) ⟨[.ref a],[]⟩) (fun r s'=>r=.ok (.ret (.bool true))/\OldK s₁.heap s'.heap/\s'.os=s₁.os/\G5 s'.gens) s₁:=by
 have rv:=_Qe hi;have lenV:=hi.length;have core:∀ H:Hp,Only H->SqL K H a (ns.map V.int)->HOk P w H s₁.heap->(∀ b,H b ≠ none->b=a)->(H a ≠ none->K.lookup a=none) ->
   Dp (model P w) G7 (.call (.ref fa) ⟨[.ref a],[]⟩) (fun r s'=>r=.ok (.ret (.bool true))/\OldK s₁.heap s'.heap/\s'.os=s₁.os/\G5 s'.gens) s₁:=by
  intro H hO hS hok hA hK;have base_of:∀ {b:Addr} {o:Obj},s₁.heap.get? b=some o->H b=none->(hidT s₁.heap H).get? b=some o:=fun e n=>_qip e n;have noA:∀ {b:Addr} {o:Obj} {es:Array DictEntry} {ep:Nat},s₁.heap.get? b=some o->o.data=.dict es ep->H b=none:=fun {b o es ep} e d=>by
   cases q:H b with
   | none=>rfl
   | some u =>
    have e':b=a:=hA b (by rw [q]; simp);subst e';rw [ha] at e; cases e;have d':Data.seq vs.toArray _=Data.dict es ep:=d;cases d'
  have nsK:∀ {b:Addr} {m:Str->Option Value},s₁.heap.Ns b m->(hidT s₁.heap H).Ns b m:=fun {b m} ⟨o,es,ep,e,d,r⟩=>⟨o,es,ep,base_of e (noA e d),d,r⟩;have hKb:K.In (hidT s₁.heap H):=fun b o e=>base_of (KX b o e) (by
   cases q:H b with
   | none=>rfl
   | some u =>
    have e':b=a:=hA b (by rw [q]; simp);subst e';rw [hK (by rw [q]; simp)] at e; cases e)
  have hM:Mod K mg (hidT s₁.heap H):=⟨hKb,nsK hns,⟨mb,nsK hb,hbb⟩,let ⟨mc,h1,h2⟩:=hlim; ⟨mc,nsK h1,h2⟩⟩;have e0:Env0 P w K mg (hidT s₁.heap H) G7 [] s₁ H:=⟨rfl,hM,fun b o e=>_qlq e,Nat.le_of_eq (_qee _ _),trivial,fun b hb=>absurd (show b∈([]:List Addr) from hb) (by simp),hok,.of_eq hg⟩;refine Cn ((F _ hKb (nsK hns)).run G7 [] s₁ H ⟨[.ref a],[]⟩ [.ref a] [.ref a] _ _ hr e0 (hbind s₁ (.ref a)) (.cons rfl .nil) (hsp H hO hS)) fun r s' h=>?_;cases r with
  | error e=>exact (hCX H e s' h).elim
  | ok fl =>
   cases fl with
   | next=>exact Az h
   | brk=>exact Az h
   | cont=>exact Az h
   | ret u =>
    obtain ⟨v,H',os,bare,un,hok',r',q⟩:=h;have q':v=.bl true:=q;subst q';obtain rfl:u=Value.bool true:=r';refine ⟨rfl,OldK.of_keep fun b o e=>?_,os,bare⟩;cases q:H b with
    | none=>exact un.keep b o e q (by intro z; exact absurd (show b∈([]:List Addr) from z) (by simp)) (by simp)
    | some u =>
     rcases hO b with z | ⟨ob,xs,z⟩
     ·rw [q] at z; cases z
     ·have z2:=un.frzs b ob _ z
      obtain ⟨e1,_⟩:=hok b _ z;obtain ⟨e2,_⟩:=hok' b _ z2;rw [e] at e1; cases e1;exact e2
 cases hk:K.lookup a with
 | some o =>
  have e:=KX a o hk;rw [ha] at e;cases e;refine core (fun _=>none) (fun _=>.inl rfl) (.inr ⟨_,vs.toArray,_,hk,rfl,rfl,rfl,by rw [size_toArray,lenV]; exact hl,by simpa using rv⟩) (fun b u z=>by have z':(none:Option HO)=some u:=z; cases z') (fun b z=>absurd rfl z) fun z=>absurd rfl z
 | none =>
  refine core (fun b=>if b=a then some (.frz { cls:=.type "list",data:=.seq vs.toArray } (.lst (ns.map V.int))) else none) (fun b=>?_) (.inl (.inr ⟨{ cls:=.type "list",data:=.seq vs.toArray },if_pos rfl⟩)) (fun b u z=>?_) (fun b z=>?_) fun _=>hk
  ·by_cases hb:b=a
   ·exact .inr ⟨_,_,if_pos hb⟩
   ·exact .inl (if_neg hb)
  ·by_cases hb:b=a
   ·have z':=(if_pos hb).symm.trans z
    cases z';subst hb;exact ⟨ha,by rw [length_map]; exact hl,vs,_,rv,ha⟩
   ·have z':=(if_neg hb).symm.trans z
    cases z'
  ·by_cases hb:b=a
   ·exact hb
   ·exact absurd (if_neg hb) z
theorem _qey {l:Gv} {n k:Nat} {q:Ak} {loose:List Str} {XP:(Str->Option Value)->Heap->Prop} {YP:World->Heap->Prop} {d:DefRec} {K:Params->Frag} {CX:World->CXT} {sp:World->Sp} {x:Str}
  (hn:l.most=some n) (hn2:n <= Aj) (hdf:d.params.defaults=[]) (hr:Room k G7)
  (hY:∀ (w:World) (h:Heap),YP w h->(K w.params).In h)
  (F:∀ (w:World) (mg:Str->Option Value) (fa:Addr) (h:Heap),(K w.params).In h->h.Ns Aq mg->mg d.name=some (.ref fa) ->
   ∃ fd:Am,(∀ (s:Shared) (u:Value),Ia s fd ⟨[u],[]⟩ [(x,u)]) /\
    ∀ base:Heap,(K w.params).In base->base.Ns Aq mg->FnOk l.prog w (K w.params) mg base (CX w) k fa fd [x] (sp w))
  (hsp:∀ (w:World) (H:Hp) (a:Addr) (ns:List Int),ns.length <= n->Only H->SqL (K w.params) H a (ns.map V.int)->sp w [.ref a] H (fun v _=>v=.bl true) fun _ _ _=>False)
  (hCX:∀ (w:World) (H:Hp) (s:Shared) (e:Value) (s':Shared),CX w [] H s (fun _ _ _=>False) e s'->False) :
  Kx q loose XP YP l.row.toRowW d [] (fun f vs=>PySem.call f vs):=by
 refine Att.attach_call hn hdf fun w s₀ s₁ mg mb fa o pm cd doc a vs ns G Y ho hd hcd hmg hobj hints hlen hg=>?_;have KX:=hY w _ Y;obtain ⟨fd,hb,hF⟩:=F w mg fa _ KX G.T.g hmg;exact law_call KX G.T.g G.T.b G.T.builtins G.T.nolimit hg hobj hints (le_trans hlen hn2) hr hF hb (fun H hO hS=>hsp w H a ns hlen hO hS) fun H e s'=>hCX w H s₁ e s'
def _za (s:Stmt) (j:Nat):Stmt:=match s with
 | .ClassDef _ _ _ body _ _ _ _ _ _ _=>body.getD j (.Pass ⟨0,0,0,0⟩)
 | _=>.Pass ⟨0,0,0,0⟩
def _ja (s:Stmt):Arguments:=match s with
 | .FunctionDef _ a _ _ _ _ _ _ _ _=>a
 | _=>{ posonlyargs:=[],args:=[],vararg:=none,kwonlyargs:=[],kw_defaults:=[],kwarg:=none,defaults:=[] }
def _qu (s:Stmt):List Stmt:=match s with
 | .FunctionDef _ _ b _ _ _ _ _ _ _=>b
 | _=>[]
def _f (s:Stmt):Scope:=match s with
 | .FunctionDef _ _ _ _ _ _ sc _ _ _=>sc
 | _=>{ kind:=.function,names:=[],isGenerator:=false,isCoroutine:=false }
abbrev CX0:CXT:=fun _ _ _ _ _ _=>False
abbrev E0:XK:=fun _ _ _=>False
theorem _zs {X:Cx}:_Vj CX0 X E0:=fun _ _ _ _ _ _ _ h=>h.elim
structure Fun (K:Frag) (x qual:Str) (st:Stmt) (f:Addr) (fd:Am):Prop where
 ex:∃ (oc:Value) (od:Option Addr) (kV doc pm:Value) (an:Option Addr) (cdv ct:Value) (osl:Array (Option Value)),
  fd=fnOf x qual (_ja st) (_qu st) (_f st) .none kV doc pm an cdv ct/\K.lookup f=some ⟨oc,od,.func fd,osl⟩/\L5 K cdv qual=true
 kp:Gr K (.ref f)=true
section
variable {P:Ak} {w:World} {K:Frag} {mg:Str->Option Value} {base:Heap}
theorem Fun.ok {x qual:Str} {st:Stmt} {f:Addr} {fd:Am} {N ps:List Str} {k:Nat} {sp:Sp} (F:Fun K x qual st f fd) (S:FnScope N ps (_f st)) (len:∀ vs H Q E,sp vs H Q E->vs.length=ps.length)
  (hbody:∀ (cdv:Value) (A:Around) (outer:List Env) (s:Shared) (H:Hp) (vs:List V) (Q:VK) (E:XK),Room k (A.deeper (Ja qual (_f st) s.heap.objs.size f cdv))->sp vs H Q E ->
   ∃ t,PSs (cxOf CX0 P w K mg base N qual (_f st) f cdv A outer s H E).nox (_qu st) t/\t { nx:=fun _ H'=>Q .non H',rt:=Q } (start N vs) H):FnOk P w K mg base CX0 (k + 1) f fd ps sp:=by
 obtain ⟨oc,od,kV,doc,pm,an,cdv,ct,osl,rfl,lk,hcd⟩:=F.ex;refine fn_of lk hcd S len fun A outer s H vs Q E hr hsp=>?_;obtain ⟨t,h,q⟩:=hbody cdv A outer s H vs Q E hr hsp;exact ⟨t,h.nox,q⟩
theorem Fun.binds {x qual:Str} {st:Stmt} {f:Addr} {fd:Am} {ps:List Str} (F:Fun K x qual st f fd)
  (h:∀ (kV doc pm:Value) (an:Option Addr) (cdv ct:Value) (us:List Value),us.length=ps.length->Hg (fnOf x qual (_ja st) (_qu st) (_f st) .none kV doc pm an cdv ct) ⟨us,[]⟩=pure (ps.zip us)):Binds K fd ps []:=by
 obtain ⟨oc,od,kV,doc,pm,an,cdv,ct,osl,rfl,lk,hcd⟩:=F.ex;exact .all (h kV doc pm an cdv ct)
theorem _qiu {x qual:Str} {st:Stmt} {f:Addr} {oc:Value} {od an:Option Addr} {osl:Array (Option Value)} {kV doc pm cdv ct:Value} (l:K.lookup f=some ⟨oc,od,.func (fnOf x qual (_ja st) (_qu st) (_f st) .none kV doc pm an cdv ct),osl⟩)
  (c:L5 K cdv qual=true) (k:Gr K (.ref f)=true):Fun K x qual st f (fnOf x qual (_ja st) (_qu st) (_f st) .none kV doc pm an cdv ct):=⟨⟨oc,od,kV,doc,pm,an,cdv,ct,osl,rfl,l,c⟩,k⟩
end
theorem _wp {A:Around} {k:Nat} (hr:Room k A):A.units + 1 < cLine:=lt_of_le_of_lt (Nat.add_le_add_left (by decide:1 <= 64) _) hr.units
section
variable {X:Cx}
theorem pv (i:Nat) {x:Str} {pos:Pos} (hN:X.N[i]?=some x:=by rfl) (hv:Vis X.env.scope x:=by first | exact Or.inl rfl | exact Or.inr (Or.inl rfl) | exact Or.inr (Or.inr rfl)) (hd:(x == ("__debug__":Str))=false:=by decide)
  (hcd:(x == ("__classdict__":Str))=false:=by decide):PE X (.Name x pos) (_qsw i):=_qoi hN hv hd hcd
end
theorem _qti {A B:Prop} (h:B):if false=true then A else B:=by
 rw [if_neg An];exact h
theorem iteT {A B:Prop} (h:A):if true=true then A else B:=by
 rw [if_pos rfl];exact h
theorem ite2 {c A B:Prop} [Decidable c] (h1:c->A) (h2:¬ c->B):if c then A else B:=by
 by_cases h:c
 ·rw [if_pos h]
  exact h1 h
 ·rw [if_neg h]
  exact h2 h
def _qu9 (H H':Hp):Prop:=∀ b o,H b=some o->H' b=some o
theorem _qu9.refl (H:Hp):_qu9 H H:=fun _ _ h=>h
theorem _qu9.trans {H H1 H2:Hp} (a:_qu9 H H1) (b:_qu9 H1 H2):_qu9 H H2:=fun c o h=>b c o (a c o h)
theorem _qu9.free {H H':Hp} (e:_qu9 H H') {l:Addr} (h:H' l=Option.none):H l=Option.none:=by
 cases q:H l with
 | none=>rfl
 | some o =>
  rw [e l o q] at h;cases h
theorem _qu9.seq {K:Frag} {H H':Hp} {a:Addr} {xs:List V} (e:_qu9 H H') (h:SqL K H a xs):SqL K H' a xs:=by
 rcases h with (h | ⟨o,h⟩) | h
 ·exact .inl (.inl (e _ _ h))
 ·exact .inl (.inr ⟨o,e _ _ h⟩)
 ·exact .inr h
end L2
namespace DL
open PySem
inductive D where
 | non | bl (b:Bool) | int (i:Int) | str (x:Str) | lst (xs:List D) | tup (xs:List D)
inductive O where
 | sh (d:D) | lst (os:List O) | tup (os:List O)
mutual
def imm:D->Bool
 | .lst _=>false
 | .tup ds=>_qtl ds
 | _=>true
def _qtl:List D->Bool
 | []=>true
 | d :: ds=>imm d && _qtl ds
end
mutual
def oD:O->Option D
 | .sh d=>some d
 | .lst os=>(oDs os).map D.lst
 | .tup os=>(oDs os).map D.tup
def oDs:List O->Option (List D)
 | []=>some []
 | o :: os=>(oD o).bind fun d=>(oDs os).map fun ds=>d :: ds
end
mutual
def oim:O->Bool
 | .sh d=>imm d
 | .lst os=>_qtc os
 | .tup os=>_qtc os
def _qtc:List O->Bool
 | []=>true
 | o :: os=>oim o && _qtc os
end
def ow (ds:List D):O:=.lst (ds.map O.sh)
abbrev Cs:=List (Option O)
abbrev _quj:=List (Option D)
abbrev FE:=_quj->Option D
abbrev FO:=_quj->Option O
abbrev FT:=_quj->Option Bool
abbrev FA:=_quj->Option (List D)
abbrev FAO:=_quj->Option (List O)
def _qug:Nat:=100000
def _qtq (i:Nat):FE:=fun ρ=>(ρ[i]?).bind id
def fC (d:D):FE:=fun _=>some d
def f2 (g:D->D->Option D) (a b:FE):FE:=fun ρ=>(a ρ).bind fun x=>(b ρ).bind fun y=>g x y
def f1 (g:D->Option D) (a:FE):FE:=fun ρ=>(a ρ).bind g
def fL (f:FO):FE:=fun ρ=>(f ρ).bind oD
def oE (f:FE):FO:=fun ρ=>(f ρ).map O.sh
def qV (f:FE):FT:=fun ρ=>(f ρ).bind fun d=>match d with | .bl b=>some b | _=>none
def qNot (f:FT):FT:=fun ρ=>(f ρ).map not
def qAnd (f g:FT):FT:=fun ρ=>(f ρ).bind fun x=>if x=true then g ρ else some false
def qOr (f g:FT):FT:=fun ρ=>(f ρ).bind fun x=>if x=true then some true else g ρ
def fB (f:FT):FE:=fun ρ=>(f ρ).map D.bl
def fNot (f:FE):FE:=fB (qNot (qV f))
def fAnd (f g:FE):FE:=fun ρ=>(qV f ρ).bind fun x=>if x=true then g ρ else some (.bl false)
def fOr (f g:FE):FE:=fun ρ=>(qV f ρ).bind fun x=>if x=true then some (.bl true) else g ρ
def fIf (c:FT) (f g:FE):FE:=fun ρ=>(c ρ).bind fun x=>if x=true then f ρ else g ρ
def _qu6:FA:=fun _=>some []
def _k (f:FE) (g:FA):FA:=fun ρ=>(f ρ).bind fun d=>(g ρ).map fun ds=>d :: ds
def aoNil:FAO:=fun _=>some []
def _qcp (f:FO) (g:FAO):FAO:=fun ρ=>(f ρ).bind fun d=>(g ρ).map fun ds=>d :: ds
def _qtr (g:FA):FE:=fun ρ=>(g ρ).bind fun ds=>if ds.length <= _qug then some (.tup ds) else none
def oLst (g:FA):FO:=fun ρ=>(g ρ).bind fun ds=>if ds.length <= _qug then some (ow ds) else none
def oLstO (g:FAO):FO:=fun ρ=>(g ρ).bind fun os=>if os.length <= _qug then some (.lst os) else none
def oTupO (g:FAO):FO:=fun ρ=>(g ρ).bind fun os=>if os.length <= _qug then some (.tup os) else none
def _q1 (n:Nat) (g:List D->Option D) (f:FA):FE:=fun ρ=>(f ρ).bind fun ds=>if ds.length=n then g ds else none
def _qcr (n:Nat) (g:List D->Option O) (f:FA):FO:=fun ρ=>(f ρ).bind fun ds=>if ds.length=n then g ds else none
def _qts (g:List D->Option D) (f:FA):FE:=fun ρ=>(f ρ).bind g
def _qte (g:List D->Option (List D)) (f:FA):FO:=fun ρ=>((f ρ).bind g).map ow
def o2 (g:D->D->Option (List D)) (a b:FE):FO:=fun ρ=>((a ρ).bind fun x=>(b ρ).bind fun y=>g x y).map ow
abbrev GE:=D->_quj->Option _quj
def geN (i:Nat):GE:=fun d ρ=>some (ρ.set i (some d))
def geT:List GE->List D->_quj->Option _quj
 | [],[],ρ=>some ρ
 | g :: gs,d :: ds,ρ=>(g d ρ).bind fun ρ'=>geT gs ds ρ'
 | _,_,_=>none
def _qto (gs:List GE):GE:=fun d ρ=>match d with
 | .tup ds=>geT gs ds ρ
 | _=>none
def mkD (js:List (Option Nat)) (ρ:_quj):_quj:=js.map fun o=>o.bind fun j=>(ρ[j]?).bind id
def _v0 (g:GE) (c:FT) (e:FO):List D->_quj->Option (List O)
 | [],_=>some []
 | d :: ds,ρ=>(g d ρ).bind fun ρ1=>(c ρ1).bind fun b=>if b=true then (e ρ1).bind fun y=>(_v0 g c e ds ρ1).map fun ys=>y :: ys else _v0 g c e ds ρ1
def qT:FT:=fun _=>some true
def _Jl:D->Option (List D)
 | .lst ds=>some ds
 | _=>none
theorem _Z7 {α:Type} (d:D) (k:List D->Option α):(_Jl d).bind k=match d with
 | .lst ds=>k ds
 | _=>none:=by cases d <;> rfl
def _zv (js:List (Option Nat)) (f:FE) (g:GE) (c:FT) (e:FO):FO:=fun ρ=>(f ρ).bind fun d=>(_Jl d).bind fun ds=>if ds.length <= _qug then (_v0 g c e ds (mkD js ρ)).map O.lst else none
def _qbn (ds:List D):List D:=(Ar ds.length).zipWith (fun (i:Nat) d=>.tup [.int (i:Int),d]) ds
def _qak (js:List (Option Nat)) (f:FE) (g:GE) (c:FT) (e:FO):FO:=fun ρ=>(f ρ).bind fun d=>(_Jl d).bind fun ds=>if ds.length <= _qug then (_v0 g c e (_qbn ds) (mkD js ρ)).map O.lst else none
inductive Out where
 | nx (ρ:Cs) | bk (ρ:Cs) | ct (ρ:Cs) | rt (o:O) (ρ:Cs) | ex (c:Str) (ρ:Cs)
abbrev Blk:=Cs->Option Out
def fzc:Option O->Option O
 | some o=>match oD o with | some d=>some (.sh d) | none=>some o
 | none=>none
def frz:List Bool->Cs->_quj
 | b :: S,c :: ρ=>(if b=true then c.bind oD else none) :: frz S ρ
 | _,_=>[]
def fz:List Bool->Cs->Cs
 | b :: S,c :: ρ=>(if b=true then fzc c else c) :: fz S ρ
 | _,ρ=>ρ
def all (ρ:Cs):_quj:=ρ.map fun c=>c.bind oD
abbrev FM:=Cs->Option (O × Cs)
def mE (S:List Bool) (f:FE):FM:=fun ρ=>(f (frz S ρ)).map fun d=>(.sh d,if imm d=true then ρ else fz S ρ)
def mO (S:List Bool) (f:FO):FM:=fun ρ=>(f (frz S ρ)).map fun o=>(o,if oim o=true then ρ else fz S ρ)
def mMv (i:Nat):FM:=fun ρ=>((ρ[i]?).bind id).map fun o=>(o,ρ.set i none)
def _qu2:Blk:=fun ρ=>some (.nx ρ)
def _qu0 (b c:Blk):Blk:=fun ρ=>match b ρ with
 | some (.nx ρ')=>c ρ'
 | o=>o
def _qtz (i:Nat) (f:FM):Blk:=fun ρ=>(f ρ).map fun p=>.nx (p.2.set i (some p.1))
def _qu1 (f:FM):Blk:=fun ρ=>(f ρ).map fun p=>.rt p.1 p.2
def bRetN:Blk:=fun ρ=>some (.rt (.sh .non) ρ)
def bExpr (f:FM):Blk:=fun ρ=>(f ρ).map fun p=>.nx p.2
def bIf (c:FT) (a b:Blk):Blk:=fun ρ=>(c (DL.all ρ)).bind fun t=>if t=true then a ρ else b ρ
def bPass:Blk:=fun ρ=>some (.nx ρ)
def bBrk:Blk:=fun ρ=>some (.bk ρ)
def bCnt:Blk:=fun ρ=>some (.ct ρ)
def bNever:Blk:=fun _=>none
abbrev GD:=D->Cs->Option Cs
def gN (i:Nat):GD:=fun d ρ=>some (ρ.set i (some (.sh d)))
def gT:List GD->List D->Cs->Option Cs
 | [],[],ρ=>some ρ
 | g :: gs,d :: ds,ρ=>(g d ρ).bind fun ρ'=>gT gs ds ρ'
 | _,_,_=>none
def gTp (gs:List GD):GD:=fun d ρ=>match d with
 | .tup ds=>gT gs ds ρ
 | _=>none
def _qtp (g:GD) (b:Blk):List D->Blk
 | [],ρ=>some (.nx ρ)
 | d :: ds,ρ=>(g d ρ).bind fun ρ1=>match b ρ1 with
  | some (.nx ρ2)=>_qtp g b ds ρ2
  | some (.ct ρ2)=>_qtp g b ds ρ2
  | some (.bk ρ2)=>some (.nx ρ2)
  | o=>o
def _qu3 (S:List Bool) (f:FE) (g:GD) (b:Blk):Blk:=fun ρ=>(f (frz S ρ)).bind fun d=>(_Jl d).bind fun ds=>_qtp g b ds (fz S ρ)
def _Zt (c:FT) (b:Blk):Nat->Blk
 | 0,_=>none
 | n + 1,ρ=>(c (DL.all ρ)).bind fun t=>if t=true then match b ρ with
   | some (.nx ρ2)=>_Zt c b n ρ2
   | some (.ct ρ2)=>_Zt c b n ρ2
   | some (.bk ρ2)=>some (.nx ρ2)
   | o=>o
  else some (.nx ρ)
theorem bind_some {α β:Type} {o:Option α} {f:α->Option β} {y:β} (h:o.bind f=some y):∃ x,o=some x/\f x=some y:=by
 cases o with
 | none=>cases h
 | some x=>exact ⟨x,rfl,h⟩
theorem map_some {α β:Type} {o:Option α} {f:α->β} {y:β} (h:o.map f=some y):∃ x,o=some x/\f x=y:=by
 cases o with
 | none=>cases h
 | some x=>exact ⟨x,rfl,Option.some.inj h⟩
theorem _z2 {c:FT} {b:Blk}:∀ {n m:Nat} {ρ:Cs} {o:Out},_Zt c b n ρ=some o->n <= m->_Zt c b m ρ=some o
 | 0,_,_,_,h,_=>by cases h
 | n + 1,0,_,_,_,h=>by omega
 | n + 1,m + 1,ρ,o,h,hl=>by
  unfold _Zt at h ⊢;obtain ⟨t,ht,h⟩:=bind_some h;rw [ht];show (if t=true then _ else _)=some o;split at h
  ·rename_i htt
   rw [if_pos htt];cases hb:b ρ with
   | none=>rw [hb] at h; cases h
   | some o1 =>
    rw [hb] at h;cases o1 with
    | nx ρ2=>exact _z2 h (by omega)
    | ct ρ2=>exact _z2 h (by omega)
    | bk ρ2=>exact h
    | rt d ρ2=>exact h
    | ex d ρ2=>exact h
  ·rename_i htt
   rw [if_neg htt]; exact h
open Classical in
noncomputable def _z4 (c:FT) (b:Blk):Blk:=fun ρ=>if h:∃ n o,_Zt c b n ρ=some o then _Zt c b (choose h) ρ else none
theorem _K6 {c:FT} {b:Blk} {n:Nat} {ρ:Cs} {o:Out} (h:_Zt c b n ρ=some o):_z4 c b ρ=some o:=by
 have h':∃ n o,_Zt c b n ρ=some o:=⟨n,o,h⟩;unfold _z4;rw [dif_pos h'];obtain ⟨o',ho⟩:=Classical.choose_spec h';have e1:=_z2 h (Jn n (Classical.choose h'));have e2:=_z2 ho (Iq n (Classical.choose h'));rw [e1] at e2;cases e2;exact ho
theorem _Kb {c:FT} {b:Blk} {ρ:Cs} {o:Out} (h:_z4 c b ρ=some o):∃ n,_Zt c b n ρ=some o:=by
 unfold _z4 at h;split at h
 ·exact ⟨_,h⟩
 ·cases h
inductive Stp where
 | ix (i:Int) | fl (x:Str)
def ixP (n:Nat) (i:Int):Option Nat:=if 0 <= i then (if i < n then some i.toNat else none) else if -(n:Int) <= i then some (i + n).toNat else none
def atP {α:Type} (xs:List α) (i:Int):Option α:=(ixP xs.length i).bind fun j=>xs[j]?
def plc:O->Stp->Option Nat
 | .lst os,.ix i=>ixP os.length i
 | .tup os,.ix i=>ixP os.length i
 | _,_=>none
def kids:O->List O
 | .lst os=>os
 | .tup os=>os
 | _=>[]
def reset:O->List O->O
 | .lst _,os=>.lst os
 | .tup _,os=>.tup os
 | o,_=>o
def atO (g:O->Option O):List Stp->O->Option O
 | [],o=>g o
 | s :: p,o=>(plc o s).bind fun n=>((kids o)[n]?).bind fun c=>(atO g p c).map fun c'=>reset o ((kids o).set n c')
def _qtn:List Stp->O->Option O
 | [],o=>some o
 | s :: p,o=>(plc o s).bind fun n=>((kids o)[n]?).bind fun c=>_qtn p c
abbrev FP:=_quj->Option (List Stp)
def pNil:FP:=fun _=>some []
def gApp (o:O):O->Option O
 | .lst os=>if os.length < _qug then some (.lst (os++[o])) else none
 | _=>none
def gSetI (i:Int) (o:O):O->Option O
 | .lst os=>(ixP os.length i).map fun n=>.lst (os.set n o)
 | _=>none
def gExt (ds:List D):O->Option O
 | .lst os=>if os.length + ds.length <= _qug then some (.lst (os++ds.map O.sh)) else none
 | _=>none
def isL:O->Bool
 | .lst _=>true
 | _=>false
def bMut (i:Nat) (S:List Bool) (p:FP) (f:FM) (g:O->O->Option O):Blk:=fun ρ=>(p (frz S ρ)).bind fun q=>((ρ[i]?).bind id).bind fun c0=>(_qtn q c0).bind fun m=>if isL m=true then
  (f ρ).bind fun r=>((r.2[i]?).bind id).bind fun c=>(atO (g r.1) q c).map fun c'=>.nx (r.2.set i (some c')) else none
def bPut (i:Nat) (S:List Bool) (p:FP) (k:FE) (f:FM):Blk:=fun ρ=>(f ρ).bind fun r=>(p (frz S r.2)).bind fun q=>(k (frz S r.2)).bind fun d=>((r.2[i]?).bind id).bind fun c=>match d with
 | .int j=>(atO (gSetI j r.1) q c).map fun c'=>.nx (r.2.set i (some c'))
 | _=>none
def bExt (i:Nat) (S:List Bool) (p:FP) (f:FE):Blk:=fun ρ=>(p (frz S ρ)).bind fun q=>(f (frz S ρ)).bind fun d=>((ρ[i]?).bind id).bind fun c=>match d with
 | .lst ds=>if _qtl ds=true then (atO (gExt ds) q c).map fun c'=>.nx (ρ.set i (some c')) else none
 | _=>none
def ini (m:Nat) (ds:List D):Cs:=ds.map (fun d=>some (.sh d))++C2 (m - ds.length) none
def _qt2 (m:Nat) (b:Blk):List D->Option O:=fun ds=>match b (ini m ds) with
 | some (.rt o _)=>some o
 | some (.nx _)=>some (.sh .non)
 | _=>none
def _qt4 (m:Nat) (b:Blk):List D->Option D:=fun ds=>(_qt2 m b ds).bind oD
def BIG:Nat:=2 ^ 1000000
def BIGD:Nat:=2 ^ 9000
def SHORT:Nat:=2 ^ 63
def _qfu (i j:Int):Prop:=(i.natAbs < BIG/\j.natAbs < BIG) \/ i.natAbs < SHORT \/ j.natAbs < SHORT
instance (i j:Int):Decidable (_qfu i j):=inferInstanceAs (Decidable (_ \/ _ \/ _))
def dI (g:Int->Int->Int):D->D->Option D
 | .int i,.int j=>some (.int (g i j))
 | _,_=>none
def dB (g:Int->Int->Bool):D->D->Option D
 | .int i,.int j=>some (.bl (g i j))
 | _,_=>none
def dAdd:D->D->Option D
 | .int i,.int j=>some (.int (i + j))
 | .str x,.str y=>if x.length + y.length <= _qug then some (.str (x++y)) else none
 | _,_=>none
def dSub:D->D->Option D:=dI fun i j=>i - j
def _qtu:D->D->Option D
 | .int i,.int j=>if _qfu i j then some (.int (i * j)) else none
 | _,_=>none
def _qtw:D->D->Option D
 | .int i,.int j=>if j ≠ 0/\j.natAbs < BIGD then some (.int (i.fdiv j)) else none
 | _,_=>none
def dMod:D->D->Option D
 | .int i,.int j=>if j ≠ 0 then some (.int (i.fmod j)) else none
 | _,_=>none
def dNeg:D->Option D
 | .int i=>some (.int (-i))
 | _=>none
def dLt:D->D->Option D:=dB fun i j=>decide (i < j)
def dLe:D->D->Option D:=dB fun i j=>decide (i <= j)
def dGt:D->D->Option D:=dB fun i j=>decide (j < i)
def dGe:D->D->Option D:=dB fun i j=>decide (j <= i)
mutual
def eqD:D->D->Bool
 | .non,.non=>true
 | .bl a,.bl b=>a == b
 | .int i,.int j=>i == j
 | .bl a,.int j=>(if a=true then 1 else 0) == j
 | .int i,.bl b=>i == (if b=true then 1 else 0)
 | .str x,.str y=>x == y
 | .lst xs,.lst ys=>_qtt xs ys
 | .tup xs,.tup ys=>_qtt xs ys
 | _,_=>false
def _qtt:List D->List D->Bool
 | [],[]=>true
 | x :: xs,y :: ys=>eqD x y && _qtt xs ys
 | _,_=>false
end
mutual
def shp:Nat->D->Bool
 | _,.non=>true
 | _,.bl _=>true
 | _,.int _=>true
 | _,.str x=>x.cps.all (· < 0x110000)
 | 0,.lst _=>false
 | n + 1,.lst xs=>_qt0 n xs
 | 0,.tup _=>false
 | n + 1,.tup xs=>_qt0 n xs
def _qt0:Nat->List D->Bool
 | _,[]=>true
 | n,x :: xs=>shp n x && _qt0 n xs
end
def dEq (x y:D):Option D:=if shp 20 x=true/\shp 20 y=true then some (.bl (eqD x y)) else none
def dNe (x y:D):Option D:=if shp 20 x=true/\shp 20 y=true then some (.bl (!eqD x y)) else none
def dIs:D->D->Option D
 | .bl a,.bl b=>some (.bl (a == b))
 | x,.non=>match x with | .non=>some (.bl true) | _=>some (.bl false)
 | _,_=>none
def _qtv:D->D->Option D
 | .bl a,.bl b=>some (.bl (a != b))
 | x,.non=>match x with | .non=>some (.bl false) | _=>some (.bl true)
 | _,_=>none
def dIn:D->D->Option D
 | x,.lst ds=>if shp 20 x=true/\shp 20 (.lst ds)=true then some (.bl (ds.any fun y=>eqD y x)) else none
 | x,.tup ds=>if shp 20 x=true/\shp 20 (.tup ds)=true then some (.bl (ds.any fun y=>eqD y x)) else none
 | _,_=>none
def _Xc:D->D->Option D
 | x,.lst ds=>if shp 20 x=true/\shp 20 (.lst ds)=true then some (.bl (!ds.any fun y=>eqD y x)) else none
 | x,.tup ds=>if shp 20 x=true/\shp 20 (.tup ds)=true then some (.bl (!ds.any fun y=>eqD y x)) else none
 | _,_=>none
def dIx:D->D->Option D
 | .lst xs,.int i=>atP xs i
 | .tup xs,.int i=>atP xs i
 | _,_=>none
def dLen:List D->Option D
 | [.lst xs]=>some (.int xs.length)
 | [.tup xs]=>some (.int xs.length)
 | _=>none
def dAbs:List D->Option D
 | [.int i]=>some (.int (if i < 0 then -i else i))
 | _=>none
def dMax2:List D->Option D
 | [.int i,.int j]=>some (.int (if j > i then j else i))
 | _=>none
def dMin2:List D->Option D
 | [.int i,.int j]=>some (.int (if j < i then j else i))
 | _=>none
def tyD:D->String
 | .non=>"NoneType"
 | .bl _=>"bool"
 | .int _=>"int"
 | .str _=>"str"
 | .lst _=>"list"
 | .tup _=>"tuple"
def isT (d:D) (T:String):Bool:=tyD d == T || (tyD d == "bool" && T == "int")
def _qtj (T:String):D->Option D
 | d=>some (.bl (isT d T))
def fIsi (T:String) (f:FE):FE:=fun ρ=>(f ρ).bind (_qtj T)
def dCat:D->D->Option (List D)
 | .lst xs,.lst ys=>if xs.length + ys.length <= _qug then some (xs++ys) else none
 | _,_=>none
def sumD:List D->Int->Option Int
 | [],a=>some a
 | .int i :: ds,a=>sumD ds (a + i)
 | _,_=>none
def dSum:List D->Option D
 | [.lst ds]=>(sumD ds 0).map D.int
 | _=>none
def _qjl:List D->Option (List Bool)
 | []=>some []
 | .bl b :: ds=>(_qjl ds).map fun r=>b :: r
 | _=>none
def dAll:List D->Option D
 | [.lst ds]=>(_qjl ds).map fun bs=>D.bl (bs.all id)
 | _=>none
def _qg1:List D->Option (List D)
 | [.lst ds]=>some ds
 | [.tup ds]=>some ds
 | _=>none
def dTuple:List D->Option D
 | [.lst ds]=>some (.tup ds)
 | [.tup ds]=>some (.tup ds)
 | _=>none
end DL
namespace DL
open PySem
section
variable {ρ:_quj} {σ:Cs} {f g:FE} {a:FA} {p q:FT} {o:FO}
@[simp] theorem _qr4 {i:Nat}:_qtq i ρ=(ρ[i]?).bind id:=rfl
@[simp] theorem fC_ap {d:D}:fC d ρ=some d:=rfl
@[simp] theorem f2_ap {o:D->D->Option D}:f2 o f g ρ=(f ρ).bind fun x=>(g ρ).bind fun y=>o x y:=rfl
@[simp] theorem f1_ap {o:D->Option D}:f1 o f ρ=(f ρ).bind o:=rfl
@[simp] theorem fL_ap:fL o ρ=(o ρ).bind oD:=rfl
@[simp] theorem oE_ap:oE f ρ=(f ρ).map O.sh:=rfl
@[simp] theorem qV_ap:qV f ρ=(f ρ).bind fun d=>match d with | .bl b=>some b | _=>none:=rfl
@[simp] theorem qT_ap:qT ρ=some true:=rfl
@[simp] theorem _qqh:qNot p ρ=(p ρ).map not:=rfl
@[simp] theorem _qqi:qAnd p q ρ=(p ρ).bind fun x=>if x=true then q ρ else some false:=rfl
@[simp] theorem _qrs:qOr p q ρ=(p ρ).bind fun x=>if x=true then some true else q ρ:=rfl
@[simp] theorem fB_ap:fB p ρ=(p ρ).map D.bl:=rfl
@[simp] theorem _qr6:fNot f ρ=((qV f ρ).map not).map D.bl:=rfl
@[simp] theorem _qr9:fAnd f g ρ=(qV f ρ).bind fun x=>if x=true then g ρ else some (.bl false):=rfl
@[simp] theorem _qs8:fOr f g ρ=(qV f ρ).bind fun x=>if x=true then some (.bl true) else g ρ:=rfl
@[simp] theorem _qs9:fIf p f g ρ=(p ρ).bind fun x=>if x=true then f ρ else g ρ:=rfl
@[simp] theorem _qrq:_qu6 ρ=some []:=rfl
@[simp] theorem _qqc:_k f a ρ=(f ρ).bind fun d=>(a ρ).map fun ds=>d :: ds:=rfl
@[simp] theorem _qq8:aoNil ρ=some []:=rfl
@[simp] theorem _qo9 {h:FAO}:_qcp o h ρ=(o ρ).bind fun d=>(h ρ).map fun ds=>d :: ds:=rfl
@[simp] theorem _qr5:_qtr a ρ=(a ρ).bind fun ds=>if ds.length <= _qug then some (.tup ds) else none:=rfl
@[simp] theorem _qqm:oLst a ρ=(a ρ).bind fun ds=>if ds.length <= _qug then some (ow ds) else none:=rfl
@[simp] theorem _qoy {h:FAO}:oLstO h ρ=(h ρ).bind fun ds=>if ds.length <= _qug then some (.lst ds) else none:=rfl
@[simp] theorem _qox {h:FAO}:oTupO h ρ=(h ρ).bind fun ds=>if ds.length <= _qug then some (.tup ds) else none:=rfl
@[simp] theorem _qpp {n:Nat} {h:List D->Option D}:_q1 n h a ρ=(a ρ).bind fun ds=>if ds.length=n then h ds else none:=rfl
@[simp] theorem _qp0 {n:Nat} {h:List D->Option O}:_qcr n h a ρ=(a ρ).bind fun ds=>if ds.length=n then h ds else none:=rfl
@[simp] theorem _qr8 {h:List D->Option D}:_qts h a ρ=(a ρ).bind h:=rfl
@[simp] theorem _qqp {h:List D->Option (List D)}:_qte h a ρ=((a ρ).bind h).map ow:=rfl
@[simp] theorem o2_ap {h:D->D->Option (List D)}:o2 h f g ρ=((f ρ).bind fun x=>(g ρ).bind fun y=>h x y).map ow:=rfl
@[simp] theorem _qr7 {T:String}:fIsi T f ρ=(f ρ).bind (_qtj T):=rfl
@[simp] theorem _qpg {T:String} {i:Int}:_qtj T (.int i)=some (.bl (isT (.int i) T)):=rfl
@[simp] theorem _qqt {T:String} {i:Bool}:_qtj T (.bl i)=some (.bl (isT (.bl i) T)):=rfl
@[simp] theorem _qpd {T:String} {i:Str}:_qtj T (.str i)=some (.bl (isT (.str i) T)):=rfl
@[simp] theorem _qpe {T:String}:_qtj T .non=some (.bl (isT .non T)):=rfl
@[simp] theorem _qpf {T:String} {i:List D}:_qtj T (.lst i)=some (.bl (isT (.lst i) T)):=rfl
@[simp] theorem _qpc {T:String} {i:List D}:_qtj T (.tup i)=some (.bl (isT (.tup i) T)):=rfl
@[simp] theorem mE_ap {S:List Bool}:mE S f σ=(f (frz S σ)).map fun d=>(.sh d,if imm d=true then σ else fz S σ):=rfl
@[simp] theorem mO_ap {S:List Bool}:mO S o σ=(o (frz S σ)).map fun o=>(o,if oim o=true then σ else fz S σ):=rfl
@[simp] theorem _qrx {i:Nat}:mMv i σ=((σ[i]?).bind id).map fun o=>(o,σ.set i none):=rfl
@[simp] theorem _qrj {b c:Blk}:_qu0 b c σ=(match b σ with | some (.nx ρ')=>c ρ' | o=>o):=rfl
@[simp] theorem _qrl:_qu2 σ=some (.nx σ):=rfl
@[simp] theorem _qq5:bPass σ=some (.nx σ):=rfl
@[simp] theorem _qro:bBrk σ=some (.bk σ):=rfl
@[simp] theorem _qrn:bCnt σ=some (.ct σ):=rfl
@[simp] theorem _qri {i:Nat} {m:FM}:_qtz i m σ=(m σ).map fun p=>.nx (p.2.set i (some p.1)):=rfl
@[simp] theorem _qrk {m:FM}:_qu1 m σ=(m σ).map fun p=>.rt p.1 p.2:=rfl
@[simp] theorem _qq4:bRetN σ=some (.rt (.sh .non) σ):=rfl
@[simp] theorem _qq6 {m:FM}:bExpr m σ=(m σ).map fun p=>.nx p.2:=rfl
@[simp] theorem _qso {b c:Blk}:bIf p b c σ=(p (all σ)).bind fun t=>if t=true then b σ else c σ:=rfl
@[simp] theorem _qr3 {S:List Bool}:frz S []=[]:=by cases S <;> rfl
@[simp] theorem frz_t {S:List Bool} {c:Option O}:frz (true :: S) (c :: σ)=c.bind oD :: frz S σ:=rfl
@[simp] theorem frz_f {S:List Bool} {c:Option O}:frz (false :: S) (c :: σ)=none :: frz S σ:=rfl
@[simp] theorem _qs7 {S:List Bool}:fz S []=[]:=by cases S <;> rfl
@[simp] theorem _qr2:fz [] σ=σ:=by cases σ <;> rfl
@[simp] theorem fz_t {S:List Bool} {c:Option O}:fz (true :: S) (c :: σ)=fzc c :: fz S σ:=rfl
@[simp] theorem fz_f {S:List Bool} {c:Option O}:fz (false :: S) (c :: σ)=c :: fz S σ:=rfl
@[simp] theorem _qpn:fzc none=none:=rfl
@[simp] theorem _qs6 {d:D}:fzc (some (.sh d))=some (.sh d):=by simp [fzc,oD]
@[simp] theorem all_nil:all []=[]:=rfl
@[simp] theorem all_cons {c:Option O}:all (c :: σ)=c.bind oD :: all σ:=rfl
@[simp] theorem oD_sh {d:D}:oD (.sh d)=some d:=by simp [oD]
@[simp] theorem _qqo {ds:List D}:oDs (ds.map O.sh)=some ds:=by
 induction ds with
 | nil=>simp [oDs]
 | cons d ds ih=>simp [oDs,ih]
@[simp] theorem oD_ow {ds:List D}:oD (ow ds)=some (.lst ds):=by simp [ow,oD]
@[simp] theorem _qrw {os:List O}:oD (.lst os)=(oDs os).map D.lst:=by simp [oD]
@[simp] theorem _qrv {os:List O}:oD (.tup os)=(oDs os).map D.tup:=by simp [oD]
@[simp] theorem _qqn:oDs []=some []:=by simp [oDs]
@[simp] theorem _qoz {x:O} {xs:List O}:oDs (x :: xs)=(oD x).bind fun d=>(oDs xs).map fun ds=>d :: ds:=by simp [oDs]
@[simp] theorem _qpm {ds:List D}:fzc (some (ow ds))=some (.sh (.lst ds)):=by simp [fzc]
@[simp] theorem _qr0 {i:Int}:imm (.int i)=true:=by simp [imm]
@[simp] theorem _qs5 {i:Bool}:imm (.bl i)=true:=by simp [imm]
@[simp] theorem _qqw {i:Str}:imm (.str i)=true:=by simp [imm]
@[simp] theorem _qqy:imm .non=true:=by simp [imm]
@[simp] theorem _qqz {ds:List D}:imm (.lst ds)=false:=by simp [imm]
@[simp] theorem _qqv {ds:List D}:imm (.tup ds)=_qtl ds:=by simp [imm]
@[simp] theorem _qpi:_qtl []=true:=by simp [_qtl]
@[simp] theorem _qnz {d:D} {ds:List D}:_qtl (d :: ds)=(imm d && _qtl ds):=by simp [_qtl]
@[simp] theorem _qny {ns:List Int}:_qtl (ns.map D.int)=true:=by
 induction ns with
 | nil=>simp
 | cons n ns ih=>simp [ih]
theorem _qbe {ds:List D}:_qtl ds=true ↔ ∀ d∈ds,imm d=true:=by
 induction ds with
 | nil=>simp
 | cons d ds ih=>simp [ih]
@[simp] theorem _qrt {d:D}:oim (.sh d)=imm d:=by simp [oim]
@[simp] theorem _qql {os:List O}:oim (.lst os)=_qtc os:=by simp [oim]
@[simp] theorem _qqk {os:List O}:oim (.tup os)=_qtc os:=by simp [oim]
@[simp] theorem _qov:_qtc []=true:=by simp [_qtc]
@[simp] theorem _qnu {x:O} {xs:List O}:_qtc (x :: xs)=(oim x && _qtc xs):=by simp [_qtc]
@[simp] theorem _qow {ds:List D}:_qtc (ds.map O.sh)=_qtl ds:=by
 induction ds with
 | nil=>simp
 | cons d ds ih=>simp [ih]
@[simp] theorem _qru {ds:List D}:oim (ow ds)=_qtl ds:=by simp [ow]
@[simp] theorem dI_ap {o:Int->Int->Int} {i j:Int}:dI o (.int i) (.int j)=some (.int (o i j)):=rfl
@[simp] theorem dB_ap {o:Int->Int->Bool} {i j:Int}:dB o (.int i) (.int j)=some (.bl (o i j)):=rfl
@[simp] theorem _qrh {i j:Int}:dAdd (.int i) (.int j)=some (.int (i + j)):=rfl
@[simp] theorem _qra {i j:Int}:dSub (.int i) (.int j)=some (.int (i - j)):=rfl
@[simp] theorem _qsd {i j:Int}:dLt (.int i) (.int j)=some (.bl (decide (i < j))):=rfl
@[simp] theorem _qsg {i j:Int}:dLe (.int i) (.int j)=some (.bl (decide (i <= j))):=rfl
@[simp] theorem _qsi {i j:Int}:dGt (.int i) (.int j)=some (.bl (decide (j < i))):=rfl
@[simp] theorem _qsj {i j:Int}:dGe (.int i) (.int j)=some (.bl (decide (j <= i))):=rfl
@[simp] theorem _qrb {i:Int}:dNeg (.int i)=some (.int (-i)):=rfl
theorem _qw {i j:Int} (h:i.natAbs < BIG) (h':j.natAbs < BIG):_qtu (.int i) (.int j)=some (.int (i * j)):=by
 have:_qfu i j:=.inl ⟨h,h'⟩
 simp [_qtu,this]
theorem _qn4 {i j:Int} (h:i.natAbs < 2 ^ 63):_qtu (.int i) (.int j)=some (.int (i * j)):=by
 have:_qfu i j:=.inr (.inl h)
 simp [_qtu,this]
theorem _qn3 {i j:Int} (h:j.natAbs < 2 ^ 63):_qtu (.int i) (.int j)=some (.int (i * j)):=by
 have:_qfu i j:=.inr (.inr h)
 simp [_qtu,this]
theorem _qbx {i j:Int} (h:j ≠ 0) (h':j.natAbs < BIGD):_qtw (.int i) (.int j)=some (.int (i.fdiv j)):=by simp [_qtw,h,h']
theorem _qbv {i j:Int} (h:j ≠ 0):dMod (.int i) (.int j)=some (.int (i.fmod j)):=by simp [dMod,h]
@[simp] theorem _qsl {i j:Int}:dEq (.int i) (.int j)=some (.bl (i == j)):=by simp [dEq,shp,eqD]
@[simp] theorem _qsb {i j:Int}:dNe (.int i) (.int j)=some (.bl (i != j)):=by simp [dNe,shp,eqD,bne]
@[simp] theorem _qsm {i j:Bool}:dEq (.bl i) (.bl j)=some (.bl (i == j)):=by simp [dEq,shp,eqD]
@[simp] theorem _qsc {i j:Bool}:dNe (.bl i) (.bl j)=some (.bl (i != j)):=by simp [dNe,shp,eqD,bne]
@[simp] theorem _qsk {a b c d:Int}:dEq (.tup [.int a,.int b]) (.tup [.int c,.int d])=some (.bl (a == c && b == d)):=by simp [dEq,shp,_qt0,eqD,_qtt]
@[simp] theorem _qsa {a b c d:Int}:dNe (.tup [.int a,.int b]) (.tup [.int c,.int d])=some (.bl (!(a == c && b == d))):=by simp [dNe,shp,_qt0,eqD,_qtt]
@[simp] theorem _qsh {i j:Bool}:dIs (.bl i) (.bl j)=some (.bl (i == j)):=rfl
@[simp] theorem _qrf {i j:Bool}:_qtv (.bl i) (.bl j)=some (.bl (i != j)):=rfl
@[simp] theorem _qqq {ds:List D}:_Jl (.lst ds)=some ds:=rfl
@[simp] theorem _qsf {ds:List D}:dLen [.lst ds]=some (.int ds.length):=rfl
@[simp] theorem _qse {ds:List D}:dLen [.tup ds]=some (.int ds.length):=rfl
@[simp] theorem _qsn {i:Int}:dAbs [.int i]=some (.int (if i < 0 then -i else i)):=rfl
@[simp] theorem _qre {i j:Int}:dMax2 [.int i,.int j]=some (.int (if j > i then j else i)):=rfl
@[simp] theorem _qrd {i j:Int}:dMin2 [.int i,.int j]=some (.int (if j < i then j else i)):=rfl
@[simp] theorem _qqs {ds:List D}:_qg1 [.lst ds]=some ds:=rfl
@[simp] theorem _qqr {ds:List D}:_qg1 [.tup ds]=some ds:=rfl
@[simp] theorem _qpx {ds:List D}:dTuple [.lst ds]=some (.tup ds):=rfl
@[simp] theorem _qbw {a:D} {ds:List D}:dIx (.tup (a :: ds)) (.int 0)=some a:=by simp [dIx,atP,ixP]
@[simp] theorem _qjd {a b:D} {ds:List D}:dIx (.tup (a :: b :: ds)) (.int 1)=some b:=by
 have:(1:Int) < (ds.length:Int) + 1 + 1:=by omega
 simp [dIx,atP,ixP,this]
theorem _qni {α:Type} {ds:List α} {i:Nat} (h:i < ds.length):atP ds (i:Int)=some ds[i]:=by
 unfold atP ixP;simp [h]
theorem _qn5 {ds:List D} {i:Nat} (h:i < ds.length):dIx (.lst ds) (.int (i:Int))=some ds[i]:=_qni h
end
@[simp] theorem _qs0 {i:Int}:isT (.int i) "int"=true:=rfl
@[simp] theorem _qs1 {i:Int}:isT (.int i) "bool"=false:=rfl
@[simp] theorem _qs2 {i:Bool}:isT (.bl i) "int"=true:=rfl
@[simp] theorem _qs3 {i:Bool}:isT (.bl i) "bool"=true:=rfl
@[simp] theorem _qry {ds:List D}:isT (.tup ds) "tuple"=true:=rfl
@[simp] theorem _qrz {ds:List D}:isT (.lst ds) "list"=true:=rfl
@[simp] theorem _qs4 {ds:List D}:isL (ow ds)=true:=rfl
@[simp] theorem _qqu {os:List O}:isL (.lst os)=true:=rfl
@[simp] theorem _qpk {o:O}:_qtn [] o=some o:=rfl
@[simp] theorem _qrp {g:O->Option O} {o:O}:atO g [] o=g o:=rfl
@[simp] theorem _qqj {ρ:_quj}:pNil ρ=some []:=rfl
theorem _qbi {ds:List D} {d:D} (h:ds.length < _qug):gApp (.sh d) (ow ds)=some (ow (ds++[d])):=by simp [gApp,ow,h]
@[simp] theorem _qrm {i:Nat} {S:List Bool} {p:FP} {f:FM} {g:O->O->Option O} {ρ:Cs}:bMut i S p f g ρ=(p (frz S ρ)).bind fun q=>((ρ[i]?).bind id).bind fun c0=>(_qtn q c0).bind fun m=>if isL m=true then
  (f ρ).bind fun r=>((r.2[i]?).bind id).bind fun c=>(atO (g r.1) q c).map fun c'=>.nx (r.2.set i (some c')) else none:=rfl
mutual
theorem _Q5:∀ {n:Nat} {d:D},shp n d=true->eqD d d=true
 | n,.non,_=>by simp [eqD]
 | n,.bl _,_=>by simp [eqD]
 | n,.int _,_=>by simp [eqD]
 | n,.str _,_=>by simp [eqD]
 | 0,.lst _,h=>by simp [shp] at h
 | n + 1,.lst xs,h=>by simp only [eqD]; exact _Q4 (n:=n) (by simpa [shp] using h)
 | 0,.tup _,h=>by simp [shp] at h
 | n + 1,.tup xs,h=>by simp only [eqD]; exact _Q4 (n:=n) (by simpa [shp] using h)
theorem _Q4:∀ {n:Nat} {ds:List D},_qt0 n ds=true->_qtt ds ds=true
 | n,[],_=>by simp [_qtt]
 | n,d :: ds,h=>by
  have h':shp n d=true/\_qt0 n ds=true:=by simpa [_qt0] using h
  simp [_qtt,_Q5 h'.1,_Q4 h'.2]
end
theorem _Xq {n:Nat} {ds:List D}:_qt0 n ds=true ↔ ∀ d∈ds,shp n d=true:=by
 induction ds with
 | nil=>simp [_qt0]
 | cons d ds ih=>simp [_qt0,ih]
@[simp] theorem _qqf {n:Nat} {i:Int}:shp n (.int i)=true:=by simp [shp]
@[simp] theorem _qrr {n:Nat} {i:Bool}:shp n (.bl i)=true:=by simp [shp]
@[simp] theorem _qqe {n:Nat}:shp n .non=true:=by simp [shp]
@[simp] theorem _qfd {n:Nat} {ds:List D}:shp (n + 1) (.lst ds)=_qt0 n ds:=by simp [shp]
@[simp] theorem _qqd {n:Nat} {ds:List D}:shp (n + 1) (.tup ds)=_qt0 n ds:=by simp [shp]
@[simp] theorem _qoc {n:Nat}:_qt0 n []=true:=by simp [_qt0]
@[simp] theorem _qnq {n:Nat} {d:D} {ds:List D}:_qt0 n (d :: ds)=(shp n d && _qt0 n ds):=by simp [_qt0]
@[simp] theorem _qnp {n:Nat} {ns:List Int}:_qt0 n (ns.map D.int)=true:=by
 induction ns with
 | nil=>simp
 | cons m ns ih=>simp [ih]
theorem _qeh {xs ys:List Int}:_qtt (xs.map D.int) (ys.map D.int)=decide (xs=ys):=by
 induction xs generalizing ys with
 | nil=>cases ys <;> simp [_qtt]
 | cons x xs ih=>cases ys with
  | nil=>simp [_qtt]
  | cons y ys=>simp [_qtt,eqD,ih]; rw [A5]; simp
theorem _zu {α:Type} {f:α->O} {g:α->D} (h:∀ a,oD (f a)=some (g a)) (l:List α):oDs (l.map f)=some (l.map g):=by
 induction l with
 | nil=>simp
 | cons a l ih=>simp [h,ih]
theorem _qlp {α:Type} {f:α->O} (h:∀ a,oim (f a)=true) (l:List α):_qtc (l.map f)=true:=by
 induction l with
 | nil=>simp
 | cons a l ih=>simp [h,ih]
theorem _jb {c:FT} {b:Blk} {ρ:Cs} (h:c (all ρ)=some false):_z4 c b ρ=some (.nx ρ):=_K6 (n:=1) (by simp [_Zt,h])
theorem _vp {c:FT} {b:Blk} {ρ ρ2:Cs} {o:Out} (h:c (all ρ)=some true) (hb:b ρ=some (.nx ρ2)) (hr:_z4 c b ρ2=some o):_z4 c b ρ=some o:=by
 obtain ⟨n,hn⟩:=_Kb hr;exact _K6 (n:=n + 1) (by simp [_Zt,h,hb,hn])
theorem _qg6 {g:GD} {b:Blk} {d:D} {ds:List D} {ρ ρ1 ρ2:Cs} (h1:g d ρ=some ρ1) (h2:b ρ1=some (.nx ρ2) \/ b ρ1=some (.ct ρ2)):_qtp g b (d :: ds) ρ=_qtp g b ds ρ2:=by
 have e:_qtp g b (d :: ds) ρ=(g d ρ).bind fun ρ1=>match b ρ1 with
  | some (.nx ρ2)=>_qtp g b ds ρ2
  | some (.ct ρ2)=>_qtp g b ds ρ2
  | some (.bk ρ2)=>some (.nx ρ2)
  | o=>o:=rfl
 rw [e,h1];rcases h2 with h2 | h2 <;> simp [h2]
theorem _qiw {g:GD} {b:Blk} {d:D} {ds:List D} {ρ ρ1 ρ2:Cs} {o:O} (h1:g d ρ=some ρ1) (h2:b ρ1=some (.rt o ρ2)):_qtp g b (d :: ds) ρ=some (.rt o ρ2):=by
 unfold _qtp;rw [h1];simp [h2]
theorem _qbk {α:Type} {inj:α->D} {g:GD} {b:Blk} (P:List α->Cs->Prop) (xs:List α) (ρ:Cs) (h0:P [] ρ)
  (step:∀ (pre:List α) (a:α) (post:List α) (ρ:Cs),xs=pre++a :: post->P pre ρ->∃ ρ1 ρ2,g (inj a) ρ=some ρ1/\(b ρ1=some (.nx ρ2) \/ b ρ1=some (.ct ρ2))/\P (pre++[a]) ρ2) :
  ∃ ρ',_qtp g b (xs.map inj) ρ=some (.nx ρ')/\P xs ρ':=by
 have key:∀ (post pre:List α) (ρ:Cs),xs=pre++post->P pre ρ->∃ ρ',_qtp g b (post.map inj) ρ=some (.nx ρ')/\P xs ρ':=by
  intro post
  induction post with
  | nil=>intro pre ρ e h; exact ⟨ρ,rfl,by rw [e,append_nil]; exact h⟩
  | cons a post ih =>
   intro pre ρ e h;obtain ⟨ρ1,ρ2,h1,h2,h3⟩:=step pre a post ρ e h;obtain ⟨ρ',e1,e2⟩:=ih (pre++[a]) ρ2 (by rw [e]; simp) h3;exact ⟨ρ',(_qg6 h1 h2).trans e1,e2⟩
 exact key xs [] ρ rfl h0
theorem _B {α:Type} {inj:α->D} {g:GE} {c:FT} {e:FO} (P:_quj->Prop) (p:α->Bool) (f:α->O) (xs:List α) (ρ:_quj) (h0:P ρ)
  (step:∀ a∈xs,∀ ρ,P ρ->∃ ρ1,g (inj a) ρ=some ρ1/\P ρ1/\c ρ1=some (p a)/\(p a=true->e ρ1=some (f a))):_v0 g c e (xs.map inj) ρ=some ((xs.filter p).map f):=by
 induction xs generalizing ρ with
 | nil=>rfl
 | cons a xs ih =>
  obtain ⟨ρ1,h1,h2,h3,h4⟩:=step a mem_cons_self ρ h0;have ih':=ih ρ1 h2 fun b m=>step b (mem_cons_of_mem _ m);rw [map_cons];unfold _v0;rw [h1];simp only [Option.bind_some,h3];cases hp:p a with
  | true=>simp [h4 hp,ih',hp]
  | false=>simp [ih',hp]
end DL
namespace DL
open PySem PySem.Spec PyProof.Rows L2
theorem _k7:A6 "list"=some (.type "list"):=by decide +kernel
theorem _vk:A6 "tuple"=some (.type "tuple"):=by decide +kernel
theorem _qq1:A6 "set"=some (.type "set"):=by decide +kernel
theorem _Z6:A6 "enumerate"=some (.type "enumerate"):=by decide +kernel
theorem _qq0:A6 "zip"=some (.type "zip"):=by decide +kernel
theorem _qnc:A6 "abs"=some (.builtin "abs"):=by decide +kernel
theorem _qq3:A6 "max"=some (.builtin "max"):=by decide +kernel
theorem _qq2:A6 "min"=some (.builtin "min"):=by decide +kernel
theorem _wr:A6 "len"=some (.builtin "len"):=by decide +kernel
theorem _qjj:A6 "sum"=some (.builtin "sum"):=by decide +kernel
theorem _j7:A6 "sorted"=some (.builtin "sorted"):=by decide +kernel
theorem _qnb:A6 "all"=some (.builtin "all"):=by decide +kernel
theorem _Xf:A6 "isinstance"=some (.builtin "isinstance"):=by decide +kernel
end DL
set_option maxHeartbeats 1000000
namespace DL
open PySem PySem.Spec PyProof.Rows L2
abbrev St:=L2.St
theorem seqT {K:Frag} {H H':Hp} {a:Addr} {xs:List V} (e:_qu9 H H') (h:SqT K H a xs):SqT K H' a xs:=by
 rcases h with (h | ⟨o,h⟩) | h
 ·exact .inl (.inl (e _ _ h))
 ·exact .inl (.inr ⟨o,e _ _ h⟩)
 ·exact .inr h
def SqE (K:Frag) (H:Hp) (a:Addr) (xs:List V):Prop :=
 Rd H a (.lst xs) \/ ∃ (its:List Value) (n:Nat),K.lookup a=some { cls:=.type "list",data:=.seq its.toArray n }/\xs.length <= Aj/\_qu8 xs its
theorem SqE.l {K:Frag} {H:Hp} {a:Addr} {xs:List V} (h:SqE K H a xs):SqL K H a xs:=by
 rcases h with h | ⟨its,n,h,hz,r⟩
 ·exact .inl h
 ·exact .inr ⟨_,its.toArray,n,h,rfl,rfl,rfl,by rw [size_toArray,<- r.length]; exact hz,by simpa using r⟩
theorem _qt1 {K:Frag} {H H':Hp} {a:Addr} {xs:List V} (e:_qu9 H H') (h:SqE K H a xs):SqE K H' a xs:=by
 rcases h with (h | ⟨o,h⟩) | h
 ·exact .inl (.inl (e _ _ h))
 ·exact .inl (.inr ⟨o,e _ _ h⟩)
 ·exact .inr h
theorem Inv.listE {X:Cx} {pins:List (Addr × Obj)} {σ:St} {H:Hp} {s:Shared} {a:Addr} {xs:List V} (I:Inv X pins σ H s) (h:SqE X.K H a xs) :
  ∃ (its:List Value) (n:Nat),_qu8 xs its/\s.heap.get? a=some { cls:=.type "list",data:=.seq its.toArray n }/\xs.length <= Aj:=by
 rcases h with h | ⟨its,n,h,hz,r⟩
 ·obtain ⟨z,its,n,r,e⟩:=h.ok I.hok
  exact ⟨its,n,r,e,z⟩
 ·exact ⟨its,n,r,I.kIn a _ h,hz⟩
mutual
inductive Rep (K:Frag) (F:Hp):V->D->Prop
 | non:Rep K F .non .non
 | bl (b:Bool):Rep K F (.bl b) (.bl b)
 | int (i:Int):Rep K F (.int i) (.int i)
 | str (x:Str):Rep K F (.str x) (.str x)
 | lst {a:Addr} {vs:List V} {ds:List D} (h:SqE K F a vs) (r:Reps K F vs ds):Rep K F (.ref a) (.lst ds)
 | tup {a:Addr} {vs:List V} {ds:List D} (h:SqT K F a vs) (r:Reps K F vs ds):Rep K F (.ref a) (.tup ds)
inductive Reps (K:Frag) (F:Hp):List V->List D->Prop
 | nil:Reps K F [] []
 | cons {v:V} {d:D} {vs:List V} {ds:List D} (h:Rep K F v d) (t:Reps K F vs ds):Reps K F (v :: vs) (d :: ds)
end
theorem _xk {K:Frag} {F F':Hp} (e:_qu9 F F'):(∀ {v:V} {d:D},Rep K F v d->Rep K F' v d)/\∀ {vs:List V} {ds:List D},Reps K F vs ds->Reps K F' vs ds:=by
 refine ⟨@Rep.rec K F (fun v d _=>Rep K F' v d) (fun v d _=>Reps K F' v d) .non .bl .int .str ?a ?b .nil ?c,@Reps.rec K F (fun v d _=>Rep K F' v d) (fun v d _=>Reps K F' v d) .non .bl .int .str ?a ?b .nil ?c⟩
 case a=>exact fun h _ r=>.lst (_qt1 e h) r
 case b=>exact fun h _ r=>.tup (seqT e h) r
 case c=>exact fun _ _ h t=>.cons h t
theorem Rep.mono {K:Frag} {F F':Hp} (e:_qu9 F F') {v:V} {d:D} (h:Rep K F v d):Rep K F' v d:=(_xk e).1 h
theorem Reps.mono {K:Frag} {F F':Hp} (e:_qu9 F F') {vs:List V} {ds:List D} (h:Reps K F vs ds):Reps K F' vs ds:=(_xk e).2 h
section
variable {K:Frag} {F:Hp}
theorem Reps.length {vs:List V} {ds:List D} (r:Reps K F vs ds):vs.length=ds.length:=by
 induction vs generalizing ds with
 | nil=>cases r; rfl
 | cons v vs ih=>cases r with | cons h t=>simp [ih t]
theorem Reps.get {vs:List V} {ds:List D} (r:Reps K F vs ds) {i:Nat} {v:V} (h:vs[i]?=some v):∃ d,ds[i]?=some d/\Rep K F v d:=by
 induction vs generalizing ds i with
 | nil=>simp at h
 | cons w vs ih =>
  cases r with
  | cons q t =>
   cases i with
   | zero=>simp at h; subst h; exact ⟨_,rfl,q⟩
   | succ i=>exact ih t (by simpa using h)
theorem Reps.getD {vs:List V} {ds:List D} (r:Reps K F vs ds) {i:Nat} {d:D} (h:ds[i]?=some d):∃ v,vs[i]?=some v/\Rep K F v d:=by
 induction vs generalizing ds i with
 | nil=>cases r; simp at h
 | cons w vs ih =>
  cases r with
  | cons q t =>
   cases i with
   | zero=>simp at h; subst h; exact ⟨_,rfl,q⟩
   | succ i=>exact ih t (by simpa using h)
theorem Reps.append {vs ws:List V} {ds es:List D} (r:Reps K F vs ds) (q:Reps K F ws es):Reps K F (vs++ws) (ds++es):=by
 induction vs generalizing ds with
 | nil=>cases r; exact q
 | cons v vs ih=>cases r with | cons h t=>exact .cons h (ih t)
theorem Reps.take {vs:List V} {ds:List D} (r:Reps K F vs ds) (n:Nat):Reps K F (vs.take n) (ds.take n):=by
 induction vs generalizing ds n with
 | nil=>cases r; simp; exact .nil
 | cons v vs ih=>cases r with | cons h t=>cases n with
  | zero=>exact .nil
  | succ n=>exact .cons h (ih t n)
theorem Reps.drop {vs:List V} {ds:List D} (r:Reps K F vs ds) (n:Nat):Reps K F (vs.drop n) (ds.drop n):=by
 induction vs generalizing ds n with
 | nil=>cases r; simp; exact .nil
 | cons v vs ih=>cases r with | cons h t=>cases n with
  | zero=>exact .cons h t
  | succ n=>exact ih t n
theorem _R (ns:List Int):Reps K F (ns.map V.int) (ns.map D.int):=by
 induction ns with
 | nil=>exact .nil
 | cons n ns ih=>exact .cons (.int n) ih
end
structure Ext (F H F' H':Hp):Prop where
 ff:_qu9 F F'
 fh:_qu9 F' H'
 hh:_qu9 H H'
 nw:∀ b o,F' b=some o->F b=some o \/ H b=none
theorem Ext.refl {F H:Hp} (s:_qu9 F H):Ext F H F H:=⟨_qu9.refl _,s,_qu9.refl _,fun _ _ h=>.inl h⟩
theorem Ext.trans {F H F1 H1 F2 H2:Hp} (a:Ext F H F1 H1) (b:Ext F1 H1 F2 H2):Ext F H F2 H2 :=
 ⟨a.ff.trans b.ff,b.fh,a.hh.trans b.hh,fun c o h=>by
  rcases b.nw c o h with h | h
  ·exact a.nw c o h
  ·exact .inr (a.hh.free h)⟩
theorem _i {H:Hp} {l:Addr} {o:HO} (h:H l=none):_qu9 H (upd H l o):=fun b u e=>by rw [_e (_c e h)]; exact e
theorem Ext.laid {F H:Hp} (s:_qu9 F H) {l:Addr} {o:HO} (h:H l=none):Ext F H (upd F l o) (upd H l o) :=
 ⟨_i (s.free h),fun b u e=>by
   by_cases hb:b=l
   ·subst hb; rw [_a] at e ⊢; exact e
   ·rw [_e hb] at e ⊢; exact s _ _ e,
  _i h,fun b u e=>by
   by_cases hb:b=l
   ·subst hb; exact .inr h
   ·rw [_e hb] at e; exact .inl e⟩
theorem Ext.laidH {F H:Hp} (s:_qu9 F H) {l:Addr} {o:HO} (h:H l=none):Ext F H F (upd H l o) :=
 ⟨_qu9.refl _,s.trans (_i h),_i h,fun _ _ e=>.inl e⟩
theorem Ext.keep {F H F' H':Hp} (e:Ext F H F' H') {l:Addr} {o:HO} (h:H l=none) (h1:F' l=none) (h2:H' l=some o):Ext F H (upd F' l o) H' :=
 ⟨e.ff.trans (_i h1),fun b u q=>by
   by_cases hb:b=l
   ·subst hb; rw [_a] at q; rw [<- q]; exact h2
   ·rw [_e hb] at q; exact e.fh _ _ q,
  e.hh,fun b u q=>by
   by_cases hb:b=l
   ·subst hb; exact .inr h
   ·rw [_e hb] at q; exact e.nw b u q⟩
def RE (K:Frag) (F:Hp) (σ:St) (ρ:_quj):Prop:=∀ (i:Nat) (d:D),ρ[i]?=some (some d)->∃ v,σ[i]?=some (some v)/\Rep K F v d
theorem RE.mono {K:Frag} {F F':Hp} {σ:St} {ρ:_quj} (r:RE K F σ ρ) (e:_qu9 F F'):RE K F' σ ρ:=fun i d h=>by
 obtain ⟨v,h1,h2⟩:=r i d h;exact ⟨v,h1,h2.mono e⟩
def tD (K:Frag) (f:FE):TE:=fun σ H Q=>∃ F ρ d,_qu9 F H/\RE K F σ ρ/\f ρ=some d/\∀ v F' H',Ext F H F' H'->Rep K F' v d->Q v H'
def tDT (K:Frag) (f:FT):TT:=fun σ H Q=>∃ F ρ b,_qu9 F H/\RE K F σ ρ/\f ρ=some b/\∀ F' H',Ext F H F' H'->Q b H'
def tDA (K:Frag) (f:FA):TA:=fun σ H Q=>∃ F ρ ds,_qu9 F H/\RE K F σ ρ/\f ρ=some ds/\∀ vs F' H',Ext F H F' H'->Reps K F' vs ds->Q vs H'
def DE (X:Cx) (e:Expr) (f:FE):Prop:=PE X e (tD X.K f)
def DT (X:Cx) (e:Expr) (f:FT):Prop:=PT X e (tDT X.K f)
def DW (X:Cx) (e:Expr) (f:FT):Prop:=PW X e (tDT X.K f)
def DA (X:Cx) (es:List Expr) (f:FA):Prop:=PA X es (tDA X.K f)
theorem PE.imp {X:Cx} {e:Expr} {t t':TE} (h:PE X e t) (i:∀ σ H Q,t' σ H Q->t σ H Q):PE X e t':=fun pins s σ H Q I q=>h pins s σ H Q I (i σ H Q q)
theorem PT.imp {X:Cx} {e:Expr} {t t':TT} (h:PT X e t) (i:∀ σ H Q,t' σ H Q->t σ H Q):PT X e t':=fun pins s σ H Q I q=>h pins s σ H Q I (i σ H Q q)
theorem PW.imp {X:Cx} {e:Expr} {t t':TT} (h:PW X e t) (i:∀ σ H Q,t' σ H Q->t σ H Q):PW X e t':=fun wh pins s σ H Q I q=>h wh pins s σ H Q I (i σ H Q q)
theorem PA.imp {X:Cx} {e:List Expr} {t t':TA} (h:PA X e t) (i:∀ σ H Q,t' σ H Q->t σ H Q):PA X e t':=fun pos pins s σ H Q I q=>h pos pins s σ H Q I (i σ H Q q)
theorem PS.imp {X:Cx} {st:Stmt} {t t':TS} (h:PS X st t) (i:∀ E σ H,t' E σ H->t E σ H):PS X st t':=fun pins s σ H E I q=>h pins s σ H E I (i E σ H q)
theorem PSs.imp {X:Cx} {st:List Stmt} {t t':TS} (h:PSs X st t) (i:∀ E σ H,t' E σ H->t E σ H):PSs X st t':=fun pins s σ H E I q=>h pins s σ H E I (i E σ H q)
theorem PG.imp {X:Cx} {tg:Expr} {t t':TG} (h:PG X tg t) (i:∀ v σ H Q,t' v σ H Q->t v σ H Q):PG X tg t':=fun pins s σ H v u Q I r q=>h pins s σ H v u Q I r (i v σ H Q q)
section
variable {X:Cx} {a b c:Expr} {pos:Pos}
theorem _g (i:Nat) {x:Str} {pos:Pos} (h:PE X (.Name x pos) (_qsw i)):DE X (.Name x pos) (_qtq i):=by
 refine PE.imp h fun σ H Q q=>?_;obtain ⟨F,ρ,d,s,r,hf,k⟩:=q;have e:ρ[i]?=some (some d):=by
  unfold _qtq at hf;cases q:ρ[i]? with
  | none=>rw [q] at hf; cases hf
  | some o=>rw [q] at hf; cases o with
   | none=>cases hf
   | some d'=>cases hf; rfl
 obtain ⟨v,h1,h2⟩:=r i d e;exact ⟨v,h1,k v F H (Ext.refl s) h2⟩
theorem de_c {e:Expr} {v:V} {d:D} (h:PE X e (tC v)) (r:∀ F,Rep X.K F v d):DE X e (fC d):=by
 refine PE.imp h fun σ H Q q=>?_;obtain ⟨F,ρ,d',s,_,hf,k⟩:=q;cases hf;exact k v F H (Ext.refl s) (r F)
theorem _r {i j pos}:DE X (.Constant (.int i) j pos) (fC (.int i)):=de_c _m fun _=>.int i
theorem _Wp {j pos}:DE X (.Constant .none j pos) (fC .non):=de_c _ql4 fun _=>.non
def OpD (K:Frag) (r:R2) (g:D->D->Option D):Prop:=∀ x y d F H v u Q,g x y=some d->_qu9 F H->Rep K F v x->Rep K F u y->(∀ w F' H',Ext F H F' H'->Rep K F' w d->Q w H')->r v u H Q
def UnD (K:Frag) (r:V->Hp->VK->Prop) (g:D->Option D):Prop:=∀ x d F H v Q,g x=some d->_qu9 F H->Rep K F v x->(∀ w F' H',Ext F H F' H'->Rep K F' w d->Q w H')->r v H Q
theorem d_op {K:Frag} {r:R2} {g:D->D->Option D} (hr:OpD K r g) {fa fb:FE} {σ:St} {H:Hp} {Q:VK} (q:tD K (f2 g fa fb) σ H Q):tOp r (tD K fa) (tD K fb) σ H Q:=by
 obtain ⟨F,ρ,d,s,re,hf,k⟩:=q;obtain ⟨x,hx,hf⟩:=bind_some hf;obtain ⟨y,hy,hf⟩:=bind_some hf;exact ⟨F,ρ,x,s,re,hx,fun v F1 H1 e1 r1=>⟨F1,ρ,y,e1.fh,re.mono e1.ff,hy,fun u F2 H2 e2 r2=>hr x y d F2 H2 v u Q hf e2.fh (r1.mono e2.ff) r2 fun w F' H' e' r'=>k w F' H' ((e1.trans e2).trans e') r'⟩⟩
theorem d_un {K:Frag} {r:V->Hp->VK->Prop} {g:D->Option D} (hr:UnD K r g) {fa:FE} {σ:St} {H:Hp} {Q:VK} (q:tD K (f1 g fa) σ H Q):tUn r (tD K fa) σ H Q:=by
 obtain ⟨F,ρ,d,s,re,hf,k⟩:=q;obtain ⟨x,hx,hf⟩:=bind_some hf;exact ⟨F,ρ,x,s,re,hx,fun v F1 H1 e1 r1=>hr x d F1 H1 v Q hf e1.fh r1 fun w F' H' e' r'=>k w F' H' (e1.trans e') r'⟩
theorem _xd {op:Operator} {r:R2} {g:D->D->Option D} {fa fb:FE} (ho:OpR X (Dg op) r) (hr:OpD X.K r g) (ha:DE X a fa) (hb:DE X b fb):DE X (.BinOp a op b pos) (f2 g fa fb) :=
 PE.imp (_q3 ho ha hb) fun _ _ _ q=>d_op hr q
theorem de_un {op:UnaryOp} {r:V->Hp->VK->Prop} {g:D->Option D} {fa:FE} (ho:UnR X (unaryOp op) r) (hr:UnD X.K r g) (ha:DE X a fa):DE X (.UnaryOp op a pos) (f1 g fa) :=
 PE.imp (pe_un ho ha) fun _ _ _ q=>d_un hr q
theorem _qmy {op:CmpOp} {r:R2} {g:D->D->Option D} {fa fb:FE} (ho:OpR X (Bm op) r) (hr:OpD X.K r g) (ha:DE X a fa) (hb:DE X b fb) (hm:Cy op b=false):DE X (.Compare a [op] [b] pos) (f2 g fa fb) :=
 PE.imp (_qfm ho ha hb hm) fun _ _ _ q=>d_op hr q
theorem OpR.or {f:Value->Value->Sem Value} {r r':R2} (h:OpR X f r) (h':OpR X f r'):OpR X f (fun x y H Q=>r x y H Q \/ r' x y H Q):=by
 intro pins s σ H x y v u Q I rx ry q;rcases q with q | q
 ·exact h pins s σ H x y v u Q I rx ry q
 ·exact h' pins s σ H x y v u Q I rx ry q
theorem _qfh {f:FE} {ρ:_quj} {b:Bool} (h:qV f ρ=some b):f ρ=some (.bl b):=by
 obtain ⟨d,h1,h2⟩:=bind_some h;cases d <;> cases h2;exact h1
theorem _qj2 {f:FE} (h:DE X a f) (he:∀ whole,Mm a X.env whole=(do let v <- whole; Mg a.pos; I0 [v] (truthy v)):=by intro _; rfl):DT X a (qV f):=by
 refine PT.imp (_qh8 h he) fun σ H Q q=>?_;obtain ⟨F,ρ,b,s,re,hf,k⟩:=q;exact ⟨F,ρ,.bl b,s,re,_qfh hf,fun v F' H' e r=>by cases r; exact ⟨b,rfl,k F' H' e⟩⟩
theorem _x6 {op:CmpOp} {r:R2} {g:D->D->Option D} {fa fb:FE} (ho:OpR X (Bm op) r) (hr:OpD X.K r g) (ha:DE X a fa) (hb:DE X b fb) (hm:Cy op b=false):DT X (.Compare a [op] [b] pos) (qV (f2 g fa fb)):=by
 refine PT.imp (_qd ho ha hb hm) fun σ H Q q=>?_;obtain ⟨F,ρ,c,s,re,hf,k⟩:=q;refine d_op (K:=X.K) hr (σ:=σ) (H:=H) ⟨F,ρ,.bl c,s,re,_qfh hf,fun v F' H' e r=>?_⟩;cases r;exact ⟨c,rfl,k F' H' e⟩
variable {_qt6:List Expr}
theorem _qpq {f:FT} (h:DT X a f):DW X (.BoolOp .Or [a] pos) f:=_qdg h
theorem dw_or {f g:FT} (h:DT X a f) (h':DW X (.BoolOp .Or (b :: _qt6) pos) g):DW X (.BoolOp .Or (a :: b :: _qt6) pos) (qOr f g):=by
 refine PW.imp (pw_or h h') fun σ H Q q=>?_;obtain ⟨F,ρ,c,s,re,hf,k⟩:=q;obtain ⟨x,hx,hf⟩:=bind_some hf;refine ⟨F,ρ,x,s,re,hx,fun F1 H1 e1=>?_⟩;cases x with
 | true=>rw [if_pos rfl] at hf ⊢; cases hf; exact k F1 H1 e1
 | false=>rw [if_neg An] at hf ⊢; exact ⟨F1,ρ,c,e1.fh,re.mono e1.ff,hf,fun F2 H2 e2=>k F2 H2 (e1.trans e2)⟩
theorem DW.dt {e:Expr} {f:FT} (h:DW X e f):DT X e f:=h _
theorem de_if {t:Expr} {q:FT} {f g:FE} (hc:DT X t q) (ha:DE X a f) (hb:DE X b g):DE X (.IfExp t a b pos) (fIf q f g):=by
 refine PE.imp (_qhh hc ha hb) fun σ H Q q=>?_;obtain ⟨F,ρ,d,s,re,hf,k⟩:=q;obtain ⟨x,hx,hf⟩:=bind_some hf;refine ⟨F,ρ,x,s,re,hx,fun F1 H1 e1=>?_⟩;cases x with
 | true=>rw [if_pos rfl] at hf ⊢; exact ⟨F1,ρ,d,e1.fh,re.mono e1.ff,hf,fun w F2 H2 e2 r2=>k w F2 H2 (e1.trans e2) r2⟩
 | false=>rw [if_neg An] at hf ⊢; exact ⟨F1,ρ,d,e1.fh,re.mono e1.ff,hf,fun w F2 H2 e2 r2=>k w F2 H2 (e1.trans e2) r2⟩
variable {es:List Expr}
theorem _l:DA X [] _qu6:=by
 refine PA.imp _n fun σ H Q q=>?_;obtain ⟨F,ρ,d,s,re,hf,k⟩:=q;cases hf;exact k [] F H (Ext.refl s) .nil
theorem _b {f:FE} {g:FA} (ha:DE X a f) (hr:DA X es g) (hs:Ap (a :: es) X.env=(false,eval a X.env) :: Ap es X.env:=by rfl):DA X (a :: es) (_k f g):=by
 refine PA.imp (_d ha hr hs) fun σ H Q q=>?_;obtain ⟨F,ρ,ds,s,re,hf,k⟩:=q;obtain ⟨d,hd,hf⟩:=bind_some hf;cases hg:g ρ with
 | none=>rw [hg] at hf; cases hf
 | some ds' =>
  rw [hg] at hf;cases hf;exact ⟨F,ρ,d,s,re,hd,fun v F1 H1 e1 r1=>⟨F1,ρ,ds',e1.fh,re.mono e1.ff,hg,fun vs F2 H2 e2 r2=>k _ F2 H2 (e1.trans e2) (.cons (r1.mono e2.ff) r2)⟩⟩
theorem _z0 {n:Nat} (h:n <= _qug):n <= Aj:=le_trans h (by unfold _qug; decide)
theorem _Q9 {x1} {g:FA} (h:DA X es g):DE X (.Tuple es x1 pos) (_qtr g):=by
 refine PE.imp (_We h) fun σ H Q q=>?_;obtain ⟨F,ρ,d,s,re,hf,k⟩:=q;obtain ⟨ds,hd,hf⟩:=bind_some hf;split at hf
 ·rename_i hl
  cases hf;exact ⟨F,ρ,ds,s,re,hd,fun vs F1 H1 e1 r1=>⟨by rw [r1.length]; exact _z0 hl,fun p hp=>k _ _ _ (e1.trans (Ext.laid e1.fh hp)) (.tup (.inl (.inl _a)) (r1.mono (_i (e1.fh.free hp))))⟩⟩
 ·cases hf
def spD (K:Frag) (n:Nat) (g:List D->Option D):Sp:=fun vs H Q _=>∃ F ds d,_qu9 F H/\Reps K F vs ds/\ds.length=n/\g ds=some d/\∀ v F' H',Ext F H F' H'->Rep K F' v d->Q v H'
variable {k n:Nat} {f:Addr} {fd:Am} {ps:List Str} {x:Str} {p:Pos}
theorem _qmz {g:List D->Option D} {h:FA} (G:FnOk X.prog X.w X.K X.mg X.base CX0 k f fd ps (spD X.K n g)) (hr:Room k X.A) (hg:Gl X x) (hm:X.mg x=some (.ref f)) (hk:Gr X.K (.ref f)=true) (hb:Binds X.K fd ps [])
  (ha:DA X (a :: es) h) (hdb:(x == ("__debug__":Str))=false:=by decide) (he:Ap (a :: es) X.env=(false,eval a X.env) :: Ap es X.env:=by rfl) (hpl:(C1 pos (Ap es X.env)).any (·.1)=false:=by rfl) :
  DE X (.Call (.Name x p) (a :: es) [] pos) (_q1 n g h):=by
 refine PE.imp (_q6 G hr hg hm hk hb .nil _zs ha hdb he hpl) fun σ H Q q=>?_;obtain ⟨F,ρ,d,s,re,hf,k⟩:=q;obtain ⟨ds,hd,hf⟩:=bind_some hf;refine ⟨F,ρ,ds,s,re,hd,fun vs F1 H1 e1 r1=>?_⟩;dsimp only;rw [append_nil];split at hf
 ·rename_i hl
  exact ⟨F1,ds,d,e1.fh,r1,hl,hf,fun v F2 H2 e2 r2=>k v F2 H2 (e1.trans e2) r2⟩
 ·cases hf
def _qno (K:Frag) (r:List V->Hp->VK->Prop) (g:List D->Option D):Prop:=∀ ds d F H vs Q,g ds=some d->_qu9 F H->Reps K F vs ds->(∀ w F' H',Ext F H F' H'->Rep K F' w d->Q w H')->r vs H Q
theorem _j5 {id:String} {r:List V->Hp->VK->Prop} {g:List D->Option D} {h:FA} (hc:_wh X (.builtin id) r) (hr:_qno X.K r g) (hg:Gl X x) (hm:X.mg x=none) (hv:A6 x=some (.builtin id)) (ha:DA X (a :: es) h)
  (hn:x ≠ "__name__":=by decide) (hdb:(x == ("__debug__":Str))=false:=by decide)
  (he:Ap (a :: es) X.env=(false,eval a X.env) :: Ap es X.env:=by rfl) (hpl:(C1 pos (Ap es X.env)).any (·.1)=false:=by rfl):DE X (.Call (.Name x p) (a :: es) [] pos) (_qts g h):=by
 refine PE.imp (_V hc hg hm hv ha hn hdb he hpl) fun σ H Q q=>?_;obtain ⟨F,ρ,d,s,re,hf,k⟩:=q;obtain ⟨ds,hd,hf⟩:=bind_some hf;exact ⟨F,ρ,ds,s,re,hd,fun vs F1 H1 e1 r1=>hr ds d F1 H1 vs Q hf e1.fh r1 fun w F' H' e' r'=>k w F' H' (e1.trans e') r'⟩
end
end DL
namespace DL
open PySem PySem.Spec PyProof.Rows L2
abbrev AS:=Addr->Prop
mutual
inductive Own (K:Frag) (F H:Hp):V->O->AS->Prop
 | sh {v:V} {d:D} {A:AS} (h:Rep K F v d) (hA:∀ b,¬ A b):Own K F H v (.sh d) A
 | lst {a:Addr} {vs:List V} {os:List O} {A' A:AS} (h:H a=some (.lst vs)) (n:¬ A' a) (r:Owns K F H vs os A') (hA:∀ b,A b ↔ b=a \/ A' b):Own K F H (.ref a) (.lst os) A
 | tup {a:Addr} {vs:List V} {os:List O} {A:AS} (h:F a=some (.tup vs)) (r:Owns K F H vs os A):Own K F H (.ref a) (.tup os) A
inductive Owns (K:Frag) (F H:Hp):List V->List O->AS->Prop
 | nil {A:AS} (hA:∀ b,¬ A b):Owns K F H [] [] A
 | cons {v:V} {o:O} {vs:List V} {os:List O} {A1 A2 A:AS} (h:Own K F H v o A1) (t:Owns K F H vs os A2) (d:∀ b,A1 b->¬ A2 b) (hA:∀ b,A b ↔ A1 b \/ A2 b):Owns K F H (v :: vs) (o :: os) A
end
section
variable {K:Frag} {F F' H H':Hp}
theorem _V1:(∀ {v:V} {o:O} {A:AS},Own K F H v o A->∀ b,A b->∃ u,H b=some u/\∀ xs,u ≠ .tup xs/\∀ ob w,u ≠ .frz ob w)/\∀ {vs:List V} {os:List O} {A:AS},Owns K F H vs os A->∀ b,A b->∃ u,H b=some u/\∀ xs,u ≠ .tup xs/\∀ ob w,u ≠ .frz ob w:=by
 refine ⟨@Own.rec K F H (fun _ _ A _=>∀ b,A b->∃ u,H b=some u/\∀ xs,u ≠ .tup xs/\∀ ob w,u ≠ .frz ob w) (fun _ _ A _=>∀ b,A b->∃ u,H b=some u/\∀ xs,u ≠ .tup xs/\∀ ob w,u ≠ .frz ob w) ?a ?b ?c ?a2 ?d,@Owns.rec K F H (fun _ _ A _=>∀ b,A b->∃ u,H b=some u/\∀ xs,u ≠ .tup xs/\∀ ob w,u ≠ .frz ob w) (fun _ _ A _=>∀ b,A b->∃ u,H b=some u/\∀ xs,u ≠ .tup xs/\∀ ob w,u ≠ .frz ob w) ?a ?b ?c ?a2 ?d⟩
 case a=>exact fun _ hA b h=>absurd h (hA b)
 case b =>
  intro a vs os A' A h n r hA ih b hb;rcases (hA b).mp hb with rfl | z
  ·exact ⟨_,h,fun xs=>⟨(fun z=>by cases z),fun _ _ z=>by cases z⟩⟩
  ·exact ih b z
 case c=>exact fun _ _ ih=>ih
 case a2=>exact fun hA b h=>absurd h (hA b)
 case d =>
  intro v o vs os A1 A2 A h t d hA ih it b hb;rcases (hA b).mp hb with z | z
  ·exact ih b z
  ·exact it b z
theorem Own.there {v:V} {o:O} {A:AS} (h:Own K F H v o A):∀ b,A b->∃ u,H b=some u/\∀ xs,u ≠ .tup xs/\∀ ob w,u ≠ .frz ob w:=_V1.1 h
theorem Owns.there {vs:List V} {os:List O} {A:AS} (h:Owns K F H vs os A):∀ b,A b->∃ u,H b=some u/\∀ xs,u ≠ .tup xs/\∀ ob w,u ≠ .frz ob w:=_V1.2 h
theorem _qa7 (e:_qu9 F F'):(∀ {v:V} {o:O} {A:AS},Own K F H v o A->(∀ b,A b->H' b=H b)->Own K F' H' v o A)/\∀ {vs:List V} {os:List O} {A:AS},Owns K F H vs os A->(∀ b,A b->H' b=H b)->Owns K F' H' vs os A:=by
 refine ⟨@Own.rec K F H (fun v o A _=>(∀ b,A b->H' b=H b)->Own K F' H' v o A) (fun v o A _=>(∀ b,A b->H' b=H b)->Owns K F' H' v o A) ?a ?b ?c ?a2 ?d,@Owns.rec K F H (fun v o A _=>(∀ b,A b->H' b=H b)->Own K F' H' v o A) (fun v o A _=>(∀ b,A b->H' b=H b)->Owns K F' H' v o A) ?a ?b ?c ?a2 ?d⟩
 case a=>exact fun h hA _=>.sh (h.mono e) hA
 case b=>exact fun h n _ hA ih k=>.lst ((k _ ((hA _).mpr (.inl rfl))).trans h) n (ih fun b z=>k b ((hA b).mpr (.inr z))) hA
 case c=>exact fun h _ ih k=>.tup (e _ _ h) (ih k)
 case a2=>exact fun hA _=>.nil hA
 case d=>exact fun _ _ d hA ih it k=>.cons (ih fun b z=>k b ((hA b).mpr (.inl z))) (it fun b z=>k b ((hA b).mpr (.inr z))) d hA
theorem Own.stay (e:_qu9 F F') {v:V} {o:O} {A:AS} (h:Own K F H v o A) (k:∀ b,A b->H' b=H b):Own K F' H' v o A:=(_qa7 e).1 h k
theorem Owns.stay (e:_qu9 F F') {vs:List V} {os:List O} {A:AS} (h:Owns K F H vs os A) (k:∀ b,A b->H' b=H b):Owns K F' H' vs os A:=(_qa7 e).2 h k
theorem Own.ext (e:_qu9 F F') (s:_qu9 H H') {v:V} {o:O} {A:AS} (h:Own K F H v o A):Own K F' H' v o A:=h.stay e fun b z=>by
 obtain ⟨u,e1,_⟩:=h.there b z;rw [e1,s _ _ e1]
theorem Owns.ext (e:_qu9 F F') (s:_qu9 H H') {vs:List V} {os:List O} {A:AS} (h:Owns K F H vs os A):Owns K F' H' vs os A:=h.stay e fun b z=>by
 obtain ⟨u,e1,_⟩:=h.there b z;rw [e1,s _ _ e1]
theorem Own.congr {v:V} {o:O} {A A':AS} (h:Own K F H v o A) (e:∀ b,A b ↔ A' b):Own K F H v o A':=by
 have:A=A':=funext fun b=>propext (e b)
 subst this; exact h
theorem Owns.congr {v:List V} {o:List O} {A A':AS} (h:Owns K F H v o A) (e:∀ b,A b ↔ A' b):Owns K F H v o A':=by
 have:A=A':=funext fun b=>propext (e b)
 subst this; exact h
theorem Owns.length {vs:List V} {os:List O} {A:AS} (h:Owns K F H vs os A):vs.length=os.length :=
 Owns.rec (motive_1:=fun _ _ _ _=>True) (motive_2:=fun vs os _ _=>vs.length=os.length) (fun _ _=>trivial) (fun _ _ _ _ _=>trivial) (fun _ _ _=>trivial) (fun _=>rfl) (fun _ _ _ _ _ it=>congrArg Nat.succ it) h
open Classical in
noncomputable def _qu5 (F H:Hp) (A:AS):Hp:=fun b=>if A b then H b else F b
theorem _xv {A:AS} {b:Addr} (h:A b):_qu5 F H A b=H b:=by unfold _qu5; exact if_pos h
theorem _jp {A:AS} {b:Addr} (h:¬ A b):_qu5 F H A b=F b:=by unfold _qu5; exact if_neg h
theorem _kb {A:AS} (h:∀ b,A b->F b=none):_qu9 F (_qu5 F H A):=fun b o e=>by
 rw [_jp fun z=>by rw [h b z] at e; cases e]; exact e
theorem _qcq {A:AS} (s:_qu9 F H):_qu9 (_qu5 F H A) H:=fun b o e=>by
 by_cases z:A b
 ·rw [_xv z] at e; exact e
 ·rw [_jp z] at e; exact s _ _ e
theorem _Vh {F₀ B:Hp} {A:AS} (e:Ext F₀ B F H) (h:∀ b,A b->F b=none/\B b=none):Ext F₀ B (_qu5 F H A) H :=
 ⟨e.ff.trans (_kb fun b z=>(h b z).1),_qcq e.fh,e.hh,fun b o q=>by
  by_cases z:A b
  ·exact .inr (h b z).2
  ·rw [_jp z] at q; exact e.nw b o q⟩
theorem _qfp {G:Hp} (sF:_qu9 F G):(∀ {v:V} {o:O} {A:AS},Own K F H v o A->∀ {d:D},oD o=some d->(∀ b,A b->G b=H b)->Rep K G v d)/\∀ {vs:List V} {os:List O} {A:AS},Owns K F H vs os A->∀ {ds:List D},oDs os=some ds->(∀ b,A b->G b=H b)->Reps K G vs ds:=by
 refine ⟨@Own.rec K F H (fun v o A _=>∀ {d:D},oD o=some d->(∀ b,A b->G b=H b)->Rep K G v d) (fun v o A _=>∀ {d:List D},oDs o=some d->(∀ b,A b->G b=H b)->Reps K G v d) ?a ?b ?c ?a2 ?d,@Owns.rec K F H (fun v o A _=>∀ {d:D},oD o=some d->(∀ b,A b->G b=H b)->Rep K G v d) (fun v o A _=>∀ {d:List D},oDs o=some d->(∀ b,A b->G b=H b)->Reps K G v d) ?a ?b ?c ?a2 ?d⟩
 case a =>
  intro v d A h hA d' e _;cases e; exact h.mono sF
 case b =>
  intro a vs os A' A h n r hA ih d e k;obtain ⟨ds,hd,rfl⟩:=map_some (by simpa [oD] using e);exact .lst (.inl (.inl ((k _ ((hA _).mpr (.inl rfl))).trans h))) (ih hd fun b z=>k b ((hA b).mpr (.inr z)))
 case c =>
  intro a vs os A h r ih d e k;obtain ⟨ds,hd,rfl⟩:=map_some (by simpa [oD] using e);exact .tup (.inl (.inl (sF _ _ h))) (ih hd k)
 case a2 =>
  intro A hA ds e _;cases e; exact .nil
 case d =>
  intro v o vs os A1 A2 A h t d hA ih it ds e k;obtain ⟨d,hd,e⟩:=bind_some (by simpa [oDs] using e);obtain ⟨ds,hds,rfl⟩:=map_some e;exact .cons (ih hd fun b z=>k b ((hA b).mpr (.inl z))) (it hds fun b z=>k b ((hA b).mpr (.inr z)))
theorem Own.rep {G:Hp} (sF:_qu9 F G) {v:V} {o:O} {A:AS} {d:D} (h:Own K F H v o A) (e:oD o=some d) (k:∀ b,A b->G b=H b):Rep K G v d:=(_qfp sF).1 h e k
theorem Owns.rep {G:Hp} (sF:_qu9 F G) {vs:List V} {os:List O} {A:AS} {ds:List D} (h:Owns K F H vs os A) (e:oDs os=some ds) (k:∀ b,A b->G b=H b):Reps K G vs ds:=(_qfp sF).2 h e k
theorem _qfo {vs:List V} {ds:List D} (h:Reps K F vs ds):Owns K F H vs (ds.map O.sh) fun _=>False :=
 Reps.rec (motive_1:=fun _ _ _=>True) (motive_2:=fun vs ds _=>Owns K F H vs (ds.map O.sh) fun _=>False) trivial (fun _=>trivial) (fun _=>trivial) (fun _=>trivial) (fun _ _ _=>trivial) (fun _ _ _=>trivial) (.nil fun _ z=>z) (fun h _ _ it=>.cons (.sh h (A:=fun _=>False) fun _ z=>z) it (fun _ z=>z.elim) fun b=>⟨fun z=>z.elim,fun z=>z.elim id id⟩) h
theorem _qhk {a:Addr} {vs:List V} {os:List O} {A:AS} (h:H a=some (.lst vs)) (n:¬ A a) (r:Owns K F H vs os A):Own K F H (.ref a) (.lst os) fun b=>b=a \/ A b:=.lst h n r fun _=>Lq
theorem _Zb {a:Addr} {vs:List V} {ds:List D} (h:H a=some (.lst vs)) (r:Reps K F vs ds):Own K F H (.ref a) (ow ds) fun b=>b=a:=.lst h (A':=fun _=>False) id (_qfo r) fun b=>⟨.inl,fun z=>z.elim id Az⟩
theorem Owns.append {vs ws:List V} {os ps:List O} {A B:AS} (h:Owns K F H vs os A) (s:Owns K F H ws ps B):(∀ b,A b->¬ B b)->Owns K F H (vs++ws) (os++ps) fun b=>A b \/ B b :=
 Owns.rec (motive_1:=fun _ _ _ _=>True) (motive_2:=fun vs os A _=>(∀ b,A b->¬ B b)->Owns K F H (vs++ws) (os++ps) fun b=>A b \/ B b) (fun _ _=>trivial) (fun _ _ _ _ _=>trivial) (fun _ _ _=>trivial)
  (fun hA _=>s.congr fun b=>⟨.inr,fun z=>z.elim (fun y=>absurd y (hA b)) id⟩)
  (fun h _ dd hA _ it d=>.cons h (it fun b y=>d b ((hA b).mpr (.inr y))) (fun b y z=>z.elim (dd b y) (d b ((hA b).mpr (.inl y)))) fun b=>by
   rw [hA b]; exact ⟨fun z=>z.elim (fun y=>y.elim .inl fun w=>.inr (.inl w)) fun w=>.inr (.inr w),fun z=>z.elim (fun y=>.inl (.inl y)) fun y=>y.elim (fun w=>.inl (.inr w)) .inr⟩) h
theorem Owns.split:∀ {vs:List V} {os:List O} {A:AS} {n:Nat} {o:O},Owns K F H vs os A->os[n]?=some o ->
  ∃ (v:V) (A1 A2:AS),vs[n]?=some v/\Own K F H v o A1/\(∀ b,A b ↔ A1 b \/ A2 b)/\(∀ b,A1 b->¬ A2 b) /\
   ∀ (F' H':Hp) (v':V) (o':O) (A1':AS),_qu9 F F'->(∀ b,A2 b->H' b=H b)->Own K F' H' v' o' A1'->(∀ b,A1' b->¬ A2 b)->Owns K F' H' (vs.set n v') (os.set n o') fun b=>A1' b \/ A2 b
 | _,_,_,_,_,.nil _,e=>by simp at e
 | _,_,A,0,o,.cons (v:=v) (vs:=vs) (os:=os) (A1:=A1) (A2:=A2) h t d hA,e=>by
  simp at e; subst e;exact ⟨v,A1,A2,rfl,h,hA,d,fun F' H' v' o' A1' sF k q dd=>.cons q (t.stay sF k) dd fun b=>Lq⟩
 | _,_,A,n + 1,o,.cons (v:=v) (vs:=vs) (os:=os) (A1:=B1) (A2:=B2) h t d hA,e=>by
  obtain ⟨w,A1,A2,h1,h2,h3,h4,h5⟩:=Owns.split t (n:=n) (o:=o) (by simpa using e);refine ⟨w,A1,fun b=>B1 b \/ A2 b,by simpa using h1,h2,fun b=>?_,fun b y z=>?_,fun F' H' v' o' A1' sF k q dd=>?_⟩
  ·rw [hA b,h3 b]; exact ⟨fun z=>z.elim (fun y=>.inr (.inl y)) fun y=>y.elim .inl fun w=>.inr (.inr w),fun z=>z.elim (fun y=>.inr (.inl y)) fun y=>y.elim .inl fun w=>.inr (.inr w)⟩
  ·rcases z with z | z
   ·exact d b z ((h3 b).mpr (.inl y))
   ·exact h4 b y z
  ·refine .cons (h.stay sF fun b y=>k b (.inl y)) (h5 F' H' v' o' A1' sF (fun b y=>k b (.inr y)) q fun b y z=>dd b y (.inr z)) (fun b y z=>?_) fun b=>⟨fun z=>z.elim (fun y=>.inr (.inl y)) fun y=>y.elim .inl fun w=>.inr (.inr w),fun z=>z.elim (fun y=>.inr (.inl y)) fun y=>y.elim .inl fun w=>.inr (.inr w)⟩
   rcases z with z | z
   ·exact dd b z (.inl y)
   ·exact d b y ((h3 b).mpr (.inr z))
end
def tO (K:Frag) (f:FO):TE:=fun σ H Q=>∃ F ρ o,_qu9 F H/\RE K F σ ρ/\f ρ=some o /\
 ∀ v F' H' A,Ext F H F' H'->Own K F' H' v o A->(∀ b,A b->F' b=none/\H b=none)->Q v H'
def tAO (K:Frag) (f:FAO):TA:=fun σ H Q=>∃ F ρ os,_qu9 F H/\RE K F σ ρ/\f ρ=some os /\
 ∀ vs F' H' A,Ext F H F' H'->Owns K F' H' vs os A->(∀ b,A b->F' b=none/\H b=none)->Q vs H'
def DO (X:Cx) (e:Expr) (f:FO):Prop:=PE X e (tO X.K f)
def DAO (X:Cx) (es:List Expr) (f:FAO):Prop:=PA X es (tAO X.K f)
section
variable {X:Cx} {a b c e:Expr} {es:List Expr} {pos:Pos}
theorem DE.o {f:FE} (h:DE X e f):DO X e (oE f):=by
 refine PE.imp h fun σ H Q q=>?_;obtain ⟨F,ρ,o,s,re,hf,k⟩:=q;obtain ⟨d,hd,rfl⟩:=map_some hf;exact ⟨F,ρ,d,s,re,hd,fun v F' H' e r=>k v F' H' (fun _=>False) e (.sh r fun _ z=>z) fun _ z=>z.elim⟩
theorem DO.de {f:FO} (h:DO X e f):DE X e (fL f):=by
 refine PE.imp h fun σ H Q q=>?_;obtain ⟨F,ρ,d,s,re,hf,k⟩:=q;obtain ⟨o,ho,hd⟩:=bind_some hf;exact ⟨F,ρ,o,s,re,ho,fun v F' H' A e r hA=>k v (_qu5 F' H' A) H' (_Vh e hA) (r.rep (_kb fun b z=>(hA b z).1) hd fun b z=>_xv z)⟩
theorem _qmr {H F1 H1 F2 H2:Hp} {A:AS} (e2:Ext F1 H1 F2 H2) (h:∀ b,A b->F1 b=none/\H b=none) (t:∀ b,A b->∃ u,H1 b=some u):∀ b,A b->F2 b=none/\H b=none:=fun b z=>by
 obtain ⟨h1,h2⟩:=h b z;obtain ⟨u,hu⟩:=t b z;refine ⟨?_,h2⟩;cases q:F2 b with
 | none=>rfl
 | some o =>
  rcases e2.nw b o q with y | y
  ·rw [h1] at y; cases y
  ·rw [hu] at y; cases y
theorem _qn0:DAO X [] aoNil:=by
 refine PA.imp _n fun σ H Q q=>?_;obtain ⟨F,ρ,d,s,re,hf,k⟩:=q;cases hf;exact k [] F H (fun _=>False) (Ext.refl s) (.nil fun _ z=>z) fun _ z=>z.elim
theorem _Z2 {f:FO} {g:FAO} (ha:DO X a f) (hr:DAO X es g) (hs:Ap (a :: es) X.env=(false,eval a X.env) :: Ap es X.env:=by rfl):DAO X (a :: es) (_qcp f g):=by
 refine PA.imp (_d ha hr hs) fun σ H Q q=>?_;obtain ⟨F,ρ,ds,s,re,hf,k⟩:=q;obtain ⟨d,hd,hf⟩:=bind_some hf;obtain ⟨ds',hg,rfl⟩:=map_some hf;refine ⟨F,ρ,d,s,re,hd,fun v F1 H1 A1 e1 r1 n1=>⟨F1,ρ,ds',e1.fh,re.mono e1.ff,hg,fun vs F2 H2 A2 e2 r2 n2=>?_⟩⟩;have t1:∀ b,A1 b->∃ u,H1 b=some u:=fun b z=>by obtain ⟨u,h,_⟩:=r1.there b z; exact ⟨u,h⟩
 refine k _ F2 H2 (fun b=>A1 b \/ A2 b) (e1.trans e2) (.cons (r1.ext e2.ff e2.hh) r2 (fun b y z=>?_) fun _=>Lq) fun b z=>?_
 ·obtain ⟨u,hu⟩:=t1 b y
  rw [(n2 b z).2] at hu; cases hu
 ·rcases z with z | z
  ·exact _qmr e2 n1 t1 b z
  ·exact ⟨(n2 b z).1,e1.hh.free (n2 b z).2⟩
theorem _Z1 {g:FA} (h:DA X es g):DO X (.List es pos) (oLst g):=by
 refine PE.imp (_Wf h) fun σ H Q q=>?_;obtain ⟨F,ρ,d,s,re,hf,k⟩:=q;obtain ⟨ds,hd,hf⟩:=bind_some hf;split at hf
 ·rename_i hl
  cases hf;refine ⟨F,ρ,ds,s,re,hd,fun vs F1 H1 e1 r1=>⟨by rw [r1.length]; exact _z0 hl,fun p hp=>?_⟩⟩;exact k _ F1 _ _ (e1.trans (Ext.laidH e1.fh hp)) (_Zb _a r1) fun b z=>by subst z; exact ⟨e1.fh.free hp,e1.hh.free hp⟩
 ·cases hf
theorem _qms {x1} {g:FAO} (h:DAO X es g):DO X (.Tuple es x1 pos) (oTupO g):=by
 refine PE.imp (_We h) fun σ H Q q=>?_;obtain ⟨F,ρ,d,s,re,hf,k⟩:=q;obtain ⟨os,hd,hf⟩:=bind_some hf;split at hf
 ·rename_i hl
  cases hf;refine ⟨F,ρ,os,s,re,hd,fun vs F1 H1 A e1 r1 n1=>⟨by rw [r1.length]; exact _z0 hl,fun p hp=>?_⟩⟩;have np:¬ A p:=fun z=>by obtain ⟨u,hu,_⟩:=r1.there p z; rw [hp] at hu; cases hu
  refine k _ (upd F1 p (.tup vs)) _ A (e1.trans (Ext.laid e1.fh hp)) (.tup _a (r1.ext (_i (e1.fh.free hp)) (_i hp))) fun b z=>?_;obtain ⟨h1,h2⟩:=n1 b z;exact ⟨by rw [_e (by rintro rfl; exact np z)]; exact h1,h2⟩
 ·cases hf
def spO (K:Frag) (n:Nat) (g:List D->Option O):Sp:=fun vs H Q _=>∃ F ds o,_qu9 F H/\Reps K F vs ds/\ds.length=n/\g ds=some o /\
 ∀ v F' H' A,Ext F H F' H'->Own K F' H' v o A->(∀ b,A b->F' b=none/\H b=none)->Q v H'
def CallO (K:Frag) (r:List V->Hp->VK->Prop) (g:List D->Option (List D)):Prop:=∀ ds es F H vs Q,g ds=some es->_qu9 F H->Reps K F vs ds ->
 (∀ a ws F' H',Ext F H F' H'->H' a=some (.lst ws)->F' a=none->H a=none->Reps K F' ws es->Q (.ref a) H')->r vs H Q
def OpO (K:Frag) (r:R2) (g:D->D->Option (List D)):Prop:=∀ x y es F H v u Q,g x y=some es->_qu9 F H->Rep K F v x->Rep K F u y ->
 (∀ a ws F' H',Ext F H F' H'->H' a=some (.lst ws)->F' a=none->H a=none->Reps K F' ws es->Q (.ref a) H')->r v u H Q
variable {k n:Nat} {f:Addr} {fd:Am} {ps:List Str} {x:Str} {p:Pos}
theorem _qmt {g:List D->Option O} {h:FA} (G:FnOk X.prog X.w X.K X.mg X.base CX0 k f fd ps (spO X.K n g)) (hr:Room k X.A) (hg:Gl X x) (hm:X.mg x=some (.ref f)) (hk:Gr X.K (.ref f)=true) (hb:Binds X.K fd ps [])
  (ha:DA X (a :: es) h) (hdb:(x == ("__debug__":Str))=false:=by decide) (he:Ap (a :: es) X.env=(false,eval a X.env) :: Ap es X.env:=by rfl) (hpl:(C1 pos (Ap es X.env)).any (·.1)=false:=by rfl) :
  DO X (.Call (.Name x p) (a :: es) [] pos) (_qcr n g h):=by
 refine PE.imp (_q6 G hr hg hm hk hb .nil _zs ha hdb he hpl) fun σ H Q q=>?_;obtain ⟨F,ρ,d,s,re,hf,k⟩:=q;obtain ⟨ds,hd,hf⟩:=bind_some hf;refine ⟨F,ρ,ds,s,re,hd,fun vs F1 H1 e1 r1=>?_⟩;dsimp only;rw [append_nil];split at hf
 ·rename_i hl
  exact ⟨F1,ds,d,e1.fh,r1,hl,hf,fun v F2 H2 A e2 r2 n2=>k v F2 H2 A (e1.trans e2) r2 fun b z=>⟨(n2 b z).1,e1.hh.free (n2 b z).2⟩⟩
 ·cases hf
theorem _qbr {id:String} {r:List V->Hp->VK->Prop} {g:List D->Option (List D)} {h:FA} (hc:_wh X (.builtin id) r) (hr:CallO X.K r g) (hg:Gl X x) (hm:X.mg x=none) (hv:A6 x=some (.builtin id)) (ha:DA X (a :: es) h)
  (hn:x ≠ "__name__":=by decide) (hdb:(x == ("__debug__":Str))=false:=by decide)
  (he:Ap (a :: es) X.env=(false,eval a X.env) :: Ap es X.env:=by rfl) (hpl:(C1 pos (Ap es X.env)).any (·.1)=false:=by rfl):DO X (.Call (.Name x p) (a :: es) [] pos) (_qte g h):=by
 refine PE.imp (_V hc hg hm hv ha hn hdb he hpl) fun σ H Q q=>?_;obtain ⟨F,ρ,o,s,re,hf,k⟩:=q;obtain ⟨zs,hf2,rfl⟩:=map_some hf;obtain ⟨ds,hd,hf⟩:=bind_some hf2;exact ⟨F,ρ,ds,s,re,hd,fun vs F1 H1 e1 r1=>hr ds zs F1 H1 vs Q hf e1.fh r1 fun a ws F' H' e' h1 h2 h3 r'=>k (.ref a) F' H' _ (e1.trans e') (_Zb h1 r') fun b z=>by subst z; exact ⟨h2,e1.hh.free h3⟩⟩
theorem _Kq {T:String} {r:List V->Hp->VK->Prop} {g:List D->Option (List D)} {h:FA} (hc:_wh X (.type T) r) (hr:CallO X.K r g) (hg:Gl X x) (hm:X.mg x=none) (hv:A6 x=some (.type T)) (ha:DA X (a :: es) h)
  (hn:x ≠ "__name__":=by decide) (hdb:(x == ("__debug__":Str))=false:=by decide)
  (he:Ap (a :: es) X.env=(false,eval a X.env) :: Ap es X.env:=by rfl) (hpl:(C1 pos (Ap es X.env)).any (·.1)=false:=by rfl):DO X (.Call (.Name x p) (a :: es) [] pos) (_qte g h):=by
 refine PE.imp (_qh hc hg hm hv ha hn hdb he hpl) fun σ H Q q=>?_;obtain ⟨F,ρ,o,s,re,hf,k⟩:=q;obtain ⟨zs,hf2,rfl⟩:=map_some hf;obtain ⟨ds,hd,hf⟩:=bind_some hf2;exact ⟨F,ρ,ds,s,re,hd,fun vs F1 H1 e1 r1=>hr ds zs F1 H1 vs Q hf e1.fh r1 fun a ws F' H' e' h1 h2 h3 r'=>k (.ref a) F' H' _ (e1.trans e') (_Zb h1 r') fun b z=>by subst z; exact ⟨h2,e1.hh.free h3⟩⟩
theorem do_op {op:Operator} {r:R2} {g:D->D->Option (List D)} {fa fb:FE} (ho:OpR X (Dg op) r) (hr:OpO X.K r g) (ha:DE X a fa) (hb:DE X b fb):DO X (.BinOp a op b pos) (o2 g fa fb):=by
 refine PE.imp (_q3 ho ha hb) fun σ H Q q=>?_;obtain ⟨F,ρ,o,s,re,hf,k⟩:=q;obtain ⟨zs,hf2,rfl⟩:=map_some hf;obtain ⟨x,hx,hf⟩:=bind_some hf2;obtain ⟨y,hy,hf⟩:=bind_some hf;exact ⟨F,ρ,x,s,re,hx,fun v F1 H1 e1 r1=>⟨F1,ρ,y,e1.fh,re.mono e1.ff,hy,fun u F2 H2 e2 r2=>hr x y zs F2 H2 v u Q hf e2.fh (r1.mono e2.ff) r2 fun a ws F' H' e' h1 h2 h3 r' =>
  k (.ref a) F' H' _ ((e1.trans e2).trans e') (_Zb h1 r') fun b z=>by subst z; exact ⟨h2,(e1.trans e2).hh.free h3⟩⟩⟩
end
end DL
namespace DL
open PySem PySem.Spec PyProof.Rows L2
structure Bs where
 F₀:Hp
 B:Hp
 P:Nat->Bool
 σ₀:St
def OwnT (K:Frag) (B F H:Hp) (σ:St) (ρ:Cs) (A:Nat->AS):Prop :=
 (∀ (i:Nat) (o:O),ρ[i]?=some (some o)->∃ v,σ[i]?=some (some v)/\Own K F H v o (A i))/\(∀ i b,A i b->F b=none/\B b=none/\∃ o,ρ[i]?=some (some o))/\∀ i j b,A i b->A j b->i=j
structure RS (K:Frag) (β:Bs) (F H:Hp) (σ:St) (ρ:Cs):Prop where
 ext:Ext β.F₀ β.B F H
 len:ρ.length=σ.length
 pin:∀ i,β.P i=true->σ[i]?=β.σ₀[i]?
 own:∃ A:Nat->AS,OwnT K β.B F H σ ρ A
section
variable {K:Frag} {β:Bs} {F F' H H':Hp} {σ:St} {ρ:Cs}
abbrev Bs.re (β:Bs) (F:Hp):Bs:=⟨F,β.B,β.P,β.σ₀⟩
theorem RS.rebase (r:RS K β F H σ ρ):RS K (β.re F) F H σ ρ:=⟨⟨_qu9.refl _,r.ext.fh,r.ext.hh,fun _ _ h=>.inl h⟩,r.len,r.pin,r.own⟩
theorem _qmq {F₀ B F1 H1:Hp} (e:Ext F₀ B F H) (r:Ext F B F1 H1):Ext F₀ B F1 H1 :=
 ⟨e.ff.trans r.ff,r.fh,r.hh,fun b o h=>(r.nw b o h).elim (fun z=>e.nw b o z) .inr⟩
theorem RS.unbase (e:Ext β.F₀ β.B F H) {F1 H1:Hp} {σ1:St} {ρ1:Cs} (r:RS K (β.re F) F1 H1 σ1 ρ1):RS K β F1 H1 σ1 ρ1:=⟨_qmq e r.ext,r.len,r.pin,r.own⟩
theorem OwnT.there {B:Hp} {A:Nat->AS} (w:OwnT K B F H σ ρ A) {i:Nat} {b:Addr} (h:A i b):∃ u,H b=some u/\∀ xs,u ≠ .tup xs/\∀ ob w,u ≠ .frz ob w:=by
 obtain ⟨h1,h2,h3⟩:=w;obtain ⟨_,_,o,ho⟩:=h2 i b h;obtain ⟨v,_,z⟩:=h1 i o ho;exact z.there b h
theorem OwnT.ext {B:Hp} {A:Nat->AS} (w:OwnT K B F H σ ρ A) (e:Ext F H F' H'):OwnT K B F' H' σ ρ A:=by
 have th:=fun i b h=>w.there (i:=i) (b:=b) h;obtain ⟨h1,h2,h3⟩:=w;refine ⟨fun i o h=>?_,fun i b h=>?_,h3⟩
 ·obtain ⟨v,e1,e2⟩:=h1 i o h
  exact ⟨v,e1,e2.ext e.ff e.hh⟩
 ·obtain ⟨e1,e2,ho⟩:=h2 i b h
  obtain ⟨u,hu,_⟩:=th i b h;refine ⟨?_,e2,ho⟩;cases q:F' b with
  | none=>rfl
  | some w =>
   rcases e.nw b w q with z | z
   ·rw [e1] at z; cases z
   ·rw [hu] at z; cases z
theorem RS.ext' (r:RS K β F H σ ρ) (e:Ext F H F' H'):RS K β F' H' σ ρ:=⟨r.ext.trans e,r.len,r.pin,r.own.imp fun _ w=>w.ext e⟩
def msk (S:List Bool) (i:Nat):Bool:=S[i]?.getD false
theorem _qmo {S:List Bool} {ρ:Cs} {i:Nat} {d:D} (h:(frz S ρ)[i]?=some (some d)):msk S i=true/\∃ o,ρ[i]?=some (some o)/\oD o=some d:=by
 induction S generalizing ρ i with
 | nil=>simp [frz] at h
 | cons b S ih =>
  cases ρ with
  | nil=>simp [frz] at h
  | cons c ρ =>
   cases i with
   | zero =>
    simp [frz] at h;obtain ⟨hb,h⟩:=h;obtain ⟨o,e1,e2⟩:=bind_some h;subst e1;exact ⟨by simp [msk,hb],o,rfl,e2⟩
   | succ i =>
    obtain ⟨h1,h2⟩:=ih (ρ:=ρ) (i:=i) (by simpa [frz] using h);exact ⟨by simpa [msk] using h1,by simpa using h2⟩
theorem _qmn (S:List Bool) (ρ:Cs):(fz S ρ).length=ρ.length:=by
 induction S generalizing ρ with
 | nil=>cases ρ <;> simp [fz]
 | cons b S ih=>cases ρ <;> simp [fz,ih]
theorem _qpo {S:List Bool} {ρ:Cs} {i:Nat} {o:O} (h:(fz S ρ)[i]?=some (some o)) :
  (msk S i=true/\∃ o' d,ρ[i]?=some (some o')/\oD o'=some d/\o=.sh d) \/ (ρ[i]?=some (some o)/\(msk S i=true->oD o=none)):=by
 induction S generalizing ρ i with
 | nil=>cases ρ <;> exact .inr ⟨by simpa [fz] using h,by simp [msk]⟩
 | cons b S ih =>
  cases ρ with
  | nil=>simp [fz] at h
  | cons c ρ =>
   cases i with
   | zero =>
    cases b with
    | true =>
     simp [fz] at h;cases c with
     | none=>cases h
     | some o' =>
      unfold fzc at h;cases q:oD o' with
      | none =>
       simp only [q] at h;cases h;exact .inr ⟨rfl,fun _=>q⟩
      | some d =>
       simp only [q] at h;cases h;exact .inl ⟨by simp [msk],o',d,rfl,q,rfl⟩
    | false=>exact .inr ⟨by simpa [fz] using h,by simp [msk]⟩
   | succ i =>
    rcases ih (ρ:=ρ) (i:=i) (by simpa [fz] using h) with ⟨h1,h2⟩ | ⟨h1,h2⟩
    ·exact .inl ⟨by simpa [msk] using h1,by simpa using h2⟩
    ·exact .inr ⟨by simpa using h1,by simpa [msk] using h2⟩
noncomputable def _z5 (F H F':Hp):Hp:=fun b=>match F b with | some o=>some o | none=>match H b with | some _=>none | none=>F' b
theorem _q9:_qu9 F (_z5 F H F'):=fun b o h=>by unfold _z5; rw [h]
theorem _qb3 {b:Addr} {o:HO} (h:_z5 F H F' b=some o):F b=some o \/ (H b=none/\F' b=some o):=by
 unfold _z5 at h;cases q:F b with
 | some u=>rw [q] at h; exact .inl h
 | none =>
  rw [q] at h;cases z:H b with
  | some u=>rw [z] at h; cases h
  | none=>rw [z] at h; exact .inr ⟨rfl,h⟩
theorem _Q2 {b:Addr} (s:_qu9 F H) (h:H b=none):_z5 F H F' b=F' b:=by
 unfold _z5;rw [s.free h,h]
structure Look (F H G:Hp):Prop where
 fg:_qu9 F G
 gh:_qu9 G H
 nt:∀ b u,G b=some u->F b=some u \/ ∀ xs,u ≠ .tup xs/\∀ ob w,u ≠ .frz ob w
section
variable {G:Hp}
theorem Look.ext (l:Look F H G) (e:Ext G H F' H') (s:_qu9 F H):Ext F H (_z5 F H F') H' where
 ff:=_q9
 fh:=fun b o h=>by
  rcases _qb3 h with h | ⟨_,h⟩
  ·exact e.hh _ _ (s _ _ h)
  ·exact e.fh _ _ h
 hh:=e.hh
 nw:=fun b o h=>by
  rcases _qb3 h with h | ⟨h,_⟩
  ·exact .inl h
  ·exact .inr h
theorem Look.at (l:Look F H G) (e:Ext G H F' H') (s:_qu9 F H) {a:Addr} {u:HO} (h:F' a=some u) (nt:(∃ xs,u=.tup xs) \/ ∃ ob w,u=.frz ob w):_z5 F H F' a=some u:=by
 rcases e.nw a u h with z | z
 ·rcases l.nt a u z with y | y
  ·unfold _z5; rw [y]
  ·rcases nt with ⟨xs,rfl⟩ | ⟨ob,w,rfl⟩
   ·exact absurd rfl (y xs).1
   ·exact absurd rfl ((y []).2 ob w)
 ·rw [_Q2 s z]; exact h
theorem Look.seqT (l:Look F H G) (e:Ext G H F' H') (s:_qu9 F H) {a:Addr} {vs:List V} (h:SqT K F' a vs):SqT K (_z5 F H F') a vs:=by
 rcases h with (q | ⟨o,q⟩) | q
 ·exact .inl (.inl (l.at e s q (.inl ⟨_,rfl⟩)))
 ·exact .inl (.inr ⟨o,l.at e s q (.inr ⟨_,_,rfl⟩)⟩)
 ·exact .inr q
theorem _qav (l:Look F H G) (e:Ext G H F' H') (s:_qu9 F H):(∀ {v:V} {d:D},Rep K F' v d->imm d=true->Rep K (DL._z5 F H F') v d)/\∀ {vs:List V} {ds:List D},Reps K F' vs ds->_qtl ds=true->Reps K (DL._z5 F H F') vs ds:=by
 refine ⟨@Rep.rec K F' (fun v d _=>imm d=true->Rep K (DL._z5 F H F') v d) (fun v d _=>_qtl d=true->Reps K (DL._z5 F H F') v d) (fun _=>.non) (fun b _=>.bl b) (fun i _=>.int i) (fun x _=>.str x) ?a ?b (fun _=>.nil) ?c,@Reps.rec K F' (fun v d _=>imm d=true->Rep K (DL._z5 F H F') v d) (fun v d _=>_qtl d=true->Reps K (DL._z5 F H F') v d) (fun _=>.non) (fun b _=>.bl b) (fun i _=>.int i) (fun x _=>.str x) ?a ?b (fun _=>.nil) ?c⟩
 case a=>exact fun _ _ _ h=>by simp [imm] at h
 case b=>exact fun q _ ih h=>.tup (l.seqT e s q) (ih (by simpa [imm] using h))
 case c =>
  intro v d vs ds q t ih it h;simp [_qtl] at h;exact .cons (ih h.1) (it h.2)
theorem Look.rep (l:Look F H G) (e:Ext G H F' H') (s:_qu9 F H) {v:V} {d:D} (h:imm d=true) (q:Rep K F' v d):Rep K (DL._z5 F H F') v d:=(_qav l e s).1 q h
theorem Look.reps (l:Look F H G) (e:Ext G H F' H') (s:_qu9 F H) {vs:List V} {ds:List D} (h:_qtl ds=true) (q:Reps K F' vs ds):Reps K (DL._z5 F H F') vs ds:=(_qav l e s).2 q h
theorem _qi9 (l:Look F H G) (e:Ext G H F' H') (s:_qu9 F H):(∀ {v:V} {o:O} {A:AS},Own K F' H' v o A->oim o=true->Own K (DL._z5 F H F') H' v o A)/\∀ {vs:List V} {os:List O} {A:AS},Owns K F' H' vs os A->_qtc os=true->Owns K (DL._z5 F H F') H' vs os A:=by
 refine ⟨@Own.rec K F' H' (fun v o A _=>oim o=true->Own K (DL._z5 F H F') H' v o A) (fun v o A _=>_qtc o=true->Owns K (DL._z5 F H F') H' v o A) ?a ?b ?c ?a2 ?d,@Owns.rec K F' H' (fun v o A _=>oim o=true->Own K (DL._z5 F H F') H' v o A) (fun v o A _=>_qtc o=true->Owns K (DL._z5 F H F') H' v o A) ?a ?b ?c ?a2 ?d⟩
 case a=>exact fun q hA h=>.sh (l.rep e s (by simpa [oim] using h) q) hA
 case b=>exact fun q n _ hA ih h=>.lst q n (ih (by simpa [oim] using h)) hA
 case c=>exact fun q _ ih h=>.tup (l.at e s q (.inl ⟨_,rfl⟩)) (ih (by simpa [oim] using h))
 case a2=>exact fun hA _=>.nil hA
 case d =>
  intro v o vs os A1 A2 A q t d hA ih it h;simp [_qtc] at h;exact .cons (ih h.1) (it h.2) d hA
theorem Look.own (l:Look F H G) (e:Ext G H F' H') (s:_qu9 F H) {v:V} {o:O} {A:AS} (h:oim o=true) (q:Own K F' H' v o A):Own K (DL._z5 F H F') H' v o A:=(_qi9 l e s).1 q h
end
theorem RS.look (r:RS K β F H σ ρ) (S:List Bool):∃ G,Look F H G/\RE K G σ (frz S ρ)/\RS K β G H σ (fz S ρ):=by
 obtain ⟨A,h1,h2,h3⟩:=r.own
 let Z:AS:=fun b=>∃ i,msk S i=true/\(∃ o d,ρ[i]?=some (some o)/\oD o=some d)/\A i b
 have Zf:∀ b,Z b->F b=none/\β.B b=none:=fun b ⟨i,_,_,q⟩=>⟨(h2 i b q).1,(h2 i b q).2.1⟩;have Zt:∀ b,Z b->∃ u,H b=some u/\∀ xs,u ≠ .tup xs/\∀ ob w,u ≠ .frz ob w:=fun b ⟨i,_,_,q⟩=>by
  obtain ⟨_,_,o,ho⟩:=h2 i b q;obtain ⟨v,_,z⟩:=h1 i o ho;exact z.there b q
 have sF:_qu9 F (_qu5 F H Z):=_kb fun b z=>(Zf b z).1;refine ⟨_qu5 F H Z,⟨sF,_qcq r.ext.fh,fun b u q=>?_⟩,fun i d h=>?_,⟨_Vh r.ext Zf,(_qmn S ρ).trans r.len,r.pin,?_⟩⟩
 ·by_cases z:Z b
  ·rw [_xv z] at q
   obtain ⟨u',e1,e2⟩:=Zt b z;rw [q] at e1; cases e1;exact .inr e2
  ·rw [_jp z] at q; exact .inl q
 ·obtain ⟨g1,o,g2,g3⟩:=_qmo h
  obtain ⟨v,e1,e2⟩:=h1 i o g2;exact ⟨v,e1,e2.rep sF g3 fun b z=>_xv ⟨i,g1,⟨o,d,g2,g3⟩,z⟩⟩
 ·classical
  refine ⟨fun i b=>A i b/\¬ (msk S i=true/\∃ o d,ρ[i]?=some (some o)/\oD o=some d),fun i o h=>?_,fun i b h=>?_,fun i j b x y=>h3 i j b x.1 y.1⟩
  ·rcases _qpo h with ⟨g1,o',d,g2,g3,rfl⟩ | ⟨g1,g2⟩
   ·obtain ⟨v,e1,e2⟩:=h1 i o' g2
    exact ⟨v,e1,.sh (e2.rep sF g3 fun b z=>_xv ⟨i,g1,⟨o',d,g2,g3⟩,z⟩) fun b z=>z.2 ⟨g1,o',d,g2,g3⟩⟩
   ·obtain ⟨v,e1,e2⟩:=h1 i o g1
    refine ⟨v,e1,(e2.stay sF (H':=H) fun _ _=>rfl).congr fun b=>⟨fun z=>⟨z,?_⟩,fun z=>z.1⟩⟩;rintro ⟨m,o',d,q1,q2⟩;rw [g1] at q1; cases q1;rw [g2 m] at q2; cases q2
  ·obtain ⟨e1,e2,o,ho⟩:=h2 i b h.1
   refine ⟨(_jp ?_).trans e1,e2,?_⟩
   ·rintro ⟨j,m,q,z⟩
    have:=h3 i j b h.1 z
    subst this;exact h.2 ⟨m,q⟩
   ·
    have hl:i < (fz S ρ).length:=by rw [_qmn]; exact (Ai.mp ho).1
    have hx:∃ c,(fz S ρ)[i]?=some c:=⟨_,getElem?_eq_getElem hl⟩;obtain ⟨c,hc⟩:=hx;cases c with
    | some o'=>exact ⟨o',hc⟩
    | none =>
     exfalso
     have:∀ (S:List Bool) (ρ:Cs) (i:Nat) (o:O),ρ[i]?=some (some o)->(fz S ρ)[i]? ≠ some none:=by
      intro S
      induction S with
      | nil=>intro ρ i o h z; cases ρ <;> simp [fz] at z h; rw [h] at z; cases z
      | cons b S ih =>
       intro ρ i o h z;cases ρ with
       | nil=>simp at h
       | cons c ρ =>
        cases i with
        | zero =>
         simp at h; subst h;cases b with
         | false=>simp [fz] at z
         | true=>simp [fz,fzc] at z; split at z <;> cases z
        | succ i=>exact ih ρ i o (by simpa using h) (by simpa [fz] using z)
     exact this S ρ i o ho hc
theorem _qnj (ρ:Cs):frz (C2 ρ.length true) ρ=all ρ:=by
 induction ρ with
 | nil=>simp [frz,all]
 | cons c ρ ih=>simp [frz,all,G2] at ih ⊢; exact ih
theorem RS.lookAll (r:RS K β F H σ ρ):∃ G,Look F H G/\RE K G σ (all ρ):=by
 obtain ⟨G,l,re,_⟩:=r.look (C2 ρ.length true);rw [_qnj] at re;exact ⟨G,l,re⟩
theorem RS.back (r:RS K β F H σ ρ) {G:Hp} (l:Look F H G) (e:Ext G H F' H'):RS K β (_z5 F H F') H' σ ρ:=r.ext' (l.ext e r.ext.fh)
structure RT (K:Frag) (β:Bs) (F H:Hp) (σ:St) (ρ:Cs) (v:V) (o:O):Prop where
 ext:Ext β.F₀ β.B F H
 len:ρ.length=σ.length
 pin:∀ i,β.P i=true->σ[i]?=β.σ₀[i]?
 own:∃ (A:Nat->AS) (T:AS),OwnT K β.B F H σ ρ A/\Own K F H v o T/\(∀ b,T b->F b=none/\β.B b=none)/\∀ i b,A i b->¬ T b
theorem RT.unbase (e:Ext β.F₀ β.B F H) {F1 H1:Hp} {σ1:St} {ρ1:Cs} {v:V} {o:O} (r:RT K (β.re F) F1 H1 σ1 ρ1 v o):RT K β F1 H1 σ1 ρ1 v o:=⟨_qmq e r.ext,r.len,r.pin,r.own⟩
theorem RS.push (r:RS K β F H σ ρ) (e:Ext F H F' H') {v:V} {o:O} {T:AS} (q:Own K F' H' v o T) (n:∀ b,T b->F' b=none/\H b=none):RT K β F' H' σ ρ v o :=
 ⟨r.ext.trans e,r.len,r.pin,by
  obtain ⟨A,w⟩:=r.own;refine ⟨A,T,w.ext e,q,fun b z=>⟨(n b z).1,r.ext.hh.free (n b z).2⟩,fun i b x y=>?_⟩;obtain ⟨u,hu,_⟩:=w.there x;rw [(n b y).2] at hu; cases hu⟩
theorem RS.sh (r:RS K β F H σ ρ) {v:V} {d:D} (q:Rep K F v d):RT K β F H σ ρ v (.sh d) :=
 r.push (Ext.refl r.ext.fh) (T:=fun _=>False) (.sh q fun _ z=>z) fun _ z=>z.elim
theorem _qbg {α:Type} {l:List (Option α)} {i j:Nat} {c:Option α} {c':α} (h:(l.set i c)[j]?=some (some c')):(j=i/\some c'=c/\i < l.length) \/ (j ≠ i/\l[j]?=some (some c')):=by
 by_cases e:j=i
 ·subst e
  have hl:j < l.length:=by
   have:=(Ai.mp h).1
   simpa using this
  rw [getElem?_set_self hl] at h;cases h;exact .inl ⟨rfl,rfl,hl⟩
 ·rw [getElem?_set_ne (B4 e)] at h
  exact .inr ⟨e,h⟩
theorem RT.give {v:V} {o:O} (r:RT K β F H σ ρ v o) (i:Nat) (hi:β.P i=false):RS K β F H (σ.set i (some v)) (ρ.set i (some o)) where
 ext:=r.ext
 len:=by simpa using r.len
 pin:=fun j h=>by
  have ne:j ≠ i:=by rintro rfl; rw [hi] at h; cases h
  rw [getElem?_set_ne (B4 ne)]; exact r.pin j h
 own:=by
  obtain ⟨A,T,⟨h1,h2,h3⟩,q,n,d⟩:=r.own;have hl:=r.len;refine ⟨fun j b=>(j ≠ i/\A j b) \/ (j=i/\i < ρ.length/\T b),fun j o' h=>?_,fun j b h=>?_,fun j k b x y=>?_⟩
  ·rcases _qbg h with ⟨rfl,e,hl'⟩ | ⟨ne,h⟩
   ·cases e
    exact ⟨v,getElem?_set_self (by rw [<- hl]; exact hl'),q.congr fun b=>⟨fun z=>.inr ⟨rfl,hl',z⟩,fun z=>z.elim (fun y=>absurd rfl y.1) (·.2.2)⟩⟩
   ·obtain ⟨v',e1,e2⟩:=h1 j o' h
    exact ⟨v',by rw [getElem?_set_ne (B4 ne)]; exact e1,e2.congr fun b=>⟨fun z=>.inl ⟨ne,z⟩,fun z=>z.elim (·.2) fun y=>absurd y.1 ne⟩⟩
  ·rcases h with ⟨ne,h⟩ | ⟨rfl,hl',h⟩
   ·obtain ⟨e1,e2,o',ho⟩:=h2 j b h
    exact ⟨e1,e2,o',by rw [getElem?_set_ne (B4 ne)]; exact ho⟩
   ·exact ⟨(n b h).1,(n b h).2,o,getElem?_set_self hl'⟩
  ·rcases x with ⟨_,x⟩ | ⟨rfl,_,x⟩ <;> rcases y with ⟨_,y⟩ | ⟨rfl,_,y⟩
   ·exact h3 j k b x y
   ·exact absurd y (d j b x)
   ·exact absurd x (d k b y)
   ·rfl
theorem RS.set_sh (r:RS K β F H σ ρ) (i:Nat) (hi:β.P i=false) {v:V} {d:D} (q:Rep K F v d):RS K β F H (σ.set i (some v)) (ρ.set i (some (.sh d))):=(r.sh q).give i hi
end
def tM (K:Frag) (f:FM):TE:=fun σ H Q=>∃ β F ρ p,RS K β F H σ ρ/\f ρ=some p/\∀ v F' H',_qu9 F F'->_qu9 H H'->RT K β F' H' σ p.2 v p.1->Q v H'
def DM (X:Cx) (e:Expr) (f:FM):Prop:=PE X e (tM X.K f)
section
variable {X:Cx} {e:Expr}
theorem DE.m (S:List Bool) {f:FE} (h:DE X e f):DM X e (mE S f):=by
 refine PE.imp h fun σ H Q q=>?_;obtain ⟨β,F,ρ,p,r,hf,k⟩:=q;obtain ⟨d,hd,rfl⟩:=map_some hf;obtain ⟨G,l,re,rz⟩:=r.look S;refine ⟨G,frz S ρ,d,l.gh,re,hd,fun v F' H' e q=>?_⟩
 by_cases hi:imm d=true
 ·rw [if_pos hi] at k
  exact k v _ H' _q9 e.hh ((r.back l e).sh (l.rep e r.ext.fh hi q))
 ·rw [if_neg hi] at k
  exact k v F' H' (l.fg.trans e.ff) e.hh ((rz.ext' e).sh q)
theorem DO.m (S:List Bool) {f:FO} (h:DO X e f):DM X e (mO S f):=by
 refine PE.imp h fun σ H Q q=>?_;obtain ⟨β,F,ρ,p,r,hf,k⟩:=q;obtain ⟨o,ho,rfl⟩:=map_some hf;obtain ⟨G,l,re,rz⟩:=r.look S;refine ⟨G,frz S ρ,o,l.gh,re,ho,fun v F' H' A e q n=>?_⟩
 by_cases hi:oim o=true
 ·rw [if_pos hi] at k
  exact k v _ H' _q9 e.hh (r.push (l.ext e r.ext.fh) (l.own e r.ext.fh hi q) fun b z=>⟨(_Q2 r.ext.fh (n b z).2).trans (n b z).1,(n b z).2⟩)
 ·rw [if_neg hi] at k
  exact k v F' H' (l.fg.trans e.ff) e.hh (rz.push e q n)
end
def EndS (K:Frag) (β:Bs) (E:Ends):Out->Prop
 | .nx ρ'=>∀ F' H' σ',RS K β F' H' σ' ρ'->E.nx σ' H'
 | .bk ρ'=>∀ F' H' σ',RS K β F' H' σ' ρ'->E.bk σ' H'
 | .ct ρ'=>∀ F' H' σ',RS K β F' H' σ' ρ'->E.ct σ' H'
 | .rt o ρ'=>∀ F' H' σ' v,RT K β F' H' σ' ρ' v o->E.rt v H'
 | .ex _ _=>False
def tS (K:Frag) (W:List Nat) (b:Blk):TS:=fun E σ H=>∃ β F ρ o,RS K β F H σ ρ/\(∀ i∈W,β.P i=false)/\b ρ=some o/\EndS K β E o
def DS (X:Cx) (st:Stmt) (W:List Nat) (b:Blk):Prop:=PS X st (tS X.K W b)
def DSs (X:Cx) (st:List Stmt) (W:List Nat) (b:Blk):Prop:=PSs X st (tS X.K W b)
section
variable {X:Cx} {st:Stmt} {_qt6:List Stmt} {a e:Expr} {pos:Pos} {W W1 W2:List Nat}
theorem _qfw {β:Bs} (h:∀ i∈W1++W2,β.P i=false):∀ i∈W1,β.P i=false:=fun i m=>h i (Es _ m)
theorem mem_r {β:Bs} (h:∀ i∈W1++W2,β.P i=false):∀ i∈W2,β.P i=false:=fun i m=>h i (mem_append_right _ m)
theorem _zb:DSs X [] [] _qu2:=by
 refine PSs.imp _jr fun E σ H q=>?_;obtain ⟨β,F,ρ,o,r,_,h,k⟩:=q;cases h;exact k F H σ r
theorem _h {b c:Blk} (h1:DS X st W1 b) (h2:DSs X _qt6 W2 c):DSs X (st :: _qt6) (W1++W2) (_qu0 b c):=by
 refine PSs.imp (_j h1 h2) fun E σ H q=>?_;obtain ⟨β,F,ρ,o,r,hw,h,k⟩:=q;unfold _qu0 at h;cases hb:b ρ with
 | none=>rw [hb] at h; cases h
 | some o1 =>
  rw [hb] at h;cases o1 with
  | nx ρ'=>exact ⟨β,F,ρ,.nx ρ',r,_qfw hw,hb,fun F' H' σ' r'=>⟨β,F',ρ',o,r',mem_r hw,h,k⟩⟩
  | bk ρ'=>cases h; exact ⟨β,F,ρ,.bk ρ',r,_qfw hw,hb,k⟩
  | ct ρ'=>cases h; exact ⟨β,F,ρ,.ct ρ',r,_qfw hw,hb,k⟩
  | rt d ρ'=>cases h; exact ⟨β,F,ρ,.rt d ρ',r,_qfw hw,hb,k⟩
  | ex d ρ'=>cases h; exact ⟨β,F,ρ,.ex d ρ',r,_qfw hw,hb,k⟩
theorem _o {b:Blk} (h1:DS X st W b):DSs X [st] W b:=_v h1
theorem _C (i:Nat) {f:FM} {st:Stmt} (hp:PS X st (tAsg (tM X.K f) (_zj i))):DS X st [i] (_qtz i f):=by
 refine PS.imp hp fun E σ H q=>?_;obtain ⟨β,F,ρ,o,r,hw,h,k⟩:=q;obtain ⟨p,hd,rfl⟩:=map_some h;exact ⟨β,F,ρ,p,r,hd,fun v F' H' _ _ rt=>k F' H' _ (rt.give i (hw i (by simp)))⟩
theorem _H {f:FM} (h:DM X e f):DS X (.Return (some e) pos) [] (_qu1 f):=by
 refine PS.imp (_v1 h) fun E σ H q=>?_;obtain ⟨β,F,ρ,o,r,hw,h,k⟩:=q;obtain ⟨p,hd,rfl⟩:=map_some h;exact ⟨β,F,ρ,p,r,hd,fun v F' H' _ _ rt=>k F' H' σ v rt⟩
theorem _qcs {c:Expr} {as bs:List Stmt} {q:FT} {a b:Blk} (hc:DT X c q) (ha:DSs X as W1 a) (hb:DSs X bs W2 b):DS X (.If c as bs pos) (W1++W2) (bIf q a b):=by
 refine PS.imp (_X3 hc ha hb) fun E σ H z=>?_;obtain ⟨β,F,ρ,o,r,hw,h,k⟩:=z;obtain ⟨t,ht,h⟩:=bind_some h;obtain ⟨G,l,re⟩:=r.lookAll;refine ⟨G,DL.all ρ,t,l.gh,re,ht,fun F' H' e=>?_⟩;have r':=r.back l e;cases t with
 | true=>rw [if_pos rfl] at h; exact iteT ⟨β,_,ρ,o,r',_qfw hw,h,k⟩
 | false=>rw [if_neg An] at h; exact _qti ⟨β,_,ρ,o,r',mem_r hw,h,k⟩
theorem _qj5 {st:Stmt}:DS X st [] bNever:=by
 refine PS.imp _qha fun E σ H q=>?_;obtain ⟨β,F,ρ,o,r,_,h,k⟩:=q;cases h
def tG (K:Frag) (W:List Nat) (g:GD):TG:=fun v σ H Q=>∃ β F ρ d ρ',RS K β F H σ ρ/\(∀ i∈W,β.P i=false)/\Rep K F v d/\g d ρ=some ρ'/\∀ σ',RS K β F H σ' ρ'->Q σ' H
def tGs (K:Frag) (W:List Nat) (g:List D->Cs->Option Cs):TGs:=fun vs σ H Q=>∃ β F ρ ds ρ',RS K β F H σ ρ/\(∀ i∈W,β.P i=false)/\Reps K F vs ds/\g ds ρ=some ρ'/\∀ σ',RS K β F H σ' ρ'->Q σ' H
def DG (X:Cx) (tg:Expr) (W:List Nat) (g:GD):Prop:=PG X tg (tG X.K W g)
theorem _vz (i:Nat) {tg:Expr} (h:PG X tg (_zj i)):DG X tg [i] (gN i):=by
 refine PG.imp h fun v σ H Q q=>?_;obtain ⟨β,F,ρ,d,ρ',r,hw,q,h,k⟩:=q;cases h;exact k _ (r.set_sh i (hw i (by simp)) q)
theorem _qmm:∀ {gs:List GD} {ds:List D} {ρ ρ':Cs},gT gs ds ρ=some ρ'->ds.length=gs.length
 | [],[],_,_,_=>rfl
 | g :: gs,d :: ds,ρ,ρ',h=>by
  obtain ⟨r1,_,h2⟩:=bind_some h;simp [_qmm h2]
 | [],_ :: _,_,_,h=>by simp [gT] at h
 | _ :: _,[],_,_,h=>by simp [gT] at h
def DGs (X:Cx) (ts:List Expr) (W:List Nat) (gs:List GD):Prop:=PGs X ts (tGs X.K W (gT gs))
theorem _qbt:DGs X [] [] []:=by
 intro pins s σ H vs us Q I rv q;refine _Ju pins s σ H vs us Q I rv ?_;obtain ⟨β,F,ρ,ds,ρ',r,hw,q,h,k⟩:=q;cases q with
 | nil=>cases h; exact ⟨rfl,k _ r⟩
 | cons=>cases h
theorem _vj {t:Expr} {ts:List Expr} {g:GD} {gs:List GD} (h1:DG X t W1 g) (h2:DGs X ts W2 gs)
  (hs:(B6 (t :: ts) X.env).map (·.2)=Il t X.env :: (B6 ts X.env).map (·.2):=by rfl):DGs X (t :: ts) (W1++W2) (g :: gs):=by
 intro pins s σ H vs us Q I rv q;refine _xl h1 h2 hs pins s σ H vs us Q I rv ?_;obtain ⟨β,F,ρ,ds,ρ',r,hw,q,h,k⟩:=q;cases q with
 | nil=>cases h
 | cons q1 q2 =>
  obtain ⟨ρ1,h1,h2⟩:=bind_some h;exact ⟨_,_,rfl,β,F,ρ,_,ρ1,r,_qfw hw,q1,h1,fun σ' r'=>⟨β,F,ρ1,_,ρ',r',mem_r hw,q2,h2,k⟩⟩
theorem _qjc {ts:List Expr} {gs:List GD} {kk:Nat} (hc:X.calm=true) (h:DGs X ts W gs) (hn:(B6 ts X.env).length=gs.length:=by rfl) (hst:(B6 ts X.env).findIdx? (·.1)=none:=by rfl):DG X (.Tuple ts kk pos) W (gTp gs):=by
 refine PG.imp (_qdl hc h hn hst) fun v σ H Q q=>?_;obtain ⟨β,F,ρ,d,ρ',r,hw,q,h,k⟩:=q;unfold gTp at h;split at h
 ·rename_i ds
  cases q with
  | tup q t=>exact ⟨_,_,rfl,seqT r.ext.fh q,by rw [t.length]; exact _qmm h,β,F,ρ,ds,ρ',r,hw,t,h,k⟩
 ·cases h
theorem _qiv {K:Frag} {β:Bs} {F H:Hp} {σ:St} {ρ:Cs} {gD:GD} {bD:Blk} {d:D} {_qt6:List D} {o:Out} {E:Ends} {x:V} {N:St->Hp->Prop}
  (r:RS K β F H σ ρ) (hw1:∀ i∈W1,β.P i=false) (hw2:∀ i∈W2,β.P i=false) (q:Rep K F x d) (h:_qtp gD bD (d :: _qt6) ρ=some o) (k:EndS K β E o)
  (hN:∀ F' H' σ' ρ',_qu9 F F'->RS K β F' H' σ' ρ'->_qtp gD bD _qt6 ρ'=some o->N σ' H'):tG K W1 gD x σ H fun σ2 H2=>tS K W2 bD { E with nx:=N,ct:=N,bk:=E.nx } σ2 H2:=by
 obtain ⟨ρ1,h1,h2⟩:=bind_some h;refine ⟨β.re F,F,ρ,d,ρ1,r.rebase,hw1,q,h1,fun σ' r'=>?_⟩;cases hb1:bD ρ1 with
 | none=>rw [hb1] at h2; cases h2
 | some o1 =>
  rw [hb1] at h2;refine ⟨β.re F,F,ρ1,o1,r',hw2,hb1,?_⟩;cases o1 with
  | nx ρ2=>exact fun F' H' σ2 r2=>hN F' H' σ2 ρ2 r2.ext.ff (RS.unbase r.ext r2) h2
  | ct ρ2=>exact fun F' H' σ2 r2=>hN F' H' σ2 ρ2 r2.ext.ff (RS.unbase r.ext r2) h2
  | bk ρ2=>cases h2; exact fun F' H' σ2 r2=>k F' H' σ2 (RS.unbase r.ext r2)
  | rt d ρ2=>cases h2; exact fun F' H' σ2 v r2=>k F' H' σ2 v (RT.unbase r.ext r2)
  | ex d ρ2=>cases h2; exact k
theorem drop_cons {α:Type} {l:List α} {i:Nat} (h:i < l.length):l.drop i=l[i] :: l.drop (i + 1):=(List.getElem_cons_drop h).symm
theorem _qbo {tg iter:Expr} {body:List Stmt} {S:List Bool} {f:FE} {gD:GD} {bD:Blk} (hp:PassesOwn (model X.prog X.w) X.A X.env X.xe) (hc:X.calm=true) (hi:DE X iter f) (hg:DG X tg W1 gD) (hb:DSs X body W2 bD)
  (hs:∀ x,Cd iter X.env x=pure x:=by intro _; rfl):DS X (.For tg iter body [] pos) (W1++W2) (_qu3 S f gD bD):=by
 refine PS.imp (_X4 hp hc (_J hi) hg hb hs) fun E σ H q=>?_;obtain ⟨β,F,ρ,o,r,hw,h,k⟩:=q;obtain ⟨d,hd,h⟩:=bind_some h;rw [_Z7] at h;split at h
 ·rename_i ds
  obtain ⟨G,l,re,rz⟩:=r.look S;refine ⟨G,frz S ρ,.lst ds,l.gh,re,hd,fun v F' H' e q=>?_⟩;cases q with
  | lst q t =>
   rename_i a vs;refine ⟨a,rfl,⟨vs,(_qt1 e.fh q).l⟩,fun i m σ H=>∃ F ρ,RS X.K β F H σ ρ/\SqE X.K F a vs/\Reps X.K F vs ds/\i <= ds.length/\m=ds.length - i/\_qtp gD bD (ds.drop i) ρ=some o,
    ⟨_,F',fz S ρ,rz.ext' e,q,t,zero_le _,rfl,h⟩,?_⟩
   rintro i m σ1 H1 ⟨F1,ρ1,r1,q1,t1,hi,rfl,h1⟩
   by_cases hl:i < ds.length
   ·have hv:i < vs.length:=by rw [t1.length]; exact hl
    refine .inr ⟨⟨vs,vs[i],(_qt1 r1.ext.fh q1).l,by simp [hv]⟩,fun σ' H'=>∃ F ρ,RS X.K β F H' σ' ρ/\SqE X.K F a vs/\Reps X.K F vs ds/\_qtp gD bD (ds.drop (i + 1)) ρ=some o,fun σ' H' ⟨F2,ρ2,r2,q2,t2,h2⟩=>⟨_,by omega,F2,ρ2,r2,q2,t2,hl,rfl,h2⟩,fun x H2 y=>?_⟩;obtain ⟨rfl,y⟩:=y;obtain ⟨d,hd1,hd2⟩:=t1.get (y vs (_qt1 r1.ext.fh q1).l);have ed:ds[i]=d:=by rw [getElem?_eq_getElem hl] at hd1; exact Option.some.inj hd1
    rw [drop_cons hl,ed] at h1;exact _qiv r1 (_qfw hw) (mem_r hw) hd2 h1 k fun F' H' σ' ρ' s r' h'=>⟨F',ρ',r',_qt1 s q1,t1.mono s,h'⟩
   ·refine .inl ⟨⟨vs,(_qt1 r1.ext.fh q1).l,by rw [t1.length]; omega⟩,?_⟩
    rw [drop_of_length_le (by omega)] at h1;cases h1;exact k F1 H1 σ1 r1
 ·cases h
theorem _Zy {c:Expr} {body:List Stmt} {cD:FT} {bD:Blk} (hp:PassesOwn (model X.prog X.w) X.A X.env X.xe) (hc:DT X c cD) (hb:DSs X body W bD):DS X (.While c body [] pos) W (_z4 cD bD):=by
 refine PS.imp (_Y8 hp hc hb) fun E σ H q=>?_;obtain ⟨β,F,ρ,o,r,hw,h,k⟩:=q;obtain ⟨n,h⟩:=_Kb h;refine ⟨fun m σ H=>∃ F ρ,RS X.K β F H σ ρ/\_Zt cD bD m ρ=some o,⟨n,F,ρ,r,h⟩,?_⟩;rintro m σ1 H1 ⟨F1,ρ1,r1,h1⟩;cases m with
 | zero=>cases h1
 | succ m =>
  unfold _Zt at h1;obtain ⟨t,ht,h1⟩:=bind_some h1;obtain ⟨G,l,re⟩:=r1.lookAll;refine ⟨G,DL.all ρ1,t,l.gh,re,ht,fun F' H' e=>?_⟩;have r2:=r1.back l e;cases t with
  | false =>
   rw [if_neg An] at h1;cases h1;exact _qti (k _ H' σ1 r2)
  | true =>
   rw [if_pos rfl] at h1;refine iteT ⟨fun σ' H'=>∃ F ρ,RS X.K β F H' σ' ρ/\_Zt cD bD m ρ=some o,fun σ' H' q=>⟨m,lt_succ_self _,q⟩,?_⟩;cases hb1:bD ρ1 with
   | none=>rw [hb1] at h1; cases h1
   | some o1 =>
    rw [hb1] at h1;refine ⟨β,_,ρ1,o1,r2,hw,hb1,?_⟩;cases o1 with
    | nx ρ2=>exact fun F' H' σ2 r2=>⟨F',ρ2,r2,h1⟩
    | ct ρ2=>exact fun F' H' σ2 r2=>⟨F',ρ2,r2,h1⟩
    | bk ρ2=>cases h1; exact k
    | rt d ρ2=>cases h1; exact k
    | ex d ρ2=>cases h1; exact k
end
theorem _qod {K:Frag} {F H:Hp} {N:List Str} {vs:List V} {ds:List D} (s:_qu9 F H) (r:Reps K F vs ds):RS K ⟨F,H,fun _=>false,[]⟩ F H (L2.start N vs) (ini N.length ds) where
 ext:=Ext.refl s
 len:=by simp [L2.start,ini,r.length]
 pin:=fun i h=>by cases h
 own:=by
  refine ⟨fun _ _=>False,fun i o h=>?_,fun _ _ z=>z.elim,fun _ _ _ z=>z.elim⟩;unfold ini at h
  by_cases hi:i < ds.length
  ·rw [C9 (by simpa using hi),getElem?_map] at h
   cases q:ds[i]? with
   | none=>rw [q] at h; cases h
   | some d' =>
    rw [q] at h;cases h;obtain ⟨v,h1,h2⟩:=r.getD q;refine ⟨v,?_,.sh h2 fun _ z=>z⟩;unfold L2.start;rw [C9 (by rw [length_map,r.length]; exact hi),getElem?_map,h1];rfl
  ·rw [Hh (by simpa using hi)] at h
   have:=mem_of_getElem? h
   simp at this
section
variable {P:Ak} {w:World} {K:Frag} {mg:Str->Option Value} {base:Heap}
theorem fnO {x qual:Str} {st:Stmt} {f:Addr} {fd:Am} {N ps:List Str} {k n m:Nat} {W:List Nat} {b:Blk} (F:Fun K x qual st f fd) (S:FnScope N ps (_f st)) (hn:ps.length=n) (hm:N.length=m)
  (hb:∀ (cdv:Value) (A:Around) (outer:List Env) (s:Shared) (H:Hp) (E:XK),Room k (A.deeper (Ja qual (_f st) s.heap.objs.size f cdv))->DSs (cxOf CX0 P w K mg base N qual (_f st) f cdv A outer s H E).nox (_qu st) W b) :
  FnOk P w K mg base CX0 (k + 1) f fd ps (spO K n (_qt2 m b)):=by
 subst hn hm;refine F.ok S (fun vs H Q E h=>?_) (fun cdv A outer s H vs Q E hr h=>⟨_,hb cdv A outer s H E hr,?_⟩)
 ·obtain ⟨F,ds,d,_,r,hl,_⟩:=h
  rw [r.length,hl]
 ·obtain ⟨F,ds,o,s,r,hl,h,k⟩:=h
  unfold _qt2 at h;cases hb1:b (ini N.length ds) with
  | none=>rw [hb1] at h; cases h
  | some o1 =>
   rw [hb1] at h;refine ⟨_,F,_,o1,_qod s r,fun _ _=>rfl,hb1,?_⟩;cases o1 with
   | nx ρ=>cases h; exact fun F' H' σ' r'=>k _ F' H' (fun _=>False) r'.ext (.sh .non fun _ z=>z) fun _ z=>z.elim
   | rt o' ρ =>
    cases h;intro F' H' σ' v r';obtain ⟨A,T,_,q,n,_⟩:=r'.own;exact k v F' H' T r'.ext q n
   | bk ρ=>cases h
   | ct ρ=>cases h
   | ex c ρ=>cases h
theorem FnOk.d {f:Addr} {fd:Am} {ps:List Str} {k n:Nat} {g:List D->Option O} (F:FnOk P w K mg base CX0 k f fd ps (spO K n g)):FnOk P w K mg base CX0 k f fd ps (spD K n fun ds=>(g ds).bind oD) :=
 F.imp fun vs H Q E h=>by
  obtain ⟨F,ds,d,s,r,hl,hg,k⟩:=h;obtain ⟨o,ho,hd⟩:=bind_some hg;exact ⟨F,ds,o,s,r,hl,ho,fun v F' H' A e q hA=>k v (_qu5 F' H' A) H' (_Vh e hA) (q.rep (_kb fun b z=>(hA b z).1) hd fun b z=>_xv z)⟩
end
theorem _qp5 {K:Frag} {g:List D->Option D} {H:Hp} {a:Addr} {ns:List Int} (h:g [.lst (ns.map .int)]=some (.bl true)) (hS:SqE K H a (ns.map V.int)):spD K 1 g [.ref a] H (fun v _=>v=.bl true) fun _ _ _=>False :=
 ⟨H,[.lst (ns.map .int)],.bl true,_qu9.refl _,.cons (.lst hS (_R ns)) .nil,rfl,h,fun v F' H' _ r=>by cases r; rfl⟩
theorem law_call {P:Ak} {w:World} {K:Frag} {mg mb:Str->Option Value} {CX:CXT} {k:Nat} {fa a:Addr} {fd:Am} {x:Str} {sp:Sp} {s₁:Shared} {vs:List Value} {ns:List Int}
  (KX:K.In s₁.heap) (hns:s₁.heap.Ns Aq mg) (hb:s₁.heap.Ns K5 mb) (hbb:∀ x:Str,x ≠ "__name__"->mb x=A6 x) (hlim:s₁.heap.NoLimit) (hg:s₁.gens=#[])
  (ha:s₁.heap.get? a=some { cls:=.type "list",data:=.seq vs.toArray }) (hi:IntsAre vs ns) (hl:ns.length <= Aj) (hr:Room k G7)
  (F:∀ base:Heap,K.In base->base.Ns Aq mg->FnOk P w K mg base CX k fa fd [x] sp) (hbind:∀ (s:Shared) (u:Value),Ia s fd ⟨[u],[]⟩ [(x,u)])
  (hsp:∀ H:Hp,SqE K H a (ns.map V.int)->sp [.ref a] H (fun v _=>v=.bl true) fun _ _ _=>False)
  (hCX:∀ H e s',CX [] H s₁ (fun _ _ _=>False) e s'->False) :
  Dp (model P w) G7 (.call (.ref fa) ⟨[.ref a],[]⟩) (fun r s'=>r=.ok (.ret (.bool true))/\OldK s₁.heap s'.heap/\s'.os=s₁.os/\G5 s'.gens) s₁:=by
 refine L2.law_call KX hns hb hbb hlim hg ha hi hl hr F hbind (fun H _ hS=>hsp H ?_) hCX;rcases hS with h | ⟨o,its,n,hk,hc,hd,hs,hz,r⟩
 ·exact .inl h
 ·have e:=KX a o hk
  rw [ha] at e;cases e;exact .inr ⟨vs,_,hk,by rw [length_map]; exact hl,_Qe hi⟩
theorem _qey {l:Gv} {n k:Nat} {q:Ak} {loose:List Str} {XP:(Str->Option Value)->Heap->Prop} {YP:World->Heap->Prop} {d:DefRec} {K:Params->Frag} {CX:World->CXT} {sp:World->Sp} {x:Str}
  (hn:l.most=some n) (hn2:n <= Aj) (hdf:d.params.defaults=[]) (hr:Room k G7)
  (hY:∀ (w:World) (h:Heap),YP w h->(K w.params).In h)
  (F:∀ (w:World) (mg:Str->Option Value) (fa:Addr) (h:Heap),(K w.params).In h->h.Ns Aq mg->mg d.name=some (.ref fa) ->
   ∃ fd:Am,(∀ (s:Shared) (u:Value),Ia s fd ⟨[u],[]⟩ [(x,u)]) /\
    ∀ base:Heap,(K w.params).In base->base.Ns Aq mg->FnOk l.prog w (K w.params) mg base (CX w) k fa fd [x] (sp w))
  (hsp:∀ (w:World) (H:Hp) (a:Addr) (ns:List Int),ns.length <= n->SqE (K w.params) H a (ns.map V.int)->sp w [.ref a] H (fun v _=>v=.bl true) fun _ _ _=>False)
  (hCX:∀ (w:World) (H:Hp) (s:Shared) (e:Value) (s':Shared),CX w [] H s (fun _ _ _=>False) e s'->False) :
  Kx q loose XP YP l.row.toRowW d [] (fun f vs=>PySem.call f vs):=by
 refine Att.attach_call hn hdf fun w s₀ s₁ mg mb fa o pm cd doc a vs ns G Y ho hd hcd hmg hobj hints hlen hg=>?_;have KX:=hY w _ Y;obtain ⟨fd,hb,hF⟩:=F w mg fa _ KX G.T.g hmg;exact law_call KX G.T.g G.T.b G.T.builtins G.T.nolimit hg hobj hints (le_trans hlen hn2) hr hF hb (fun H hS=>hsp w H a ns hlen hS) fun H e s'=>hCX w H s₁ e s'
def Fn (P:Ak) (w:World) (K:Frag) (mg:Str->Option Value) (base:Heap) (k:Nat) (x:Str) (ps:List Str) (sp:Sp):Prop :=
 ∃ f fd,FnOk P w K mg base CX0 k f fd ps sp/\mg x=some (.ref f)/\Gr K (.ref f)=true/\Binds K fd ps []
section
variable {X:Cx} {k n:Nat} {x:Str} {ps:List Str} {a:Expr} {es:List Expr} {p pos:Pos}
theorem _jv {g:List D->Option D} {h:FA} (G:Fn X.prog X.w X.K X.mg X.base k x ps (spD X.K n g)) (hr:Room k X.A) (hg:Gl X x) (ha:DA X (a :: es) h)
  (hdb:(x == ("__debug__":Str))=false:=by decide) (he:Ap (a :: es) X.env=(false,eval a X.env) :: Ap es X.env:=by rfl) (hpl:(C1 pos (Ap es X.env)).any (·.1)=false:=by rfl) :
  DE X (.Call (.Name x p) (a :: es) [] pos) (_q1 n g h):=by
 obtain ⟨f,fd,F,hm,hk,hb⟩:=G;exact _qmz F hr hg hm hk hb ha hdb he hpl
theorem _qja {g:List D->Option O} {h:FA} (G:Fn X.prog X.w X.K X.mg X.base k x ps (spO X.K n g)) (hr:Room k X.A) (hg:Gl X x) (ha:DA X (a :: es) h)
  (hdb:(x == ("__debug__":Str))=false:=by decide) (he:Ap (a :: es) X.env=(false,eval a X.env) :: Ap es X.env:=by rfl) (hpl:(C1 pos (Ap es X.env)).any (·.1)=false:=by rfl) :
  DO X (.Call (.Name x p) (a :: es) [] pos) (_qcr n g h):=by
 obtain ⟨f,fd,F,hm,hk,hb⟩:=G;exact _qmt F hr hg hm hk hb ha hdb he hpl
end
theorem _qq7 {α:Type} (xs:List α) (i:Int):atP xs i=atI xs i:=rfl
theorem _qpb {n j:Nat} {i:Int} (h:ixP n i=some j):j < n:=(_qb8 h).2.1
inductive At (F H:Hp):V->List Stp->V->Prop
 | nil {v:V}:At F H v [] v
 | lst {a:Addr} {vs:List V} {i:Int} {n:Nat} {w v':V} {p:List Stp} (h:H a=some (.lst vs)) (hn:ixP vs.length i=some n) (hv:vs[n]?=some w) (t:At F H w p v'):At F H (.ref a) (.ix i :: p) v'
 | tup {a:Addr} {vs:List V} {i:Int} {n:Nat} {w v':V} {p:List Stp} (h:F a=some (.tup vs)) (hn:ixP vs.length i=some n) (hv:vs[n]?=some w) (t:At F H w p v'):At F H (.ref a) (.ix i :: p) v'
section
variable {K:Frag} {β:Bs} {F F' H H':Hp} {σ:St} {ρ:Cs}
theorem At.mono (sF:_qu9 F F') (sH:_qu9 H H') {v v':V} {p:List Stp} (h:At F H v p v'):At F' H' v p v':=by
 induction h with
 | nil=>exact .nil
 | lst h hn hv _ ih=>exact .lst (sH _ _ h) hn hv ih
 | tup h hn hv _ ih=>exact .tup (sF _ _ h) hn hv ih
theorem At.uniq (s:_qu9 F H) {v v1 v2:V} {p:List Stp} (h:At F H v p v1) (h':At F H v p v2):v1=v2:=by
 induction h with
 | nil=>cases h'; rfl
 | lst h hn hv _ ih =>
  cases h' with
  | lst g gn gv t =>
   rw [h] at g; cases g;rw [hn] at gn; cases gn;rw [hv] at gv; cases gv;exact ih t
  | tup g _ _ _=>have:=s _ _ g; rw [h] at this; cases this
 | tup h hn hv _ ih =>
  cases h' with
  | lst g _ _ _=>have:=s _ _ h; rw [g] at this; cases this
  | tup g gn gv t =>
   rw [h] at g; cases g;rw [hn] at gn; cases gn;rw [hv] at gv; cases gv;exact ih t
theorem At.snoc {v w v':V} {p:List Stp} {s:Stp} (h:At F H v p w) (h':At F H w [s] v'):At F H v (p++[s]) v':=by
 induction h with
 | nil=>exact h'
 | lst h hn hv _ ih=>exact .lst h hn hv (ih h')
 | tup h hn hv _ ih=>exact .tup h hn hv (ih h')
def putO (o':O) (p:List Stp) (o:O):Option O:=atO (fun _=>some o') p o
theorem Own.focus:∀ {p:List Stp} {v:V} {c o:O} {A:AS},Own K F H v c A->_qtn p c=some o ->
  ∃ (v':V) (A1 A2:AS),At F H v p v'/\Own K F H v' o A1/\(∀ b,A b ↔ A1 b \/ A2 b)/\(∀ b,A1 b->¬ A2 b) /\
   ∀ (F' H':Hp) (o':O) (A1':AS),_qu9 F F'->(∀ b,A2 b->H' b=H b)->Own K F' H' v' o' A1'->(∀ b,A1' b->¬ A2 b)->∃ c',putO o' p c=some c'/\Own K F' H' v c' fun b=>A1' b \/ A2 b
 | [],v,c,o,A,h,e=>by
  cases e;exact ⟨v,A,fun _=>False,.nil,h,fun b=>⟨.inl,fun z=>z.elim id Az⟩,fun _ _ z=>z,fun F' H' o' A1' _ _ q _=>⟨o',rfl,q.congr fun b=>⟨.inl,fun z=>z.elim id Az⟩⟩⟩
 | s :: p,v,c,o,A,h,e=>by
  have ex:∃ n k,plc c s=some n/\(kids c)[n]?=some k/\_qtn p k=some o:=by
   unfold _qtn at e;obtain ⟨n,hn,e⟩:=bind_some e;obtain ⟨k,hk,e⟩:=bind_some e;exact ⟨n,k,hn,hk,e⟩
  clear e;obtain ⟨n,k,hn,hk,e⟩:=ex;cases h with
  | sh _ _=>cases s <;> cases hn
  | lst h0 n0 r hA =>
   rename_i a vs os A';cases s with
   | fl x=>cases hn
   | ix i =>
    obtain ⟨w,B1,B2,h1,h2,h3,h4,h5⟩:=r.split (n:=n) (o:=k) hk;obtain ⟨v',A1,A2,g1,g2,g3,g4,g5⟩:=Own.focus (p:=p) h2 e;have hn':ixP vs.length i=some n:=by rw [r.length]; exact hn
    refine ⟨v',A1,fun b=>b=a \/ A2 b \/ B2 b,.lst h0 hn' h1 g1,g2,fun b=>?_,fun b x y=>?_,fun F' H' o' A1' sF kk q dd=>?_⟩
    ·rw [hA b,h3 b,g3 b]
     exact ⟨fun z=>z.elim (fun y=>.inr (.inl y)) fun y=>y.elim (fun x=>x.elim .inl fun w=>.inr (.inr (.inl w))) fun w=>.inr (.inr (.inr w)),fun z=>z.elim (fun y=>.inr (.inl (.inl y))) fun y=>y.elim .inl fun x=>x.elim (fun w=>.inr (.inl (.inr w))) fun w=>.inr (.inr w)⟩
    ·rcases y with rfl | y | y
     ·exact n0 ((h3 b).mpr (.inl ((g3 b).mpr (.inl x))))
     ·exact g4 b x y
     ·exact h4 b ((g3 b).mpr (.inl x)) y
    ·obtain ⟨c',e1,e2⟩:=g5 F' H' o' A1' sF (fun b z=>kk b (.inr (.inl z))) q fun b x y=>dd b x (.inr (.inl y))
     have e3:=h5 F' H' w c' (fun b=>A1' b \/ A2 b) sF (fun b z=>kk b (.inr (.inr z))) e2 fun b x y=>by
      rcases x with x | x
      ·exact dd b x (.inr (.inr y))
      ·exact h4 b ((g3 b).mpr (.inr x)) y
     have ev:vs.set n w=vs:=by
      apply Ic ; intro j
      by_cases hj:j=n
      ·subst hj
       rw [h1,getElem?_set_self (Ai.mp h1).1]
      ·rw [getElem?_set_ne (B4 hj)]
     rw [ev] at e3;refine ⟨.lst (os.set n c'),?_,.lst ((kk a (.inl rfl)).trans h0) (A':=fun b=>(A1' b \/ A2 b) \/ B2 b) ?_ e3 fun b=>?_⟩
     ·have:os[n]?=some k:=hk
      unfold putO at e1 ⊢;simp only [atO,hn,this,e1,Option.bind_some,Option.map_some,reset,kids]
     ·rintro ((z | z) | z)
      ·exact dd a z (.inl rfl)
      ·exact n0 ((h3 a).mpr (.inl ((g3 a).mpr (.inr z))))
      ·exact n0 ((h3 a).mpr (.inr z))
     ·exact ⟨fun z=>z.elim (fun y=>.inr (.inl (.inl y))) fun y=>y.elim .inl fun x=>x.elim (fun w=>.inr (.inl (.inr w))) fun w=>.inr (.inr w),fun z=>z.elim (fun y=>.inr (.inl y)) fun y=>y.elim (fun x=>x.elim .inl fun w=>.inr (.inr (.inl w))) fun w=>.inr (.inr (.inr w))⟩
  | tup h0 r =>
   rename_i a vs os;cases s with
   | fl x=>cases hn
   | ix i =>
    obtain ⟨w,B1,B2,h1,h2,h3,h4,h5⟩:=r.split (n:=n) (o:=k) hk;obtain ⟨v',A1,A2,g1,g2,g3,g4,g5⟩:=Own.focus (p:=p) h2 e;have hn':ixP vs.length i=some n:=by rw [r.length]; exact hn
    refine ⟨v',A1,fun b=>A2 b \/ B2 b,.tup h0 hn' h1 g1,g2,fun b=>?_,fun b x y=>?_,fun F' H' o' A1' sF kk q dd=>?_⟩
    ·rw [h3 b,g3 b,or_assoc]
    ·rcases y with y | y
     ·exact g4 b x y
     ·exact h4 b ((g3 b).mpr (.inl x)) y
    ·obtain ⟨c',e1,e2⟩:=g5 F' H' o' A1' sF (fun b z=>kk b (.inl z)) q fun b x y=>dd b x (.inl y)
     have e3:=h5 F' H' w c' (fun b=>A1' b \/ A2 b) sF (fun b z=>kk b (.inr z)) e2 fun b x y=>by
      rcases x with x | x
      ·exact dd b x (.inr y)
      ·exact h4 b ((g3 b).mpr (.inr x)) y
     have ev:vs.set n w=vs:=by
      apply Ic ; intro j
      by_cases hj:j=n
      ·subst hj
       rw [h1,getElem?_set_self (Ai.mp h1).1]
      ·rw [getElem?_set_ne (B4 hj)]
     rw [ev] at e3;refine ⟨.tup (os.set n c'),?_,.tup (sF _ _ h0) (e3.congr fun b=>or_assoc)⟩
     have:os[n]?=some k:=hk
     unfold putO at e1 ⊢;simp only [atO,hn,this,e1,Option.bind_some,Option.map_some,reset,kids]
theorem _Ji {g:O->Option O}:∀ {p:List Stp} {c c':O},atO g p c=some c'->∃ o o',_qtn p c=some o/\g o=some o'/\putO o' p c=some c'
 | [],c,c',h=>⟨c,c',rfl,h,rfl⟩
 | s :: p,c,c',h=>by
  unfold atO at h;obtain ⟨n,hn,h⟩:=bind_some h;obtain ⟨k,hk,h⟩:=bind_some h;obtain ⟨k',h',rfl⟩:=map_some h;obtain ⟨o,o',e1,e2,e3⟩:=_Ji h';refine ⟨o,o',by simp only [_qtn,hn,hk,Option.bind_some,e1],e2,?_⟩;unfold putO at e3 ⊢;simp only [atO,hn,hk,e3,Option.bind_some,Option.map_some]
theorem RT.frame {v:V} {o:O} (r:RT K β F H σ ρ v o):∃ B',RS K ⟨β.F₀,B',β.P,β.σ₀⟩ F H σ ρ/\∀ (F' H':Hp) (σ':St) (ρ':Cs),_qu9 F F'->RS K ⟨β.F₀,B',β.P,β.σ₀⟩ F' H' σ' ρ'->RT K β F' H' σ' ρ' v o:=by
 obtain ⟨A,T,⟨h1,h2,h3⟩,q,n,d⟩:=r.own;have hT:∀ b,T b->∃ u,H b=some u:=fun b z=>by obtain ⟨u,h,_⟩:=q.there b z; exact ⟨u,h⟩
 have e:=r.ext;refine ⟨_qu5 β.B H T,⟨⟨e.ff,e.fh,_qcq e.hh,fun b u z=>?_⟩,r.len,r.pin,A,h1,fun i b z=>?_,h3⟩,fun F' H' σ' ρ' sF r'=>⟨⟨r'.ext.ff,r'.ext.fh,fun b u z=>?_,fun b u z=>?_⟩,r'.len,r'.pin,?_⟩⟩
 ·rcases e.nw b u z with y | y
  ·exact .inl y
  ·refine .inr ((_jp fun t=>?_).trans y)
   rw [(n b t).1] at z; cases z
 ·obtain ⟨e1,e2,e3⟩:=h2 i b z
  exact ⟨e1,(_jp (d i b z)).trans e2,e3⟩
 ·refine r'.ext.hh b u ((_jp fun t=>?_).trans z)
  rw [(n b t).2] at z; cases z
 ·rcases r'.ext.nw b u z with y | y
  ·exact .inl y
  ·by_cases t:T b
   ·exact .inr (n b t).2
   ·have y':_qu5 β.B H T b=none:=y
    rw [_jp t] at y'; exact .inr y'
 ·obtain ⟨A',g1,g2,g3⟩:=r'.own
  have nB:∀ b,T b->_qu5 β.B H T b ≠ none:=fun b t z=>by
   rw [_xv t] at z;obtain ⟨u,hu⟩:=hT b t;rw [hu] at z; cases z
  refine ⟨A',T,⟨g1,fun i b z=>?_,g3⟩,q.stay sF fun b t=>?_,fun b t=>⟨?_,(n b t).2⟩,fun i b x t=>nB b t (g2 i b x).2.1⟩
  ·obtain ⟨e1,e2,e3⟩:=g2 i b z
   refine ⟨e1,?_,e3⟩;have e2':_qu5 β.B H T b=none:=e2;rw [_jp fun t=>nB b t e2'] at e2';exact e2'
  ·obtain ⟨u,hu⟩:=hT b t
   rw [hu];exact r'.ext.hh b u ((_xv t).trans hu)
  ·cases z:F' b with
   | none=>rfl
   | some u =>
    exfalso;rcases r'.ext.nw b u z with y | y
    ·have:=e.ff b u y
     rw [(n b t).1] at this; cases this
    ·exact nB b t y
theorem RT.change {v1:V} {o1:O} (r:RT K β F H σ ρ v1 o1) {i:Nat} {c:O} (hc:ρ[i]?=some (some c)) {p:List Stp} {o:O} (ho:_qtn p c=some o) :
  ∃ (v0 v:V) (A1 T:AS),σ[i]?=some (some v0)/\At F H v0 p v/\Own K F H v o A1/\Own K F H v1 o1 T/\(∀ b,A1 b->¬ T b) /\
   ∀ (x:Addr) (u:HO) (A1':AS) (o' c':O),A1 x->(∀ b,A1' b->A1 b \/ T b)->Own K F (upd H x u) v o' A1'->putO o' p c=some c'->RS K β F (upd H x u) σ (ρ.set i (some c')):=by
 obtain ⟨A,T,⟨h1,h2,h3⟩,qT,hT,hd⟩:=r.own;obtain ⟨v0,e1,q⟩:=h1 i c hc;obtain ⟨v,A1,A2,g1,g2,g3,g4,g5⟩:=q.focus ho;refine ⟨v0,v,A1,T,e1,g1,g2,qT,fun b z=>hd i b ((g3 b).mpr (.inl z)),fun x u A1' o' c' hx hs q' hp=>?_⟩;have xi:A i x:=(g3 x).mpr (.inl hx);have xF:=h2 i x xi;have sH:∀ b w,b ≠ x->H b=some w->upd H x u b=some w:=fun b w ne e=>by rw [_e ne]; exact e
 obtain ⟨c2,f1,f2⟩:=g5 F (upd H x u) o' A1' (_qu9.refl _) (fun b z=>_e (by rintro rfl; exact g4 b hx z)) q' fun b z y=>by
  rcases hs b z with t | t
  ·exact g4 b t y
  ·exact hd i b ((g3 b).mpr (.inr y)) t
 rw [hp] at f1; cases f1;refine ⟨⟨r.ext.ff,fun b w e=>sH b w (_c e xF.1) (r.ext.fh b w e),fun b w e=>sH b w (_c e xF.2.1) (r.ext.hh b w e),r.ext.nw⟩,by simpa using r.len,r.pin,fun j b=>(j ≠ i/\A j b) \/ (j=i/\(A1' b \/ A2 b)),fun j o1 h=>?_,fun j b h=>?_,fun j k b a1 a2=>?_⟩
 ·rcases _qbg h with ⟨rfl,e,_⟩ | ⟨ne,h⟩
  ·cases e
   exact ⟨v0,e1,f2.congr fun b=>⟨fun z=>.inr ⟨rfl,z⟩,fun z=>z.elim (fun y=>absurd rfl y.1) (·.2)⟩⟩
  ·obtain ⟨v',k1,k2⟩:=h1 j o1 h
   refine ⟨v',k1,(k2.stay (_qu9.refl _) (H':=upd H x u) fun b z=>_e ?_).congr fun b=>⟨fun z=>.inl ⟨ne,z⟩,fun z=>z.elim (·.2) fun y=>absurd y.1 ne⟩⟩;rintro rfl;exact ne (h3 j i b z xi)
 ·rcases h with ⟨ne,h⟩ | ⟨rfl,h⟩
  ·obtain ⟨k1,k2,o1,k3⟩:=h2 j b h
   exact ⟨k1,k2,o1,by rw [getElem?_set_ne (B4 ne)]; exact k3⟩
  ·have hb:F b=none/\β.B b=none:=by
    rcases h with h | h
    ·rcases hs b h with t | t
     ·exact ⟨(h2 j b ((g3 b).mpr (.inl t))).1,(h2 j b ((g3 b).mpr (.inl t))).2.1⟩
     ·exact hT b t
    ·exact ⟨(h2 j b ((g3 b).mpr (.inr h))).1,(h2 j b ((g3 b).mpr (.inr h))).2.1⟩
   exact ⟨hb.1,hb.2,c',getElem?_set_self (Ai.mp hc).1⟩
 ·have key:∀ {j b},j ≠ i->A j b->¬ (A1' b \/ A2 b):=fun {j b} ne h z=>by
   rcases z with z | z
   ·rcases hs b z with t | t
    ·exact ne (h3 j i b h ((g3 b).mpr (.inl t)))
    ·exact hd j b h t
   ·exact ne (h3 j i b h ((g3 b).mpr (.inr z)))
  rcases a1 with ⟨n1,a1⟩ | ⟨rfl,a1⟩ <;> rcases a2 with ⟨n2,a2⟩ | ⟨rfl,a2⟩
  ·exact h3 j k b a1 a2
  ·exact absurd a2 (key n1 a1)
  ·exact absurd a1 (key n2 a2)
  ·rfl
end
def tP (K:Frag) (i:Nat) (S:List Bool) (p:FP):TE:=fun σ H Q=>∃ β F ρ q c o,RS K β F H σ ρ/\p (frz S ρ)=some q/\ρ[i]?=some (some c)/\_qtn q c=some o /\
 ∀ v0 v F' H',σ[i]?=some (some v0)->_qu9 F F'->_qu9 H H'->RS K β F' H' σ ρ->At F' H' v0 q v->Q v H'
def DP (X:Cx) (e:Expr) (i:Nat) (S:List Bool) (p:FP):Prop:=PE X e (tP X.K i S p)
section
variable {X:Cx} {e k:Expr} {pos:Pos} {i:Nat} {S:List Bool} {p:FP}
theorem _Xb {x:Str} (h:PE X (.Name x pos) (_qsw i)):DP X (.Name x pos) i S pNil:=by
 refine PE.imp h fun σ H Q q=>?_;obtain ⟨β,F,ρ,q,c,o,r,hq,hc,ho,k⟩:=q;cases hq;obtain ⟨A,h1,_⟩:=r.own;obtain ⟨v,e1,_⟩:=h1 i c hc;exact ⟨v,e1,k v v F H e1 (_qu9.refl _) (_qu9.refl _) r .nil⟩
theorem at_of {K:Frag} {β:Bs} {F H F' H':Hp} {σ:St} {ρ:Cs} {v v1:V} {o1 c o:O} {v0:V} {q:List Stp} (rt:RT K β F' H' σ ρ v1 o1) (hc:ρ[i]?=some (some c)) (ho:_qtn q c=some o) (e0:σ[i]?=some (some v0)) (sF:_qu9 F F') (sH:_qu9 H H') (h:At F H v0 q v) :
  ∃ (A1 T:AS),Own K F' H' v o A1/\Own K F' H' v1 o1 T/\(∀ b,A1 b->¬ T b)/\∀ (x:Addr) (u:HO) (A1':AS) (o' c':O),A1 x->(∀ b,A1' b->A1 b \/ T b)->Own K F' (upd H' x u) v o' A1'->putO o' q c=some c'->RS K β F' (upd H' x u) σ (ρ.set i (some c')):=by
 obtain ⟨v0',v',A1,T,e1,a1,q1,q2,d,k⟩:=rt.change hc ho;rw [e0] at e1; cases e1
 have:=(h.mono sF sH).uniq rt.ext.fh a1
 subst this;exact ⟨A1,T,q1,q2,d,k⟩
theorem some_of {c:Option (Option O)} {o:O} (h:c.bind id=some o):c=some (some o):=by
 cases c with
 | none=>cases h
 | some c=>cases c with
  | none=>cases h
  | some o'=>cases h; rfl
theorem _qj7 {f:FM} {st:Stmt} (hp:PS X st (tDrop (tBM X.K "list" _qfg (tP X.K i S p) (_z6 (tM X.K f) _qsx)))):DS X st [] (bMut i S p f gApp):=by
 refine PS.imp hp fun E σ H z=>?_;obtain ⟨β,F,ρ,o,r,hw,h,k⟩:=z;obtain ⟨q,hq,h⟩:=bind_some h;obtain ⟨c0,hc0,h⟩:=bind_some h;have hc0:=some_of hc0;obtain ⟨m0,ho0',h⟩:=bind_some h;split at h
 ·rename_i hm0
  obtain ⟨os0,rfl⟩:∃ os0,m0=.lst os0:=by cases m0 <;> first | exact ⟨_,rfl⟩ | cases hm0
  have ho0:=ho0';obtain ⟨rr,hf,h⟩:=bind_some h;obtain ⟨c1,hc1,h⟩:=bind_some h;obtain ⟨c',hc',rfl⟩:=map_some h;obtain ⟨m,m',g1,g2,g3⟩:=_Ji hc';have hc1:=some_of hc1;refine ⟨β,F,ρ,q,c0,.lst os0,r,hq,hc0,ho0,fun v0 v F1 H1 e0 s1 s2 r1 at1=>⟨?_,β,F1,ρ,rr,r1,hf,fun w F2 H2 sF sH rt=>?_⟩⟩
  ·obtain ⟨A,h1,_⟩:=r1.own
   obtain ⟨v0',e0',qq⟩:=h1 i c0 hc0;rw [e0] at e0'; cases e0';obtain ⟨v',Aa,Ab,a1,a2,a3⟩:=qq.focus ho0
   have:=at1.uniq r1.ext.fh a1
   subst this;cases a2 with
   | lst h0 _ _ _=>exact .inl ⟨rfl,_,SqL.of h0⟩
  ·obtain ⟨A1,T,q1,q2,d,fin⟩:=at_of rt hc1 g1 e0 sF sH at1
   unfold gApp at g2;split at g2
   ·rename_i os
    split at g2
    ·rename_i hlen
     cases g2;cases q1 with
     | lst h0 n0 rv hA =>
      rename_i a vs A';have nT:¬ T a:=d a ((hA a).mpr (.inl rfl));refine ⟨a,vs,w,rfl,rfl,h0,by rw [rv.length]; exact lt_of_lt_of_le hlen (_z0 (le_refl _)),?_⟩;refine k F2 _ σ (fin a _ (fun b=>b=a \/ (A' b \/ T b)) _ c' ((hA a).mpr (.inl rfl)) (fun b z=>?_) (.lst _a (A':=fun b=>A' b \/ T b) (fun z=>z.elim n0 nT) ?_ fun _=>Lq) g3)
      ·rcases z with z | z | z
       ·exact .inl ((hA b).mpr (.inl z))
       ·exact .inl ((hA b).mpr (.inr z))
       ·exact .inr z
      ·refine (rv.stay (_qu9.refl _) (H':=upd H2 a (.lst (vs++[w]))) fun b z=>_e (by rintro rfl; exact n0 z)).append (.cons (q2.stay (_qu9.refl _) (H':=upd H2 a (.lst (vs++[w]))) fun b z=>_e (by rintro rfl; exact nT z)) (.nil (A:=fun _=>False) fun _ z=>z) (fun _ _ z=>z) fun b=>⟨.inl,fun z=>z.elim id Az⟩) fun b z y=>?_
       exact d b ((hA b).mpr (.inr z)) y
    ·cases g2
   ·cases g2
 ·cases h
theorem _qps {kx:FE} {f:FM} {st:Stmt} (hp:PS X st (tAsg (tM X.K f) (gSub (tP X.K i S p) (tD X.K kx) rSetL))):DS X st [] (bPut i S p kx f):=by
 refine PS.imp hp fun E σ H z=>?_;obtain ⟨β,F,ρ,o,r,hw,h,k⟩:=z;obtain ⟨rr,hf,ha⟩:=bind_some h;obtain ⟨q,hq,hb⟩:=bind_some ha;obtain ⟨dk,hdk,hc⟩:=bind_some hb;obtain ⟨c0,hc0',hd⟩:=bind_some hc;have hc0:=some_of hc0';clear h ha hb hc hc0';have h:=hd;clear hd;split at h
 ·rename_i j
  obtain ⟨c',hc',rfl⟩:=map_some h;obtain ⟨m,m',g1,g2,g3⟩:=_Ji hc';refine ⟨β,F,ρ,rr,r,hf,fun w F1 H1 _ _ rt=>?_⟩;obtain ⟨B',rs,back⟩:=rt.frame;refine ⟨_,F1,rr.2,q,c0,m,rs,hq,hc0,g1,fun v0 v F2 H2 e0 s1 s2 r2 at2=>?_⟩;obtain ⟨G,l,re,rz⟩:=r2.look S;refine ⟨G,frz S rr.2,_,l.gh,re,hdk,fun y F3 H3 e3 q3=>?_⟩;cases q3;have r3:=r2.back l e3;have rt3:=back _ H3 σ rr.2 (s1.trans _q9) r3;obtain ⟨A1,T,q1,q2,d,fin⟩:=at_of rt3 hc0 g1 e0 (_q9 (F:=F2) (H:=H2) (F':=F3)) e3.hh at2;unfold gSetI at g2;split at g2
  ·rename_i os
   obtain ⟨n,hn,rfl⟩:=map_some g2;cases q1 with
   | lst h0 n0 rv hA =>
    rename_i a vs A';have nT:¬ T a:=d a ((hA a).mpr (.inl rfl));have hn':ixP vs.length j=some n:=by rw [rv.length]; exact hn
    have hlt:n < os.length:=_qpb hn;obtain ⟨w0,B1,B2,b1,b2,b3,b4,b5⟩:=rv.split (n:=n) (o:=os[n]) (getElem?_eq_getElem hlt);refine ⟨a,vs,j,n,rfl,rfl,h0,hn',?_⟩;have own':=b5 (_z5 F2 H2 F3) (upd H3 a (.lst (vs.set n w))) w rr.1 T (_qu9.refl _) (fun b z=>_e (by rintro rfl; exact n0 ((b3 b).mpr (.inr z)))) (q2.stay (_qu9.refl _) fun b z=>_e (by rintro rfl; exact nT z)) fun b z y=>d b ((hA b).mpr (.inr ((b3 b).mpr (.inr y)))) z;refine k (_z5 F2 H2 F3) _ σ (fin a _ (fun b=>b=a \/ (T b \/ B2 b)) _ c' ((hA a).mpr (.inl rfl)) (fun b z=>?_) (.lst _a (A':=fun b=>T b \/ B2 b) ?_ own' fun _=>Lq) g3)
    ·rcases z with z | z | z
     ·exact .inl ((hA b).mpr (.inl z))
     ·exact .inr z
     ·exact .inl ((hA b).mpr (.inr ((b3 b).mpr (.inr z))))
    ·rintro (z | z)
     ·exact nT z
     ·exact n0 ((b3 a).mpr (.inr z))
  ·cases g2
 ·cases h
end
end DL
namespace DL
open PySem PySem.Spec PyProof.Rows L2 PySem.SeqAt
theorem _qn6 {g:Int->Int->Int} {x y d:D} (h:dI g x y=some d):∃ i j,x=.int i/\y=.int j/\d=.int (g i j):=by
 unfold dI at h;split at h
 ·cases h; exact ⟨_,_,rfl,rfl,rfl⟩
 ·cases h
theorem _qn7 {g:Int->Int->Bool} {x y d:D} (h:dB g x y=some d):∃ i j,x=.int i/\y=.int j/\d=.bl (g i j):=by
 unfold dB at h;split at h
 ·cases h; exact ⟨_,_,rfl,rfl,rfl⟩
 ·cases h
section
variable {K:Frag} {X:Cx}
theorem _qon {g:Int->Int->Int}:OpD K (rI0 fun i j=>.int (g i j)) (dI g):=by
 intro x y d F H v u Q h s rx ry k;obtain ⟨i,j,rfl,rfl,rfl⟩:=_qn6 h;cases rx; cases ry;exact ⟨i,j,rfl,rfl,k _ F H (Ext.refl s) (.int _)⟩
theorem _qhn {g:Int->Int->Bool}:OpD K (rI0 fun i j=>.bl (g i j)) (dB g):=by
 intro x y d F H v u Q h s rx ry k;obtain ⟨i,j,rfl,rfl,rfl⟩:=_qn7 h;cases rx; cases ry;exact ⟨i,j,rfl,rfl,k _ F H (Ext.refl s) (.bl _)⟩
def rAddD:R2:=fun x y H Q=>(∃ i j,x=.int i/\y=.int j/\Q (.int (i + j)) H) \/ ∃ i j,x=.str i/\y=.str j/\i.length + j.length <= Aj/\Q (.str (i++j)) H
theorem _V8:OpR X (Dg .Add) rAddD:=OpR.or _x5 _kr
theorem _V5:OpD K rAddD dAdd:=by
 intro x y d F H v u Q h s rx ry k;unfold dAdd at h;split at h
 ·cases h; cases rx; cases ry
  exact .inl ⟨_,_,rfl,rfl,k _ F H (Ext.refl s) (.int _)⟩
 ·split at h
  ·rename_i hl
   cases h; cases rx; cases ry;exact .inr ⟨_,_,rfl,rfl,_z0 hl,k _ F H (Ext.refl s) (.str _)⟩
  ·cases h
 ·cases h
theorem _V2:OpD K (rI0 fun i j=>.int (i - j)) dSub:=_qon
theorem _qhl:OpD K (rI0 fun i j=>.bl (decide (i < j))) dLt:=_qhn
theorem _qla:OpD K (rI0 fun i j=>.bl (decide (i <= j))) dLe:=_qhn
theorem _qom:OpD K (rI0 fun i j=>.bl (decide (j <= i))) dGe:=_qhn
theorem _qgd {i:Int} (h:i.natAbs < BIG):Kq i <= 1000001:=by
 unfold BIG at h;exact Nat.le_succ_of_le (intBits_le_iff.mpr h)
theorem _Xi {i:Int} (h:i.natAbs < SHORT):Kq i <= 64:=by
 unfold SHORT at h;exact Nat.le_succ_of_le (intBits_le_iff.mpr h)
theorem _qi2 {i j:Int} (h:_qfu i j):IntMulOk i j:=by
 rcases h with h | h | h
 ·exact IntMulOk.of_le (_qgd h.1) (_qgd h.2) (by decide)
 ·exact IntMulOk.of_left (_Xi h)
 ·exact IntMulOk.of_right (_Xi h)
theorem _N:OpR X (Dg .Mult) (rI _qfu fun i j=>.int (i * j)) :=
 opI fun i j _ _ _ _ _ hc q=>mul_int q (_qi2 hc)
theorem _V7:OpR X (Dg .FloorDiv) (rI (fun i j=>j ≠ 0/\j.natAbs < BIGD) fun i j=>.int (i.fdiv j)) :=
 opI fun i j _ _ _ _ _ hc q=>floordiv_int hc.1 q (.inl (PyProof.noPylong_of_log2 (by
  have h:=hc.2;unfold BIGD at h
  by_cases hz:j.natAbs=0
  ·rw [hz]; decide
  ·exact (Nat.log2_lt hz).mpr h)))
theorem _M:OpD K (rI _qfu fun i j=>.int (i * j)) _qtu:=by
 intro x y d F H v u Q h s rx ry k;unfold _qtu at h;split at h
 ·split at h
  ·rename_i hc
   cases h; cases rx; cases ry;exact ⟨_,_,rfl,rfl,hc,k _ F H (Ext.refl s) (.int _)⟩
  ·cases h
 ·cases h
theorem _V4:OpD K (rI (fun i j=>j ≠ 0/\j.natAbs < BIGD) fun i j=>.int (i.fdiv j)) _qtw:=by
 intro x y d F H v u Q h s rx ry k;unfold _qtw at h;split at h
 ·split at h
  ·rename_i hc
   cases h; cases rx; cases ry;exact ⟨_,_,rfl,rfl,hc,k _ F H (Ext.refl s) (.int _)⟩
  ·cases h
 ·cases h
theorem _qa8:OpD K (rI (fun _ j=>j ≠ 0) fun i j=>.int (i.fmod j)) dMod:=by
 intro x y d F H v u Q h s rx ry k;unfold dMod at h;split at h
 ·split at h
  ·rename_i hc
   cases h; cases rx; cases ry;exact ⟨_,_,rfl,rfl,hc,k _ F H (Ext.refl s) (.int _)⟩
  ·cases h
 ·cases h
theorem _qf2:UnD K (rU fun i=>.int (-i)) dNeg:=by
 intro x d F H v Q h s rx k;unfold dNeg at h;split at h
 ·cases h; cases rx
  exact ⟨_,rfl,k _ F H (Ext.refl s) (.int _)⟩
 ·cases h
mutual
def toP:D->PyData
 | .non=>.none
 | .bl b=>.bool b
 | .int i=>.int i
 | .str x=>.str x
 | .lst ds=>.list (_qsv ds)
 | .tup ds=>.tuple (_qsv ds)
def _qsv:List D->List PyData
 | []=>[]
 | d :: ds=>toP d :: _qsv ds
end
mutual
theorem _qg0:∀ {n:Nat} {d:D},shp n d=true->(toP d).canLay0=true/\(toP d).depth <= n
 | n,.non,_=>by simp [toP,Ev,PyData.depth]
 | n,.bl _,_=>by simp [toP,Ev,PyData.depth]
 | n,.int _,_=>by simp [toP,Ev,PyData.depth]
 | n,.str x,h=>by
  refine ⟨?_,by simp [toP,PyData.depth]⟩;unfold shp at h;simpa [toP,Ev,PyData.strOk] using h
 | 0,.lst _,h=>by simp [shp] at h
 | n + 1,.lst xs,h=>by
  obtain ⟨h1,h2⟩:=_zi (n:=n) (ds:=xs) (by simpa [shp] using h);exact ⟨by simpa [toP,Ev] using h1,by simpa [toP,PyData.depth] using h2⟩
 | 0,.tup _,h=>by simp [shp] at h
 | n + 1,.tup xs,h=>by
  obtain ⟨h1,h2⟩:=_zi (n:=n) (ds:=xs) (by simpa [shp] using h);exact ⟨by simpa [toP,Ev] using h1,by simpa [toP,PyData.depth] using h2⟩
theorem _zi:∀ {n:Nat} {ds:List D},_qt0 n ds=true->Ie (_qsv ds)=true/\Jo (_qsv ds) <= n
 | n,[],_=>by simp [_qsv,Ie,Jo]
 | n,d :: ds,h=>by
  have h':shp n d=true/\_qt0 n ds=true:=by simpa [_qt0] using h
  obtain ⟨a1,a2⟩:=_qg0 h'.1;obtain ⟨b1,b2⟩:=_zi h'.2;exact ⟨by simp [_qsv,Ie,a1,b1],by simp [_qsv,Jo]; omega⟩
end
theorem _Y {d:D} (h:shp 20 d=true):SeqAt.shaped (toP d)=true:=by
 obtain ⟨h1,h2⟩:=_qg0 h;unfold SeqAt.shaped;simp [h1]; omega
mutual
theorem _Kn:∀ {n m:Nat} {x y:D},shp n x=true->shp m y=true->Fz (toP x) (toP y)=eqD x y
 | n,m,x,y,hx,hy=>by
  cases x with
  | lst xs =>
   cases y with
   | lst ys =>
    cases n with
    | zero=>simp [shp] at hx
    | succ n=>cases m with
     | zero=>simp [shp] at hy
     | succ m =>
      simp only [toP,Fz,eqD];exact _Zw (n:=n) (m:=m) (by simpa [shp] using hx) (by simpa [shp] using hy)
   | _=>simp [toP,Fz,eqD]
  | tup xs =>
   cases y with
   | tup ys =>
    cases n with
    | zero=>simp [shp] at hx
    | succ n=>cases m with
     | zero=>simp [shp] at hy
     | succ m =>
      simp only [toP,Fz,eqD];exact _Zw (n:=n) (m:=m) (by simpa [shp] using hx) (by simpa [shp] using hy)
   | _=>simp [toP,Fz,eqD]
  | _ =>
   cases y with
   | _=>simp [toP,Fz,eqD]
theorem _Zw:∀ {n m:Nat} {xs ys:List D},_qt0 n xs=true->_qt0 m ys=true->Ge (_qsv xs) (_qsv ys)=_qtt xs ys
 | n,m,[],[],_,_=>by simp [_qsv,Ge,_qtt]
 | n,m,[],_ :: _,_,_=>by simp [_qsv,Ge,_qtt]
 | n,m,_ :: _,[],_,_=>by simp [_qsv,Ge,_qtt]
 | n,m,x :: xs,y :: ys,hx,hy=>by
  have hx':shp n x=true/\_qt0 n xs=true:=by simpa [_qt0] using hx
  have hy':shp m y=true/\_qt0 m ys=true:=by simpa [_qt0] using hy
  simp only [_qsv,Ge,_qtt];rw [_Kn hx'.1 hy'.1,_Zw hx'.2 hy'.2]
end
def rEqD (K:Frag) (neg:Bool):R2:=fun x y H Q=>∃ F dx dy,_qu9 F H/\Rep K F x dx/\Rep K F y dy/\shp 20 dx=true/\shp 20 dy=true/\Q (.bl (if neg=true then !eqD dx dy else eqD dx dy)) H
variable {pins:List (Addr × Obj)} {σ:L2.St} {H F:Hp} {s:Shared}
theorem _Vw (I:Inv X pins σ H s) (e:_qu9 F H):(∀ {v:V} {d:D},Rep X.K F v d->∀ {n:Nat},shp n d=true->∀ {u:Value},RelV v u->∃ as,Reads s.heap u (toP d) as)/\∀ {vs:List V} {ds:List D},Reps X.K F vs ds->∀ {n:Nat},_qt0 n ds=true->∀ {us:List Value},_qu8 vs us->∃ as,Mn s.heap us (_qsv ds) as:=by
 refine ⟨@Rep.rec X.K F (fun v d _=>∀ {n:Nat},shp n d=true->∀ {u:Value},RelV v u->∃ as,Reads s.heap u (toP d) as) (fun v d _=>∀ {n:Nat},_qt0 n d=true->∀ {us:List Value},_qu8 v us->∃ as,Mn s.heap us (_qsv d) as) ?n ?b ?i ?s ?l ?t ?m ?c,@Reps.rec X.K F (fun v d _=>∀ {n:Nat},shp n d=true->∀ {u:Value},RelV v u->∃ as,Reads s.heap u (toP d) as) (fun v d _=>∀ {n:Nat},_qt0 n d=true->∀ {us:List Value},_qu8 v us->∃ as,Mn s.heap us (_qsv d) as) ?n ?b ?i ?s ?l ?t ?m ?c⟩
 case n=>intro n _ u r; cases r; exact ⟨_,.none⟩
 case b=>intro b n _ u r; cases r; exact ⟨_,.bool b⟩
 case i=>intro i n _ u r; obtain ⟨t,rfl⟩:=r; exact ⟨_,.int i t⟩
 case s=>intro x n _ u r; obtain ⟨t,rfl⟩:=r; exact ⟨_,.str x t⟩
 case l =>
  intro a vs ds h q ih n hs u r;cases n with
  | zero=>simp [shp] at hs
  | succ n =>
   cases r;obtain ⟨its,_,rv,h1,_⟩:=Inv.listE I (_qt1 e h);obtain ⟨as,z⟩:=ih (n:=n) (by simpa [shp] using hs) rv;exact ⟨_,.list h1 rfl rfl (by simpa using z)⟩
 case t =>
  intro a vs ds h q ih n hs u r;cases n with
  | zero=>simp [shp] at hs
  | succ n =>
   cases r;obtain ⟨its,rv,⟨o,h1,h2,_,h3⟩,_⟩:=I.tuple (seqT e h);obtain ⟨as,z⟩:=ih (n:=n) (by simpa [shp] using hs) rv;exact ⟨_,.tuple h1 h2 h3 (by simpa using z)⟩
 case m=>intro n _ us r; cases r; exact ⟨_,.nil⟩
 case c =>
  intro v d vs ds h q ih it n hs us r;cases r with
  | cons r1 r2 =>
   have hs':shp n d=true/\_qt0 n ds=true:=by simpa [_qt0] using hs
   obtain ⟨as,z⟩:=ih hs'.1 r1;obtain ⟨bs,z2⟩:=it hs'.2 r2;exact ⟨_,.cons z z2⟩
theorem Rep.reads (I:Inv X pins σ H s) (e:_qu9 F H) {v:V} {d:D} {n:Nat} (h:Rep X.K F v d) (hs:shp n d=true) {u:Value} (r:RelV v u):∃ as,Reads s.heap u (toP d) as:=(_Vw I e).1 h hs r
theorem Reps.reads (I:Inv X pins σ H s) (e:_qu9 F H) {vs:List V} {ds:List D} {n:Nat} (h:Reps X.K F vs ds) (hs:_qt0 n ds=true) {us:List Value} (r:_qu8 vs us):∃ as,Mn s.heap us (_qsv ds) as:=(_Vw I e).2 h hs r
theorem _qho (hu:X.A.units + 64 < cLine):OpR X (Bm .Eq) (rEqD X.K false):=by
 intro pins s σ H x y v u Q I rx ry h;obtain ⟨F,dx,dy,e,r1,r2,h1,h2,q⟩:=h;obtain ⟨as,z1⟩:=r1.reads I e h1 rx;obtain ⟨bs,z2⟩:=r2.reads I e h2 ry;exact eq_dataH z1 z2 (_Y h1) (_Y h2) hu (by rw [_Kn h1 h2]; exact ⟨.bl _,H,I,rfl,q⟩)
theorem _qdq (hu:X.A.units + 64 < cLine):OpR X (Bm .NotEq) (rEqD X.K true):=by
 intro pins s σ H x y v u Q I rx ry h;obtain ⟨F,dx,dy,e,r1,r2,h1,h2,q⟩:=h;obtain ⟨as,z1⟩:=r1.reads I e h1 rx;obtain ⟨bs,z2⟩:=r2.reads I e h2 ry;exact ne_dataH z1 z2 (_Y h1) (_Y h2) hu (by rw [_Kn h1 h2]; exact ⟨.bl _,H,I,rfl,q⟩)
theorem _qhm:OpD K (rEqD K false) dEq:=by
 intro x y d F H v u Q h s rx ry k;unfold dEq at h;split at h
 ·rename_i hc
  cases h;exact ⟨F,x,y,s,rx,ry,hc.1,hc.2,k _ F H (Ext.refl s) (.bl _)⟩
 ·cases h
theorem _qoj:OpD K (rEqD K true) dNe:=by
 intro x y d F H v u Q h s rx ry k;unfold dNe at h;split at h
 ·rename_i hc
  cases h;exact ⟨F,x,y,s,rx,ry,hc.1,hc.2,k _ F H (Ext.refl s) (.bl _)⟩
 ·cases h
theorem _we {n m:Nat} {x:D} (hx:shp n x=true):∀ {ds:List D},_qt0 m ds=true->(_qsv ds).any (fun y=>Fz y (toP x))=ds.any fun y=>eqD y x
 | [],_=>by simp [_qsv]
 | d :: ds,h=>by
  have h':shp m d=true/\_qt0 m ds=true:=by simpa [_qt0] using h
  simp only [_qsv,any_cons];rw [_Kn h'.1 hx,_we hx h'.2]
def rInD (K:Frag) (neg:Bool):R2:=fun x y H Q=>∃ F dx ds b,_qu9 F H/\Rep K F x dx/\Rep K F y (if b=true then .tup ds else .lst ds)/\shp 20 dx=true/\shp 20 (if b=true then D.tup ds else .lst ds)=true/\Q (.bl (if neg=true then !(ds.any fun y=>eqD y dx) else ds.any fun y=>eqD y dx)) H
theorem _qac (hu:X.A.units + 64 + 1 < cLine):OpR X (Bm .In) (rInD X.K false):=by
 intro pins s σ H x y v u Q I rx ry h;obtain ⟨F,dx,ds,b,e,r1,r2,h1,h2,q⟩:=h;obtain ⟨as,z1⟩:=r1.reads I e h1 rx;obtain ⟨bs,z2⟩:=r2.reads I e h2 ry;cases b with
 | false =>
  have h2':_qt0 19 ds=true:=by simpa [shp] using h2
  have z2':Reads s.heap u (.list (_qsv ds)) bs:=by simpa [toP] using z2
  exact in_list_reads z2' z1 (_zi h2').1 (D5 (_Y h1)) (Hi (_Y h1) (by omega)) (by rw [_we h1 h2']; exact ⟨.bl _,H,I,rfl,q⟩)
 | true =>
  have h2':_qt0 19 ds=true:=by simpa [shp] using h2
  have z2':Reads s.heap u (.tuple (_qsv ds)) bs:=by simpa [toP] using z2
  exact in_tuple_reads z2' z1 (_zi h2').1 (D5 (_Y h1)) (Hi (_Y h1) (by omega)) (by rw [_we h1 h2']; exact ⟨.bl _,H,I,rfl,q⟩)
theorem _V6 (hu:X.A.units + 64 + 1 < cLine):OpR X (Bm .NotIn) (rInD X.K true):=by
 intro pins s σ H x y v u Q I rx ry h;obtain ⟨F,dx,ds,b,e,r1,r2,h1,h2,q⟩:=h;obtain ⟨as,z1⟩:=r1.reads I e h1 rx;obtain ⟨bs,z2⟩:=r2.reads I e h2 ry;cases b with
 | false =>
  have h2':_qt0 19 ds=true:=by simpa [shp] using h2
  have z2':Reads s.heap u (.list (_qsv ds)) bs:=by simpa [toP] using z2
  exact notIn_list_reads z2' z1 (_zi h2').1 (D5 (_Y h1)) (Hi (_Y h1) (by omega)) (by rw [_we h1 h2']; exact ⟨.bl _,H,I,rfl,q⟩)
 | true =>
  have h2':_qt0 19 ds=true:=by simpa [shp] using h2
  have z2':Reads s.heap u (.tuple (_qsv ds)) bs:=by simpa [toP] using z2
  exact notIn_tuple_reads z2' z1 (_zi h2').1 (D5 (_Y h1)) (Hi (_Y h1) (by omega)) (by rw [_we h1 h2']; exact ⟨.bl _,H,I,rfl,q⟩)
theorem _qlb:OpD K (rInD K false) dIn:=by
 intro x y d F H v u Q h s rx ry k;unfold dIn at h;split at h
 ·split at h
  ·rename_i hc
   cases h;exact ⟨F,_,_,false,s,rx,ry,hc.1,hc.2,k _ F H (Ext.refl s) (.bl _)⟩
  ·cases h
 ·split at h
  ·rename_i hc
   cases h;exact ⟨F,_,_,true,s,rx,ry,hc.1,hc.2,k _ F H (Ext.refl s) (.bl _)⟩
  ·cases h
 ·cases h
theorem _V3:OpD K (rInD K true) _Xc:=by
 intro x y d F H v u Q h s rx ry k;unfold _Xc at h;split at h
 ·split at h
  ·rename_i hc
   cases h;exact ⟨F,_,_,false,s,rx,ry,hc.1,hc.2,k _ F H (Ext.refl s) (.bl _)⟩
  ·cases h
 ·split at h
  ·rename_i hc
   cases h;exact ⟨F,_,_,true,s,rx,ry,hc.1,hc.2,k _ F H (Ext.refl s) (.bl _)⟩
  ·cases h
 ·cases h
def rIsB:R2:=fun x y H Q=>(∃ a b,x=.bl a/\y=.bl b/\Q (.bl (a == b)) H) \/ (y=.non/\Q (.bl (decide (x=.non))) H)
def rIsNB:R2:=fun x y H Q=>(∃ a b,x=.bl a/\y=.bl b/\Q (.bl (a != b)) H) \/ (y=.non/\Q (.bl (!decide (x=.non))) H)
theorem _qor:OpR X (Bm .Is) rIsB:=by
 intro pins s σ H x y v u Q I rx ry h;rcases h with ⟨a,b,rfl,rfl,q⟩ | h
 ·cases rx; cases ry
  exact is_bool ⟨.bl _,H,I,rfl,q⟩
 ·exact _qoq pins s σ H x y v u Q I rx ry h
theorem _qab:OpR X (Bm .IsNot) rIsNB:=by
 intro pins s σ H x y v u Q I rx ry h;rcases h with ⟨a,b,rfl,rfl,q⟩ | h
 ·cases rx; cases ry
  exact isnot_bool ⟨.bl _,H,I,rfl,q⟩
 ·exact _qld pins s σ H x y v u Q I rx ry h
theorem _qfe {v:V} {d:D} (r:Rep K F v d):decide (v=.non)=(match d with | .non=>true | _=>false):=by
 cases r <;> simp
theorem _qol:OpD K rIsB dIs:=by
 intro x y d F H v u Q h s rx ry k;unfold dIs at h;split at h
 ·cases h; cases rx; cases ry
  exact .inl ⟨_,_,rfl,rfl,k _ F H (Ext.refl s) (.bl _)⟩
 ·cases ry
  refine .inr ⟨rfl,?_⟩;rw [_qfe rx];split at h
  ·cases h; exact k _ F H (Ext.refl s) (.bl _)
  ·rename_i hx
   cases h;cases x with
   | non=>exact absurd rfl hx
   | _=>exact k _ F H (Ext.refl s) (.bl _)
 ·cases h
theorem _qa9:OpD K rIsNB _qtv:=by
 intro x y d F H v u Q h s rx ry k;unfold _qtv at h;split at h
 ·cases h; cases rx; cases ry
  exact .inl ⟨_,_,rfl,rfl,k _ F H (Ext.refl s) (.bl _)⟩
 ·cases ry
  refine .inr ⟨rfl,?_⟩;rw [_qfe rx];split at h
  ·cases h; exact k _ F H (Ext.refl s) (.bl _)
  ·rename_i hx
   cases h;cases x with
   | non=>exact absurd rfl hx
   | _=>exact k _ F H (Ext.refl s) (.bl _)
 ·cases h
def rIxD (K:Frag):R2:=fun x y H Q=>rIxL K x y H Q \/ rIxT K x y H Q
theorem ix_D:IxR X (rIxD X.K):=_J5.or _qe8
theorem _qgf {vs:List V} {ds:List D} {i:Int} {d:D} (r:Reps K F vs ds) (h:atP ds i=some d):∃ v,atI vs i=some v/\Rep K F v d:=by
 rw [_qq7] at h;unfold atI at h ⊢;rw [r.length];obtain ⟨j,h1,h2⟩:=bind_some h;obtain ⟨v,h3,h4⟩:=r.getD h2;exact ⟨v,by rw [h1]; exact h3,h4⟩
theorem _qok:OpD K (rIxD K) dIx:=by
 intro x y d F H v u Q h s rx ry k;unfold dIx at h;split at h
 ·cases rx with
  | lst q r =>
   cases ry;obtain ⟨w,h1,h2⟩:=_qgf r h;exact .inl ⟨_,_,_,w,rfl,rfl,(_qt1 s q).l,h1,k w F H (Ext.refl s) h2⟩
 ·cases rx with
  | tup q r =>
   cases ry;obtain ⟨w,h1,h2⟩:=_qgf r h;exact .inr ⟨_,_,_,w,rfl,rfl,seqT s q,h1,k w F H (Ext.refl s) h2⟩
 ·cases h
theorem _qv {a b:Expr} {pos:Pos} {fa fb:FE} (ha:DE X a fa) (hb:DE X b fb) (hs:_qgg b):DE X (.Subscript a b pos) (f2 dIx fa fb) :=
 PE.imp (_Za ix_D ha hb hs) fun _ _ _ q=>d_op _qok q
section
variable {a b c:Expr} {pos:Pos} {op op':CmpOp} {r r':R2} {g g':D->D->Option D} {fa fb fc:FE}
end
theorem _Jb:_qno K (fun xs H Q=>∃ p ys,xs=[.ref p]/\(SqL K H p ys \/ SqT K H p ys)/\Q (.int ys.length) H) dLen:=by
 intro ds d F H vs Q h s r k;unfold dLen at h;split at h
 ·cases h
  cases r with | cons r r' =>
  cases r';cases r with | lst q t=>exact ⟨_,_,rfl,.inl (_qt1 s q).l,k _ F H (Ext.refl s) (by rw [t.length]; exact .int _)⟩
 ·cases h
  cases r with | cons r r' =>
  cases r';cases r with | tup q t=>exact ⟨_,_,rfl,.inr (seqT s q),k _ F H (Ext.refl s) (by rw [t.length]; exact .int _)⟩
 ·cases h
theorem _Kz:_qno K (fun xs H Q=>∃ i,xs=[.int i]/\Q (.int (if i < 0 then -i else i)) H) dAbs:=by
 intro ds d F H vs Q h s r k;unfold dAbs at h;split at h
 ·cases h
  cases r with | cons r r' =>
  cases r'; cases r;exact ⟨_,rfl,k _ F H (Ext.refl s) (.int _)⟩
 ·cases h
theorem _Xe:CallO K (fun xs H Q=>∃ p ys,xs=[.ref p]/\(SqL K H p ys \/ SqT K H p ys)/\∀ l,H l=none->Q (.ref l) (upd H l (.lst ys))) _qg1:=by
 intro ds es F H vs Q h s r k;unfold _qg1 at h;split at h
 ·cases h
  cases r with | cons r r' =>
  cases r';cases r with | lst q t=>exact ⟨_,_,rfl,.inl (_qt1 s q).l,fun l hl=>k l _ F _ (Ext.laidH s hl) _a (s.free hl) hl t⟩
 ·cases h
  cases r with | cons r r' =>
  cases r';cases r with | tup q t=>exact ⟨_,_,rfl,.inr (seqT s q),fun l hl=>k l _ F _ (Ext.laidH s hl) _a (s.free hl) hl t⟩
 ·cases h
def rCatE (K:Frag):R2:=fun x y H Q=>∃ l b xs zs,x=.ref l/\y=.ref b/\SqE K H l xs/\SqE K H b zs/\xs.length + zs.length <= Aj/\∀ p,H p=none->Q (.ref p) (upd H p (.lst (xs++zs)))
theorem _qad:OpR X (Dg .Add) (rCatE X.K):=by
 intro pins s σ H x y v u Q I rx ry h;obtain ⟨l,b,xs,zs,rfl,rfl,hH,hB,hz,q⟩:=h;cases rx;cases ry;obtain ⟨its,n,r,e,z⟩:=Inv.listE I hH;obtain ⟨its2,n2,r2,e2,z2⟩:=Inv.listE I hB;have hl:=r.length;have hl2:=r2.length;refine PySem.P.add_list e e2 ?_ (by rw [size_toArray,size_toArray]; omega);have ea:its.toArray++its2.toArray=(its++its2).toArray:=by simp
 rw [ea];exact ⟨.ref _,_,I.lnew (t':=s.toks) (r.append r2) (by rw [length_append]; omega),rfl,q _ I.fresh⟩
theorem _qfr:OpO K (rCatE K) dCat:=by
 intro x y es F H v u Q h s rx ry k;unfold dCat at h;split at h
 ·split at h
  ·rename_i hl
   cases h;cases rx with
   | lst q1 t1 =>
    cases ry with
    | lst q2 t2=>exact ⟨_,_,_,_,rfl,rfl,_qt1 s q1,_qt1 s q2,by rw [t1.length,t2.length]; exact _z0 hl,fun p hp=>k p _ F _ (Ext.laidH s hp) _a (s.free hp) hp (t1.append t2)⟩
  ·cases h
 ·cases h
theorem PO.imp {e:Option Expr} {t t':TO} (h:PO X e t) (i:∀ σ H Q,t' σ H Q->t σ H Q):PO X e t':=fun pins s σ H Q I q=>h pins s σ H Q I (i σ H Q q)
def kitB (T:String):Prop:=∀ (K:Frag) (d:D),PySem.W.kitOne K (.type (tyD d)) (.type T)=some (isT d T)
theorem _qji {T:String} (hT:kitB T):_wh X (.builtin "isinstance") (fun xs H Q=>∃ v d F,xs=[v,.ty T]/\_qu9 F H/\Rep X.K F v d/\Q (.bl (isT d T)) H):=by
 intro pins s σ H xs us Q I r h;obtain ⟨v,d,F,rfl,sm,rp,q⟩:=h;cases r with
 | cons r1 r =>
  cases r with
  | cons r2 r =>
   cases r;obtain rfl:=(show _=Value.type T from r2);have fin:∀ tk,EP X pins σ Q (.bool (isT d T)) { s with toks:=tk }:=fun tk=>⟨.bl _,H,I.tok tk,rfl,q⟩;have e:=hT X.K d;cases rp with
   | non=>cases r1; exact Ed PySem.W.kitx_none I.kIn True.intro e (fun z=>nomatch z) fin
   | bl b=>cases r1; exact Ed PySem.W.kitx_bool I.kIn True.intro e (fun z=>nomatch z) fin
   | int i=>obtain ⟨t,rfl⟩:=r1; exact Ed PySem.W.kitx_int I.kIn True.intro e (fun z=>nomatch z) fin
   | str x=>obtain ⟨t,rfl⟩:=r1; exact Ed PySem.W.kitx_str I.kIn True.intro e (fun z=>nomatch z) fin
   | lst h t =>
    cases r1;obtain ⟨its,n,rv,h1,_⟩:=Inv.listE I (_qt1 sm h);exact Ed PySem.W.kitx_list I.kIn ⟨_,h1,rfl⟩ e (fun z=>nomatch z) fin
   | tup h t =>
    cases r1;obtain ⟨its,rv,⟨o,h1,h2,n,h3⟩,_⟩:=I.tuple (seqT sm h);exact Ed PySem.W.kitx_tuple I.kIn ⟨o,h1,h2⟩ e (fun z=>nomatch z) fin
end
theorem _qih:kitB "list":=fun K d=>by cases d <;> exact rfl
end DL
set_option maxHeartbeats 2000000
namespace DL
open PySem PySem.Spec PyProof.Rows L2
theorem _Z3 {prog:Ak} {w:World} {A:Around} {R:L3->Shared->Prop} {s:Shared} {elt target iter:Expr} {ifs:List Expr} {scope:Scope} {pos:Pos} {it acc:Value} {env:Env} (I:Nat->Shared->Prop)
  (turn:∀ n s,I n s->wpAny (model prog w) A (Dt it) (fun r s₁=>match r with
   | none=>R (.ok .next) s₁
   | some v=>wpAny (model prog w) A (Gq target it v) (fun _ s₀=>wpAny (model prog w) A (Il target env v) (fun _ s₂ =>
     wpAny (model prog w) A (forIn ifs true fun c r=>if r=true then do let ok <- Mm c env (eval c env); pure (ForInStep.yield ok) else pure (ForInStep.yield r)) (fun ok s₃ =>
      if ok=true then wpAny (model prog w) A (eval elt env) (fun x s₄ =>
       wpAny (model prog w) A (call (.builtin "list.append") [acc,x]) (fun _ s₅=>∃ m,m < n/\I m s₅) (fun _ _=>False) s₄) (fun _ _=>False) s₃
      else ∃ m,m < n/\I m s₃) (fun _ _=>False) s₂) (fun _ _=>False) s₀) (fun _ _=>False) s₁) (fun _ _=>False) s)
  (n:Nat) (h:I n s) :
  Dp (model prog w) A (.compLoop (.ListComp elt [⟨target,iter,ifs,0⟩] scope pos) 0 it acc env) R s:=by
 refine codeAny_loop rfl I (fun n s hI=>?_) n h;show wpAny _ A ((compTurn (.ListComp elt [⟨target,iter,ifs,0⟩] scope pos) 0 it acc env).onRaise (fun x=>do noteFrame x env; theTreesLotGoes x)) _ _ s;refine wpAny_noted (Bj (E:=fun _ _=>False) ?_ (fun _ _ q=>q) fun _ _ z=>z.elim);rw [compTurn_list];refine Ac (Ku (Ac (Bj (turn n s hI) (fun r s₁ h₁=>?_) fun _ _ h'=>h')));cases r with
 | none=>exact Ad h₁
 | some v =>
  refine Ac (Bj h₁ (fun _ s₀ h₀=>?_) fun _ _ h'=>h');refine Ac (Bj h₀ (fun _ s₂ h₂=>Ac (Bj h₂ (fun ok s₃ h₃=>?_) fun _ _ h'=>h')) fun _ _ h'=>h');cases ok with
  | false=>exact Ad ⟨rfl,h₃⟩
  | true =>
   exact Ac (Ac (Bj h₃ (fun x s₄ h₄=>Ac (Bj h₄ (fun _ s₅ h₅=>Ad (Ad ⟨rfl,h₅⟩)) fun _ _ h'=>h')) fun _ _ h'=>h'))
def _P (X:Cx) (N':List Str) (scope:Scope) (cl:List (Str × Addr)) (C:Addr) (s₀:Shared) (H₀:Hp) (ex:List Addr) (pn:List (Addr × Obj)):Cx :=
 { X with N:=N',s₀:=s₀,H₀:=H₀,env:=Mo scope cl C X.env,outer:=X.stack,stack:=X.stack,ex:=ex,fn:=fun _=>false,pn:=pn,xe:=fun _ _=>False }
def _zo (X:Cx) (scope:Scope) (cl:List (Str × Addr)):List (Option Nat)->List Str->Prop
 | [],[]=>True
 | none :: js,_ :: N=>_zo X scope cl js N
 | some j :: js,x :: N=>(X.N[j]?=some x/\(X.env.kindOf x=some .cell \/ X.env.kindOf x=some .free)/\cl.lookup x=X.env.cells.lookup x/\((Cq scope X.env).names.lookup x=some .cell \/ (Cq scope X.env).names.lookup x=some .free))/\_zo X scope cl js N
 | _,_=>False
def mkS {α:Type} (js:List (Option Nat)) (σ:List (Option α)):List (Option α):=js.map fun o=>o.bind fun j=>(σ[j]?).bind id
theorem _zo.len {X:Cx} {scope:Scope} {cl:List (Str × Addr)}:∀ {js:List (Option Nat)} {N:List Str},_zo X scope cl js N->js.length=N.length
 | [],[],_=>rfl
 | none :: js,_ :: N,h=>by simp [_zo.len (js:=js) (N:=N) h]
 | some j :: js,x :: N,h=>by simp [_zo.len h.2]
 | [],_ :: _,h=>h.elim
 | none :: _,[],h=>h.elim
 | some _ :: _,[],h=>h.elim
theorem _zo.get {X:Cx} {scope:Scope} {cl:List (Str × Addr)}:∀ {js:List (Option Nat)} {N:List Str} {i j:Nat} {x:Str},_zo X scope cl js N->js[i]?=some (some j)->N[i]?=some x ->
  X.N[j]?=some x/\(X.env.kindOf x=some .cell \/ X.env.kindOf x=some .free)/\cl.lookup x=X.env.cells.lookup x/\((Cq scope X.env).names.lookup x=some .cell \/ (Cq scope X.env).names.lookup x=some .free)
 | [],_,_,_,_,_,h,_=>by simp at h
 | none :: js,_ :: N,0,_,_,_,h,_=>by simp at h
 | none :: js,_ :: N,i + 1,_,_,f,h,h'=>_zo.get (js:=js) (N:=N) (i:=i) f (by simpa using h) (by simpa using h')
 | some j :: js,x :: N,0,_,_,f,h,h'=>by simp at h h'; subst h h'; exact f.1
 | some j :: js,x :: N,i + 1,_,_,f,h,h'=>_zo.get (js:=js) (N:=N) (i:=i) f.2 (by simpa using h) (by simpa using h')
 | none :: _,[],_,_,_,f,_,_=>f.elim
 | some _ :: _,[],_,_,_,f,_,_=>f.elim
def _qd0 (wi:TI) (g:TG) (tc:TT) (te:TE) (js:List (Option Nat)):TE:=fun σ H Q=>wi σ H fun J H1=>∀ l,H1 l=none->∃ W:Nat->Nat->St->Hp->Prop,(∃ m,W 0 m (mkS js σ) (upd H1 l (.lst [])))/\∀ i m σ H,W i m σ H ->
 (J.stop i H/\Q (.ref l) H) \/ (J.go i H/\∀ x H',J.yld i H x H'->g x σ H' fun σ2 H2=>tc σ2 H2 fun b H3 =>
  if b=true then te σ2 H3 fun y H4=>∃ acc,H4 l=some (.lst acc)/\acc.length < Aj/\∃ m',m' < m/\W (i + 1) m' σ2 (upd H4 l (.lst (acc++[y]))) else ∃ m',m' < m/\W (i + 1) m' σ2 H3)
def _wi:TT:=fun _ H Q=>Q true H
def PIfs (X:Cx) (ifs:List Expr) (t:TT):Prop:=(ifs=[]/\∀ σ H Q,t σ H Q->Q true H) \/ ∃ c,ifs=[c]/\PT X c t
theorem _Xd {X:Cx} {pins:List (Addr × Obj)} {σ:St} {H2:Hp} {s2:Shared} {E:Value->Shared->Prop} {elt target iter:Expr} {ifs:List Expr} {scope:Scope} {pos:Pos} {cl:List (Str × Addr)} {N':List Str} {js:List (Option Nat)}
  {g:TG} {tc:TT} {te:TE} {it:Addr} {fp:List Addr} {tn:Nat->Heap->Prop} {J:It} {RR:Value->Addr->L3->Shared->Prop} {Q:VK}
  (hc:X.calm=true) (hfr:_zo X scope cl js N') (hcl:∀ x c,cl.lookup x=some c->X.env.cells.lookup x=some c)
  (hhas:∀ x,((Cq scope X.env).names.lookup x=some .cell \/ (Cq scope X.env).names.lookup x=some .free)->∃ c,cl.lookup x=some c)
  (hcell:∀ y∈scope.names,y.2 ≠ .cell) (hkind:scope.kind=.function)
  (hg:∀ C s₀ H₀ ex pn,PG (_P X N' scope cl C s₀ H₀ ex pn) target g) (ht:∀ C s₀ H₀ ex pn,PIfs (_P X N' scope cl C s₀ H₀ ex pn) ifs tc) (he:∀ C s₀ H₀ ex pn,PE (_P X N' scope cl C s₀ H₀ ex pn) elt te)
  (I2:Inv X pins σ H2 s2) (T:Turn X.prog X.w X.K target J fp it tn) (st2:tn 0 s2.heap) (f2:∀ b∈fp,FpOk X pins H2 b)
  (h:∀ l,H2 l=none->∃ W:Nat->Nat->St->Hp->Prop,(∃ m,W 0 m (mkS js σ) (upd H2 l (.lst [])))/\∀ i m σ H,W i m σ H ->
   (J.stop i H/\Q (.ref l) H) \/ (J.go i H/\∀ x H',J.yld i H x H'->g x σ H' fun σ2 H2=>tc σ2 H2 fun b H3 =>
    if b=true then te σ2 H3 fun y H4=>∃ acc,H4 l=some (.lst acc)/\acc.length < Aj/\∃ m',m' < m/\W (i + 1) m' σ2 (upd H4 l (.lst (acc++[y]))) else ∃ m',m' < m/\W (i + 1) m' σ2 H3))
  (hRR:∀ D C s' H' m',Inv X pins σ H' s'->s'.heap.Ns C m'->H' C=none->s2.heap.objs.size <= C->Q (.ref D) H'->RR (.ref D) C (.ok .next) s') :
  wpAny (model X.prog X.w) X.A (Mh []) (fun acc s₃=>wpAny (model X.prog X.w) X.A (newFunctionEnv scope X.env.globals cl [] X.env.qual none .none (some X.env)) (fun cenv s₄ =>
   Dp (model X.prog X.w) X.A (.compStart (.ListComp elt [⟨target,iter,ifs,0⟩] scope pos) 0 (.ref it) acc { cenv with scope:=Cq scope X.env }) (RR acc cenv.locals) s₄) E s₃) E s2:=by
 refine A8 (wpAny_newFunctionEnv hcell (by intro y hy; simp at hy) (fun h₁ hns₁ hsb₁=>?_) hkind);dsimp only at hns₁ hsb₁ ⊢;generalize hS3:({ s2 with heap:=s2.heap.push { cls:=.type "list",dict:=none,data:=.seq ([]:List Value).toArray } }:Shared)=s3;have hH3:s3.heap=s2.heap.push { cls:=.type "list",dict:=none,data:=.seq ([]:List Value).toArray }:=by rw [<- hS3]
 rw [<- hH3] at hns₁ hsb₁ ⊢;have hC:s3.heap.objs.size=s2.heap.objs.size + 1:=by rw [hH3,By]
 have hDn:H2 s2.heap.objs.size=none:=I2.hok.fresh (le_refl _);obtain ⟨W,⟨m0,w0⟩,turn⟩:=h s2.heap.objs.size hDn;have old3:∀ b o,s3.heap.get? b=some o->h₁.get? b=some o:=fun b o e=>hsb₁.extBut b o (ne_of_lt (Af e)) (Ae _ e);have old2:∀ b o,s2.heap.get? b=some o->s3.heap.get? b=some o:=fun b o e=>by rw [hH3]; exact Ae _ e
 have I3:Inv X pins σ (upd H2 s2.heap.objs.size (.lst [])) s3:=by rw [<- hS3]; exact I2.lnew (its:=[]) (ys:=[]) (t':=s2.toks) .nil (zero_le _)
 have blk:∀ tk,Inv (_P X N' scope cl s3.heap.objs.size s3 (upd H2 s2.heap.objs.size (.lst [])) fp (X.pn++pins)) [] (mkS js σ) (upd H2 s2.heap.objs.size (.lst [])) { s3 with heap:=h₁,toks:=tk }:=fun tk=>by
  have hCn:(upd H2 s2.heap.objs.size (.lst [])) s3.heap.objs.size=none:=I3.hok.fresh (le_refl _);have cellOld:∀ x c,cl.lookup x=some c->∃ v,s3.heap.IsCell c v:=fun x c e=>I3.cell x c (hcl x c e);have fsSub:∀ b∈frs X.stack,b ≠ s3.heap.objs.size:=fun b hb e=>by
   rcases Al.mp (I3.stkSub b hb) with z | z
   ·exact absurd I3.lt (by rw [<- z,e]; exact lt_irrefl _)
   ·exact I3.nofs (le_refl _) (e ▸ z)
  refine ⟨⟨I3.ok.mod,hkind,I3.ok.glob,I3.ok.blt,le_refl _,fun x y c h1 h2=>I3.ok.inj x y c (hcl x c h1) (hcl y c h2),fun x hx=>hhas x hx,fun x c hf _=>absurd hf (by simp [_P]),I3.ok.hd,I3.ok.frames,.inl rfl,fun b hb=>⟨?_,fun x c e z=>?_⟩,
   I3.bs,le_trans I3.ok.bsz I3.sz,fun b o e hb=>?_,fun b hb hb2=>?_,I3.stack,I3.stkFree⟩,rfl,I3.bare,Un.kept old3,⟨_,hns₁,fun i x v h1 h2 h3=>?_⟩,fun x c e=>?_,hCn,fun x c e=>?_,fun p hp=>?_,I3.hok.kept old3,?_⟩
  ·
   obtain ⟨o,ho,_⟩:=T.obj 0 _ st2 b hb;intro z;exact absurd (Af (old2 b o ho)) (by rw [z]; exact lt_irrefl _)
  ·obtain ⟨_,_,_,_,f5,_⟩:=f2 b hb
   exact f5 x c (hcl x c e) z
  ·
   have q:=(I2.bs b o e);obtain ⟨_,_,_,f4,_,_⟩:=f2 b hb;rcases f4 with z | z
   ·exact I2.ok.noex b o e z
   ·exact absurd (lt_of_lt_of_le (Af (I2.ok.bs b o e).1) z) (lt_irrefl _)
  ·obtain ⟨_,f1,f3,_⟩:=f2 b hb
   rcases Al.mp (I3.stkSub b hb2) with z | z
   ·exact f1 z
   ·exact f3 z
  ·
   have hj:∃ j,js[i]?=some (some j)/\σ[j]?=some (some v):=by
    unfold mkS at h2;rw [getElem?_map] at h2;cases q:js[i]? with
    | none=>rw [q] at h2; cases h2
    | some oj =>
     rw [q] at h2;cases oj with
     | none=>simp at h2
     | some j =>
      refine ⟨j,rfl,?_⟩;cases z:σ[j]? with
      | none=>simp [z] at h2
      | some ov=>simp [z] at h2; rw [h2]
   obtain ⟨j,hj,hv⟩:=hj;obtain ⟨g1,g2,g3,g4⟩:=hfr.get hj (show N'[i]?=some x from h1);obtain ⟨m,hn,hl⟩:=I3.loc;have vis:Vis X.env.scope x:=by
    rcases g2 with z | z
    ·exact .inr (.inl z)
    ·exact .inr (.inr z)
   obtain ⟨u,r,lk⟩:=hl j x v g1 hv vis;refine ⟨u,r,?_⟩;rcases lk with ⟨kl,_⟩ | ⟨_,c,e,z⟩
   ·rcases g2 with z | z
    ·rw [z] at kl; cases kl
    ·rw [z] at kl; cases kl
   ·obtain ⟨o,ho,hd⟩:=z
    exact .inr ⟨g4,c,g3.trans e,o,old3 c o ho,hd⟩
  ·obtain ⟨v,o,ho,hd⟩:=cellOld x c e
   exact ⟨v,o,old3 c o ho,hd⟩
  ·exact I3.freeC x c (hcl x c e)
  ·have hp':p∈X.pn++pins:=by
    have:p∈(X.pn++pins)++[]:=hp
    simpa using this
   obtain ⟨e,n,ne,nf,d⟩:=I3.pin p hp';refine ⟨old3 _ _ e,n,ne_of_lt (Af e),fun hb=>?_,d⟩;rcases Al.mp (I3.stkSub _ hb) with z | z
   ·exact ne z
   ·exact nf z
  ·show (mkS js σ).length=N'.length
   rw [<- hfr.len]; simp [mkS]
 have fpX:∀ {H':Hp} {ps:List (Addr × Obj)},(∀ b∈fp,H' b=none)->(∀ p∈ps,∀ b∈fp,p.1 ≠ b)->∀ b∈fp,FpOk (_P X N' scope cl s3.heap.objs.size s3 (upd H2 s2.heap.objs.size (.lst [])) fp (X.pn++pins)) ps H' b:=fun {H' ps} hn hps b hb=>by
  obtain ⟨_,f1,f3,f4,f5,f6⟩:=f2 b hb;obtain ⟨o,ho,_⟩:=T.obj 0 _ st2 b hb;refine ⟨hn b hb,fun z=>absurd (Af (old2 b o ho)) (by rw [z]; exact lt_irrefl _),fun hb2=>?_,.inl hb,fun x c e=>f5 x c (hcl x c e),fun p hp=>?_⟩
  ·rcases Al.mp (I3.stkSub b hb2) with z | z
   ·exact f1 z
   ·exact f3 z
  ·have hp':p∈(X.pn++pins)++ps:=hp
   rcases Dd.mp hp' with z | z
   ·exact f6 p z
   ·exact hps p z b hb
 have st4:tn 0 h₁:=T.keep 0 _ _ st2 fun b _ o e=>old3 b o (old2 b o e);have fr4:∀ b∈fp,(upd H2 s2.heap.objs.size (.lst [])) b=none:=fun b hb=>by
  obtain ⟨o,ho,_⟩:=T.obj 0 _ st2 b hb;rw [_e (ne_of_lt (Af ho))];exact (f2 b hb).1
 have loop:∀ s4:Shared,s4.heap=h₁->Inv (_P X N' scope cl s3.heap.objs.size s3 (upd H2 s2.heap.objs.size (.lst [])) fp (X.pn++pins)) [] (mkS js σ) (upd H2 s2.heap.objs.size (.lst [])) s4 ->
   Dp (model X.prog X.w) X.A (.compLoop (.ListComp elt [⟨target,iter,ifs,0⟩] scope pos) 0 (.ref it) (.ref s2.heap.objs.size) (Mo scope cl s3.heap.objs.size X.env)) (RR (.ref s2.heap.objs.size) s3.heap.objs.size) s4:=by
  intro s4 e4 I4;refine _Z3 (fun n s'=>∃ i σ' H',Inv (_P X N' scope cl s3.heap.objs.size s3 (upd H2 s2.heap.objs.size (.lst [])) fp (X.pn++pins)) [] σ' H' s'/\tn i s'.heap/\(∀ b∈fp,H' b=none)/\W i n σ' H') ?_ m0
   ⟨0,_,_,I4,by rw [e4]; exact st4,fr4,w0⟩
  rintro n s5 ⟨i,σ5,H5,I5,st5,fr5,w5⟩;rcases turn i n σ5 H5 w5 with ⟨stop,q⟩ | ⟨go,step⟩
  ·refine thn (T.done (_P X N' scope cl s3.heap.objs.size s3 (upd H2 s2.heap.objs.size (.lst [])) fp (X.pn++pins)) rfl rfl rfl hc i [] s5 _ H5 _ I5 (fpX fr5 (by simp)) st5 stop) fun r s6 hQ=>?_
   obtain ⟨hr,I6⟩:=hQ;subst hr;have un:Un (frs X.stack) fp H2 H5 s2.heap s6.heap:=by
    have u:=I6.base;refine ⟨fun b o e n hb hx=>u.keep b o (old2 b o e) (by show upd H2 _ _ b=none; rw [_e (ne_of_lt (Af e))]; exact n) hb hx,fun b o e n hb hx=>u.slot b o (old2 b o e) (by show upd H2 _ _ b=none; rw [_e (ne_of_lt (Af e))]; exact n) hb hx,
     fun b o e n hx=>u.free b o (old2 b o e) (by show upd H2 _ _ b=none; rw [_e (ne_of_lt (Af e))]; exact n) hx,fun b o e hx=>u.there b o (old2 b o e) hx,fun b xs e=>u.tups b xs (by show upd H2 _ _ b=_; rw [_e (_c e hDn)]; exact e),
     fun b o u' e=>u.frzs b o u' (by show upd H2 _ _ b=_; rw [_e (_c e hDn)]; exact e),fun b ps e=>u.tbls b ps (by show upd H2 _ _ b=_; rw [_e (_c e hDn)]; exact e)⟩
   have os:s6.os=s2.os:=by rw [I6.os]; show s3.os=s2.os; rw [<- hS3]
   have Iout:Inv X pins σ H5 s6:=I2.call' (ch:=fp) os un I6.hok I6.bare fun b hb=>by
    obtain ⟨_,f1,_,f4,f5,f6⟩:=f2 b hb;exact ⟨f4,f1,f5,f6⟩
   obtain ⟨m',hn',_⟩:=I6.loc;exact hRR _ _ s6 H5 m' Iout hn' I6.free (by rw [hC]; exact le_succ _) q
  ·refine thn (T.item (_P X N' scope cl s3.heap.objs.size s3 (upd H2 s2.heap.objs.size (.lst [])) fp (X.pn++pins)) rfl rfl rfl hc i [] s5 _ H5 _ I5 (fpX fr5 (by simp)) st5 go) fun r s6 hQ=>?_
   obtain ⟨u,hr,h6⟩:=hQ;subst hr;refine thn h6 fun _ s7 hQ=>?_;obtain ⟨x,H7,I7,r7,y7,st7,fr7⟩:=hQ;have I7':=I7.pinned (fpX fr7 (by simp)) (T.obj _ _ st7);have keepT:∀ {σ':St} {H':Hp} {s':Shared},Inv (_P X N' scope cl s3.heap.objs.size s3 (upd H2 s2.heap.objs.size (.lst [])) fp (X.pn++pins)) ([]++_X7 fp s7.heap) σ' H' s'->tn (i + 1) s'.heap/\∀ b∈fp,H' b=none:=fun {σ' H' s'} I'=>by
    refine ⟨T.keep _ _ _ st7 fun b hb o e=>(I'.pin (b,o) (mem_append_right _ (mem_append_right _ (_zx hb e)))).1,fun b hb=>?_⟩;obtain ⟨o,e,d⟩:=T.obj _ _ st7 b hb;exact (I'.pin (b,o) (mem_append_right _ (mem_append_right _ (_zx hb e)))).2.1
   have again:∀ {σ':St} {H':Hp} {s':Shared},Inv (_P X N' scope cl s3.heap.objs.size s3 (upd H2 s2.heap.objs.size (.lst [])) fp (X.pn++pins)) ([]++_X7 fp s7.heap) σ' H' s'->(∃ m',m' < n/\W (i + 1) m' σ' H') ->
     ∃ m,m < n/\∃ i σ' H',Inv (_P X N' scope cl s3.heap.objs.size s3 (upd H2 s2.heap.objs.size (.lst [])) fp (X.pn++pins)) [] σ' H' s'/\tn i s'.heap/\(∀ b∈fp,H' b=none)/\W i m σ' H':=fun {σ' H' s'} I' ⟨m',hm,w'⟩=>by
    obtain ⟨k1,k2⟩:=keepT I';exact ⟨m',hm,i + 1,σ',H',I'.unpinned,k1,k2,w'⟩
   refine thn (hg _ _ _ _ _ _ s7 σ5 H7 x u _ I7' r7 (step x H7 y7)) fun _ s8 hQ=>?_;obtain ⟨σ8,H8,I8,q8⟩:=hQ;have test:wpAny (model X.prog X.w) X.A (forIn ifs true fun c r=>if r=true then do let ok <- Mm c (Mo scope cl s3.heap.objs.size X.env) (eval c (Mo scope cl s3.heap.objs.size X.env)); pure (ForInStep.yield ok) else pure (ForInStep.yield r))
     (fun ok s9=>∃ H9,Inv (_P X N' scope cl s3.heap.objs.size s3 (upd H2 s2.heap.objs.size (.lst [])) fp (X.pn++pins)) ([]++_X7 fp s7.heap) σ8 H9 s9/\(if ok=true then te σ8 H9 fun y H4=>∃ acc,H4 s2.heap.objs.size=some (.lst acc)/\acc.length < Aj/\∃ m',m' < n/\W (i + 1) m' σ8 (upd H4 s2.heap.objs.size (.lst (acc++[y]))) else ∃ m',m' < n/\W (i + 1) m' σ8 H9)) (fun _ _=>False) s8:=by
    rcases ht s3.heap.objs.size s3 (upd H2 s2.heap.objs.size (.lst [])) fp (X.pn++pins) with ⟨e1,e2⟩ | ⟨c,e1,e2⟩
    ·subst e1
     exact wpAny_tests_nil ⟨H8,I8,e2 _ _ _ q8⟩
    ·subst e1
     exact wpAny_tests_one (e2 _ s8 σ8 H8 _ I8 q8)
   refine thn test fun ok s9 hQ=>?_;obtain ⟨H9,I9,q9⟩:=hQ;cases ok with
   | false =>
    rw [if_neg An] at q9 ⊢;exact again I9 q9
   | true =>
    rw [if_pos rfl] at q9 ⊢;refine thn (he _ _ _ _ _ _ s9 σ8 H9 _ I9 q9) fun y s10 hQ=>?_;obtain ⟨yv,H10,I10,r10,acc,a1,a2,a3⟩:=hQ;refine thn (_j2 (X:=_P X N' scope cl s3.heap.objs.size s3 (upd H2 s2.heap.objs.size (.lst [])) fp (X.pn++pins)) _ s10 σ8 H10 (.ref s2.heap.objs.size) [yv] (.ref s2.heap.objs.size) [y] (fun _ H'=>∃ m',m' < n/\W (i + 1) m' σ8 H') I10 rfl (.cons r10 .nil) ⟨_,acc,yv,rfl,rfl,a1,a2,a3⟩) fun _ s11 hQ=>?_;obtain ⟨_,H11,I11,_,q11⟩:=hQ;exact again I11 q11
 have e4:∀ tk,({ s2 with heap:=h₁,toks:=tk }:Shared)={ s3 with heap:=h₁,toks:=tk }:=fun tk=>by rw [<- hS3]
 exact codeAny_compStart_list (loop _ rfl (by rw [e4]; exact blk _)) (T.self _ 0 _ _ _ st4 (loop _ rfl (by rw [e4]; exact blk _)))
theorem Inv.letgo {X:Cx} {pins:List (Addr × Obj)} {σ:St} {H2 H':Hp} {s2 s':Shared} {C:Addr} {h':Heap} (I2:Inv X pins σ H2 s2) {σ':St} (I:Inv X pins σ' H' s') (hn:H' C=none) (hC:s2.heap.objs.size <= C) (hs:Heap.SameBut C s'.heap h'):Inv X pins σ' H' { s' with heap:=h' } :=
 I.turned (t':=s'.toks) (fun b o hb e=>hs.extBut b o hb e) hn (ne_of_gt (lt_of_lt_of_le I2.lt hC)) (.inr (le_trans I2.sz hC)) (fun x c e z=>by
  obtain ⟨v,q⟩:=I2.cell x c e;exact absurd (lt_of_lt_of_le q.lt (by rw [z]; exact hC)) (lt_irrefl _)) (fun p hp z=>absurd (lt_of_lt_of_le (Af (I2.pin p hp).1) (by rw [z]; exact hC)) (lt_irrefl _))
section
variable {X:Cx} {elt target iter:Expr} {ifs:List Expr} {scope:Scope} {pos:Pos} {cl:List (Str × Addr)} {N':List Str} {js:List (Option Nat)} {wi:TI} {g:TG} {tc:TT} {te:TE}
theorem _qfl (hc:X.calm=true) (hi:PI X target iter wi) (hclos:K9 scope X.env=pure cl) (hfr:_zo X scope cl js N') (hcl:∀ x c,cl.lookup x=some c->X.env.cells.lookup x=some c)
  (hhas:∀ x,((Cq scope X.env).names.lookup x=some .cell \/ (Cq scope X.env).names.lookup x=some .free)->∃ c,cl.lookup x=some c)
  (hcell:∀ y∈scope.names,y.2 ≠ .cell) (hkind:scope.kind=.function) (hnames:∀ x∈scope.names,x.2=.local->scope.names.lookup x.1=some .local)
  (hg:∀ C s₀ H₀ ex pn,PG (_P X N' scope cl C s₀ H₀ ex pn) target g) (ht:∀ C s₀ H₀ ex pn,PIfs (_P X N' scope cl C s₀ H₀ ex pn) ifs tc) (he:∀ C s₀ H₀ ex pn,PE (_P X N' scope cl C s₀ H₀ ex pn) elt te)
  (hs:∀ x,Cd iter X.env x=pure x:=by intro _; rfl) :
  PE X (.ListComp elt [⟨target,iter,ifs,0⟩] scope pos) (_qd0 wi g tc te js):=by
 intro pins s σ H Q I h;rw [eval_ListComp];refine Io (use:=none) rfl hs hclos hkind hnames (thn (hi pins s σ H _ I h) fun v s1 h1=>thn h1 fun itv s2 h2=>?_);obtain ⟨it,fp,tn,J,H2,rfl,I2,T,st2,f2,q⟩:=h2;refine _Xd (RR:=fun acc C=>compPost (model X.prog X.w) X.A X.xe none (EP X pins σ Q) acc C) hc hfr hcl hhas hcell hkind hg ht he I2 T st2 f2 q ?_;intro D C s' H' m' I' hn hC hle q';exact ⟨m',hn,fun h' hs'=>⟨.ref D,H',Inv.letgo I2 I' hC hle hs',rfl,q'⟩⟩
theorem _qfi {i:Nat} {y:Str} {py spos:Pos} (hN:X.N.Nodup) (hi':X.N[i]?=some y) (hy:X.env.scope.names.lookup y=some .local)
  (hsw:Hc (.ListComp elt [⟨target,iter,ifs,0⟩] scope pos) (some (.Name y py)) spos.line X.env=pure true)
  (hc:X.calm=true) (hi:PI X target iter wi) (hclos:K9 scope X.env=pure cl) (hfr:_zo X scope cl js N') (hcl:∀ x c,cl.lookup x=some c->X.env.cells.lookup x=some c)
  (hhas:∀ x,((Cq scope X.env).names.lookup x=some .cell \/ (Cq scope X.env).names.lookup x=some .free)->∃ c,cl.lookup x=some c)
  (hcell:∀ y∈scope.names,y.2 ≠ .cell) (hkind:scope.kind=.function) (hnames:∀ x∈scope.names,x.2=.local->scope.names.lookup x.1=some .local)
  (hg:∀ C s₀ H₀ ex pn,PG (_P X N' scope cl C s₀ H₀ ex pn) target g) (ht:∀ C s₀ H₀ ex pn,PIfs (_P X N' scope cl C s₀ H₀ ex pn) ifs tc) (he:∀ C s₀ H₀ ex pn,PE (_P X N' scope cl C s₀ H₀ ex pn) elt te)
  (hs:∀ x,Cd iter X.env x=pure x:=by intro _; rfl) :
  PS X (.Assign [.Name y py] (.ListComp elt [⟨target,iter,ifs,0⟩] scope pos) spos) (tAsg (_qd0 wi g tc te js) (_zj i)):=by
 intro pins s σ H E I h;rw [exec_Assign_Name_used _ _ _ _ hsw];refine Ac (Ku (Ac ?_));show wpAny _ X.A (do let _ <- comprehension (.ListComp elt [⟨target,iter,ifs,0⟩] scope pos) scope X.env _ (Mh []) false (eval iter X.env) (some (Il (.Name y py) X.env))) _ _ s;refine Ac (Bj (Io (use:=some (Il (.Name y py) X.env)) (Q:=fun _ s'=>SP X pins E .next s') rfl hs hclos hkind hnames
  (thn (hi pins s σ H _ I h) fun v s1 h1=>thn h1 fun itv s2 h2=>?_)) (fun _ s' hq=>Ad (Ad hq)) fun _ _ e=>e)
 obtain ⟨it,fp,tn,J,H2,rfl,I2,T,st2,f2,q⟩:=h2;refine _Xd (RR:=fun acc C=>compPost (model X.prog X.w) X.A X.xe (some (Il (.Name y py) X.env)) (fun _ s'=>SP X pins E .next s') acc C) (Q:=fun x H1=>_zj i x σ H1 E.nx) hc hfr hcl hhas hcell hkind hg ht he I2 T st2 f2 q ?_;intro D C s' H' m' I' hn hC hle q';show wpAny _ X.A (Il (.Name y py) X.env (.ref D)) _ _ _;refine wpAny_assign_Name (_Vq I' hN hi' (.inl hy) (v:=.ref D) rfl (fun s'' I'' hQ=>?_) (.inr hy));obtain ⟨a,hsb,ha⟩:=hQ;have hCa:C ≠ a:=by
  rintro rfl;rcases ha with z | z
  ·exact absurd (lt_of_lt_of_le I2.lt (by rw [<- z]; exact hle)) (lt_irrefl _)
  ·obtain ⟨v,q⟩:=I2.cell _ _ z
   exact absurd (lt_of_lt_of_le q.lt hle) (lt_irrefl _)
 exact ⟨m',hn.sameBut hsb hCa,fun h' hs'=>⟨_,H',Inv.letgo I2 I'' hC hle hs',q'⟩⟩
end
def tGE (K:Frag) (g:GE):TG:=fun v σ H Q=>∃ F ρ d ρ',_qu9 F H/\RE K F σ ρ/\ρ.length=σ.length/\Rep K F v d/\g d ρ=some ρ'/\∀ σ',RE K F σ' ρ'->ρ'.length=σ'.length->Q σ' H
def tGEs (K:Frag) (g:List D->_quj->Option _quj):TGs:=fun vs σ H Q=>∃ F ρ ds ρ',_qu9 F H/\RE K F σ ρ/\ρ.length=σ.length/\Reps K F vs ds/\g ds ρ=some ρ'/\∀ σ',RE K F σ' ρ'->ρ'.length=σ'.length->Q σ' H
def DGE (X:Cx) (tg:Expr) (g:GE):Prop:=PG X tg (tGE X.K g)
def DGEs (X:Cx) (ts:List Expr) (gs:List GE):Prop:=PGs X ts (tGEs X.K (geT gs))
section
variable {X:Cx} {pos:Pos}
theorem _A (i:Nat) {tg:Expr} (h:PG X tg (_zj i)):DGE X tg (geN i):=by
 refine PG.imp h fun v σ H Q q=>?_;obtain ⟨F,ρ,d,ρ',s,re,hl,q,h,k⟩:=q;cases h;refine k _ (fun j d' h=>?_) (by simpa using hl);rcases _qbg h with ⟨rfl,e,hl'⟩ | ⟨ne,h⟩
 ·cases e
  exact ⟨v,getElem?_set_self (by rw [<- hl]; exact hl'),q⟩
 ·rw [getElem?_set_ne (B4 ne)]
  exact re j d' h
theorem _qg5:∀ {gs:List GE} {ds:List D} {ρ ρ':_quj},geT gs ds ρ=some ρ'->ds.length=gs.length
 | [],[],_,_,_=>rfl
 | g :: gs,d :: ds,ρ,ρ',h=>by
  obtain ⟨r1,_,h2⟩:=bind_some h;simp [_qg5 h2]
 | [],_ :: _,_,_,h=>by simp [geT] at h
 | _ :: _,[],_,_,h=>by simp [geT] at h
theorem _Q8:DGEs X [] []:=by
 intro pins s σ H vs us Q I rv q;refine _Ju pins s σ H vs us Q I rv ?_;obtain ⟨F,ρ,ds,ρ',s,re,hl,q,h,k⟩:=q;cases q with
 | nil=>cases h; exact ⟨rfl,k _ re hl⟩
 | cons=>cases h
theorem _jh {t:Expr} {ts:List Expr} {g:GE} {gs:List GE} (h1:DGE X t g) (h2:DGEs X ts gs)
  (hs:(B6 (t :: ts) X.env).map (·.2)=Il t X.env :: (B6 ts X.env).map (·.2):=by rfl):DGEs X (t :: ts) (g :: gs):=by
 intro pins s σ H vs us Q I rv q;refine _xl h1 h2 hs pins s σ H vs us Q I rv ?_;obtain ⟨F,ρ,ds,ρ',s,re,hl,q,h,k⟩:=q;cases q with
 | nil=>cases h
 | cons q1 q2 =>
  obtain ⟨ρ1,h1,h2⟩:=bind_some h;exact ⟨_,_,rfl,F,ρ,_,ρ1,s,re,hl,q1,h1,fun σ' re' hl'=>⟨F,ρ1,_,ρ',s,re',hl',q2,h2,k⟩⟩
theorem _Kr {ts:List Expr} {gs:List GE} {kk:Nat} (hc:X.calm=true) (h:DGEs X ts gs) (hn:(B6 ts X.env).length=gs.length:=by rfl) (hst:(B6 ts X.env).findIdx? (·.1)=none:=by rfl):DGE X (.Tuple ts kk pos) (_qto gs):=by
 refine PG.imp (_qdl hc h hn hst) fun v σ H Q q=>?_;obtain ⟨F,ρ,d,ρ',s,re,hl,q,h,k⟩:=q;unfold _qto at h;split at h
 ·rename_i ds
  cases q with
  | tup q t=>exact ⟨_,_,rfl,seqT s q,by rw [t.length]; exact _qg5 h,F,ρ,ds,ρ',s,re,hl,t,h,k⟩
 ·cases h
end
theorem re_mk {K:Frag} {F F1:Hp} {σ:L2.St} {ρ:_quj} {js:List (Option Nat)} (re:RE K F σ ρ) (e1:_qu9 F F1):RE K F1 (mkS js σ) (mkD js ρ):=fun i d h=>by
 unfold mkD at h;rw [getElem?_map] at h;cases q:js[i]? with
 | none=>rw [q] at h; cases h
 | some oj =>
  rw [q] at h;cases oj with
  | none=>simp at h
  | some j =>
   have hj:ρ[j]?=some (some d):=by
    cases z:ρ[j]? with
    | none=>simp [z] at h
    | some od=>cases od with
     | none=>simp [z] at h
     | some d'=>simp [z] at h; rw [h]
   obtain ⟨v,h1,h2⟩:=re j d hj;refine ⟨v,?_,h2.mono e1⟩;unfold mkS;rw [getElem?_map,q];simp [h1]
structure CI (K:Frag) (F1 H1 F H:Hp) (σ:L2.St) (ρ:_quj) (l:Addr) (done:List O):Prop where
 ext:Ext F1 H1 F H
 re:RE K F σ ρ
 len:ρ.length=σ.length
 fl:F l=none
 hl:∃ acc A,H l=some (.lst acc)/\Owns K F H acc done A/\∀ b,A b->F b=none/\H1 b=none/\b ≠ l
theorem CI.more {K:Frag} {F1 H1 F H F' H':Hp} {σ:L2.St} {ρ:_quj} {l:Addr} {done:List O} (c:CI K F1 H1 F H σ ρ l done) (e:Ext F H F' H'):CI K F1 H1 F' H' σ ρ l done:=by
 obtain ⟨acc,A,h1,h2,h3⟩:=c.hl;have keep:∀ b,F b=none->(∃ u,H b=some u)->F' b=none:=fun b hf ⟨u,hu⟩=>by
  cases z:F' b with
  | none=>rfl
  | some o =>
   rcases e.nw b o z with y | y
   ·rw [hf] at y; cases y
   ·rw [hu] at y; cases y
 refine ⟨c.ext.trans e,c.re.mono e.ff,c.len,keep l c.fl ⟨_,h1⟩,acc,A,e.hh _ _ h1,h2.ext e.ff e.hh,fun b z=>?_⟩;obtain ⟨g1,g2,g3⟩:=h3 b z;obtain ⟨u,hu,_⟩:=h2.there b z;exact ⟨keep b g1 ⟨u,hu⟩,g2,g3⟩
theorem _Kt {K:Frag} {F1 H1 F H:Hp} {σ:L2.St} {ρ:_quj} {g:GE} {c:FT} {e:FO} {d:D} {_qt6:List D} {done ys:List O} {x:V} {l:Addr} {N:L2.St->Hp->Prop}
  (ci:CI K F1 H1 F H σ ρ l done) (hB:H1 l=none) (q:Rep K F x d) (hz:done.length < Aj)
  (h:_v0 g c e (d :: _qt6) ρ=some ys)
  (hN:∀ F' H' σ' ρ' new ys',_qu9 F F'->CI K F1 H1 F' H' σ' ρ' l (done++new)->new.length <= 1->_v0 g c e _qt6 ρ'=some ys'->ys=new++ys'->N σ' H') :
  tGE K g x σ H fun σ2 H2=>tDT K c σ2 H2 fun b H3=>if b=true then tO K e σ2 H3 fun y H4=>∃ acc,H4 l=some (.lst acc)/\acc.length < Aj/\N σ2 (upd H4 l (.lst (acc++[y]))) else N σ2 H3:=by
 obtain ⟨ρ1,h1,h⟩:=bind_some h;obtain ⟨b,hb,h⟩:=bind_some h;refine ⟨F,ρ,d,ρ1,ci.ext.fh,ci.re,ci.len,q,h1,fun σ2 re2 hl2=>?_⟩;have ci2:CI K F1 H1 F H σ2 ρ1 l done:=⟨ci.ext,re2,hl2,ci.fl,ci.hl⟩;refine ⟨F,ρ1,b,ci.ext.fh,re2,hb,fun F3 H3 e3=>?_⟩;have ci3:=ci2.more e3;cases b with
 | false =>
  rw [if_neg An] at h;exact _qti (hN F3 H3 σ2 ρ1 [] ys e3.ff (by simpa using ci3) (by simp) h (by simp))
 | true =>
  rw [if_pos rfl] at h;refine iteT ?_;obtain ⟨y,hy,h⟩:=bind_some h;obtain ⟨ys',hys,rfl⟩:=map_some h;refine ⟨F3,ρ1,y,e3.fh,ci3.re,hy,fun v F4 H4 A4 e4 r4 n4=>?_⟩;have ci4:=ci3.more e4;obtain ⟨acc3,A3,k1,k2,k3⟩:=ci3.hl;have t4:H4 l=some (.lst acc3):=e4.hh _ _ k1;have k2':=k2.ext e4.ff e4.hh;refine ⟨acc3,t4,by rw [k2.length]; exact hz,?_⟩;have nl:¬ A4 l:=fun z=>by have:=(n4 l z).2; rw [k1] at this; cases this
  have h1l:∀ b u,H1 b=some u->b ≠ l:=fun b u hb=>_c hb hB;refine hN F4 _ σ2 ρ1 [y] ys' (e3.ff.trans e4.ff) ⟨⟨ci4.ext.ff,fun b u hb=>by rw [_e (_c hb ci4.fl)]; exact ci4.ext.fh _ _ hb,fun b u hb=>by rw [_e (h1l b u hb)]; exact ci4.ext.hh _ _ hb,ci4.ext.nw⟩,ci4.re,ci4.len,ci4.fl,acc3++[v],fun b=>A3 b \/ A4 b,_a,?_,fun b z=>?_⟩ (by simp) hys (by simp)
  ·refine (k2'.stay (_qu9.refl _) (H':=upd H4 l (.lst (acc3++[v]))) fun b z=>_e (k3 b z).2.2).append (.cons (r4.stay (_qu9.refl _) (H':=upd H4 l (.lst (acc3++[v]))) fun b z=>_e (by rintro rfl; exact nl z)) (.nil (A:=fun _=>False) fun _ z=>z) (fun _ _ z=>z) fun b=>⟨.inl,fun z=>z.elim id Az⟩) fun b z y=>?_
   obtain ⟨u,hu,_⟩:=k2.there b z;rw [(n4 b y).2] at hu; cases hu
  ·rcases z with z | z
   ·obtain ⟨g1,g2,g3⟩:=k3 b z
    obtain ⟨u,hu,_⟩:=k2.there b z;refine ⟨?_,g2,g3⟩;cases w:F4 b with
    | none=>rfl
    | some o =>
     rcases e4.nw b o w with y | y
     ·rw [g1] at y; cases y
     ·rw [hu] at y; cases y
   ·exact ⟨(n4 b z).1,ci3.ext.hh.free (n4 b z).2,by rintro rfl; exact nl z⟩
theorem CI.own {K:Frag} {F1 H1 F H:Hp} {σ:L2.St} {ρ:_quj} {l:Addr} {done:List O} (c:CI K F1 H1 F H σ ρ l done) (hB:H1 l=none):∃ A,Own K F H (.ref l) (.lst done) A/\∀ b,A b->F b=none/\H1 b=none:=by
 obtain ⟨acc,A,h1,h2,h3⟩:=c.hl;refine ⟨_,_qhk h1 (fun z=>(h3 l z).2.2 rfl) h2,fun b z=>?_⟩;rcases z with rfl | z
 ·exact ⟨c.fl,hB⟩
 ·exact ⟨(h3 b z).1,(h3 b z).2.1⟩
theorem _qc1 {K:Frag} {F H F1 H1:Hp} {σ:L2.St} {ρ:_quj} {js:List (Option Nat)} {l:Addr} (re:RE K F σ ρ) (e1:Ext F H F1 H1) (hl:H1 l=none):CI K F1 H1 F1 (upd H1 l (.lst [])) (mkS js σ) (mkD js ρ) l [] :=
 ⟨Ext.laidH e1.fh hl,re_mk re e1.ff,by simp [mkD,mkS],e1.fh.free hl,[],fun _=>False,_a,.nil fun _ z=>z,fun _ z=>z.elim⟩
section
variable {X:Cx} {js:List (Option Nat)} {g:GE} {c:FT} {e:FO}
theorem _E {K:Frag} {f:FE} {σ:L2.St} {H:Hp} {Q:VK} (h:tO K (_zv js f g c e) σ H Q):_qd0 (_qmh K (tD K f)) (tGE K g) (tDT K c) (tO K e) js σ H Q:=by
 obtain ⟨F,ρ,total,s,re,hf,k⟩:=h;obtain ⟨d,hd,hf⟩:=bind_some hf;rw [_Z7] at hf;split at hf
 ·rename_i xs
  split at hf
  ·rename_i hlen
   obtain ⟨total,hf2,rfl⟩:=map_some hf;have hf:=hf2;clear hf2;refine ⟨F,ρ,.lst xs,s,re,hd,fun v F1 H1 e1 r1=>?_⟩;cases r1 with
   | lst q t =>
    rename_i a vs;refine ⟨a,rfl,⟨vs,(_qt1 e1.fh q).l⟩,fun l hl=>⟨fun i m σ' H'=>∃ F' ρ' done ys,CI K F1 H1 F' H' σ' ρ' l done/\SqE K F' a vs/\Reps K F' vs xs/\i <= xs.length/\m=xs.length - i/\done.length <= i/\_v0 g c e (xs.drop i) ρ'=some ys/\total=done++ys,
     ⟨_,F1,mkD js ρ,[],total,_qc1 re e1 hl,q,t,zero_le _,rfl,le_refl _,hf,rfl⟩,?_⟩⟩
    rintro i m σ' H' ⟨F',ρ',done,ys,ci,q',t',hi,rfl,hdn,hc,ht⟩
    by_cases hlt:i < xs.length
    ·have hv:i < vs.length:=by rw [t'.length]; exact hlt
     refine .inr ⟨⟨vs,vs[i],(_qt1 ci.ext.fh q').l,by simp [hv]⟩,fun x H2 y=>?_⟩;obtain ⟨rfl,y⟩:=y;obtain ⟨d,hd1,hd2⟩:=t'.get (y vs (_qt1 ci.ext.fh q').l);have ed:xs[i]=d:=by rw [getElem?_eq_getElem hlt] at hd1; exact Option.some.inj hd1
     rw [drop_cons hlt,ed] at hc;refine _Kt (N:=fun σ2 H2=>∃ m',m' < xs.length - i/\_) ci hl hd2 (lt_of_lt_of_le (lt_of_le_of_lt hdn hlt) (_z0 hlen)) hc fun F2 H2 σ2 ρ2 new ys' s2 ci2 hn2 hc2 he2=>?_;exact ⟨_,by omega,F2,ρ2,done++new,ys',ci2,_qt1 s2 q',t'.mono s2,hlt,rfl,by simp; omega,hc2,by rw [ht,he2]; simp⟩
    ·refine .inl ⟨⟨vs,(_qt1 ci.ext.fh q').l,by rw [t'.length]; omega⟩,?_⟩
     rw [drop_of_length_le (by omega)] at hc;cases hc
     have:total=done:=by simpa using ht
     subst this;obtain ⟨A,o1,o2⟩:=ci.own hl;exact k (.ref l) F' H' A (e1.trans ci.ext) o1 fun b z=>⟨(o2 b z).1,e1.hh.free (o2 b z).2⟩
  ·cases hf
 ·cases hf
end
def DIfs (X:Cx) (ifs:List Expr) (c:FT):Prop:=PIfs X ifs (tDT X.K c)
theorem _Q7 {X:Cx} {e:Expr} {c:FT} (h:DT X e c):DIfs X [e] c:=.inr ⟨e,rfl,h⟩
theorem _qr {X:Cx}:DIfs X [] qT:=.inl ⟨rfl,fun σ H Q q=>by
 obtain ⟨F,ρ,b,s,re,hf,k⟩:=q;cases hf;exact k F H (Ext.refl s)⟩
def clo (env:Env):List (Str × NameKind)->List (Str × Addr)->Option (List (Str × Addr))
 | [],cs=>some cs
 | (n,k) :: r,cs=>if (k == .free)=true then (env.cells.lookup n).bind fun c=>clo env r ((n,c) :: cs) else clo env r cs
theorem _qc0 {env:Env}:∀ {ns:List (Str × NameKind)} {cs cl:List (Str × Addr)},clo env ns cs=some cl->(forIn (m:=Sem) ns cs fun (x:Str × NameKind) cs=>if (x.2 == .free)=true then do let c <- cellOf env x.1; pure (ForInStep.yield ((x.1,c) :: cs)) else pure (ForInStep.yield cs))=pure cl
 | [],cs,cl,h=>by cases h; rfl
 | (n,k) :: r,cs,cl,h=>by
  unfold clo at h;rw [forIn_cons]
  by_cases hk:(k == .free)=true
  ·rw [if_pos hk] at h
   obtain ⟨c,hc,h⟩:=bind_some h;have e:cellOf env n=pure c:=by unfold cellOf; rw [hc]
   simp only [hk,if_true,e,pure_bind];exact _qc0 h
  ·rw [if_neg hk] at h
   simp only [hk,if_false,pure_bind];exact _qc0 h
theorem _x2 {scope:Scope} {env:Env} {cl:List (Str × Addr)} (h:clo env scope.names []=some cl):K9 scope env=pure cl:=by
 have:=_qc0 h
 simp only [K9];rw [this];rfl
theorem _Kw {env:Env}:∀ {ns:List (Str × NameKind)} {cs cl:List (Str × Addr)},clo env ns cs=some cl->∀ x c,(x,c)∈cl->(x,c)∈cs \/ env.cells.lookup x=some c
 | [],cs,cl,h,x,c,hx=>by cases h; exact .inl hx
 | (n,k) :: r,cs,cl,h,x,c,hx=>by
  unfold clo at h
  by_cases hk:(k == .free)=true
  ·rw [if_pos hk] at h
   obtain ⟨a,ha,h⟩:=bind_some h;rcases _Kw h x c hx with z | z
   ·rcases Al.mp z with y | y
    ·cases y; exact .inr ha
    ·exact .inl y
   ·exact .inr z
  ·rw [if_neg hk] at h
   exact _Kw h x c hx
theorem _Kx {env:Env}:∀ {ns:List (Str × NameKind)} {cs cl:List (Str × Addr)},clo env ns cs=some cl->(∀ x c,(x,c)∈cs->(x,c)∈cl)/\∀ x,(x,NameKind.free)∈ns->∃ c,(x,c)∈cl
 | [],cs,cl,h=>by cases h; exact ⟨fun _ _ z=>z,fun x z=>by simp at z⟩
 | (n,k) :: r,cs,cl,h=>by
  unfold clo at h
  by_cases hk:(k == .free)=true
  ·rw [if_pos hk] at h
   obtain ⟨a,ha,h⟩:=bind_some h;obtain ⟨h1,h2⟩:=_Kx h;refine ⟨fun x c z=>h1 x c (mem_cons_of_mem _ z),fun x z=>?_⟩;rcases Al.mp z with y | y
   ·cases y; exact ⟨a,h1 _ _ mem_cons_self⟩
   ·exact h2 x y
  ·rw [if_neg hk] at h
   obtain ⟨h1,h2⟩:=_Kx h;refine ⟨h1,fun x z=>?_⟩;rcases Al.mp z with y | y
   ·cases y; exact absurd rfl hk
   ·exact h2 x y
theorem mem_lookup {α:Type}:∀ {l:List (Str × α)} {x:Str} {c:α},l.lookup x=some c->(x,c)∈l
 | [],_,_,h=>by cases h
 | (y,d) :: l,x,c,h=>by
  unfold Dh at h;split at h
  ·rename_i e
   cases h;rw [beq_iff_eq] at e;subst e;exact mem_cons_self
  ·exact mem_cons_of_mem _ (mem_lookup h)
theorem _kw {α:Type}:∀ {l:List (Str × α)} {x:Str} {c:α},(x,c)∈l->∃ d,l.lookup x=some d
 | (y,d) :: l,x,c,h=>by
  by_cases e:(x == y)=true
  ·exact ⟨d,by unfold Dh; rw [e]⟩
  ·rcases Al.mp h with z | z
   ·cases z; simp at e
   ·obtain ⟨d',hd⟩:=_kw z
    refine ⟨d',?_⟩;unfold Dh;cases q:x == y with
    | true=>exact absurd q e
    | false=>exact hd
theorem _X2 {scope:Scope} {env:Env} (hcell:∀ y∈scope.names,y.2 ≠ .cell) {x:Str} (h:(Cq scope env).names.lookup x=some .cell \/ (Cq scope env).names.lookup x=some .free):(x,NameKind.free)∈scope.names:=by
 have h':∃ k,(x,k)∈(Cq scope env).names/\(k=.cell \/ k=.free):=by
  rcases h with h | h
  ·exact ⟨_,mem_lookup h,.inl rfl⟩
  ·exact ⟨_,mem_lookup h,.inr rfl⟩
 obtain ⟨k,hk,hkk⟩:=h';unfold Cq at hk;obtain ⟨⟨n,k'⟩,hm,he⟩:=Ah.mp hk;dsimp only at he;split at he
 ·rename_i hc
  cases he;simp only [C0,beq_iff_eq] at hc;rw [<- hc.1.1]; exact hm
 ·cases he
  rcases hkk with rfl | rfl
  ·exact absurd rfl (hcell _ hm)
  ·exact hm
section
variable {X:Cx} {elt target iter:Expr} {ifs:List Expr} {scope:Scope} {pos:Pos} {cl:List (Str × Addr)} {N':List Str} {js:List (Option Nat)} {g:GE} {c:FT} {e:FO}
structure CompOk (X:Cx) (scope:Scope) (cl:List (Str × Addr)) (N':List Str) (js:List (Option Nat)):Prop where
 calm:X.calm=true
 clo:clo X.env scope.names []=some cl
 free:_zo X scope cl js N'
 cell:∀ y∈scope.names,y.2 ≠ .cell
 kind:scope.kind=.function
 names:∀ x∈scope.names,x.2=.local->scope.names.lookup x.1=some .local
theorem CompOk.hcl (k:CompOk X scope cl N' js):∀ x c,cl.lookup x=some c->X.env.cells.lookup x=some c:=fun x c h=>by
 rcases _Kw k.clo x c (mem_lookup h) with z | z
 ·simp at z
 ·exact z
theorem CompOk.hhas (k:CompOk X scope cl N' js):∀ x,((Cq scope X.env).names.lookup x=some .cell \/ (Cq scope X.env).names.lookup x=some .free)->∃ c,cl.lookup x=some c:=fun x h=>by
 obtain ⟨c,hc⟩:=(_Kx k.clo).2 x (_X2 k.cell h);exact _kw hc
theorem _qp4 {K:Frag} {S:List Bool} {f:FO} {σ:L2.St} {H:Hp} {Q:VK} (q:tM K (mO S f) σ H Q):tO K f σ H Q:=by
 obtain ⟨β,F,ρ,p,r,hf,k⟩:=q;obtain ⟨o,ho,rfl⟩:=map_some hf;obtain ⟨G,l,re,rz⟩:=r.look S;refine ⟨G,frz S ρ,o,l.gh,re,ho,fun v F' H' A e q n=>?_⟩
 by_cases hi:oim o=true
 ·rw [if_pos hi] at k
  exact k v _ H' _q9 e.hh (r.push (l.ext e r.ext.fh) (l.own e r.ext.fh hi q) fun b z=>⟨(_Q2 r.ext.fh (n b z).2).trans (n b z).1,(n b z).2⟩)
 ·rw [if_neg hi] at k
  exact k v F' H' (l.fg.trans e.ff) e.hh (rz.push e q n)
section
variable {wi:TI} {f:FO} (k:CompOk X scope cl N' js) (hi:PI X target iter wi) (hw:∀ σ H Q,tO X.K f σ H Q->_qd0 wi (tGE X.K g) (tDT X.K c) (tO X.K e) js σ H Q)
 (hg:∀ C s₀ H₀ ex pn,DGE (_P X N' scope cl C s₀ H₀ ex pn) target g) (ht:∀ C s₀ H₀ ex pn,DIfs (_P X N' scope cl C s₀ H₀ ex pn) ifs c) (he:∀ C s₀ H₀ ex pn,DO (_P X N' scope cl C s₀ H₀ ex pn) elt e)
include k hi hw hg ht he
theorem _W (hs:∀ x,Cd iter X.env x=pure x:=by intro _; rfl):DO X (.ListComp elt [⟨target,iter,ifs,0⟩] scope pos) f :=
 PE.imp (_qfl (g:=tGE X.K g) (tc:=tDT X.K c) (te:=tO X.K e) k.calm hi (_x2 k.clo) k.free k.hcl k.hhas k.cell k.kind k.names hg ht he hs) hw
theorem _qj6 {i:Nat} {S:List Bool} {y:Str} {py spos:Pos} (hN:X.N.Nodup) (hi':X.N[i]?=some y) (hy:X.env.scope.names.lookup y=some .local)
  (hsw:Hc (.ListComp elt [⟨target,iter,ifs,0⟩] scope pos) (some (.Name y py)) spos.line X.env=pure true) (hs:∀ x,Cd iter X.env x=pure x:=by intro _; rfl) :
  DS X (.Assign [.Name y py] (.ListComp elt [⟨target,iter,ifs,0⟩] scope pos) spos) [i] (_qtz i (mO S f)) :=
 _C i (PS.imp (_qfi (g:=tGE X.K g) (tc:=tDT X.K c) (te:=tO X.K e) hN hi' hy hsw k.calm hi (_x2 k.clo) k.free k.hcl k.hhas k.cell k.kind k.names hg ht he hs) fun E σ H q=>hw _ _ _ (_qp4 q))
end
end
end DL
set_option maxHeartbeats 1000000
namespace DL
open PySem PySem.Spec PyProof.Rows L2
theorem _qg3 {k:Nat} {A:Around} (r:Room k A):A.units + 64 + 1 < cLine:=by have:=r.un; omega
section
variable {X:Cx} {K:Frag} {F:Hp}
theorem _Jc (hc:X.calm=true):_wh X (.builtin "sum") (fun xs H Q=>∃ (p:Addr) (ns:List Int),xs=[.ref p]/\SqL X.K H p (ns.map V.int)/\Q (.int ns.sum) H):=by
 intro pins s σ H xs us Q I r h;obtain ⟨p,ns,rfl,hq,q⟩:=h;cases r with
 | cons r1 r =>
  cases r;cases r1;obtain ⟨its,rv,ht,hz⟩:=I.list hq;have ia:=intsAre_of rv;have hall:=ia.allInts;obtain ⟨ys,hys⟩:=hall.items;have hl:=ht.isList;rw [hys] at hl;refine sum_intListG (I.ok.hd hc) hl fun h' tk t' hk=>?_;have en:(ys.toList.map (·.1))=ns:=by rw [<- nums_intItems,<- hys]; simpa using ia.numsOf
  rw [preSum_eq,D6 (by simp),en];exact ⟨.int _,H,I.kept (t':=tk) hk,⟨_,rfl⟩,q⟩
theorem _qkg (ns:List Int) (a:Int):sumD (ns.map D.int) a=some (a + ns.sum):=by
 induction ns generalizing a with
 | nil=>simp [sumD]
 | cons n ns ih=>simp [sumD,ih,Int.add_assoc]
theorem _Vo:∀ {ds:List D} {a b:Int},sumD ds a=some b->∃ ns:List Int,ds=ns.map D.int
 | [],_,_,_=>⟨[],rfl⟩
 | d :: ds,a,b,h=>by
  cases d with
  | int i =>
   obtain ⟨ns,e⟩:=_Vo (ds:=ds) (a:=a + i) (b:=b) h;exact ⟨i :: ns,by rw [e]; rfl⟩
  | _=>simp [sumD] at h
theorem _Z:∀ {vs:List V} {ns:List Int},Reps K F vs (ns.map D.int)->vs=ns.map V.int
 | [],[],_=>rfl
 | [],_ :: _,r=>by cases r
 | _ :: _,[],r=>by cases r
 | v :: vs,n :: ns,r=>by
  cases r with
  | cons h t=>cases h; rw [_Z t]; rfl
theorem _Ja:_qno K (fun xs H Q=>∃ (p:Addr) (ns:List Int),xs=[.ref p]/\SqL K H p (ns.map V.int)/\Q (.int ns.sum) H) dSum:=by
 intro ds d F H vs Q h s r k;unfold dSum at h;split at h
 ·obtain ⟨n,hn,rfl⟩:=map_some h
  obtain ⟨ns,rfl⟩:=_Vo hn;rw [_qkg] at hn;cases hn;cases r with | cons r r' =>
  cases r';cases r with | lst q t =>
  have:=_Z t
  subst this;exact ⟨_,ns,rfl,(_qt1 s q).l,k _ F H (Ext.refl s) (by rw [Int.zero_add]; exact .int _)⟩
 ·cases h
theorem blVals:∀ {bs:List Bool} {us:List Value},_qu8 (bs.map V.bl) us->us=bs.map Value.bool
 | [],_,r=>by cases r; rfl
 | b :: bs,_,r=>by
  cases r with
  | cons h t=>cases h; rw [blVals t]; rfl
theorem _qil {A:Around} {E:Value->Shared->Prop} {s:Shared} {l:Addr} {its:Array Value} {Q:Value->Shared->Prop} {prog:Ak} {w:World} (hl:s.heap.IsList l its)
  (h:∀ s₂:Shared,(∀ b o,s.heap.get? b=some o->s₂.heap.get? b=some o)->s₂.toks=s.toks->s₂.os=s.os->s₂.gens=s.gens->s₂={ s with heap:=s₂.heap }->(s₂.heap.IsListIter s.heap.objs.size l 0/\s₂.heap.IsList l its)->l ≠ s.heap.objs.size->Q (.ref s.heap.objs.size) s₂) :
  wpAny (model prog w) A (J2 (.ref l)) Q E s:=by
 have hlt:l < s.heap.objs.size:=by obtain ⟨_,e,_⟩:=hl; exact Af e
 exact Hw hl (h _ (fun b o e=>Ae _ e) rfl rfl rfl rfl ⟨⟨_,Ag _ rfl,rfl,rfl⟩,hl.push _⟩ (ne_of_lt hlt))
theorem _K9 {prog:Ak} {w:World} {A:Around} (bs:List Bool):TruthOf prog w A (fun i v=>(bs.map Value.bool).toArray[i]?=some v) fun i=>bs.getD i false:=by
 intro i v s Q E hP hQ;rw [List.getElem?_toArray,getElem?_map] at hP;obtain ⟨b,hb,rfl⟩:=map_some hP
 have:bs.getD i false=b:=by simp [List.getD,hb]
 exact El (by rw [<- this]; exact hQ)
theorem _qdf (bs:List Bool):((Ar bs.length).all fun i=>bs.getD i false)=bs.all id:=by
 rw [A5]; simp only [F9,A0];constructor
 ·intro h b hb
  obtain ⟨i,hi,rfl⟩:=List.mem_iff_getElem.mp hb;simpa [hi] using h i hi
 ·intro h i hi
  have:=h bs[i] (getElem_mem hi)
  simpa [hi] using this
theorem _K0 (hc:X.calm=true):_wh X (.builtin "all") (fun xs H Q=>∃ (p:Addr) (bs:List Bool),xs=[.ref p]/\SqL X.K H p (bs.map V.bl)/\Q (.bl (bs.all id)) H):=by
 intro pins s σ H xs us Q I r h;obtain ⟨p,bs,rfl,hq,q⟩:=h;cases r with
 | cons r1 r =>
  cases r;cases r1;obtain ⟨its,rv,ht,hz⟩:=I.list hq;obtain rfl:=blVals rv;refine call_all_walk (_qil ht.isList fun s₂ ks et eo eg es st ne=>?_);refine ⟨_,_,_,_,_,_,fun i=>bs.getD i false,rfl,Walks.list (A:=X.A.in1) (I.ok.hd hc) _ p ne (bs.map Value.bool).toArray,st,_K9 bs,fun h' tk hk=>?_⟩;have e:(bs.map Value.bool).toArray.size=bs.length:=by simp
  rw [e,_qdf];rw [es];refine ⟨.bl _,H,I.kept (t':=tk) (h':=h') fun b o eb=>hk b o ?_ (ks b o eb),rfl,q⟩;intro hb;simp at hb;subst hb;exact absurd (Af eb) (lt_irrefl _)
theorem _Xh:∀ {ds:List D} {bs:List Bool},_qjl ds=some bs->ds=bs.map D.bl
 | [],_,h=>by cases h; rfl
 | d :: ds,bs,h=>by
  cases d with
  | bl b =>
   obtain ⟨r,hr,rfl⟩:=map_some (show (_qjl ds).map (fun r=>b :: r)=some bs from h);rw [_Xh hr]; rfl
  | _=>simp [_qjl] at h
theorem _wy:∀ {vs:List V} {ns:List Bool},Reps K F vs (ns.map D.bl)->vs=ns.map V.bl
 | [],[],_=>rfl
 | [],_ :: _,r=>by cases r
 | _ :: _,[],r=>by cases r
 | v :: vs,n :: ns,r=>by
  cases r with
  | cons h t=>cases h; rw [_wy t]; rfl
theorem _qep:_qno K (fun xs H Q=>∃ (p:Addr) (bs:List Bool),xs=[.ref p]/\SqL K H p (bs.map V.bl)/\Q (.bl (bs.all id)) H) dAll:=by
 intro ds d F H vs Q h s r k;unfold dAll at h;split at h
 ·obtain ⟨bs,hb,rfl⟩:=map_some h
  have e:=_Xh hb;subst e;cases r with | cons r r' =>
  cases r';cases r with | lst q t =>
  have:=_wy t
  subst this;exact ⟨_,bs,rfl,(_qt1 s q).l,k _ F H (Ext.refl s) (.bl _)⟩
 ·cases h
end
theorem Inv.turnedT {X:Cx} {pins:List (Addr × Obj)} {σ:L2.St} {H:Hp} {s:Shared} {h':Heap} {t':Nat} {fp:List Addr} {T:Addr} {o:HO} (I:Inv X pins σ H s) (k:∀ b u,b ∉ fp->s.heap.get? b=some u->h'.get? b=some u) (hf:∀ b∈fp,FpOk X pins H b)
  (hT:s.heap.objs.size <= T) (new:_zn X.prog X.w (upd H T o) h' T o):Inv X pins σ (upd H T o) { s with heap:=h',toks:=t' }:=by
 have hn:H T=none:=I.hok.fresh hT;have lt:∀ b u,s.heap.get? b=some u->b ≠ T:=fun b u e z=>absurd (Af e) (by rw [z]; exact La.mpr hT);have nfp:∀ b u,H b=some u->b ∉ fp:=fun b u e z=>by rw [(hf b z).1] at e; cases e
 refine I.step (g':=s.gens) (d':=s.drawn) (ch:=fp) (fun b hb=>?_) (fun b u _ _ hc e _=>k b u hc e) (fun b u _ _ hc e _=>⟨u.slots,k b u hc e⟩) (fun b u _ e n=>by rw [_e (lt b u e)]; exact n)
  (fun b u hc e=>⟨u,k b u hc e⟩) (fun b xs e=>by rw [_e (_c e hn)]; exact e) (fun b u w e=>by rw [_e (_c e hn)]; exact e) (fun b ps e=>⟨#[],by rw [_e (_c e hn),e]; simp⟩) (fun m hm=>?_) (fun b u e=>?_) I.bare
 ·obtain ⟨f0,f1,f2,f3,f4,f5⟩:=hf b hb
  exact ⟨f3,f1,f4,f5⟩
 ·obtain ⟨u,es,ep,ho,r⟩:=hm
  refine ⟨u,es,ep,k _ u (fun z=>(hf _ z).2.1 rfl) ho,r⟩
 ·by_cases hb:b=T
  ·subst hb; rw [_a] at e; cases e; exact new
  ·rw [_e hb] at e
   refine (I.hok b u e).stay (fun c v hc q=>k c v ?_ q) (fun c q=>by rw [_e (_c q hn)]; exact q) fun c xs q=>by rw [_e (_c q hn)]; exact q
   rcases hc with z | z
   ·rw [z]; exact nfp b u e
   ·exact nfp c _ z
theorem Inv.turnedL {X:Cx} {pins:List (Addr × Obj)} {σ:L2.St} {H:Hp} {s:Shared} {h':Heap} {t':Nat} {fp:List Addr} (I:Inv X pins σ H s) (k:∀ b u,b ∉ fp->s.heap.get? b=some u->h'.get? b=some u) (hf:∀ b∈fp,FpOk X pins H b):Inv X pins σ H { s with heap:=h',toks:=t' }:=by
 have nfp:∀ b u,H b=some u->b ∉ fp:=fun b u e z=>by rw [(hf b z).1] at e; cases e
 refine I.step (g':=s.gens) (d':=s.drawn) (ch:=fp) (fun b hb=>?_) (fun b u _ _ hc e _=>k b u hc e) (fun b u _ _ hc e _=>⟨u.slots,k b u hc e⟩) (fun b u _ e n=>n)
  (fun b u hc e=>⟨u,k b u hc e⟩) (fun b xs e=>e) (fun b u w e=>e) (fun b ps e=>⟨#[],by rw [e]; simp⟩) (fun m hm=>?_) (fun b u e=>?_) I.bare
 ·obtain ⟨f0,f1,f2,f3,f4,f5⟩:=hf b hb
  exact ⟨f3,f1,f4,f5⟩
 ·obtain ⟨u,es,ep,ho,r⟩:=hm
  refine ⟨u,es,ep,k _ u (fun z=>(hf _ z).2.1 rfl) ho,r⟩
 ·refine (I.hok b u e).stay (fun c v hc q=>k c v ?_ q) (fun c q=>q) fun c xs q=>q
  rcases hc with z | z
  ·rw [z]; exact nfp b u e
  ·exact nfp c _ z
def Ite (K:Frag) (a:Addr):It :=
 ⟨fun i H=>∃ xs x,SqL K H a xs/\xs[i]?=some x,fun i H x H'=>∃ T v,x=.ref T/\H T=none/\H'=upd H T (.tup [.int (i:Int),v])/\∀ xs,SqL K H a xs->xs[i]?=some v,fun i H=>∃ xs,SqL K H a xs/\xs.length=i⟩
theorem _qcx {P:Ak} {w:World} {K:Frag} {elts:List Expr} {kk:Nat} {tp:Pos} (a e it:Addr) (hei:e ≠ it) (hae:a ≠ e) (hai:a ≠ it):Turn P w K (.Tuple elts kk tp) (Ite K a) [e,it] e (fun i h=>(∃ old,IsEnum h e it i old)/\h.IsListIter it a i) where
 mem:=by simp
 obj:=fun i h st b hb=>by
  obtain ⟨⟨old,he⟩,⟨o,eo,c,d⟩⟩:=st;have hb':b=e \/ b=it:=by simpa using hb
  rcases hb' with rfl | rfl
  ·exact ⟨_,he,fun v z=>by cases z⟩
  ·exact ⟨o,eo,fun v z=>by rw [d] at z; cases z⟩
 keep:=fun i h h' st k=>by
  obtain ⟨⟨old,he⟩,hi⟩:=st;exact ⟨⟨old,k e (by simp) _ he⟩,hi.at fun o q=>k it (by simp) o q⟩
 item:=by
  intro X hP hw hK hc i pins s σ H E I hf st hg;subst hP hw hK;obtain ⟨xs,x,hq,hx⟩:=hg;obtain ⟨its,rv,p,hz⟩:=I.list hq;obtain ⟨u,hu,ru⟩:=rv.get hx;have W:=WalksT.enumerateD (prog:=X.prog) (w:=X.w) (A:=X.A) (Draws.list (A:=X.A.in1) (I.ok.hd hc) it a hai its.toArray) e hei (by simp; exact ⟨hei,B4 hae⟩) (by simp);have hlt:i < its.toArray.size:=by simp; exact (Ai.mp hu).1
  refine W.item i s _ E hlt ⟨st.1,st.2,p.isList⟩ fun T vals h' tk hP hT htup hmid hk=>⟨.ref T,rfl,?_⟩;refine W.go elts kk tp i T _ _ E hmid fun h'' hst'' hk''=>?_;obtain ⟨t,x',hx',rfl⟩:=hP;have ex:x'=u:=by
   have h1:its[i]?=some x':=by simpa using hx'
   rw [hu] at h1; cases h1; rfl
  subst ex;have nT:T ∉ [e,it]:=W.apart i T h' hmid;obtain ⟨oT,hoT,hcT,nT2,hdT⟩:=id htup;have kall:∀ b u,b ∉ [e,it]->s.heap.get? b=some u->h''.get? b=some u:=fun b u hb e=>hk'' b u hb (hk b u hb e);have new:_zn X.prog X.w (upd H T (.tup [.int (i:Int),x])) h'' T (.tup [.int (i:Int),x]):=by
   refine ⟨by simp [Ao],[.int (i:Int) t,x'],.cons ⟨_,rfl⟩ (.cons ru .nil),?_⟩;exact ⟨oT,hk'' T oT nT hoT,hcT,nT2,hdT⟩
  have I2:=DL.Inv.turnedT I (h':=h'') (t':=tk) kall hf hT new;refine ⟨.ref T,_,I2,rfl,⟨T,x,rfl,I.hok.fresh hT,rfl,fun ys hy=>by rw [I.list_inj hy hq]; exact hx⟩,⟨hst''.1,hst''.2.1⟩,fun b hb=>?_⟩;rw [_e (by rintro rfl; exact nT hb)];exact (hf b hb).1
 done:=by
  intro X hP hw hK hc i pins s σ H E I hf st hg;subst hP hw hK;obtain ⟨xs,hq,hx⟩:=hg;obtain ⟨its,rv,p,hz⟩:=I.list hq;have W:=WalksT.enumerateD (prog:=X.prog) (w:=X.w) (A:=X.A) (Draws.list (A:=X.A.in1) (I.ok.hd hc) it a hai its.toArray) e hei (by simp; exact ⟨hei,B4 hae⟩) (by simp);have hl:its.toArray.size=i:=by rw [<- hx,rv.length]; simp
  refine W.done s _ E (by rw [hl]; exact ⟨st.1,st.2,p.isList⟩) fun h' tk hk=>⟨rfl,DL.Inv.turnedL I (fp:=[e,it]) hk hf⟩
 self:=fun _ _ _ _ _ st h=>by
  obtain ⟨⟨old,he⟩,_⟩:=st;exact wpAny_pyIter_enum he h
section
variable {X:Cx} {elts:List Expr} {kk:Nat} {tp p pos:Pos} {a b:Expr}
theorem sq_lt {pins:List (Addr × Obj)} {σ:L2.St} {H:Hp} {s:Shared} {l:Addr} {xs:List V} (I:Inv X pins σ H s) (h:SqL X.K H l xs):l < s.heap.objs.size:=by
 obtain ⟨its,rv,p,hz⟩:=I.list h;obtain ⟨o,e,_⟩:=p.isList;exact Af e
def iEnum (K:Frag) (tl:TE):TI:=fun σ H R=>tl σ H fun x H1=>∃ a,x=.ref a/\(∃ xs,SqL K H1 a xs)/\R (Ite K a) H1
theorem _qa1 {tl:TE} (hg:Gl X "enumerate") (hm:X.mg "enumerate"=none) (hl:PE X a tl) (hs:Ap [a] X.env=[(false,eval a X.env)]:=by rfl):PI X (.Tuple elts kk tp) (.Call (.Name "enumerate" p) [a] [] pos) (iEnum X.K tl):=by
 intro pins s σ H R I h;refine Call_ (_wo I hg hm _Z6 (Bp (thn ((_d hl _n (by rw [hs]; rfl)) pos pins s σ H (fun vs H1=>∃ x,vs=[x]/\∃ a,x=.ref a/\(∃ xs,SqL X.K H1 a xs)/\R (Ite X.K a) H1) I (by
  show tl σ H fun x H1=>_;exact (show (fun x H1=>∃ a,x=V.ref a/\(∃ xs,SqL X.K H1 a xs)/\R (Ite X.K a) H1)=(fun x H1=>∃ x',[x]=[x']/\∃ a,x'=V.ref a/\(∃ xs,SqL X.K H1 a xs)/\R (Ite X.K a) H1) from by
   funext x H1
   apply propext;exact ⟨fun z=>⟨x,rfl,z⟩,fun ⟨x',e,z⟩=>by cases e; exact z⟩) ▸ h)) fun us s1 ⟨vs,H1,I1,r1,q1⟩=>?_) hs rfl))
 obtain ⟨x,rfl,l,rfl,⟨xs,hq⟩,q⟩:=q1;cases r1 with
 | cons r rr =>
  cases rr;cases r;obtain ⟨its,rv,pl,hz⟩:=I1.list hq;refine call_enumerate_list pl.isList fun h' he hit hsz hk=>?_;have hlt:=sq_lt I1 hq;refine wpAny_pyIter_enum he ?_;have I2:Inv X pins σ H1 { s1 with heap:=h' }:=I1.kept (t':=s1.toks) hk;refine ⟨s1.heap.objs.size + 1,[s1.heap.objs.size + 1,s1.heap.objs.size],_,_,H1,rfl,I2,_qcx l _ _ (Nat.succ_ne_self _) (ne_of_lt (lt_succ_of_lt hlt)) (ne_of_lt hlt),⟨⟨_,by simpa using he⟩,hit⟩,fun b hb=>?_,q⟩;have hb':b=s1.heap.objs.size + 1 \/ b=s1.heap.objs.size:=by simpa using hb
  rcases hb' with rfl | rfl
  ·exact I1.fpOk (le_succ _) (I1.hok.fresh (le_succ _))
  ·exact I1.fpOk (le_refl _) (I1.hok.fresh (le_refl _))
theorem _Zx {ds:List D}:(_qbn ds).length=ds.length:=by simp [_qbn]
theorem _qj1 {ds:List D} {i:Nat} (h:i < ds.length):(_qbn ds)[i]'(by rw [_Zx]; exact h)=.tup [.int (i:Int),ds[i]]:=by simp [_qbn]
variable {js:List (Option Nat)} {g:GE} {c:FT} {e:FO}
theorem _Ku {K:Frag} {f:FE} {σ:L2.St} {H:Hp} {Q:VK} (h:tO K (_qak js f g c e) σ H Q):_qd0 (iEnum K (tD K f)) (tGE K g) (tDT K c) (tO K e) js σ H Q:=by
 obtain ⟨F,ρ,total,s,re,hf,k⟩:=h;obtain ⟨d,hd,hf⟩:=bind_some hf;rw [_Z7] at hf;split at hf
 ·rename_i xs
  split at hf
  ·rename_i hlen
   obtain ⟨total,hf2,rfl⟩:=map_some hf;have hf:=hf2;clear hf2;refine ⟨F,ρ,.lst xs,s,re,hd,fun v F1 H1 e1 r1=>?_⟩;cases r1 with
   | lst q t =>
    rename_i a vs;refine ⟨a,rfl,⟨vs,(_qt1 e1.fh q).l⟩,fun l hl=>⟨fun i m σ' H'=>∃ F' ρ' done ys,CI K F1 H1 F' H' σ' ρ' l done/\SqE K F' a vs/\Reps K F' vs xs/\i <= xs.length/\m=xs.length - i/\done.length <= i/\_v0 g c e ((_qbn xs).drop i) ρ'=some ys/\total=done++ys,
     ⟨_,F1,mkD js ρ,[],total,_qc1 re e1 hl,q,t,zero_le _,rfl,le_refl _,hf,rfl⟩,?_⟩⟩
    rintro i m σ' H' ⟨F',ρ',done,ys,ci,q',t',hi,rfl,hdn,hc,ht⟩
    by_cases hlt:i < xs.length
    ·have hv:i < vs.length:=by rw [t'.length]; exact hlt
     refine .inr ⟨⟨vs,vs[i],(_qt1 ci.ext.fh q').l,by simp [hv]⟩,fun x H2 y=>?_⟩;obtain ⟨T,v',rfl,hT,rfl,y⟩:=y;obtain ⟨d,hd1,hd2⟩:=t'.get (y vs (_qt1 ci.ext.fh q').l);have ed:xs[i]=d:=by rw [getElem?_eq_getElem hlt] at hd1; exact Option.some.inj hd1
     rw [drop_cons (by rw [_Zx]; exact hlt),_qj1 hlt,ed] at hc;have hFT:=ci.ext.fh.free hT;have eT:=Ext.laid (o:=.tup [.int (i:Int),v']) ci.ext.fh hT;refine _Kt (N:=fun σ2 H2=>∃ m',m' < xs.length - i/\_) (ci.more eT) hl (.tup (.inl (.inl _a)) (.cons (.int _) (.cons (hd2.mono (_i hFT)) .nil))) (lt_of_lt_of_le (lt_of_le_of_lt hdn hlt) (_z0 hlen)) hc fun F2 H2 σ2 ρ2 new ys' s2 ci2 hn2 hc2 he2=>?_;exact ⟨_,by omega,F2,ρ2,done++new,ys',ci2,_qt1 (eT.ff.trans s2) q',t'.mono (eT.ff.trans s2),hlt,rfl,by simp; omega,hc2,by rw [ht,he2]; simp⟩
    ·refine .inl ⟨⟨vs,(_qt1 ci.ext.fh q').l,by rw [t'.length]; omega⟩,?_⟩
     rw [drop_of_length_le (by rw [_Zx]; omega)] at hc;cases hc
     have:total=done:=by simpa using ht
     subst this;obtain ⟨A,o1,o2⟩:=ci.own hl;exact k (.ref l) F' H' A (e1.trans ci.ext) o1 fun b z=>⟨(o2 b z).1,e1.hh.free (o2 b z).2⟩
  ·cases hf
 ·cases hf
end
section
variable {X:Cx} {elts:List Expr} {kk:Nat} {tp p pos:Pos} {a b:Expr}
theorem _qoa (n l1 l2:Nat) (h1:l1 < n) (h2:l2 < n):J5 (n + 4) (n + 2) (n + 3) n (n + 1) l1 l2:=by
 constructor <;> (show (_:Nat) ≠ _; omega)
variable {js:List (Option Nat)} {g:GE} {c:FT} {e:FO}
end
end DL
namespace DL
open PySem
def _Wx:List D->Option (List Int)
 | []=>some []
 | .int n :: ds=>(_Wx ds).map (n :: ·)
 | _=>none
theorem _xs:∀ {ds:List D} {ns:List Int},_Wx ds=some ns->ds=ns.map D.int
 | [],_,h=>by cases h; rfl
 | d :: ds,ns,h=>by
  cases d with
  | int i =>
   simp only [_Wx] at h;cases q:_Wx ds with
   | none=>rw [q] at h; cases h
   | some ms=>rw [q] at h; cases h; rw [_xs q]; rfl
  | _=>cases h
@[simp] theorem _v7:∀ (ns:List Int),_Wx (ns.map D.int)=some ns
 | []=>rfl
 | n :: ns=>by simp [_Wx,_v7 ns]
def insU (x:Int):List Int->List Int
 | []=>[x]
 | y :: ys=>if x < y then x :: y :: ys else if x=y then y :: ys else y :: insU x ys
def _I (ns:List Int):List Int:=ns.foldr insU []
theorem _Zj (x z:Int):∀ l:List Int,z∈insU x l ↔ z=x \/ z∈l
 | []=>by simp [insU]
 | y :: ys=>by
  unfold insU;split
  ·simp
  ·split
   ·rename_i e; subst e; simp
   ·simp [_Zj x z ys]
    constructor
    ·rintro (h | h | h)
     ·exact .inr (.inl h)
     ·exact .inl h
     ·exact .inr (.inr h)
    ·rintro (h | h | h)
     ·exact .inr (.inl h)
     ·exact .inl h
     ·exact .inr (.inr h)
theorem _Jp (x:Int):∀ l:List Int,l.Pairwise (· < ·)->(insU x l).Pairwise (· < ·)
 | [],_=>by simp [insU]
 | y :: ys,h=>by
  rw [pairwise_cons] at h;unfold insU;split
  ·rename_i hx
   rw [pairwise_cons];refine ⟨fun z hz=>?_,Fb.mpr h⟩;rcases Al.mp hz with rfl | hz
   ·exact hx
   ·exact Int.lt_trans hx (h.1 z hz)
  ·split
   ·exact Fb.mpr h
   ·rename_i h1 h2
    rw [pairwise_cons];refine ⟨fun z hz=>?_,_Jp x ys h.2⟩;rcases (_Zj x z ys).mp hz with rfl | hz
    ·omega
    ·exact h.1 z hz
theorem _xy (z:Int):∀ ns:List Int,z∈_I ns ↔ z∈ns
 | []=>by simp [_I]
 | n :: ns=>by
  have:=_xy z ns
  simp only [_I] at this;simp only [_I,List.foldr_cons,_Zj,mem_cons,this]
theorem _je:∀ ns:List Int,(_I ns).Pairwise (· < ·)
 | []=>by simp [_I]
 | n :: ns=>by
  have:=_je ns
  simp only [_I] at this ⊢;exact _Jp n _ this
theorem _x1:∀ {l m:List Int},l.Pairwise (· < ·)->m.Pairwise (· < ·)->(∀ x,x∈l ↔ x∈m)->l=m
 | [],[],_,_,_=>rfl
 | [],y :: ys,_,_,h=>absurd ((h y).mpr (by simp)) (by simp)
 | x :: xs,[],_,_,h=>absurd ((h x).mp (by simp)) (by simp)
 | x :: xs,y :: ys,h1,h2,h=>by
  rw [pairwise_cons] at h1 h2;have e:x=y:=by
   rcases Al.mp ((h x).mp (by simp)) with e | e
   ·exact e
   ·rcases Al.mp ((h y).mpr (by simp)) with e' | e'
    ·exact e'.symm
    ·have a1:=h2.1 x e
     have a2:=h1.1 y e';omega
  subst e;rw [_x1 h1.2 h2.2 fun z=>?_];constructor
  ·intro hz
   rcases Al.mp ((h z).mp (mem_cons_of_mem _ hz)) with e | e
   ·subst e; exact absurd (h1.1 z hz) (Int.lt_irrefl _)
   ·exact e
  ·intro hz
   rcases Al.mp ((h z).mpr (mem_cons_of_mem _ hz)) with e | e
   ·subst e; exact absurd (h2.1 z hz) (Int.lt_irrefl _)
   ·exact e
def _Qz:List D->Option (List D)
 | [.lst xs]=>(_Wx xs).bind fun ns=>if ns.length < 4000/\(_I ns).length < 64 then some ((_I ns).map .int) else none
 | _=>none
def insL (x:Int):List Int->List Int
 | []=>[x]
 | y :: ys=>if x <= y then x :: y :: ys else y :: insL x ys
def _Jk (ns:List Int):List Int:=ns.foldr insL []
theorem _Qt (x:Int):∀ l:List Int,(insL x l).Perm (x :: l)
 | []=>.refl _
 | y :: ys=>by
  unfold insL;split
  ·exact .refl _
  ·exact ((_Qt x ys).cons y).trans (List.Perm.swap _ _ _)
theorem _zr:∀ ns:List Int,(_Jk ns).Perm ns
 | []=>.refl _
 | n :: ns=>(_Qt n _).trans ((_zr ns).cons n)
theorem _Jr (x:Int):∀ l:List Int,l.Pairwise (· <= ·)->(insL x l).Pairwise (· <= ·)
 | [],_=>by simp [insL]
 | y :: ys,h=>by
  rw [pairwise_cons] at h;unfold insL;split
  ·rename_i hx
   rw [pairwise_cons];refine ⟨fun z hz=>?_,Fb.mpr h⟩;rcases Al.mp hz with rfl | hz
   ·exact hx
   ·exact Fi hx (h.1 z hz)
  ·rename_i hx
   rw [pairwise_cons];refine ⟨fun z hz=>?_,_Jr x ys h.2⟩;rcases Al.mp ((_Qt x ys).mem_iff.mp hz) with rfl | hz
   ·omega
   ·exact h.1 z hz
theorem _wx:∀ ns:List Int,(_Jk ns).Pairwise (· <= ·)
 | []=>.nil
 | n :: ns=>_Jr n _ (_wx ns)
theorem _qj0 {ns ns':List Int} (hp:ns'.Perm ns) (hs:ns'.Pairwise (· <= ·)):ns'=_Jk ns :=
 Ip (fun _ _ _ _ a b=>Int.le_antisymm a b) hs (_wx ns) (hp.trans (_zr ns).symm)
def _qjy:List D->Option (List D)
 | [.lst xs]=>(_Wx xs).bind fun ns=>if ns.length < 64 then some ((_Jk ns).map .int) else none
 | _=>none
end DL
namespace SetW
open PySem
def Ris (xs:Array Nat):Prop:=∀ (i k:Nat),i < k->∀ (a b:Nat),xs[i]?=some a->xs[k]?=some b->a < b
theorem _qmk {xs:Array Nat} {i d a:Nat} (h:xs[i]?=some a):xs.getD i d=a:=by
 rw [Em,h]; rfl
theorem _wb {xs:Array Nat} {i:Nat} (h:i < xs.size):∃ a,xs[i]?=some a:=⟨xs[i],by rw [Da h]⟩
theorem _Z9 {xs:Array Nat} {j:Nat} (hx:Ris xs):∀ (fuel lo hi:Nat),hi - lo <= fuel->lo <= hi->hi <= xs.size->(∀ i a,i < lo->xs[i]?=some a->a < j)->(∀ i a,hi <= i->xs[i]?=some a->j <= a) ->
  Fj xs j fuel lo hi <= xs.size/\(∀ i a,i < Fj xs j fuel lo hi->xs[i]?=some a->a < j)/\(∀ i a,Fj xs j fuel lo hi <= i->xs[i]?=some a->j <= a)
 | 0,lo,hi,h1,h2,h3,h4,h5=>by
  have:lo=hi:=by omega
  subst this;exact ⟨h3,h4,h5⟩
 | fuel + 1,lo,hi,h1,h2,h3,h4,h5=>by
  unfold Fj
  by_cases hl:lo < hi
  ·rw [if_pos hl]
   obtain ⟨m,hm⟩:∃ m,xs[(lo + hi) / 2]?=some m:=_wb (by omega);dsimp only;rw [_qmk hm]
   by_cases hj:m < j
   ·rw [if_pos hj]
    refine _Z9 hx fuel _ hi (by omega) (by omega) h3 (fun i a hi' ha=>?_) h5
    by_cases e:i=(lo + hi) / 2
    ·subst e; rw [hm] at ha; cases ha; exact hj
    ·exact lt_trans (hx i _ (by omega) a m ha hm) hj
   ·rw [if_neg hj]
    refine _Z9 hx fuel lo _ (by omega) (by omega) (by omega) h4 (fun i a hi' ha=>?_)
    by_cases e:i=(lo + hi) / 2
    ·subst e; rw [hm] at ha; cases ha; omega
    ·have:=hx _ i (by omega) m a hm ha; omega
  ·rw [if_neg hl]
   have:lo=hi:=by omega
   subst this;exact ⟨h3,h4,h5⟩
theorem _k8 {xs:Array Nat} (hx:Ris xs) (j:Nat):SetTable.below xs j <= xs.size/\(∀ i a,i < SetTable.below xs j->xs[i]?=some a->a < j)/\(∀ i a,SetTable.below xs j <= i->xs[i]?=some a->j <= a) :=
 _Z9 hx xs.size 0 xs.size (by omega) (by omega) (le_refl _) (fun i a h=>absurd h (Nat.not_lt_zero _)) fun i a h ha=>by
  rw [getElem?_eq_none h] at ha; cases ha
theorem _qce {xs:Array Nat} (hx:Ris xs) {i a:Nat} (h:xs[i]?=some a):SetTable.below xs (a + 1)=i + 1:=by
 obtain ⟨h1,h2,h3⟩:=_k8 hx (a + 1);have hi:i < xs.size:=by
  by_cases c:i < xs.size
  ·exact c
  ·rw [getElem?_eq_none (by omega)] at h; cases h
 generalize SetTable.below xs (a + 1)=r at h1 h2 h3;have g1:i < r:=by
  by_cases c:i < r
  ·exact c
  ·have:=h3 i a (by omega) h; omega
 by_cases g2:i + 1 < r
 ·obtain ⟨b,hb⟩:=_wb (xs:=xs) (i:=i + 1) (by omega)
  have c1:=h2 (i + 1) b g2 hb;have c2:=hx i (i + 1) (by omega) a b h hb;omega
 ·omega
theorem _qcd {xs:Array Nat} (hx:Ris xs):SetTable.below xs 0=0:=by
 obtain ⟨h1,h2,h3⟩:=_k8 hx 0;generalize SetTable.below xs 0=r at h1 h2 h3;cases r with
 | zero=>rfl
 | succ r =>
  obtain ⟨a,ha⟩:=_wb (xs:=xs) (i:=0) (by omega)
  have:=h2 0 a (by omega) ha
  omega
theorem _qdd {xs:Array Nat}:Ris xs ↔ xs.toList.Pairwise (· < ·):=by
 rw [Bu];constructor
 ·intro h i j hi hj hij
  exact h i j hij _ _ (by rw [<- getElem?_toList]; exact getElem?_eq_getElem hi) (by rw [<- getElem?_toList]; exact getElem?_eq_getElem hj)
 ·intro h i k hik a b ha hb
  rw [<- getElem?_toList] at ha hb;obtain ⟨hi,rfl⟩:=Ai.mp ha;obtain ⟨hk,rfl⟩:=Ai.mp hb;exact h i k hi hk hik
theorem _qks:Ris #[]:=by intro i k _ a b h; simp at h
theorem _qdc (n:Nat):Ris (Array.range n):=by
 rw [_qdd,Array.toList_range]; exact Fk
theorem _qkr {xs:Array Nat} (hx:Ris xs) {j:Nat} (hj:xs[SetTable.below xs j]? ≠ some j):Ris (SetTable.insertAt xs (SetTable.below xs j) j):=by
 obtain ⟨h1,h2,h3⟩:=_k8 hx j;generalize SetTable.below xs j=r at h1 h2 h3 hj;have hp:=_qdd.mp hx;rw [_qdd,SetTable.toList_insertAt,List.pairwise_append,pairwise_cons];have hd:∀ b∈xs.toList.drop r,j < b:=by
  intro b hb;obtain ⟨k,hk⟩:=J6 hb;rw [List.getElem?_drop,getElem?_toList] at hk;have c1:=h3 (r + k) b (by omega) hk;cases k with
  | zero =>
   have:b ≠ j:=by rintro rfl; exact hj hk
   omega
  | succ k =>
   have hlt:r + (k + 1) < xs.size:=by
    by_cases c:r + (k + 1) < xs.size
    ·exact c
    ·rw [getElem?_eq_none (by omega)] at hk; cases hk
   obtain ⟨m,hm⟩:=_wb (xs:=xs) (i:=r) (by omega);have c2:=h3 r m (le_refl _) hm;have c3:=hx r (r + (k + 1)) (by omega) m b hm hk;omega
 have ht:∀ a∈xs.toList.take r,a < j:=by
  intro a ha;obtain ⟨k,hk⟩:=J6 ha;have hkr:k < r:=by
   by_cases c:k < r
   ·exact c
   ·rw [Lb,if_neg c] at hk; cases hk
  rw [Lb,if_pos hkr,getElem?_toList] at hk;exact h2 k a hkr hk
 refine ⟨hp.sublist (List.take_sublist _ _),⟨hd,hp.sublist (List.drop_sublist _ _)⟩,fun a ha b hb=>?_⟩;rcases Al.mp hb with rfl | hb
 ·exact ht a ha
 ·exact lt_trans (ht a ha) (hd b hb)
theorem _qd4 {t:SetTable} {j:Nat} (h:∀ i,t.slot j ≠ .live i):t.place[SetTable.below t.place j]? ≠ some j:=by
 intro e;refine h (SetTable.below t.place j) ?_;simp [SetTable.slot,e]
theorem _kn {t:SetTable} {f:Nat->Int} {h:Int}:∀ (fuel:Nat) (p:SetTable.Probe),(∀ d,p.dummy=some d->∀ i,t.slot d ≠ .live i)->∀ j d,SetTable.probe.go t f h fuel p=some (.empty j d)->∀ i,t.slot (d.getD j) ≠ .live i
 | 0,p,_,j,d,e=>by cases e
 | fuel + 1,p,hp,j,d,e=>by
  have had:∀ q:SetTable.Probe,(t.advance q).dummy=q.dummy:=by
   intro q; unfold SetTable.advance; split <;> rfl
  unfold SetTable.probe.go at e;split at e
  ·rename_i hs
   cases e;cases hd:p.dummy with
   | none=>intro i; rw [Option.getD_none,hs]; exact Hs
   | some d=>rw [Option.getD_some]; exact hp d hd
  ·rename_i hs
   refine _kn fuel _ (fun d hd=>?_) j d e;rw [had] at hd;cases hd;intro i; rw [hs]; exact Hs
  ·split at e
   ·cases e
   ·exact _kn fuel _ (fun d hd=>hp d (by rw [had] at hd; exact hd)) j d e
def _ws (led:Bool) (t:SetTable):Prop:=Ris t.place/\t.led=led
theorem _ws.standIn {led:Bool} {t:SetTable} (h:_ws led t) (n:Nat):_ws led (t.standIn n):=⟨_qdc n,h.2⟩
theorem _ws.plainOff {led:Bool} {t:SetTable} (h:_ws led t):_ws led { t with plain:=false }:=h
theorem _ws.lay {led:Bool} {t:SetTable} (h:_ws led t) (es:Array (Int × Value)) (n:Int) (x:Value):_ws led (layNew t es n x).2.1:=by
 unfold layNew;split
 ·rename_i slot wd hf
  have hs:t.place[SetTable.below t.place slot]? ≠ some slot:=by
   unfold SetTable.freeSlot at hf;split at hf
   ·rename_i j d hq
    cases hf;exact _qd4 (_kn _ _ (fun d e=>by cases e) _ _ hq)
   ·cases hf
  have hput:_ws led (t.put slot).1:=⟨_qkr h.1 hs,h.2⟩;dsimp only;unfold SetTable.orStandIn;split
  ·exact hput
  ·exact hput.standIn _
 ·exact h.standIn _
theorem fm_pw {f:Nat->Option (Nat × Nat)} (hf:∀ j q,f j=some q->q.1=j):∀ (l:List Nat),l.Pairwise (· < ·)->((l.filterMap f).map (·.1)).Pairwise (· < ·)
 | [],_=>.nil
 | a :: l,h=>by
  rw [pairwise_cons] at h;rw [filterMap_cons];split
  ·exact fm_pw hf l h.2
  ·rename_i q hq
   rw [map_cons,pairwise_cons];refine ⟨fun b hb=>?_,fm_pw hf l h.2⟩;obtain ⟨z,hz,rfl⟩:=Ah.mp hb;obtain ⟨k,hk,hz'⟩:=D0.mp hz;rw [hf _ _ hq,hf _ _ hz'];exact h.1 k hk
theorem _ws.relay {led:Bool} {t:SetTable} (h:_ws led t) (es:Array (Int × Value)) (n:Nat):_ws led (J7 t es n).2.1:=by
 unfold J7;split
 ·rename_i t' order hr
  dsimp only;split
  ·unfold SetTable.relaid SetTable.laid at hr
   cases ho:SetTable.layClean (SetTable.sizeAbove n - 1) (es.map (·.1)) with
   | none=>rw [ho] at hr; cases hr
   | some owner =>
    rw [ho] at hr;have hr':=Option.some.inj hr;have e:=congrArg Prod.fst hr';dsimp only at e;rw [<- e];refine ⟨?_,h.2⟩;rw [_qdd,List.toList_toArray];refine fm_pw (fun j q hq=>?_) _ Fk;obtain ⟨z,_,rfl⟩:=D7.mp hq;rfl
  ·exact h.standIn _
 ·exact h.standIn _
theorem _ws.fresh (led:Bool):_ws led (.fresh 0 0 led):=⟨_qks,rfl⟩
end SetW
namespace SetW
open PySem PySem.Spec PyProof.Rows
def _qtx (w:World):Bool:=w.params.followText "set-order"
section
variable {prog:Ak} {w:World} {A:Around} {E:Value->Shared->Prop} {s:Shared}
def _Jj (prog:Ak) (w:World) (h:Heap) (a:Addr) (S:Int->Bool) (n:Nat):Prop :=
 ∃ o es ep t,h.get? a=some o/\o.ExactSet/\o.data=.set es ep t/\Mi (Cm prog w) es.toList/\(∀ k,S k=true ↔ ∃ e∈es.toList,(Cm prog w).is k e.2=true)
 /\es.size < E2/\t.fits es.size=true/\es.size=n/\_ws (!_qtx w) t
theorem _Jj.congr {h:Heap} {a:Addr} {S S':Int->Bool} {n n':Nat} (hS:_Jj prog w h a S n) (e:∀ k,S k=S' k) (en:n=n'):_Jj prog w h a S' n':=by
 have:S=S':=funext e
 subst this; subst en; exact hS
theorem _Jj.at {h h':Heap} {a:Addr} {S:Int->Bool} {n:Nat} (hS:_Jj prog w h a S n) (e:∀ o,h.get? a=some o->h'.get? a=some o):_Jj prog w h' a S n:=by
 obtain ⟨o,es,ep,t,ho,r⟩:=hS;exact ⟨o,es,ep,t,e o ho,r⟩
theorem _Jj.store {h:Heap} {a:Addr} {o:Obj} {es:Array (Int × Value)} {ep:Nat} {t:SetTable} (ho:h.get? a=some o) (hex:o.ExactSet) (hd:o.data=.set es ep t)
  {es':Array (Int × Value)} {t':SetTable} {S':Int->Bool} (hel:Mi (Cm prog w) es'.toList) (hmem:∀ k,S' k=true ↔ ∃ e∈es'.toList,(Cm prog w).is k e.2=true) (hb:es'.size < E2) (hf:t'.fits es'.size=true) (ht:_ws (!_qtx w) t') :
  (h.update a (Obj.putSet es' t')).get? a=some { o with data:=.set es' (ep + 1) t' }/\_Jj prog w (h.update a (Obj.putSet es' t')) a S' es'.size:=by
 have q:=(SetOf_store (knd:=Cm prog w) ho hex hd hel hmem hb hf).1;exact ⟨q,_,es',ep + 1,t',q,hex,rfl,hel,hmem,hb,hf,rfl,ht⟩
theorem _qd5 {a:Addr} {S:Int->Bool} {n:Nat} {k:Int} {x:Value} {Q:Bool->Shared->Prop} (hkey:(Cm prog w).is k x=true) (hsc:x.scannable=true) (hS:_Jj prog w s.heap a S n)
  (hroom:n + 1 < E2)
  (h:∀ h',Heap.SameBut a s.heap h'->_Jj prog w h' a (fun k'=>S k' || decide (k'=k)) (if S k then n else n + 1)->Q (!S k) { s with heap:=h' }) :
  wpAny (model prog w) A (setAddHashed a x ((Cm prog w).hash k)) Q E s:=by
 obtain ⟨o,es,ep,t,ho,hex,hd,hel,hmem,hb,hf,hn,ht⟩:=hS;unfold setAddHashed setAddHashedIn;refine Ba (Ac (Bx ho hd hf ?_));dsimp only;rw [byScan_of hsc hb hel];simp only [↓reduceIte];unfold setAddByScan;refine Ac (Ac (Dm (Ac (wpAny_setScan_of hkey ho hd hf hel ?_))));cases hr:List.findIdx? (fun e=>(Cm prog w).is k e.2) es.toList with
 | some j =>
  dsimp only;obtain ⟨hj,hpj,_⟩:=List.findIdx?_eq_some_iff_getElem.mp hr;have hSk:S k=true:=(hmem k).mpr ⟨es.toList[j],getElem_mem hj,hpj⟩;refine Ad (Ad ?_)
  have:=h s.heap (Heap.SameBut.refl a s.heap) ⟨o,es,ep,t,ho,hex,hd,hel,fun k'=>by
   rw [Jp,decide_eq_true_eq,<- hmem k'];exact ⟨fun hk=>hk.elim id (fun e=>e ▸ hSk),.inl⟩,hb,hf,by rw [hSk]; exact hn,ht⟩
  rw [hSk] at this;exact this
 | none =>
  dsimp only;have hSk:S k=false:=by
   cases hk:S k with
   | false=>rfl
   | true=>obtain ⟨e,he,hp⟩:=(hmem k).mp hk; have:=List.findIdx?_eq_none_iff.mp hr e he; rw [hp] at this; exact Bool.noConfusion this
  have hperm:=layNew_perm t es ((Cm prog w).hash k) x;have hfits:=layNew_fits t es ((Cm prog w).hash k) x;have hok:=ht.lay es ((Cm prog w).hash k) x;generalize hL:layNew t es ((Cm prog w).hash k) x=L at hperm hfits hok ⊢;obtain ⟨es1,t1,wasDummy,gave⟩:=L;dsimp only at hperm hfits hok ⊢;rw [Array.toList_push] at hperm;have hel1:Mi (Cm prog w) es1.toList:=(hel.push hkey hsc).perm hperm;have hmem1:∀ k',(S k' || decide (k'=k))=true ↔ ∃ e∈es1.toList,(Cm prog w).is k' e.2=true:=mem_push_iff hkey hmem hperm;have hsz1:es1.size=n + 1:=by rw [<- length_toList,hperm.length_eq,length_append,length_toList,hn]; rfl
  have hb1:es1.size < E2:=by rw [hsz1]; exact hroom
  have hgw:∀ (b:Bool) {s₁:Shared} {Q':Unit->Shared->Prop},Q' () s₁->wpAny (model prog w) A (match b with | true=>rule "set.scan.the-table-gave-way" | false=>pure ()) Q' E s₁ :=
   fun b s₁ Q' hq=>by cases b <;> first | exact Ad hq | exact Dm hq
  have hend:∀ h',Heap.SameBut a s.heap h'->_Jj prog w h' a (fun k'=>S k' || decide (k'=k)) es1.size->Q true { s with heap:=h' }:=by
   intro h' hsb hS'
   have:=h h' hsb
   rw [hSk] at this;rw [hsz1] at hS';exact this hS'
  refine Ac (hgw _ ?_);have fin:∀ t2:SetTable,t2.fits es1.size=true->_ws (!_qtx w) t2->∀ (g:Bool->Sem Unit),(∀ (b:Bool) (s₁:Shared) (Q':Unit->Shared->Prop),Q' () s₁->wpAny (model prog w) A (g b) Q' E s₁) ->
    wpAny (model prog w) A (do
     storeSet a es1 t2
     if (!wasDummy && t2.tooFull) = true then do
         g (J7 t2 es1 (Du es1.size)).2.2
         storeSet a (J7 t2 es1 (Du es1.size)).1 (J7 t2 es1 (Du es1.size)).2.1
         pure (some true)
      else pure (some true)) (fun r s'=>wpAny (model prog w) A (match r with | some added=>pure added | none=>setAddHashedIn a x ((Cm prog w).hash k) 99999) Q E s') E s:=by
   intro t2 f2 k2 g hg;refine Ac (wpAny_storeSet_of ho hd ?_ (fits_of_scanBound hb1));obtain ⟨ho1,hS1⟩:=_Jj.store (prog:=prog) ho hex hd hel1 hmem1 hb1 f2 k2;have hsb1:=Cg s.heap a (Obj.putSet es1 t2);split
   ·have hp:=relayAll_perm t2 es1 (Du es1.size)
    have hfr:=relayAll_fits t2 es1 (Du es1.size);have hkr:=k2.relay es1 (Du es1.size);generalize hRl:J7 t2 es1 (Du es1.size)=Rl at hp hfr hkr ⊢;obtain ⟨es2,t3,gave2⟩:=Rl;dsimp only at hp hfr hkr ⊢;have hel2:Mi (Cm prog w) es2.toList:=hel1.perm hp;have hmem2:∀ k',(S k' || decide (k'=k))=true ↔ ∃ e∈es2.toList,(Cm prog w).is k' e.2=true:=fun k'=>(hmem1 k').trans ⟨fun ⟨e,he,q⟩=>⟨e,hp.mem_iff.mpr he,q⟩,fun ⟨e,he,q⟩=>⟨e,hp.mem_iff.mp he,q⟩⟩;have hsz:es2.size=es1.size:=by rw [<- length_toList,hp.length_eq,length_toList]
    have hb2:es2.size < E2:=by rw [hsz]; exact hb1
    refine Ac (hg _ _ _ ?_);refine Ac (wpAny_storeSet_of ho1 rfl ?_ (fits_of_scanBound hb2));obtain ⟨_,hS2⟩:=_Jj.store (prog:=prog) ho1 hex rfl hel2 hmem2 hb2 hfr hkr;rw [hsz] at hS2;exact Ad (Ad (hend _ (hsb1.trans (Cg _ a _)) hS2))
   ·exact Ad (Ad (hend _ hsb1 hS1))
  split
  ·refine Ac ?_
   rw [hashByValue_scannable 8 hsc];refine Ad ?_;refine fin _ ?_ ?_ _ ?_
   ·split
    ·exact hfits
    ·exact SetTable.fits_plain_off hfits
   ·split
    ·exact hok
    ·exact hok.plainOff
   ·intro b s₁ Q' hq; cases b <;> first | exact Ad hq | exact Dm hq
  ·refine Ac (Ad ?_)
   simp only [↓reduceIte];refine fin _ hfits hok _ ?_;intro b s₁ Q' hq; cases b <;> first | exact Ad hq | exact Dm hq
theorem _qcv {R:L3->Shared->Prop} {I:Addr} {fp wr:List Addr} {G:Array Ml->Array Ml->Prop} {n:Nat} {P:Nat->Value->Prop} {St:Nat->Shared->Prop} (W:WalksS prog w A.in1 I fp wr G n P St) (S:Addr) (hSf:S ∉ fp)
  (val:Nat->Int) (hval:∀ i v,P i v->∃ t,v=.int (val i) t) (hb:n + 1 < E2) :
  ∀ (k i:Nat) (s:Shared),n - i=k->i <= n->St i s->_Jj prog w s.heap S (fun k'=>(firstMet val i).any (· == k')) (firstMet val i).length ->
   (∀ s',Moved (S :: wr) G s s'->_Jj prog w s'.heap S (fun k'=>(firstMet val n).any (· == k')) (firstMet val n).length->R (.ok (.ret .none)) s') ->
   Dp (model prog w) A (.builtin "set.update.loop" ⟨[.ref S,.ref I],[]⟩) R s:=by
 have hSw:S ∉ wr:=fun h=>hSf (W.sub _ h);have hsub:∀ b∈wr,b∈S :: wr:=fun b hb=>mem_cons_of_mem _ hb;intro k
 induction k with
 | zero =>
  intro i s hk hi hst hS hR;have hin:i=n:=by omega
  subst hin;refine Bn Ir ?_;rw [Bc Fe _];show wpAny _ A.in1 (Dt (.ref I) >>= _) _ _ s;refine Ac (W.done s _ _ hst fun s' hm=>?_);show wpAny _ A.in1 (ret Value.none) _ _ s';exact Ad (hR s' (hm.mono hsub) (hS.at fun o e=>hm.heap S _ hSw e))
 | succ k ih =>
  intro i s hk hi hst hS hR;have hlt:i < n:=by omega
  refine Bn Ir ?_;rw [Bc Fe _];show wpAny _ A.in1 (Dt (.ref I) >>= _) _ _ s;refine Ac (W.item i s _ _ hlt hst fun v s' hP hst' hm=>?_);obtain ⟨t,rfl⟩:=hval i v hP;have hS':=hS.at (h':=s'.heap) fun o e=>hm.heap S _ hSw e;show wpAny _ A.in1 (I0 [Value.int (val i) t] (setAdd S (.int (val i) t)) >>= _) _ _ s';refine Ac (Ba ?_);unfold setAdd;refine Ba ?_;refine Ac ((Cm prog w).pyHash (k:=val i) (intKind_is _ _ _ _) ?_);have hroom:(firstMet val i).length + 1 < E2:=by have:=firstMet_length_le val i; omega
  refine _qd5 (s:={ s' with toks:=s'.toks + 1 }) (intKind_is _ _ _ _) rfl hS' hroom fun h' hsb hS2=>?_;have hSi:_Jj prog w h' S (fun k'=>(firstMet val (i + 1)).any (· == k')) (firstMet val (i + 1)).length :=
   hS2.congr (fun k'=>by rw [Ky,step_any]) (by rw [Ky,step_length])
  refine Ad ⟨Cz Fe _,ih (i + 1) _ (by omega) hlt (W.frame _ s' _ _ hst' (le_succ _) fun b hb o e=>?_) hSi fun s'' hm'' hS''=>?_⟩
  ·rw [hsb.2 b (fun h:b=S=>hSf (by rw [<- h]; exact hb))]; exact e
  ·refine hR s'' (Moved.trans W.gtrans ((hm.mono hsub).then_heap (le_succ _) fun b o hb e=>?_) hm'') hS''
   rw [hsb.2 b (fun h:b=S=>hb (by rw [h]; exact mem_cons_self))]; exact e
end
section
variable {prog:Ak} {w:World} {A:Around} {E:Value->Shared->Prop} {s:Shared}
theorem _Yp (a:Value) {Q₁:Value->Shared->Prop}
  (h:Q₁ (.ref s.heap.objs.size) { s with heap:=s.heap.push { cls:=.type "set",dict:=none,data:=.set #[] 0 (.fresh 0 0 (!_qtx w)) } }) :
  Dp (model prog w) A (.call (.builtin "set.__new__") ⟨[.type "set",a],[]⟩) (wants Q₁ E) s:=by
 refine codeAny_of_tree ?_;show wpAny _ A.in1 (do checkBuiltinCall "set.__new__" ⟨[.type "set",a],[]⟩; again (.builtin "set.__new__" ⟨[.type "set",a],[]⟩)) _ _ s;refine Ac (J8 (F.newCall_set_1 a) (Ad ⟨Cz F.plain_set_new _,Bn F.entry_set_new ?_⟩));rw [Bc F.plain_set_new _];unfold Builtin.«set.__new__» Builtin.Frozenset.newClass;have hsub:=sub_set_self;obtain ⟨hp,g,d,tk,os⟩:=s;dsimp only
 wp_walk
 refine Ch (Ad ?_);dsimp only;simp only [newObj];refine Ac (wpAny_alloc (Ad ?_));exact Ad h
set_option maxHeartbeats 3200000 in
theorem _Wu {l:Addr} {items:Array Value} {ns:List Int} {Q:Value->Shared->Prop}
  (hh:A.handled=none) (hl:s.heap.IsList l items) (hi:PyProof.Rows.IntsAre items.toList ns) (hb:items.size + 1 < E2)
  (h:∀ (h':Heap) (tk:Nat),_Jj prog w h' s.heap.objs.size (fun k'=>(C7 (fun i=>ns.getD i 0) items.size).any (· == k')) (C7 (fun i=>ns.getD i 0) items.size).length ->
   (∀ b o,b < s.heap.objs.size->s.heap.get? b=some o->h'.get? b=some o)->Q (.ref s.heap.objs.size) { s with heap:=h',toks:=tk }) :
  wpAny (model prog w) A (call (.type "set") [.ref l]) Q E s:=by
 obtain ⟨c,tl,hmro⟩:=D8.mro;have hmade:=D8.made;have hsub:=D8.sub;refine wpAny_call (codeAny_of_tree ?_);show wpAny _ _ (callAny (.type "set") _) _ _ _;refine Ad ⟨Code.quiet_builtin _ (by decide +kernel),Bn F.entry_type_call ?_⟩;rw [Around.under_plain (weight_type_call_type "set" [.ref l] []) rfl];have h1:=D8.notType;have h2:=D8.canCreate;have hct:=F.typeCall_set_1 (.ref l)
 repeat (any_goals (first | assumption | wp_step))
 refine Cn (_Yp (.ref l) (E:=E) (Q₁:=fun obj s₁=>obj=.ref s.heap.objs.size/\s₁={ s with heap:=s.heap.push { cls:=.type "set",dict:=none,data:=.set #[] 0 (.fresh 0 0 (!_qtx w)) } }) ⟨rfl,rfl⟩) fun r s₁ hr=>?_;cases r with
 | error e=>exact hr
 | ok fl =>
  cases fl with
  | ret obj =>
   obtain ⟨rfl,rfl⟩:=hr;have hS:(s.heap.push { cls:=.type "set",dict:=none,data:=.set #[] 0 (.fresh 0 0 (!_qtx w)) }).get? s.heap.objs.size=some { cls:=.type "set",dict:=none,data:=.set #[] 0 (.fresh 0 0 (!_qtx w)) }:=Ag _ rfl;have hT:Gg { s with heap:=s.heap.push { cls:=.type "set",dict:=none,data:=.set #[] 0 (.fresh 0 0 (!_qtx w)) } } (.ref s.heap.objs.size) "set":=⟨_,hS,rfl⟩;have hli:=D8.init.lookup;have hbi:=D8.init.bind (.ref s.heap.objs.size)
   repeat (any_goals (first | assumption | wp_step))
   refine Cn (codeAny_call_builtin (R:=wants (fun r s₂=>r=.none/\∃ h' tk,s₂={ s with heap:=h',toks:=tk } /\
     _Jj prog w h' s.heap.objs.size (fun k'=>(C7 (fun i=>ns.getD i 0) items.size).any (· == k')) (C7 (fun i=>ns.getD i 0) items.size).length /\
     (∀ b o,b < s.heap.objs.size->s.heap.get? b=some o->h'.get? b=some o)) E) D8.init.plain F.entry_set_init (check_set_init_1 hT ?_)) fun r₂ s₂ hr₂=>?_
   ·obtain ⟨ol,hol,hcl,nl,hdl⟩:=hl
    obtain ⟨ocls,odict,odata,oslots⟩:=ol;simp only at hcl hdl;subst hcl; subst hdl;have hol':(s.heap.push { cls:=.type "set",dict:=none,data:=.set #[] 0 (.fresh 0 0 (!_qtx w)) }).get? l=some { cls:=.type "list",dict:=odict,data:=.seq items nl,slots:=oslots }:=Ae _ hol;have hsls:=F.sub_list_set;have hslf:=F.sub_list_frozenset;have hne:(Value.type "list" == Value.type "dict")=false:=by decide
    have hl1:(s.heap.push { cls:=.type "set",dict:=none,data:=.set #[] 0 (.fresh 0 0 (!_qtx w)) }).IsList l items:=⟨_,hol',rfl,nl,rfl⟩;unfold Builtin.«set.__init__» noKeywords Builtin.Frozenset.updateFrom;generalize hPI:J2=PI
    wp_walk
    subst hPI;refine Hw hl1 ?_;refine Ac (Hj ?_);have hlS:l < s.heap.objs.size:=Af hol;have hh3:A.in1.in1.in1.handled=none:=by simp [hh]
    have hneI:l ≠ (s.heap.push { cls:=.type "set",dict:=none,data:=.set #[] 0 (.fresh 0 0 (!_qtx w)) }).objs.size:=by
     rw [By]; exact ne_of_lt (lt_succ_of_lt hlS)
    have hSf:s.heap.objs.size ∉ [(s.heap.push { cls:=.type "set",dict:=none,data:=.set #[] 0 (.fresh 0 0 (!_qtx w)) }).objs.size,l]:=by
     rw [By]; simp only [mem_cons,D9,not_mem_nil,or_false,not_or];exact ⟨ne_of_lt (lt_succ_self _),ne_of_gt hlS⟩
    have hval:∀ (i:Nat) (v:Value),items[i]?=some v->∃ t,v=.int ((fun i=>ns.getD i 0) i) t:=fun i v hv =>
     PyProof.Rows.IntsAre.int_at hi i v (by rw [getElem?_toList]; exact hv)
    refine _qcv ((Walks.list hh3 _ l hneI items).toS) s.heap.objs.size
     hSf (fun i=>ns.getD i 0) hval hb (items.size - 0) 0 _ (by omega) (zero_le _)
     ⟨⟨_,Ag _ rfl,rfl,rfl⟩,(hl1.push _)⟩ ?hS0 ?hR
    case hS0 =>
     have hget:((s.heap.push { cls:=.type "set",dict:=none,data:=.set #[] 0 (.fresh 0 0 (!_qtx w)) }).push { cls:=.type "list_iterator",data:=.fields #[.ref l,.int 0 0] }).get? s.heap.objs.size
      =some { cls:=.type "set",dict:=none,data:=.set #[] 0 (.fresh 0 0 (!_qtx w)) }:=Ae _ hS
     exact ⟨_,#[],0,_,hget,⟨rfl,rfl,rfl⟩,rfl,fun e he=>by simp at he,fun k=>by simp [C7],by unfold E2; decide,by rfl,rfl,_ws.fresh _⟩
    case hR =>
     intro s' hm hS';obtain ⟨h',g',d',tk',os'⟩:=s';have eg:g'=s.gens:=hm.gens;have ed:d'=s.drawn:=hm.drawn;have eo:os'=s.os:=hm.os;subst eg; subst ed; subst eo;show wpAny _ _ _ _ _ _;refine Ad ?_;show wpAny _ _ (ret Value.none) _ _ _;refine Ad ⟨rfl,h',tk',rfl,hS',fun b o hb e=>?_⟩;have hb1:b ≠ s.heap.objs.size:=ne_of_lt hb;have hb2:b ≠ (s.heap.push { cls:=.type "set",dict:=none,data:=.set #[] 0 (.fresh 0 0 (!_qtx w)) }).objs.size:=by
      rw [By]; exact ne_of_lt (lt_succ_of_lt hb)
     exact hm.heap b o (by simp only [mem_cons,D9,not_mem_nil,or_false,not_or]; exact ⟨hb1,hb2⟩) (Ae _ (Ae _ e))
   ·cases r₂ with
    | error e=>exact hr₂
    | ok fl₂ =>
     cases fl₂ with
     | ret r =>
      obtain ⟨rfl,h',tk,rfl,hS',hk'⟩:=hr₂
      repeat (any_goals (first | assumption | wp_step))
      exact h _ _ hS' hk'
     | next=>exact Az hr₂
     | brk=>exact Az hr₂
     | cont=>exact Az hr₂
  | next=>exact Az hr
  | brk=>exact Az hr
  | cont=>exact Az hr
end
theorem _k3 {α:Type}:∀ {l:List α} {i:Nat} (h:i < l.length),(l[i] :: l.eraseIdx i).Perm l
 | a :: l,0,h=>.refl _
 | a :: l,i + 1,h=>by
  have:=_k3 (l:=l) (i:=i) (by simpa using h)
  simp only [List.getElem_cons_succ,Ff];exact (List.Perm.swap _ _ _).trans (this.cons a)
theorem _ko {α:Type} (next:Nat->Nat):∀ (fuel k:Nat) (left:List α) (out:Array α),left.length=fuel->(Lr next fuel k left out).toList.Perm (out.toList++left)
 | 0,k,left,out,h=>by
  have:left=[]:=Ca.mp h
  subst this;simp [Lr]
 | fuel + 1,k,left,out,h=>by
  unfold Lr;have hlt:next k % left.length < left.length:=mod_lt _ (by omega);rw [getElem?_eq_getElem hlt];dsimp only;refine (_ko next fuel (k + 1) _ _ (by rw [Hk hlt]; omega)).trans ?_;rw [Array.toList_push,If];exact List.Perm.append_left _ (_k3 hlt)
theorem _Qr {α:Type} (next:Nat->Nat) (xs:Array α):(pickOrder next xs).toList.Perm xs.toList:=by
 have:=_ko next xs.size 0 xs.toList #[] (by simp)
 simpa [pickOrder] using this
section
variable {prog:Ak} {w:World} {A:Around} {E:Value->Shared->Prop} {s:Shared}
theorem _Xm {src:Source} {n:Nat} {Q:Nat->Shared->Prop} (hn:n ≠ 0) (h:∀ i,i < n->Q i { s with drawn:=s.drawn.bump src }):wpAny (model prog w) A (choose src n) Q E s:=by
 intro Γ p hΓ;unfold choose;rw [Sem.wp_choose];exact ⟨hn,h _ (mod_lt _ (Lc hn))⟩
theorem _vy {α:Type}:∀ (n:Nat) (xs:List α) (s:Shared) (Q:List α->Shared->Prop),xs.length=n->(∀ ys d,ys.Perm xs->Q ys { s with drawn:=d })->wpAny (model prog w) A (drawOrder n xs) Q E s
 | 0,xs,s,Q,hl,h=>by
  have:xs=[]:=Ca.mp hl
  subst this;exact Ad (h [] s.drawn (.refl _))
 | n + 1,[],s,Q,hl,h=>by cases hl
 | n + 1,x :: xs,s,Q,hl,h=>by
  show wpAny _ _ (choose .order (x :: xs).length >>= _) _ _ s;refine Ac (_Xm (by simp) fun i hi=>?_);rw [getElem?_eq_getElem hi];dsimp only;refine Ac (_vy n _ _ _ (by rw [Hk hi]; omega) fun ys d hp=>Ad ?_);exact h _ d ((hp.cons _).trans (_k3 hi))
def _Vi (h:Heap) (a:Addr) (es:Array (Int × Value)) (ep:Nat) (t:SetTable):Prop:=∃ o,h.get? a=some o/\o.ExactSet/\o.data=.set es ep t/\t.fits es.size=true
def _quh (h:Heap) (I a:Addr) (first:Value) (i n ep:Nat):Prop:=∃ o,h.get? I=some o/\o.cls=.type "set_iterator"/\o.data=.fields #[first,.int i 0,.ref a,.int n 0,.int ep 0]
variable {es:Array (Int × Value)} {ep:Nat} {t:SetTable} {a I:Addr} {first:Value} {i n:Nat}
theorem _Vi.at {h h':Heap} (x:_Vi h a es ep t) (e:∀ o,h.get? a=some o->h'.get? a=some o):_Vi h' a es ep t:=let ⟨o,ho,r⟩:=x; ⟨o,e o ho,r⟩
theorem _quh.at {h h':Heap} (x:_quh h I a first i n ep) (e:∀ o,h.get? I=some o->h'.get? I=some o):_quh h' I a first i n ep:=let ⟨o,ho,r⟩:=x; ⟨o,e o ho,r⟩
theorem _quh.typeIs (x:_quh s.heap I a first i n ep):s.TypeIs (.ref I) "set_iterator":=let ⟨o,ho,hc,_⟩:=x; ⟨o,ho,hc⟩
theorem _Vi.typeIs (x:_Vi s.heap a es ep t):s.TypeIs (.ref a) "set":=let ⟨o,ho,hc,_⟩:=x; ⟨o,ho,hc.1⟩
theorem _x:Slot "set_iterator" "__next__" "set_iterator.__next__" :=
 .of (owner:="set_iterator") (n:="__next__") (by rw [Gw,Ej]; kernel_rfl) (by decide +kernel) (by decide +kernel) (by decide +kernel)
  (by first | exact .inl (by decide +kernel) | exact .inr (by decide +kernel)) (by rw [Hl]; kernel_rfl)
theorem _jg:Mp table "set_iterator.__next__"=some Builtin.«set_iterator.__next__»:=entryFor_of_tree (by kernel_rfl)
theorem _qa6:Manifest.owners.lookup (String.ofList ['r','o','t','a','r','e','t','i','_','t','e','s'].reverse)=some Manifest.sig_set_iterator:=by kernel_rfl
theorem _j8 (a:Value):argsOk "set_iterator.__next__" ⟨[a],[]⟩:=by
 unfold argsOk; rw [signature?_of (id:="set_iterator.__next__") (n:=['_','_','t','x','e','n','_','_']) (o:=['r','o','t','a','r','e','t','i','_','t','e','s']) (by kernel_rfl) _qa6]; kernel_rfl
theorem _kj:Slot "set_iterator" "__iter__" "set_iterator.__iter__" :=
 .of (owner:="set_iterator") (n:="__iter__") (by rw [Gw,Ej]; kernel_rfl) (by decide +kernel) (by decide +kernel) (by decide +kernel)
  (by first | exact .inl (by decide +kernel) | exact .inr (by decide +kernel)) (by rw [Hl]; kernel_rfl)
theorem _J9:Mp table "set_iterator.__iter__"=some Builtin.«dict_keyiterator.__iter__» :=
 J9 (id':="dict_keyiterator.__iter__") (by kernel_rfl) rfl (by decide +kernel) (by kernel_rfl)
theorem _Vg (a:Value):argsOk "set_iterator.__iter__" ⟨[a],[]⟩:=by
 unfold argsOk; rw [signature?_of (id:="set_iterator.__iter__") (n:=['_','_','r','e','t','i','_','_']) (o:=['r','o','t','a','r','e','t','i','_','t','e','s']) (by kernel_rfl) _qa6]; kernel_rfl
theorem _wq:Mp table "set.__iter__"=some Builtin.«frozenset.__iter__» :=
 J9 (id':="frozenset.__iter__") (by kernel_rfl) rfl (by decide +kernel) (by kernel_rfl)
theorem _Kh {Q:Value->Shared->Prop} (x:_quh s.heap I a first i n ep) (h:Q (.ref I) s):wpAny (model prog w) A (J2 (.ref I)) Q E s:=by
 refine En x.typeIs _kj (Ax _kj x.typeIs _J9 ?_ (_Vg _));show wpAny _ _ (ret (.ref I)) _ _ s;exact Ad ⟨_,rfl,"set_iterator",_,x.typeIs,_x.lookup,h⟩
def Seen (w:World) (a:Addr) (es:Array (Int × Value)) (ep:Nat):List (Int × Value):=if _qtx w=true then (pickOrder (w.params.setOrder a ep) es).toList else es.toList
def At (w:World) (t:SetTable) (i sl:Nat):Prop:=_qtx w=true \/ SetTable.below t.place sl=i
def Plain (w:World) (es:Array (Int × Value)) (t:SetTable):Prop:=_qtx w=true \/ (¬ (!t.plain && decide (es.size > 1))=true/\Ris t.place/\t.led=true)
theorem _qeg (h:t.fits es.size=true):t.place.size=es.size:=by
 simp [SetTable.fits] at h; exact h.1
theorem _qm3 (p3:t.led=true) {Q:Unit->Shared->Prop} (h:Q () s):wpAny (model prog w) A (if (!t.led && !es.isEmpty)=true then Ig "set:maker-not-led" else pure ()) Q E s:=by
 rw [p3];exact Ad h
theorem _qdy (S:_Vi s.heap a es ep t) (pl:Plain w es t) {sl:Nat} (g:At w t i sl) {e:Int × Value} (he:(Seen w a es ep)[i]?=some e) {Q:Option (Value × Nat)->Shared->Prop}
  (h:∀ sl',At w t (i + 1) sl'->Q (some (e.2,sl')) s):wpAny (model prog w) A (setNext a sl i ep) Q E s:=by
 obtain ⟨o,ho,hex,hd,hf⟩:=S;unfold setNext;refine Ac (Bx ho hd hf ?_);refine Ac ?_;unfold Jd;refine Ac (Ch (Ad ?_));dsimp only;unfold Seen at he
 by_cases hb:_qtx w=true
 ·rw [if_pos hb] at he
  rw [if_pos (show (model prog w).w.params.followText "set-order"=true from hb)];refine As (fun hab=>absurd hab (by simp)) fun _=>?_;unfold setWalk;refine Ac (Ac (Bx ho hd hf ?_));refine Ac ?_;unfold Jd;refine Ac (Ch (Ad ?_));dsimp only;rw [if_pos (show (model prog w).w.params.followText "set-order"=true from hb)];refine Ac (Ch (Ad ?_));refine Ad ?_;rw [<- getElem?_toList]
  have:(pickOrder ((model prog w).w.params.setOrder a ep) es).toList[i]?=some e:=he
  rw [this];exact h sl (.inl hb)
 ·rw [if_neg hb] at he
  rw [if_neg (show ¬ (model prog w).w.params.followText "set-order"=true from hb)];obtain ⟨p1,p2,p3⟩:=pl.resolve_left hb;have g':=g.resolve_left hb;refine As (fun hab=>absurd hab p1) fun _=>?_;refine Ac (_qm3 p3 ?_);have hlt:i < es.size:=by
   by_cases c:i < es.size
   ·exact c
   ·rw [Jx (by simpa using c)] at he; cases he
  obtain ⟨j,hj⟩:=_wb (xs:=t.place) (i:=i) (by rw [_qeg hf]; exact hlt);rw [getElem?_toList] at he;rw [g',he,hj];exact Ad (h (j + 1) (.inr (_qce p2 hj)))
theorem _qdz (S:_Vi s.heap a es ep t) (pl:Plain w es t) {sl:Nat} (g:At w t i sl) (he:(Seen w a es ep)[i]?=none) {Q:Option (Value × Nat)->Shared->Prop}
  (h:Q none s):wpAny (model prog w) A (setNext a sl i ep) Q E s:=by
 obtain ⟨o,ho,hex,hd,hf⟩:=S;unfold setNext;refine Ac (Bx ho hd hf ?_);refine Ac ?_;unfold Jd;refine Ac (Ch (Ad ?_));dsimp only;unfold Seen at he
 by_cases hb:_qtx w=true
 ·rw [if_pos hb] at he
  rw [if_pos (show (model prog w).w.params.followText "set-order"=true from hb)];refine As (fun hab=>absurd hab (by simp)) fun _=>?_;unfold setWalk;refine Ac (Ac (Bx ho hd hf ?_));refine Ac ?_;unfold Jd;refine Ac (Ch (Ad ?_));dsimp only;rw [if_pos (show (model prog w).w.params.followText "set-order"=true from hb)];refine Ac (Ch (Ad ?_));refine Ad ?_;rw [<- getElem?_toList]
  have:(pickOrder ((model prog w).w.params.setOrder a ep) es).toList[i]?=none:=he
  rw [this];exact h
 ·rw [if_neg hb] at he
  rw [if_neg (show ¬ (model prog w).w.params.followText "set-order"=true from hb)];obtain ⟨p1,p2,p3⟩:=pl.resolve_left hb;have g':=g.resolve_left hb;refine As (fun hab=>absurd hab p1) fun _=>?_;refine Ac (_qm3 p3 ?_);rw [getElem?_toList] at he;rw [g',he];exact Ad h
end
section
variable {prog:Ak} {w:World} {A:Around} {E:Value->Shared->Prop} {s:Shared}
variable {es:Array (Int × Value)} {ep:Nat} {t:SetTable} {a I:Addr} {first:Value} {i n:Nat}
theorem _quh.set {h:Heap} (x:_quh h I a first i n ep) {k:Nat} {v first':Value} {i':Nat} (e:(#[first,.int i 0,.ref a,.int n 0,.int ep 0]:Array Value).setIfInBounds k v=#[first',.int i' 0,.ref a,.int n 0,.int ep 0]):_quh (h.update I (Co (·.setIfInBounds k v))) I a first' i' n ep:=by
 obtain ⟨o,ho,hc,hd⟩:=x;exact ⟨_,Bf _ ho (Fv (Ea hd _)),(Obj.cls_mapFields ..).trans hc,by rw [Ea hd,e]⟩
theorem _Yh (hh:A.handled=none) {h':Heap} {Q:Option Value->Shared->Prop} (hQ:∀ h'',(∀ b o,h'.get? b=some o->h''.get? b=some o)->Q none { s with heap:=h'' }) (P:Fin->Shared->Prop) :
  wpAny (model prog w) A.in1 (Mq (.type "StopIteration") [] >>= fun e=>(Mr e:Sem Fin)) P
   (fun e s'=>wpAny (model prog w) A (do let b <- isInstance e (.type "StopIteration"); if b=true then pure none else throw e) Q E s') { s with heap:=h' }:=by
 refine Ac ?_;simp only [Mq,newTuple];refine Ac (A8 ?_ (by size_fits));refine Ac (m:=Ew _ _) (J8 (a:=Value.none) (by first | rfl | (simp only [Ew]; rfl)) ?_);refine A8 ?_ (by size_fits);simp only [Mr];refine Ac (Kz ?_);rw [show A.in1.handled=none from hh];refine Ac (Ad (Mc ?_));refine Ac (Dv (T:="StopIteration") (b:=true) ⟨_,Ag _ rfl,rfl⟩ isSubtype_stop ?_);exact Ad (hQ _ fun b o e=>Ae _ (Ae _ e))
theorem _W0 (hh:A.handled=none) (hne:a ≠ I) (pl:Plain w es t) (hs:(Seen w a es ep).length=es.size) :
  Walks prog w A I [I,a] [I] (Seen w a es ep).length (fun i v=>∃ e,(Seen w a es ep)[i]?=some e/\v=e.2) (fun i h=>∃ sl:Nat,_quh h I a (.int sl 0) i es.size ep/\_Vi h a es ep t/\At w t i sl) where
 sub:=fun b hb=>by simp at hb; simp [hb]
 frame:=fun _ _ _ ⟨sl,x,y,g⟩ hk=>⟨sl,x.at fun o e=>hk I (by simp) o e,y.at fun o e=>hk a (by simp) o e,g⟩
 item:=fun i s Q E hi ⟨sl,x,y,g⟩ hQ=>by
  obtain ⟨e,he⟩:∃ e,(Seen w a es ep)[i]?=some e:=⟨_,getElem?_eq_getElem hi⟩;obtain ⟨o,ho,hc,hd⟩:=id x;obtain ⟨oS,hoS,hex,hdS,hf⟩:=id y;unfold Dt;refine Ac (Eg (Bl (name:=Cu "__next__") x.typeIs _x (Ax _x x.typeIs _jg ?_ (_j8 _))));unfold Builtin.«set_iterator.__next__»;refine Ac (Ad ?_);refine Ac (C3 ho hd ?_);refine Ac (Dr hoS hdS hf ?_);dsimp only;refine As (fun hab=>absurd hab (by simp)) fun _=>?_;rw [A9,A9,A9];refine Ac (_qdy y pl g he fun sl' g'=>?_);dsimp only;refine Ac (Ce ho hd (by simp) ?_);have x1:=x.set (k:=0) (v:=B7 (sl':Int)) (first':=.int sl' 0) (i':=i) (by simp [B7]);obtain ⟨o1,ho1,hc1,hd1⟩:=id x1;refine Ac (Ce (s:={ s with heap:=s.heap.update I (Co (·.setIfInBounds 0 (B7 (sl':Int)))) }) ho1 hd1 (by simp) ?_);have x2:=x1.set (k:=1) (v:=B7 ((i:Int) + 1)) (first':=.int sl' 0) (i':=i + 1) (by simp [B7]);have hk:∀ b o,b ∉ [I]->s.heap.get? b=some o->((s.heap.update I (Co (·.setIfInBounds 0 (B7 (sl':Int))))).update I (Co (·.setIfInBounds 1 (B7 ((i:Int) + 1))))).get? b=some o:=fun b o hb e =>
   (Au _ _ (fun h=>hb (by simp [h]))).trans ((Au _ _ (fun h=>hb (by simp [h]))).trans e)
  refine Ad ⟨_,rfl,Ad (hQ _ _ s.toks ⟨e,he,rfl⟩ ⟨sl',x2,y.at fun o e=>hk a o (by simp [hne]) e,g'⟩ hk)⟩
 done:=fun s Q E ⟨sl,x,y,g⟩ hQ=>by
  have he:(Seen w a es ep)[(Seen w a es ep).length]?=none:=by simp
  obtain ⟨o,ho,hc,hd⟩:=id x;obtain ⟨oS,hoS,hex,hdS,hf⟩:=id y;unfold Dt;refine Ac (Eg (Bl (name:=Cu "__next__") x.typeIs _x (Ax _x x.typeIs _jg ?_ (_j8 _))));unfold Builtin.«set_iterator.__next__»;refine Ac (Ad ?_);refine Ac (C3 ho hd ?_);refine Ac (Dr hoS hdS hf ?_);dsimp only;refine As (fun hab=>absurd hab (by simp)) fun _=>?_;rw [A9,A9,A9];refine Ac (_qdz y pl g he ?_);dsimp only;refine Ac (Ce ho hd (by simp) ?_);exact _Yh hh (fun h'' k=>hQ h'' s.toks fun b o hb e=>k b o ((Au _ _ (fun h=>hb (by simp [h]))).trans e)) _
 self:=fun _ _ _ _ ⟨sl,x,y,g⟩ hQ=>_Kh x hQ
def Drw (es:Array (Int × Value)) (p:List Nat):List (Int × Value):=p.map fun k=>es.getD k (0,.none)
def TuAt (h:Heap) (T:Addr) (p:List Nat):Prop:=∃ o,h.get? T=some o/\o.data=.seq (p.map fun (i:Nat)=>B7 i).toArray 0
theorem _qbq (y:_Vi s.heap a es ep t) {k:Nat} {e:Int × Value} (he:es[k]?=some e) {Q:Value->Shared->Prop} (h:Q e.2 s):wpAny (model prog w) A (setNextDrawn a k ep) Q E s:=by
 obtain ⟨oS,hoS,hex,hdS,hf⟩:=y;unfold setNextDrawn;refine Ac (Bx hoS hdS hf ?_);dsimp only;refine As (fun hab=>absurd hab (by simp)) fun _=>?_;rw [he];exact Ad h
theorem _W1 (hh:A.handled=none) {T:Addr} (hne:a ≠ I) (hT:T ≠ I) {p:List Nat} (hp:∀ k∈p,k < es.size) :
  Walks prog w A I [I,a,T] [I] (Drw es p).length (fun i v=>∃ e,(Drw es p)[i]?=some e/\v=e.2) (fun i h=>_quh h I a (.ref T) i es.size ep/\_Vi h a es ep t/\TuAt h T p) where
 sub:=fun b hb=>by simp at hb; simp [hb]
 frame:=fun _ _ _ ⟨x,y,z⟩ hk=>⟨x.at fun o e=>hk I (by simp) o e,y.at fun o e=>hk a (by simp) o e,let ⟨o,ho,r⟩:=z; ⟨o,hk T (by simp) o ho,r⟩⟩
 item:=fun i s Q E hi ⟨x,y,z⟩ hQ=>by
  have hi':i < p.length:=by simpa [Drw] using hi
  obtain ⟨k,hk⟩:∃ k,p[i]?=some k:=⟨_,getElem?_eq_getElem hi'⟩;have hkl:=hp k (mem_of_getElem? hk);obtain ⟨e,he⟩:∃ e,es[k]?=some e:=⟨es[k],by rw [Da hkl]⟩;have hD:(Drw es p)[i]?=some e:=by simp [Drw,hk,Em,he]
  obtain ⟨o,ho,hc,hd⟩:=id x;obtain ⟨oS,hoS,hex,hdS,hf⟩:=id y;obtain ⟨oT,hoT,hdT⟩:=id z;unfold Dt;refine Ac (Eg (Bl (name:=Cu "__next__") x.typeIs _x (Ax _x x.typeIs _jg ?_ (_j8 _))));unfold Builtin.«set_iterator.__next__»;refine Ac (Ad ?_);refine Ac (C3 ho hd ?_);refine Ac (Dr hoS hdS hf ?_);dsimp only;refine As (fun hab=>absurd hab (by simp)) fun _=>?_;refine Ac ?_;unfold seqItems?;refine Ac (Fy hoT ?_);rw [hdT];refine Ad ?_;dsimp only;have hpl:(p.map fun (i:Nat)=>B7 i).toArray[((i:Nat):Int).toNat]?=some (B7 k):=by simp [hk]
  rw [hpl];dsimp only [B7];rw [A9,A9];refine Ac (_qbq y he ?_);refine Ac (Ce ho hd (by simp) ?_);have x2:=x.set (k:=1) (v:=B7 ((i:Int) + 1)) (first':=.ref T) (i':=i + 1) (by simp [B7]);have hkp:∀ b o,b ∉ [I]->s.heap.get? b=some o->(s.heap.update I (Co (·.setIfInBounds 1 (B7 ((i:Int) + 1))))).get? b=some o:=fun b o hb e =>
   (Au _ _ (fun h=>hb (by simp [h]))).trans e
  exact Ad ⟨_,rfl,Ad (hQ _ _ s.toks ⟨e,hD,rfl⟩ ⟨x2,y.at fun o e=>hkp a o (by simp [hne]) e,oT,hkp T oT (by simp [hT]) hoT,hdT⟩ hkp)⟩
 done:=fun s Q E ⟨x,y,z⟩ hQ=>by
  obtain ⟨o,ho,hc,hd⟩:=id x;obtain ⟨oS,hoS,hex,hdS,hf⟩:=id y;obtain ⟨oT,hoT,hdT⟩:=id z;unfold Dt;refine Ac (Eg (Bl (name:=Cu "__next__") x.typeIs _x (Ax _x x.typeIs _jg ?_ (_j8 _))));unfold Builtin.«set_iterator.__next__»;refine Ac (Ad ?_);refine Ac (C3 ho hd ?_);refine Ac (Dr hoS hdS hf ?_);dsimp only;refine As (fun hab=>absurd hab (by simp)) fun _=>?_;refine Ac ?_;unfold seqItems?;refine Ac (Fy hoT ?_);rw [hdT];refine Ad ?_;dsimp only;have hpl:(p.map fun (i:Nat)=>B7 i).toArray[(((Drw es p).length:Nat):Int).toNat]?=none:=by simp [Drw]
  rw [hpl];dsimp only;refine Ac (Ce ho hd (by simp) ?_);have hd1:=Ea hd (·.setIfInBounds 0 (B7 0));have ho1:=Bf (Co (·.setIfInBounds 0 (B7 0))) ho (Fv hd1);refine Ac (Ce (s:={ s with heap:=s.heap.update I (Co (·.setIfInBounds 0 (B7 0))) }) ho1 hd1 (by simp) ?_);exact _Yh hh (fun h'' k=>hQ h'' s.toks fun b o hb e=>k b o ((Au _ _ (fun h=>hb (by simp [h]))).trans ((Au _ _ (fun h=>hb (by simp [h]))).trans e))) _
 self:=fun _ _ _ _ ⟨x,y,z⟩ hQ=>_Kh x hQ
theorem _qj8 {p:List Nat} (hp:p.Perm (Ar es.size)):(Drw es p).Perm es.toList:=by
 have e:(Ar es.size).map (fun k=>es.getD k (0,.none))=es.toList:=by
  apply ext_getElem
  ·simp
  ·intro i h1 h2
   simp at h1;simp [Em,h1]
 rw [<- e];exact hp.map _
theorem _qij (hh:A.handled=none) (y:_Vi s.heap a es ep t) (ok:_ws (!_qtx w) t) (hz:es.size <= Aj) {Q:Value->Shared->Prop}
  (h:∀ (I:Addr) (fp:List Addr) (St:Nat->Heap->Prop) (order:List (Int × Value)) (s':Shared),order.Perm es.toList->Walks prog w A I fp [I] order.length (fun i v=>∃ e,order[i]?=some e/\v=e.2) St->St 0 s'.heap ->
   (∀ b o,s.heap.get? b=some o->s'.heap.get? b=some o)->s.heap.objs.size <= I->(∀ b∈fp,b=a \/ s.heap.objs.size <= b)->(∃ h' d',s'={ s with heap:=h',drawn:=d' })->Q (.ref I) s') :
  wpAny (model prog w) A (J2 (.ref a)) Q E s:=by
 obtain ⟨oS,hoS,hex,hdS,hf⟩:=id y;have hlt:a < s.heap.objs.size:=Af hoS;refine En y.typeIs F.slot_set_iter (Ax F.slot_set_iter y.typeIs _wq ?_ (F.args_set_iter_1 _));unfold Builtin.«frozenset.__iter__»;refine Ac (Ad ?_);refine Ac ?_;unfold Builtin.Frozenset.sizeOf;refine Ac (Dr hoS hdS hf (Ad ?_));refine Ac ?_;unfold setDrawn;refine Ac (Bx hoS hdS hf ?_);dsimp only;refine Ac ?_;unfold Jd;refine Ac (Ch (Ad ?_));refine Ad ?_;refine As (fun hab=>?_) fun hab=>?_
 ·refine Ac (_vy _ _ _ _ (by simp) fun p d hp=>?_)
  refine Ac (Fm ?_ (by rw [length_map,hp.length_eq,List.length_range]; exact hz));have hoS1:=Ae { cls:=.type "tuple",data:=.seq (p.map fun (i:Nat)=>B7 i).toArray } hoS;refine Ac ?_;unfold setEpoch;refine Ac (Bx hoS1 hdS hf (Ad ?_));refine Ac ?_;unfold newFields;refine A8 (Ad ⟨_,rfl,"set_iterator",_,⟨_,Ag _ rfl,rfl⟩,_x.lookup,?_⟩);have hI:s.heap.objs.size < (s.heap.push { cls:=.type "tuple",data:=.seq (p.map fun (i:Nat)=>B7 i).toArray }).objs.size:=by rw [By]; exact lt_succ_self _
  refine h _ _ _ (Drw es p) _ (_qj8 hp) (_W1 (t:=t) (ep:=ep) hh (T:=s.heap.objs.size) (ne_of_lt (lt_trans hlt hI)) (ne_of_lt hI) fun k hk=>by
   have:=hp.mem_iff.mp hk
   simpa using this) ?_ (fun b o e=>Ae _ (Ae _ e)) (le_of_lt hI) (fun b hb=>?_) ⟨_,_,rfl⟩
  ·exact ⟨⟨_,Ag _ rfl,rfl,by simp [B7]⟩,⟨_,Ae _ hoS1,hex,hdS,hf⟩,_,Ae _ (Ag _ rfl),rfl⟩
  ·simp only [mem_cons,not_mem_nil,or_false] at hb
   rcases hb with rfl | rfl | rfl
   ·exact .inr (le_of_lt hI)
   ·exact .inl rfl
   ·exact .inr (le_refl _)
 ·refine Ac (Ad ?_)
  refine Ac ?_;unfold setEpoch;refine Ac (Bx hoS hdS hf (Ad ?_));refine Ac ?_;unfold newFields;refine A8 (Ad ⟨_,rfl,"set_iterator",_,⟨_,Ag _ rfl,rfl⟩,_x.lookup,?_⟩);have pl:Plain w es t:=by
   by_cases hb:_qtx w=true
   ·exact .inl hb
   ·have hb':_qtx w=false:=by simpa using hb
    refine .inr ⟨fun hd=>hab ?_,ok.1,by rw [ok.2,hb']; rfl⟩;show (!_qtx w && (!t.plain && decide (es.size > 1)))=true;rw [hb',hd]; rfl
  have hord:(Seen w a es ep).Perm es.toList:=by
   unfold Seen;split
   ·exact _Qr _ _
   ·exact .refl _
  refine h _ _ _ (Seen w a es ep) _ hord (_W0 (t:=t) (ep:=ep) hh (ne_of_lt hlt) pl (by rw [hord.length_eq,length_toList])) ?_ (fun b o e=>Ae _ e) (le_refl _) (fun b hb=>?_) ⟨_,_,rfl⟩
  ·refine ⟨0,⟨_,Ag _ rfl,rfl,by simp [B7]⟩,⟨_,Ae _ hoS,hex,hdS,hf⟩,?_⟩
   by_cases hb:_qtx w=true
   ·exact .inl hb
   ·exact .inr (_qcd ok.1)
  ·simp only [mem_cons,not_mem_nil,or_false] at hb
   rcases hb with rfl | rfl
   ·exact .inr (le_refl _)
   ·exact .inl rfl
theorem _qio {Q:Bool->Shared->Prop} (hT:s.TypeIs (.ref a) "set") (h:Q false s):wpAny (model prog w) A (Cv (.ref a)) Q E s:=by
 unfold Cv;refine Ac (Gx hT PySem.F.slot_set_len.lookup ?_);generalize hid:("set.__len__":String)=id0
 wp_delta
 rw [show splitId id0=some ("set","__len__") from by subst hid; decide +kernel];subst hid;refine Ac (Dv (T:="set") (b:=true) hT (by rw [Hl]; kernel_rfl) ?_);refine As (fun hab=>absurd hab (by decide)) (fun _=>?_);refine As (fun _=>?_) (fun hab=>absurd (by decide +kernel) hab);refine Ac (Ls hT ?_);exact Ad h
theorem _Wt (hh:A.handled=none) (y:_Vi s.heap a es ep t) (ok:_ws (!_qtx w) t) (hz:es.size <= Aj) {Q:List Value->Shared->Prop}
  (h:∀ (order:List (Int × Value)) (s':Shared) ,order.Perm es.toList->(∀ b o,s.heap.get? b=some o->s'.heap.get? b=some o)->s.heap.objs.size < s'.heap.objs.size->(∃ h' d' tk,s'={ s with heap:=h',drawn:=d',toks:=tk })->Q (order.map (·.2)) s') :
  wpAny (model prog w) A (Lt (.ref a)) Q E s:=by
 have hlt:a < s.heap.objs.size:=let ⟨o,ho,_⟩:=y; Af ho;unfold Lt;refine Ac (Hj (Bn Gk ?_));rw [Bc Eo _];show wpAny _ A.in1 (Mh [] >>= fun l=>again (.builtin "list.__iadd__" ⟨[l,.ref a],[]⟩)) _ _ s;refine Ac (A8 ?_);refine Ad ⟨Cz Cb _,Bn Is ?_⟩;rw [Bc Cb _];have hS₁:(s.heap.push { cls:=.type "list",data:=.seq ([]:List Value).toArray }).get? s.heap.objs.size=some { cls:=.type "list",data:=.seq #[] }:=Ag _ rfl;show wpAny _ A.in1 (Cc (.ref s.heap.objs.size) (.ref a) (.ref s.heap.objs.size)) _ _ _;have y1:_Vi (s.heap.push { cls:=.type "list",data:=.seq ([]:List Value).toArray }) a es ep t:=y.at fun o e=>Ae _ e;unfold Cc;refine Ac (Ls (T:="set") (_Vi.typeIs (s:={ s with heap:=s.heap.push { cls:=.type "list",data:=.seq ([]:List Value).toArray } }) y1) ?_);have h1:Do (.ref s.heap.objs.size) (.ref a)=false:=by simp [Do]; exact ne_of_gt hlt
 simp only [h1,show (Value.type "set" == Value.type "list")=false from by decide,show (Value.type "set" == Value.type "tuple")=false from by decide,Kw,Aw,if_false];refine Ac (_qij (A:=A.in1) (s:={ s with heap:=s.heap.push { cls:=.type "list",data:=.seq ([]:List Value).toArray } }) hh y1 ok hz fun I fp St order s1 hord W st hk hI hfp hs1=>?_);obtain ⟨h1',d1',rfl⟩:=hs1;have hsz1:(s.heap.push { cls:=.type "list",data:=.seq ([]:List Value).toArray }).objs.size=s.heap.objs.size + 1:=By ..;have hSf:s.heap.objs.size ∉ fp:=fun hm=>by
  rcases hfp _ hm with e | e
  ·exact absurd hlt (by rw [e]; exact lt_irrefl _)
  ·exact absurd (show s.heap.objs.size + 1 <= s.heap.objs.size from hsz1 ▸ e) (Nat.not_succ_le_self _)
 have hbI:∀ b o,s.heap.get? b=some o->b ∉ s.heap.objs.size :: [I]:=fun b o e hm=>by
  have hb:=Af e;rcases Al.mp hm with e' | hm
  ·exact absurd hb (by rw [e']; exact lt_irrefl _)
  ·have e2:b=I:=D9.mp hm
   have:s.heap.objs.size + 1 <= I:=hsz1 ▸ hI
   rw [e2] at hb;exact absurd (lt_trans hb (Nat.lt_of_succ_le this)) (lt_irrefl _)
 have hno:order.length <= Aj:=by rw [hord.length_eq,length_toList]; exact hz
 have key:∀ (s1:Shared) (c₁:Nat),(∃ h d tk,s1={ s with heap:=h,drawn:=d,toks:=tk })->St 0 s1.heap->(∀ b o,s.heap.get? b=some o->s1.heap.get? b=some o) ->
   s1.heap.get? s.heap.objs.size=some { cls:=.type "list",data:=.seq #[] c₁ } ->
   Dp (model prog w) A (.builtin "list.extend.loop" ⟨[.ref s.heap.objs.size,.ref I,.ref s.heap.objs.size],[]⟩)
    (fun q s'=>∃ acc' c',q=.ok (.ret (.ref s.heap.objs.size))/\(∃ h' d' tk,s'={ s with heap:=h',drawn:=d',toks:=tk })/\(∀ b o,s.heap.get? b=some o->s'.heap.get? b=some o) /\
     s'.heap.get? s.heap.objs.size=some { cls:=.type "list",dict:=none,data:=.seq acc' c',slots:=#[] }/\acc'.toList=order.map (·.2)) s1:=by
  intro s1 c₁ hs1 hst hk1 hS1;refine codeAny_extend_loopS W.toS hno s.heap.objs.size hSf (.ref s.heap.objs.size) order.length 0 _ #[] c₁ rfl (zero_le _) hst hS1 (ItemsOf.nil _) fun s' acc' c' hm hS' hacc=>?_;refine ⟨acc',c',rfl,?_,fun b o e=>hm.heap b o (hbI b o e) (hk1 b o e),hS',?_⟩
  ·obtain ⟨h,d,tk,rfl⟩:=hs1
   rw [Moved.eq_with hm];exact ⟨_,_,_,rfl⟩
  ·apply ext_getElem
   ·rw [length_toList,length_map]; exact hacc.1
   ·intro j h1 h2
    obtain ⟨e,he,hv⟩:=hacc.2 j acc'.toList[j] (by rw [<- getElem?_toList,getElem?_eq_getElem h1]);rw [hv];rw [length_map] at h2;rw [getElem?_eq_getElem h2] at he;cases he
    simp
 refine Ac (Ba (_qio (_Vi.typeIs (y1.at fun o e=>hk a o e)) ?_));have fin:∀ (s1:Shared) (c₁:Nat),(∃ h d tk,s1={ s with heap:=h,drawn:=d,toks:=tk })->St 0 s1.heap->(∀ b o,s.heap.get? b=some o->s1.heap.get? b=some o) ->
   s1.heap.get? s.heap.objs.size=some { cls:=.type "list",data:=.seq #[] c₁ } ->
   Dp (model prog w) A (.builtin "list.extend.loop" ⟨[.ref s.heap.objs.size,.ref I,.ref s.heap.objs.size],[]⟩)
    (fun q s'=>match q with
     | .ok (.ret v)=>wpAny (model prog w) A (match v with
      | .ref a=>do
       let o <- load a
       match o.data with
       | .seq xs _=>pure xs.toList
       | _=>Ig "internal:collect"
      | _=>Ig "internal:collect") Q E s'
     | .ok _=>False
     | .error e=>E e s') s1:=by
  intro s1 c₁ a1 a2 a3 a4;refine Cn (key s1 c₁ a1 a2 a3 a4) fun q s' hQ=>?_;obtain ⟨acc',c',hq,hs',hk',hS',hacc⟩:=hQ;subst hq;show wpAny _ A (load s.heap.objs.size >>= _) _ _ _;refine Ac (Fy hS' ?_);show wpAny _ A (pure acc'.toList) _ _ _;rw [hacc];exact Ad (h order s' hord hk' (Af hS') hs')
 have hS2:=hk _ _ hS₁;refine As (fun _=>?_) (fun _=>Ad ⟨Cz Bv _,?_⟩)
 ·refine Ac (Dm ?_)
  refine Ac ?_;show wpAny _ _ (L6 s.heap.objs.size (·.push .none) >>= fun _=>L6 s.heap.objs.size (·.pop)) _ _ _;refine Ac (Gy hS2 rfl ?_);have hS₂:=Bf (Bg (·.push Value.none)) hS2 rfl;refine Gy (hz:=by seq_fits) hS₂ rfl ?_;have hS₃:=Bf (Bg (·.pop)) hS₂ rfl;have oth:∀ b o,b ≠ s.heap.objs.size->h1'.get? b=some o->((h1'.update s.heap.objs.size (Bg (·.push Value.none))).update s.heap.objs.size (Bg (·.pop))).get? b=some o:=fun b o hb e =>
   (Au _ _ (B4 hb)).trans ((Au _ _ (B4 hb)).trans e)
  refine Ad ⟨Cz Bv _,?_⟩;refine Cn (fin _ _ ⟨_,_,_,rfl⟩ ?_ (fun b o e=>oth b o (ne_of_lt (Af e)) (hk b o (Ae _ e))) hS₃) fun q s' x=>x;exact W.frame 0 _ _ st fun b hb o e=>oth b o (fun h=>hSf (h ▸ hb)) e
 ·exact Cn (fin _ _ ⟨_,_,_,rfl⟩ st (fun b o e=>hk b o (Ae _ e)) hS2) fun q s' x=>x
end
end SetW
namespace DL
open PySem PySem.Spec PyProof.Rows L2
section
variable {X:Cx} {K:Frag} {F:Hp}
def _Y5 (K:Frag):V->List V->Hp->VK->Prop:=fun x vs H Q=>∃ l b xs zs,x=.ref l/\vs=[.ref b]/\H l=some (.lst xs)/\SqE K H b zs/\xs.length + zs.length <= Aj/\Q .non (upd H l (.lst (xs++zs)))
theorem _qap:MtM X "list.extend" (_Y5 X.K):=by
 intro pins s σ H x vs v us Q I rx rv h;obtain ⟨l,b,xs,zs,rfl,rfl,hH,hB,hz,q⟩:=h;cases rx;obtain ⟨u,rfl,ru⟩:=rv.one;cases ru;obtain ⟨z,its,n,r,hl,e⟩:=I.lstM hH;obtain ⟨its2,n2,r2,e2,z2⟩:=Inv.listE I hB;have hl2:=r2.length;have hsz:its.toArray.size + its2.toArray.size <= Aj:=by rw [size_toArray,size_toArray]; omega
 have hlong:¬ (!its.toArray.isEmpty && E6 (its.toArray.size + its2.toArray.size))=true:=by
  rw [notLongL hsz,Bool.and_false];exact An
 refine call_meets F.slot_list_extend ⟨_,e,rfl⟩ F.entry_list_extend (F.args_list_extend_2 _ _)
  (AutoSeq1.list_extend_list_list_0 l its.toArray n b its2.toArray n2 hlong (by rw [size_toArray]; omega) (by omega)) ⟨e,e2,?_⟩
 refine ⟨.non,_,I.lset (its':=its++its2) hH e (by simp) (r.append r2) ?_,rfl,q⟩;rw [length_append];omega
theorem _qpt {i:Nat} {S:List Bool} {p:FP} {f:FE} {st:Stmt} (hp:PS X st (tDrop (tBM X.K "list" (_Y5 X.K) (tP X.K i S p) (_z6 (tD X.K f) _qsx)))):DS X st [] (bExt i S p f):=by
 refine PS.imp hp fun E σ H z=>?_;obtain ⟨β,F,ρ,o,r,hw,h,k⟩:=z;obtain ⟨q,hq,h⟩:=bind_some h;obtain ⟨d,hd,h⟩:=bind_some h;obtain ⟨c,hc,h⟩:=bind_some h;have hc:=some_of hc;split at h
 ·rename_i ds
  split at h
  ·rename_i hi
   obtain ⟨c',hc',rfl⟩:=map_some h;obtain ⟨m,m',g1,g2,g3⟩:=_Ji hc';unfold gExt at g2;split at g2
   ·rename_i os
    split at g2
    ·rename_i hlen
     cases g2;refine ⟨β,F,ρ,q,c,.lst os,r,hq,hc,g1,fun v0 v F1 H1 e0 s1 s2 r1 at1=>⟨?_,?_⟩⟩
     ·obtain ⟨A,h1,_⟩:=r1.own
      obtain ⟨v0',e0',qq⟩:=h1 i c hc;rw [e0] at e0'; cases e0';obtain ⟨v',Aa,Ab,a1,a2,a3⟩:=qq.focus g1
      have:=at1.uniq r1.ext.fh a1
      subst this;cases a2 with
      | lst h0 _ _ _=>exact .inl ⟨rfl,_,SqL.of h0⟩
     ·obtain ⟨G,l,re,rz⟩:=r1.look S
      refine ⟨G,frz S ρ,_,l.gh,re,hd,fun y F2 H2 e2 q2=>?_⟩;have r2:=r1.back l e2;have at2:=at1.mono (_q9 (F:=F1) (H:=H1) (F':=F2)) e2.hh;obtain ⟨A1,T,q1,qn,dj,fin⟩:=at_of (r2.sh .non) hc g1 e0 (_qu9.refl _) (_qu9.refl _) at2;cases q2 with
      | lst hq2 t =>
       have t2:=l.reps e2 r1.ext.fh hi t;cases q1 with
       | lst h0 n0 rv hA =>
        rename_i b zs a vs A';refine ⟨a,b,vs,zs,rfl,rfl,h0,_qt1 e2.fh hq2,by rw [rv.length,t.length]; exact _z0 hlen,?_⟩;refine k _ _ σ (fin a _ (fun b=>b=a \/ A' b) _ c' ((hA a).mpr (.inl rfl)) (fun b z=>.inl ((hA b).mpr z)) (.lst _a (A':=A') n0 ?_ fun _=>Lq) g3);have o1:=rv.stay (_qu9.refl _) (H':=upd H2 a (.lst (vs++zs))) fun b z=>_e (by rintro rfl; exact n0 z);exact (o1.append (_qfo t2) fun _ _ z=>z).congr fun b=>⟨fun z=>z.elim id Az,.inl⟩
    ·cases g2
   ·cases g2
  ·cases h
 ·cases h
end
theorem Inv.drawn {pins:List (Addr × Obj)} {σ:St} {H:Hp} {s:Shared} {d':Drawn} {X:Cx} (I:Inv X pins σ H s):Inv X pins σ H { s with drawn:=d' } :=
 ⟨I.ok,I.os,I.bare,I.base,I.loc,I.cell,I.free,I.freeC,I.pin,I.hok,I.len⟩
theorem _Yi {σ:List Int} {v:Int} (h:σ.Nodup):(step_dedup σ v).Nodup:=by
 unfold step_dedup;split
 ·exact h
 ·rename_i hn
  refine Ih.mpr ⟨h,by simp,fun a ha b hb=>?_⟩;have e:b=v:=by simpa using hb
  rintro rfl;exact hn (by rw [any_eq_true]; exact ⟨a,ha,by simp [e]⟩)
theorem _j4 (val:Nat->Int):∀ i,(firstMet val i).Nodup
 | 0=>by rw [firstMet_zero]; exact nodup_nil
 | i + 1=>by rw [Ky]; exact _Yi (_j4 val i)
theorem _w0:∀ {σ l:List Int},σ.Nodup->(∀ x∈σ,x∈l)->l.length=σ.length->l.Perm σ
 | [],l,_,_,h=>by
  have:l=[]:=Ca.mp (by simpa using h)
  subst this; exact .refl _
 | x :: σ,l,hn,hs,h=>by
  rw [nodup_cons] at hn;have hx:=hs x (by simp);have p:=Ka hx;refine p.trans ((_w0 hn.2 (fun y hy=>?_) ?_).cons x)
  ·exact (Kb (by rintro rfl; exact hn.1 hy)).mpr (hs y (mem_cons_of_mem _ hy))
  ·have:=p.length_eq
   simp at this h ⊢;omega
theorem _w1:∀ {l σ:List Int},l.Nodup->σ.Nodup->(∀ x,x∈l ↔ x∈σ)->l.Perm σ
 | l,[],_,_,h=>by
  have:l=[]:=List.eq_nil_iff_forall_not_mem.mpr fun x hx=>absurd ((h x).mp hx) (by simp)
  subst this; exact .refl _
 | l,x :: σ,hl,hn,h=>by
  rw [nodup_cons] at hn;have p:=Ka ((h x).mpr (by simp));refine p.trans ((_w1 (hl.erase x) hn.2 fun y=>?_).cons x);rw [hl.mem_erase_iff,h y];constructor
  ·rintro ⟨a,b⟩
   exact (Al.mp b).resolve_left a
  ·intro hy
   exact ⟨by rintro rfl; exact hn.1 hy,mem_cons_of_mem _ hy⟩
theorem _ky {prog:Ak} {w:World}:∀ {l:List (Int × Value)},Mi (Cm prog w) l->∃ ks:List Int,IntsAre (l.map (·.2)) ks/\∀ k,(∃ e∈l,(Cm prog w).is k e.2=true) ↔ k∈ks
 | [],_=>⟨[],.nil,fun k=>by simp⟩
 | e :: l,h=>by
  obtain ⟨ks,h1,h2⟩:=_ky h.tail;obtain ⟨⟨k,hk,_⟩,_⟩:=h.head;obtain ⟨t,ht⟩:=Value.isInt_shape hk;refine ⟨k :: ks,by rw [map_cons,ht]; exact .cons k t h1,fun j=>?_⟩;rw [mem_cons,<- h2 j];constructor
  ·rintro ⟨e',he',hj⟩
   rcases Al.mp he' with rfl | he'
   ·exact .inl ((Cm prog w).inj _ _ _ hj hk)
   ·exact .inr ⟨e',he',hj⟩
  ·rintro (rfl | ⟨e',he',hj⟩)
   ·exact ⟨e,by simp,hk⟩
   ·exact ⟨e',mem_cons_of_mem _ he',hj⟩
theorem _Kj {vs:List Value} {ns:List Int} (h:IntsAre vs ns):vs.map (fun v=>match v with | .int k _=>k | _=>0)=ns:=by
 induction h with
 | nil=>rfl
 | cons n t hr ih=>rw [map_cons,ih]
theorem _zd:∀ {us:List Value} {ns:List Int},IntsAre us ns->_qu8 (ns.map V.int) us
 | _,_,.nil=>.nil
 | _,_,.cons n t hr=>.cons ⟨t,rfl⟩ (_zd hr)
theorem _Qf {prog:Ak} {w:World} {A:Around} {E:Value->Shared->Prop} {s:Shared} {a:Addr} {ns:List Int} (hh:A.handled=none)
  (hS:SetW._Jj prog w s.heap a (fun k'=>(firstMet (fun i=>ns.getD i 0) ns.length).any (· == k')) (firstMet (fun i=>ns.getD i 0) ns.length).length) (h64:(_I ns).length < 64) {Q:Value->Shared->Prop}
  (h:∀ (D:Addr) (out:List Value) (n:Nat) (s':Shared),IntsAre out (_I ns)->s.heap.objs.size <= D->s'.heap.get? D=some { cls:=.type "list",data:=.seq out.toArray n }->(∀ b o,s.heap.get? b=some o->s'.heap.get? b=some o) ->
   (∃ h' d' tk,s'={ s with heap:=h',drawn:=d',toks:=tk })->Q (.ref D) s') :
  wpAny (model prog w) A (call (.builtin "sorted") [.ref a]) Q E s:=by
 obtain ⟨o,es,ep,t,ho,hex,hd,hel,hmem,hb,hf,hn,ht⟩:=hS;obtain ⟨ks,hI,hks⟩:=_ky hel;have hmet:∀ k,k∈firstMet (fun i=>ns.getD i 0) ns.length ↔ k∈ns:=by
  intro k;have e:=firstMet_any (fun i=>ns.getD i 0) ns.length k;have e2:(Ar ns.length).map (fun i=>ns.getD i 0)=ns:=by
   apply ext_getElem
   ·simp
   ·intro i h1 h2; simp at h1; simp [h1]
  rw [e2] at e
  have:=A5.mp e
  simpa [any_eq_true] using this
 have hk2:∀ k,k∈ks ↔ k∈firstMet (fun i=>ns.getD i 0) ns.length:=by
  intro k;rw [<- hks k,<- hmem k];simp [any_eq_true]
 have hlen:ks.length=(firstMet (fun i=>ns.getD i 0) ns.length).length:=by
  rw [<- hI.length,length_map,length_toList,hn]
 have hkp:ks.Perm (firstMet (fun i=>ns.getD i 0) ns.length):=_w0 (_j4 _ _) (fun x hx=>(hk2 x).mpr hx) hlen;have hkn:ks.Nodup:=hkp.symm.nodup (_j4 _ _);have fin:∀ ns':List Int,ns'.Perm ks->ns'.Pairwise (· <= ·)->ns'=_I ns:=by
  intro ns' hp hs;refine _x1 ?_ (_je ns) fun x=>?_
  ·have hnd:ns'.Nodup:=hp.symm.nodup hkn
   have:=List.Pairwise.and hs hnd
   exact this.imp fun ⟨a,b⟩=>by omega
  ·rw [hp.mem_iff,hk2,hmet,_xy]
 have hsize:es.size=(_I ns).length:=by
  have:(_I ns).Perm ks:=_w1 ((_je ns).imp fun h=>Int.ne_of_lt h) hkn fun x=>by rw [_xy,hk2,hmet]
  rw [this.length_eq,hlen,hn]
 refine Db Md Lu Lv (Lw _) ?_;unfold Builtin.«sorted»;refine Ac (m:=checkCount "sorted" 1 1 _) (Ad ?_);refine Ac (SetW._Wt (A:=A.in1) hh ⟨o,ho,hex,hd,hf⟩ ht (by rw [hsize,Ao]; omega) fun order s1 hord hk1 hsz1 hs1=>?_);obtain ⟨h1,d1,tk1,rfl⟩:=hs1;have hio:∃ ks',IntsAre (order.map (·.2)) ks'/\ks'.Perm ks:=by
  obtain ⟨ks',g1,g2⟩:=_ky (hel.perm hord);refine ⟨ks',g1,?_⟩;have e1:=_Kj g1;have e2:=_Kj hI;rw [<- e1,<- e2];exact (hord.map _).map _
 obtain ⟨ks',g1,g2⟩:=hio;have hol:(order.map (·.2)).length < 64:=by rw [length_map,hord.length_eq,length_toList,hsize]; exact h64
 refine Ac (Gi ?_ (by rw [Ao]; omega));have hoL:(h1.push (Bq "list" (order.map (·.2)).toArray 0)).get? h1.objs.size=some (Bq "list" (order.map (·.2)).toArray 0):=Ag _ rfl;refine Ac (Ba (Ax Kc ⟨_,hoL,rfl⟩ Jq (list_sort_tree hoL g1 hol fun out ns' a1 a2 a3=>⟨_,rfl,?_⟩) (Kd _)));refine Ad ⟨_,rfl,?_⟩;obtain ⟨e,he⟩:=K0 (out:=out) hoL;have hsz:s.heap.objs.size <= h1.objs.size:=le_of_lt hsz1;refine h _ out.toList e _ (by rw [<- fin ns' (a2.trans g2) a3]; exact a1) hsz (by simpa [Bq] using he) (fun b o' hb'=>?_) ⟨_,_,_,rfl⟩;have hb1:=hk1 b o' hb';have hlt:=Af hb1;rw [Ke (ne_of_lt hlt) (by rw [Je]; exact lt_succ_of_lt hlt)];exact Ae _ hb1
theorem _X9 {X:Cx} {e:Expr} {te:TE} {p p2 p3 pos:Pos} (hc:X.calm=true) (hg1:Gl X "sorted") (hg2:Gl X "set") (hm1:X.mg "sorted"=none) (hm2:X.mg "set"=none) (he:PE X e te) (hs:Ap [e] X.env=(false,eval e X.env) :: Ap [] X.env:=by rfl) :
  PE X (.Call (.Name "sorted" p) [.Call (.Name "set" p2) [e] [] p3] [] pos) (fun σ H Q=>te σ H fun x H1=>∃ (a:Addr) (ns:List Int),x=.ref a/\SqL X.K H1 a (ns.map V.int)/\ns.length < 4000/\(_I ns).length < 64 /\
   ∀ l,H1 l=none->Q (.ref l) (upd H1 l (.lst ((_I ns).map V.int)))):=by
 intro pins s σ H Q I h;refine B9 (_wo I hg1 hm1 _j7 ?_ (by decide) (by decide));refine callWith_builtin1 ?_ rfl rfl;show wpAny _ _ (spliced ((false,eval (.Call (.Name "set" p2) [e] [] p3) X.env) :: C1 pos (Ap [] X.env))) _ _ s;refine B8 ?_;refine B9 (_wo I hg2 hm2 _qq1 ?_ (by decide) (by decide));have ha:=(_d he _n hs) p3 pins s σ H (fun xs H1=>∃ (a:Addr) (ns:List Int),xs=[.ref a]/\SqL X.K H1 a (ns.map V.int)/\ns.length < 4000/\(_I ns).length < 64 /\
   ∀ l,H1 l=none->Q (.ref l) (upd H1 l (.lst ((_I ns).map V.int)))) I (by
  refine (?_:te σ H _);refine cast (congrArg (te σ H) (funext fun x=>funext fun H1=>?_)) h;simp [_qsx])
 refine Bp (thn ha fun us s1 hQ=>?_) hs rfl;obtain ⟨vs,H1,I1,r1,a,ns,ev,hq,hl4,h64,q⟩:=hQ;subst ev;obtain ⟨u,rfl,ru⟩:=r1.one;cases ru;obtain ⟨its,rv,ht,hz⟩:=I1.list hq;have ia:=intsAre_of rv;have hil:its.length=ns.length:=ia.length;refine SetW._Wu (items:=its.toArray) (ns:=ns) (I1.ok.hd hc) ht.isList (by simpa using ia) (by rw [size_toArray,hil]; unfold E2; omega) fun h' tk hS hk=>?_;refine Di ?_;have hk':∀ b o,s1.heap.get? b=some o->h'.get? b=some o:=fun b o e=>hk b o (Af e) e;have hsz0:s1.heap.objs.size < h'.objs.size:=let ⟨o,_,_,_,ho,_⟩:=hS; Af ho;rw [show its.toArray.size=ns.length by rw [size_toArray,hil]] at hS;refine _Qf (s:={ s1 with heap:=h',toks:=tk }) (I1.ok.hd hc) hS h64 fun D out n s' hout hD hget hk2 hs'=>?_;obtain ⟨h2,d2,tk2,rfl⟩:=hs';have hDs:s1.heap.objs.size <= D:=le_trans (le_of_lt hsz0) hD;have I2:=Inv.drawn (d':=d2) (I1.laid (h':=h2) (t':=tk2) (a:=D) (o:=.lst ((_I ns).map V.int)) (fun b u e=>hk2 b u (hk' b u e)) hDs ⟨by rw [length_map,Ao]; omega,out,n,_zd hout,hget⟩);exact ⟨.ref D,_,I2,rfl,q D (I1.hok.fresh hDs)⟩
theorem _Z0 {X:Cx} {e:Expr} {f:FE} {p p2 p3 pos:Pos} (hc:X.calm=true) (hg1:Gl X "sorted") (hg2:Gl X "set") (hm1:X.mg "sorted"=none) (hm2:X.mg "set"=none) (he:DE X e f) (hs:Ap [e] X.env=(false,eval e X.env) :: Ap [] X.env:=by rfl) :
  DO X (.Call (.Name "sorted" p) [.Call (.Name "set" p2) [e] [] p3] [] pos) (_qte _Qz (_k f _qu6)):=by
 refine PE.imp (_X9 hc hg1 hg2 hm1 hm2 he hs) fun σ H Q q=>?_;obtain ⟨F,ρ,o,s,re,hf,kk⟩:=q;obtain ⟨zs,hf2,rfl⟩:=map_some hf;obtain ⟨ds,hd,hf⟩:=bind_some hf2;obtain ⟨d,hd1,hd⟩:=bind_some hd;obtain ⟨ds',hd2,rfl⟩:=map_some hd;cases hd2;refine ⟨F,ρ,d,s,re,hd1,fun v F1 H1 e1 r1=>?_⟩;unfold _Qz at hf;split at hf
 ·rename_i xs heq
  cases heq;obtain ⟨ns,hns,hf⟩:=bind_some hf;split at hf
  ·rename_i hcnd
   cases hf
   have:=_xs hns
   subst this;cases r1 with
   | lst q t =>
    have hv:=_Z t;subst hv;refine ⟨_,ns,rfl,(_qt1 e1.fh q).l,hcnd.1,hcnd.2,fun l hl=>kk (.ref l) F1 _ _ (e1.trans (Ext.laidH e1.fh hl)) (_Zb _a ?_) fun b z=>by subst z; exact ⟨e1.fh.free hl,e1.hh.free hl⟩⟩;exact _R _
  ·cases hf
 ·cases hf
section
variable {X:Cx} {K:Frag} {F:Hp}
theorem _k6:_wh X (.builtin "sorted") (fun xs H Q=>∃ (p:Addr) (ns:List Int),xs=[.ref p]/\SqL X.K H p (ns.map V.int)/\ns.length < 64/\∀ l,H l=none->Q (.ref l) (upd H l (.lst ((_Jk ns).map V.int)))):=by
 intro pins s σ H xs us Q I r h;obtain ⟨p,ns,rfl,hq,h64,q⟩:=h;cases r with
 | cons r1 r =>
  cases r;cases r1;obtain ⟨its,rv,ht,hz⟩:=I.list hq;have ia:=intsAre_of rv;have hil:its.length=ns.length:=ia.length;refine sorted_ints ht.isList ia (by rw [hil]; exact h64) fun out ns' a1 a2 a3=>?_;obtain ⟨e,he⟩:=sortedAll_at s.heap its out;have e':=_qj0 a2 a3;subst e';have hlen:(_Jk ns).length=ns.length:=(_zr ns).length_eq;exact ⟨.ref _,_,I.laid (t':=s.toks) (o:=.lst ((_Jk ns).map V.int)) (fun b u e=>sortedAll_old e) (le_succ _) ⟨by rw [length_map,hlen,Ao]; omega,out.toList,e,_zd a1,by simpa [Bq] using he⟩,rfl,q _ (I.hok.fresh (le_succ _))⟩
theorem _k5:CallO K (fun xs H Q=>∃ (p:Addr) (ns:List Int),xs=[.ref p]/\SqL K H p (ns.map V.int)/\ns.length < 64/\∀ l,H l=none->Q (.ref l) (upd H l (.lst ((_Jk ns).map V.int)))) _qjy:=by
 intro ds es F H vs Q h s r k;unfold _qjy at h;split at h
 ·obtain ⟨ns,hns,h⟩:=bind_some h
  split at h
  ·rename_i h64
   cases h
   have:=_xs hns
   subst this;cases r with
   | cons r r' =>
    cases r';cases r with
    | lst q t =>
     have hv:=_Z t;subst hv;exact ⟨_,ns,rfl,(_qt1 s q).l,h64,fun l hl=>k l _ F _ (Ext.laidH s hl) _a (s.free hl) hl (_R _)⟩
  ·cases h
 ·cases h
end
section
variable {X:Cx} {K:Frag} {F:Hp}
end
section
variable {prog:Ak} {w:World} {A:Around} {E:Value->Shared->Prop} {s:Shared}
end
section
variable {X:Cx} {K:Frag} {F:Hp}
end
section
variable {X:Cx} {K:Frag} {F:Hp}
end
end DL
namespace DL
open PySem
end DL
namespace DL
open PySem PySem.Spec PyProof.Rows L2
variable {X:Cx}
end DL
namespace DL
open PySem
def lexP (p q:Int × Int):Bool:=if p.1=q.1 then decide (p.2 < q.2) else decide (p.1 < q.1)
theorem _Qx {p q:Int × Int}:lexP p q=true ↔ p.1 < q.1 \/ p.1=q.1/\p.2 < q.2:=by
 unfold lexP;split <;> simp <;> omega
def insP (x:Int × Int):List (Int × Int)->List (Int × Int)
 | []=>[x]
 | y :: ys=>if lexP x y=true then x :: y :: ys else y :: insP x ys
def _ki (ps:List (Int × Int)):List (Int × Int):=ps.foldr insP []
theorem _Qs (x:Int × Int):∀ l:List (Int × Int),(insP x l).Perm (x :: l)
 | []=>.refl _
 | y :: ys=>by
  unfold insP;split
  ·exact .refl _
  ·exact ((_Qs x ys).cons y).trans (List.Perm.swap _ _ _)
theorem _js:∀ ps:List (Int × Int),(_ki ps).Perm ps
 | []=>.refl _
 | n :: ns=>(_Qs n _).trans ((_js ns).cons n)
theorem _Jq (x:Int × Int):∀ l:List (Int × Int),l.Pairwise (fun a b=>lexP a b=true)->x ∉ l->(insP x l).Pairwise (fun a b=>lexP a b=true)
 | [],_,_=>by simp [insP]
 | y :: ys,h,hn=>by
  rw [pairwise_cons] at h;unfold insP;split
  ·rename_i hx
   rw [pairwise_cons];refine ⟨fun z hz=>?_,Fb.mpr h⟩;rcases Al.mp hz with rfl | hz
   ·exact hx
   ·have h2:=h.1 z hz
    rw [_Qx] at *;omega
  ·rename_i hx
   rw [pairwise_cons];refine ⟨fun z hz=>?_,_Jq x ys h.2 (fun m=>hn (by simp [m]))⟩;rcases Al.mp ((_Qs x ys).mem_iff.mp hz) with rfl | hz
   ·have hne:z ≠ y:=fun e=>hn (by simp [e])
    rw [_Qx] at *
    have:¬ (z.1=y.1/\z.2=y.2):=fun e=>hne (Prod.ext e.1 e.2)
    omega
   ·exact h.1 z hz
theorem _vd:∀ ps:List (Int × Int),ps.Nodup->(_ki ps).Pairwise (fun a b=>lexP a b=true)
 | [],_=>.nil
 | n :: ns,h=>by
  rw [nodup_cons] at h;exact _Jq n _ (_vd ns h.2) fun m=>h.1 ((_js ns).mem_iff.mp m)
theorem _qiz {ps ps':List (Int × Int)} (hn:ps.Nodup) (hp:ps'.Perm ps) (hs:ps'.Pairwise (fun a b=>lexP a b=true)):ps'=_ki ps :=
 Ip (fun a b _ _ h1 h2=>by rw [_Qx] at h1 h2; omega) hs (_vd ps hn) (hp.trans (_js ps).symm)
def pairD (p:Int × Int):D:=.tup [.int p.1,.int p.2]
def _Qy:List D->Option (List D)
 | [.lst xs,.lst ys]=>(_Wx xs).bind fun ns=>(_Wx ys).bind fun ms=>if ns.length=ms.length/\1 <= ns.length/\ns.length < 64/\(ns.zip ms).Nodup then some ((_ki (ns.zip ms)).map pairD) else none
 | _=>none
end DL
namespace DL
open PySem PySem.Spec PyProof.Rows L2
variable {X:Cx} {tg:Expr}
variable {X:Cx}
section
variable {K:Frag} {β:Bs} {F H:Hp} {σ:St} {ρ:Cs}
end
section
variable {X:Cx} {pos:Pos} {W2:List Nat}
end
end DL
set_option maxHeartbeats 2000000
namespace DL
open PySem PySem.Spec PyProof.Rows L2
section
variable {X:Cx} {elt target iter:Expr} {ifs:List Expr} {scope:Scope} {pos:Pos} {cl:List (Str × Addr)} {kx:Str} {N':List Str} {js:List (Option Nat)}
structure CompOk2 (X:Cx) (scope:Scope) (kx:Str) (cl:List (Str × Addr)) (N':List Str) (js:List (Option Nat)):Prop where
 calm:X.calm=true
 clo:clo X.env scope.names []=some cl
 free:_zo X scope cl js N'
 cf:∀ (n:Nat) (acc:List (Str × Addr)),L4 n scope.names acc=(kx,n) :: acc
 pc:∀ h:Heap,pushCells h scope.names=h.push { cls:=.type "cell",data:=.cell none }
 kN:∀ p∈js.zip N',p.1=none \/ p.2 ≠ kx
 cell:∀ y∈scope.names,y.2=.cell->y.1=kx
 kind:scope.kind=.function
 names:∀ x∈scope.names,x.2=.local->scope.names.lookup x.1=some .local
theorem CompOk2.hcl (k:CompOk2 X scope kx cl N' js):∀ x c,cl.lookup x=some c->X.env.cells.lookup x=some c:=fun x c h=>by
 rcases _Kw k.clo x c (mem_lookup h) with z | z
 ·simp at z
 ·exact z
theorem CompOk2.hhas (k:CompOk2 X scope kx cl N' js):∀ x,((Cq scope X.env).names.lookup x=some .cell \/ (Cq scope X.env).names.lookup x=some .free)->x=kx \/ ∃ c,cl.lookup x=some c:=fun x h=>by
 have h':∃ k,(x,k)∈(Cq scope X.env).names/\(k=.cell \/ k=.free):=by
  rcases h with h | h
  ·exact ⟨_,mem_lookup h,.inl rfl⟩
  ·exact ⟨_,mem_lookup h,.inr rfl⟩
 obtain ⟨kk,hk,hkk⟩:=h';unfold Cq at hk;obtain ⟨⟨n,k'⟩,hm,he⟩:=Ah.mp hk;dsimp only at he;have fin:(x,NameKind.free)∈scope.names->x=kx \/ ∃ c,cl.lookup x=some c:=fun z=>by
  obtain ⟨c,hc⟩:=(_Kx k.clo).2 x z;exact .inr (_kw hc)
 split at he
 ·rename_i hc
  cases he;simp only [C0,beq_iff_eq] at hc;rw [hc.1.1] at hm;exact fin hm
 ·cases he
  rcases hkk with rfl | rfl
  ·exact .inl (k.cell _ hm rfl)
  ·exact fin hm
end
section
variable {env:Env} {es:List Expr} {p:Pos}
end
section
variable {X:Cx} {a:Expr} {es:List Expr} {pos:Pos} {x1:Nat} {f:FE} {g:FA} {o:FO} {u:FAO}
end
section
variable {X:Cx} {a e:Expr} {pos pos':Pos} {o:FO}
end
section
variable {P:Ak} {w:World} {K:Frag} {mg:Str->Option Value} {base:Heap}
end
end DL
set_option maxHeartbeats 1000000
namespace SortW
open PySem PySem.W PyProof.Rows
def _qt3 {α:Type} (lt:Nat->Nat->Bool):KasT α->α
 | .ret a=>a
 | .ask i j k=>_qt3 lt (k (lt i j))
theorem _xx {α β:Type} (lt:Nat->Nat->Bool):∀ (t:KasT α) (f:α->KasT β),_qt3 lt (t.bind f)=_qt3 lt (f (_qt3 lt t))
 | .ret a,f=>by simp [L7,_qt3]
 | .ask i j k,f=>by
  rw [L7];show _qt3 lt ((k (lt i j)).bind f)=_;rw [_xx lt (k (lt i j)) f];rfl
def at0 (p:Array Nat) (i:Nat):Nat:=p.getD i 0
theorem _wd (p:Array Nat) (i:Nat):at0 p i=(p[i]?).getD 0:=by simp [at0]
structure Ord (n:Nat) (lt:Nat->Nat->Bool):Prop where
 trans:∀ a b c,lt a b=true->lt b c=true->lt a c=true
 asym:∀ a b,lt a b=true->lt b a=false
 total:∀ a b,a < n->b < n->a ≠ b->lt a b=false->lt b a=true
def SP (lt:Nat->Nat->Bool) (p:Array Nat) (k:Nat):Prop:=∀ i j,i < j->j < k->lt (at0 p i) (at0 p j)=true
section
variable {n:Nat} {lt:Nat->Nat->Bool} (O:Ord n lt)
def PA (n:Nat) (p:Array Nat):Prop:=p.Perm (Ar n).toArray
theorem PA.size {p:Array Nat} (h:PA n p):p.size=n:=by
 have:=h.size_eq
 simpa using this
theorem PA.bd {p:Array Nat} (h:PA n p) {i:Nat} (hi:i < n):at0 p i < n:=by
 have hs:i < p.size:=by rw [h.size]; exact hi
 have:p[i]∈(Ar n).toArray:=(Array.Perm.mem_iff h).mp (Array.getElem_mem hs)
 have e:at0 p i=p[i]:=by simp [at0,hs]
 rw [e];simpa using this
theorem PA.ne {p:Array Nat} (h:PA n p) {i j:Nat} (hi:i < n) (hj:j < n) (hij:i ≠ j):at0 p i ≠ at0 p j:=by
 have hl:p.toList.Perm (Ar n):=by simpa using h.toList
 have hn:p.toList.Nodup:=hl.nodup_iff.mpr Iu;have hsi:i < p.toList.length:=by rw [length_toList,h.size]; exact hi
 have hsj:j < p.toList.length:=by rw [length_toList,h.size]; exact hj
 have ei:at0 p i=p.toList[i]:=by simp [at0,show i < p.size by simpa using hsi]
 have ej:at0 p j=p.toList[j]:=by simp [at0,show j < p.size by simpa using hsj]
 rw [ei,ej];exact fun e=>hij ((getElem_inj hn).mp e)
include O
theorem flip {p:Array Nat} (h:PA n p) {i j:Nat} (hi:i < n) (hj:j < n) (hij:i ≠ j) (hf:lt (at0 p i) (at0 p j)=false):lt (at0 p j) (at0 p i)=true:=O.total _ _ (h.bd hi) (h.bd hj) (h.ne hi hj hij) hf
theorem SP.succ {p:Array Nat} {k:Nat} (hs:SP lt p k) (h1:1 <= k) (hl:lt (at0 p (k - 1)) (at0 p k)=true):SP lt p (k + 1):=by
 intro i j hij hj
 by_cases e:j=k
 ·subst e
  by_cases e2:i=j - 1
  ·subst e2; exact hl
  ·exact O.trans _ _ _ (hs i (j - 1) (by omega) (by omega)) hl
 ·exact hs i j hij (by omega)
theorem _qjq {p:Array Nat} (h:PA n p):∀ (f x:Nat),1 <= x->x + f <= n->SP lt p x->x <= _qt3 lt (Dj p f x)/\_qt3 lt (Dj p f x) <= x + f/\SP lt p (_qt3 lt (Dj p f x))/\(_qt3 lt (Dj p f x) < x + f->lt (at0 p (_qt3 lt (Dj p f x))) (at0 p (_qt3 lt (Dj p f x) - 1))=true)
 | 0,x,h1,h2,hs=>by
  rw [Dj];exact ⟨le_refl _,le_refl _,hs,fun z=>by simp [_qt3] at z⟩
 | f + 1,x,h1,h2,hs=>by
  rw [Dj];show _ <= _qt3 lt (if lt (at0 p x) (at0 p (x - 1))=true then KasT.ret x else Dj p f (x + 1))/\_qt3 lt (if lt (at0 p x) (at0 p (x - 1))=true then KasT.ret x else Dj p f (x + 1)) <= _/\SP lt p (_qt3 lt (if lt (at0 p x) (at0 p (x - 1))=true then KasT.ret x else Dj p f (x + 1)))/\(_qt3 lt (if lt (at0 p x) (at0 p (x - 1))=true then KasT.ret x else Dj p f (x + 1)) < _->lt (at0 p (_qt3 lt (if lt (at0 p x) (at0 p (x - 1))=true then KasT.ret x else Dj p f (x + 1)))) (at0 p (_qt3 lt (if lt (at0 p x) (at0 p (x - 1))=true then KasT.ret x else Dj p f (x + 1)) - 1))=true);cases hc:lt (at0 p x) (at0 p (x - 1)) with
  | true =>
   simp only [if_true,_qt3];exact ⟨le_refl _,by omega,hs,fun _=>hc⟩
  | false =>
   simp only [Aw,if_false];have hl:=flip O h (i:=x) (j:=x - 1) (by omega) (by omega) (by omega) hc;obtain ⟨a,b,c,d⟩:=_qjq h f (x + 1) (by omega) (by omega) (SP.succ O hs h1 hl);exact ⟨by omega,by omega,c,fun z=>d (by omega)⟩
def DP (lt:Nat->Nat->Bool) (p:Array Nat) (k:Nat):Prop:=∀ i j,i < j->j < k->lt (at0 p j) (at0 p i)=true
theorem _qga {p:Array Nat} (h:PA n p):∀ (f k:Nat),1 <= k->k + f <= n->DP lt p k->∃ m,_qt3 lt (Gm f p k 0)=(p,m,0)/\k <= m/\m <= k + f/\DP lt p m
 | 0,k,h1,h2,hd=>⟨k,by rw [Gm]; rfl,le_refl _,le_refl _,hd⟩
 | f + 1,k,h1,h2,hd=>by
  rw [Gm];show ∃ m,_qt3 lt (if lt (at0 p k) (at0 p (k - 1))=true then if 0 > 0 then _ else Gm f p (k + 1) 0 else KasT.ask (at0 p (k - 1)) (at0 p k) fun d=>if d=true then KasT.ret (p,k,0) else Gm f p (k + 1) (0 + 1))=_/\_;cases hc:lt (at0 p k) (at0 p (k - 1)) with
  | true =>
   simp only [if_true,lt_irrefl,gt_iff_lt,if_false];have hd':DP lt p (k + 1):=by
    intro i j hij hj
    by_cases e:j=k
    ·subst e
     by_cases e2:i=j - 1
     ·subst e2; exact hc
     ·exact O.trans _ _ _ hc (hd i (j - 1) (by omega) (by omega))
    ·exact hd i j hij (by omega)
   obtain ⟨m,m1,m2,m3,m4⟩:=_qga h f (k + 1) (by omega) (by omega) hd';exact ⟨m,m1,by omega,by omega,m4⟩
  | false =>
   simp only [Aw,if_false];have hl:=flip O h (i:=k) (j:=k - 1) (by omega) (by omega) (by omega) hc;refine ⟨k,?_,le_refl _,by omega,hd⟩;show _qt3 lt (if lt (at0 p (k - 1)) (at0 p k)=true then KasT.ret (p,k,0) else Gm f p (k + 1) (0 + 1))=_;rw [hl];rfl
omit O in
theorem _qkt {p:Array Nat} {m:Nat} (hm:m <= p.size) (k:Nat):at0 (Mj p 0 m) k=if k < m then at0 p (m - 1 - k) else at0 p k:=by
 rw [_wd,_wd,_wd];unfold Mj;rw [getElem?_mirror_all hm];simp only [zero_le,true_and,Nat.zero_add];split <;> rfl
theorem _qkc {p:Array Nat} (h:PA n p) {m:Nat} (h1:1 <= m) (hm:m <= n) (hd:DP lt p m):∃ c q,_qt3 lt (L8 m n p)=(c,q)/\PA n q/\1 <= c/\c <= n/\SP lt q c:=by
 have hq:PA n (Mj p 0 m):=(mirror_perm _ _ _ _).trans h;have hs:SP lt (Mj p 0 m) m:=by
  intro i j hij hj;have hz:m <= p.size:=by rw [h.size]; exact hm
  rw [_qkt hz,_qkt hz,if_pos (by omega),if_pos hj];exact hd _ _ (by omega) (by omega)
 obtain ⟨a,b,c,_⟩:=_qjq O hq (n - m) m h1 (by omega) hs;refine ⟨_,_,?_,hq,?_,?_,c⟩
 ·unfold L8
  rw [_xx];rfl
 ·omega
 ·omega
theorem _qje {p:Array Nat} (h:PA n p) (h1:1 <= n):∃ c q,_qt3 lt (L9 n p)=(c,q)/\PA n q/\1 <= c/\c <= n/\SP lt q c:=by
 have hs1:SP lt p 1:=fun i j hij hj=>by omega
 obtain ⟨a,b,c,d⟩:=_qjq O h (n - 1) 1 (le_refl _) (by omega) hs1;unfold L9;rw [_xx];generalize _qt3 lt (Dj p (n - 1) 1)=m at *
 by_cases e:m=n
 ·rw [if_pos (by simpa using e)]
  exact ⟨m,p,rfl,h,a,by omega,c⟩
 ·rw [if_neg (by simpa using e)]
  by_cases e2:m > 1
  ·rw [if_pos e2]
   have hl:=c 0 (m - 1) (by omega) (by omega);refine ⟨m,p,?_,h,a,by omega,c⟩;show _qt3 lt (if lt (at0 p 0) (at0 p (m - 1))=true then _ else _)=_;rw [hl];rfl
  ·rw [if_neg e2]
   have em:m=1:=by omega
   subst em;have hl:=d (by omega);have hd:DP lt p 2:=fun i j hij hj=>by
    have:i=0/\j=1:=by omega
    obtain ⟨rfl,rfl⟩:=this;exact hl
   obtain ⟨m,m1,m2,m3,m4⟩:=_qga O h (n - (1 + 1)) (1 + 1) (by omega) (by omega) hd;unfold Lx;rw [_xx,m1];simp only [gt_iff_lt,lt_irrefl,if_false];exact _qkc O h (by omega) (by omega) m4
theorem _X5 {p:Array Nat} (h:PA n p) {k:Nat} (hk:k < n) (hs:SP lt p k):∀ (f lo hi:Nat),lo <= hi->hi <= k->hi - lo <= f->(∀ i,i < lo->lt (at0 p i) (at0 p k)=true)->(∀ i,hi <= i->i < k->lt (at0 p k) (at0 p i)=true) ->
  _qt3 lt (Fg p k f lo hi) <= k/\(∀ i,i < _qt3 lt (Fg p k f lo hi)->lt (at0 p i) (at0 p k)=true)/\(∀ i,_qt3 lt (Fg p k f lo hi) <= i->i < k->lt (at0 p k) (at0 p i)=true)
 | 0,lo,hi,h1,h2,h3,ha,hb=>by
  rw [Fg]
  have:lo=hi:=by omega
  subst this;exact ⟨h2,ha,hb⟩
 | f + 1,lo,hi,h1,h2,h3,ha,hb=>by
  rw [Fg]
  by_cases e:lo ≥ hi
  ·rw [if_pos e]
   have:lo=hi:=by omega
   subst this;exact ⟨h2,ha,hb⟩
  ·rw [if_neg e]
   have hmid:(lo + hi) / 2 < hi/\lo <= (lo + hi) / 2:=by omega
   show _qt3 lt (if lt (at0 p k) (at0 p ((lo + hi) / 2))=true then _ else _) <= _/\_;simp only [_qt3];have eqd:lt (p.getD k 0) (p.getD ((lo + hi) / 2) 0)=lt (at0 p k) (at0 p ((lo + hi) / 2)):=rfl;rw [eqd];cases hc:lt (at0 p k) (at0 p ((lo + hi) / 2)) with
   | true =>
    simp only [if_true];refine _X5 h hk hs f lo ((lo + hi) / 2) hmid.2 (by omega) (by omega) ha fun i hi1 hi2=>?_
    by_cases e2:i=(lo + hi) / 2
    ·subst e2; exact hc
    ·exact O.trans _ _ _ hc (hs _ _ (by omega) hi2)
   | false =>
    simp only [Aw,if_false];have hl:=flip O h (i:=k) (j:=(lo + hi) / 2) hk (by omega) (by omega) hc;refine _X5 h hk hs f ((lo + hi) / 2 + 1) hi (by omega) h2 (by omega) (fun i hi1=>?_) hb
    by_cases e2:i=(lo + hi) / 2
    ·subst e2; exact hl
    ·exact O.trans _ _ _ (hs i ((lo + hi) / 2) (by omega) (by omega)) hl
theorem _qne:∀ (f:Nat) (p:Array Nat) (x:Nat),PA n p->x + f=n->SP lt p x->PA n (_qt3 lt (Km f p x))/\SP lt (_qt3 lt (Km f p x)) n
 | 0,p,x,h,hx,hs=>by
  rw [Km]
  have:x=n:=by omega
  subst this;exact ⟨h,hs⟩
 | f + 1,p,x,h,hx,hs=>by
  rw [Km,_xx];obtain ⟨l1,l2,l3⟩:=_X5 O h (k:=x) (by omega) hs x 0 x (by omega) (le_refl _) (by omega) (fun i hi=>by omega) (fun i h1 h2=>by omega);generalize _qt3 lt (Fg p x x 0 x)=l at *;have hsz:x < p.size:=by rw [h.size]; omega
  have hat:∀ k,at0 (bubble p x (x - l)) k=if k=l then at0 p x else if l < k/\k <= x then at0 p (k - 1) else at0 p k:=by
   intro k;rw [_wd,_wd,_wd,_wd,getElem?_bubble hsz (x - l) (by omega),show x - (x - l)=l by omega];split
   ·rfl
   ·split <;> rfl
  refine _qne f (bubble p x (x - l)) (x + 1) ((bubble_perm _ _ _).trans h) (by omega) fun i j hij hj=>?_;rw [hat,hat]
  by_cases ei:i=l
  ·rw [if_pos ei,if_neg (by omega),if_pos (by omega)]
   exact l3 _ (by omega) (by omega)
  ·rw [if_neg ei]
   by_cases ej:j=l
   ·rw [if_pos ej,if_neg (by omega)]
    exact l2 i (by omega)
   ·rw [if_neg ej]
    by_cases ci:l < i/\i <= x
    ·rw [if_pos ci,if_pos (by omega)]
     exact hs _ _ (by omega) (by omega)
    ·rw [if_neg ci]
     by_cases cj:l < j/\j <= x
     ·rw [if_pos cj]
      exact hs _ _ (by omega) (by omega)
     ·rw [if_neg cj]
      exact hs _ _ hij (by omega)
theorem _qfb (h1:1 <= n):PA n (_qt3 lt (Hm n))/\SP lt (_qt3 lt (Hm n)) n:=by
 have h0:PA n (Ar n).toArray:=Array.Perm.refl _;obtain ⟨c,q,e,hq,c1,c2,hs⟩:=_qje O h0 h1;unfold Hm;rw [_xx,e];dsimp only
 by_cases hc:c < n
 ·rw [if_pos hc,show max c 1=c by omega]
  exact _qne O (n - c) q c hq (by omega) hs
 ·rw [if_neg hc]
  have:c=n:=by omega
  subst this;exact ⟨hq,hs⟩
end
section
variable {prog:Ak} {w:World} {A:Around} {E:Value->Shared->Prop} {s:Shared}
theorem _vv {a:Addr} {vs:List Value} {n:Nat} {P:Ma->Shared->Prop} (ho:s.heap.get? a=some (Bq "list" vs.toArray n)) (h64:vs.length < 64) (h2:2 <= vs.length)
  (h:wpAny (model prog w) A (keyKind' vs.toArray) (fun κ s'=>Ld (kas_ask prog w A κ vs) (Hm vs.length) (fun p s''=>s''=s'/\s'={ s with heap:=((s.heap.update a (Bg fun _=>#[])).push (Bq "tuple" vs.toArray 0)).push (Bq "list" #[] 0) }/\P (.done (.ret .none)) { s with heap:=Jf s.heap a vs ((p.toList.map fun i=>vs.getD i .none).toArray) }) s') (fun _ _=>False) { s with heap:=((s.heap.update a (Bg fun _=>#[])).push (Bq "tuple" vs.toArray 0)).push (Bq "list" #[] 0) }) :
  wpAny (model prog w) A (Builtin.«list.sort» { pos:=[Value.ref a] }) P E s:=by
 rw [list_sort_plain a];have ha:=Af ho;refine Ac (Ly ho rfl (Ac (Gj ho rfl ?_)));obtain ⟨e1,ho1⟩:∃ e1,(s.heap.update a (Bg fun _=>#[])).get? a=some (Bq "list" #[] e1):=⟨_,Jr ho fun _=>#[]⟩;refine Ac (Kf ho1 rfl (Ac (Fm (Ac (Gi (Ba ?_))))));have ho6:(((s.heap.update a (Bg fun _=>#[])).push (Bq "tuple" vs.toArray 0)).push (Bq "list" #[] 0)).get? a=some (Bq "list" #[] e1):=by
  rw [Ep _ _ _ (by rw [Je,Ci]; exact ne_of_lt (lt_succ_of_lt ha)),Ep _ _ _ (by rw [Ci]; exact ne_of_lt ha)];exact ho1
 have hsz:¬ vs.toArray.size < 2:=by simp; omega
 refine (?_:wpAny (model prog w) A (if vs.toArray.size < 2 then _ else _) P E { s with heap:=((s.heap.update a (Bg fun _=>#[])).push (Bq "tuple" vs.toArray 0)).push (Bq "list" #[] 0) });rw [if_neg hsz];refine Ac (Bj h (fun κ s' hk=>?_) (fun _ _ z=>z.elim));rw [if_neg hsz];refine Ac (Bj (kat_run (ks:=vs) (vs:=vs) (E:=E) (Q:=fun st' s''=>∃ p:Array Nat,p.size=vs.length/\arrOf st'=Kn (kas_item (vs.toArray.zip vs.toArray)) p/\failedOf st'=none/\_) rfl h2 h64 (fun p st' s'' hp harr hfail hG=>⟨p,hp,harr,hfail,hG⟩) hk) (fun r s'' hQ=>?_) (fun _ _ z=>z));obtain ⟨p,hps,harr,hfail,rfl,rfl,hP⟩:=hQ;have hs:=kat_snds (vs:=vs) (ks:=vs) rfl harr;obtain ⟨u,st'⟩:=r;dsimp only at hs harr hfail ⊢;refine Ac (Kf ho6 rfl ?_);have hz1:(Kn (fun x=>x.snd) (arrOf st')).size <= Aj + 1:=by rw [hs]; simp [hps,Ao]; omega
 refine Ac (Gj ho6 rfl ?_ (by simp) hz1);simp only [hfail,bne_self_eq_false,Aw,if_false];refine Ad ?_;rw [hs];exact hP
end
def inR {α:Type} (n:Nat) (G:α->Prop):KasT α->Prop
 | .ret a=>G a
 | .ask i j k=>i < n/\j < n/\∀ b,inR n G (k b)
theorem _vi {α β:Type} {n:Nat} {G:α->Prop} {G':β->Prop}:∀ (t:KasT α) (f:α->KasT β),inR n G t->(∀ a,G a->inR n G' (f a))->inR n G' (t.bind f)
 | .ret a,f,h,k=>by rw [L7]; exact k a h
 | .ask i j g,f,h,k=>by
  rw [L7];exact ⟨h.1,h.2.1,fun b=>_vi (g b) f (h.2.2 b) k⟩
theorem PA.all {n:Nat} {p:Array Nat} (h:PA n p) (hn:1 <= n) (i:Nat):p.getD i 0 < n:=by
 by_cases hi:i < n
 ·exact h.bd hi
 ·have:p.getD i 0=0:=by
   have hs:=h.size;simp [Array.getD,show ¬ i < p.size by omega]
  rw [this]; omega
section
variable {n:Nat} (hn:1 <= n)
include hn
theorem _qjr {p:Array Nat} (h:PA n p):∀ (f x:Nat),inR n (fun _=>True) (Dj p f x)
 | 0,x=>by rw [Dj]; trivial
 | f + 1,x=>by
  rw [Dj];refine ⟨h.all hn _,h.all hn _,fun b=>?_⟩;cases b
  ·simpa using _qjr h f (x + 1)
  ·trivial
theorem _Y1 {p:Array Nat} (h:PA n p) (i j:Nat):PA n (Mj p i j):=(mirror_perm _ _ _ _).trans h
theorem _Ks:∀ (f:Nat) (p:Array Nat) (k e:Nat),PA n p->inR n (fun r=>PA n r.1) (Gm f p k e)
 | 0,p,k,e,h=>by rw [Gm]; exact h
 | f + 1,p,k,e,h=>by
  rw [Gm];refine ⟨h.all hn _,h.all hn _,fun b=>?_⟩;cases b
  ·refine ⟨h.all hn _,h.all hn _,fun d=>?_⟩
   cases d
   ·simpa using _Ks f p (k + 1) (e + 1) h
   ·exact h
  ·by_cases c:e > 0
   ·simp only [if_true,if_pos c]
    exact _Ks f _ _ _ (_Y1 hn h _ _)
   ·simp only [if_true,if_neg c]
    exact _Ks f _ _ _ h
theorem _qf5 {p:Array Nat} (h:PA n p) (m nrem:Nat):inR n (fun r=>PA n r.2) (L8 m nrem p):=by
 unfold L8;exact _vi _ _ (_qjr hn (_Y1 hn h _ _) _ _) fun a _=>_Y1 hn h _ _
theorem _Qb {p:Array Nat} (h:PA n p) (m nrem:Nat):inR n (fun r=>PA n r.2) (Lx m nrem p):=by
 unfold Lx;refine _vi _ _ (_Ks hn _ _ _ _ h) fun r hr=>?_;split
 ·exact _qf5 hn (_Y1 hn hr _ _) _ _
 ·exact _qf5 hn hr _ _
theorem _qjf {p:Array Nat} (h:PA n p) (nrem:Nat):inR n (fun r=>PA n r.2) (L9 nrem p):=by
 unfold L9;refine _vi _ _ (_qjr hn h _ _) fun m _=>?_;split
 ·exact h
 ·split
  ·refine ⟨h.all hn _,h.all hn _,fun b=>?_⟩
   cases b
   ·simpa using _Qb hn (_Y1 hn h _ _) _ _
   ·exact h
  ·exact _Qb hn h _ _
theorem _X6 {p:Array Nat} (h:PA n p) (k:Nat):∀ (f lo hi:Nat),inR n (fun _=>True) (Fg p k f lo hi)
 | 0,lo,hi=>by rw [Fg]; trivial
 | f + 1,lo,hi=>by
  rw [Fg];split
  ·trivial
  ·refine ⟨h.all hn _,h.all hn _,fun b=>?_⟩
   cases b
   ·simpa using _X6 h k f ((lo + hi) / 2 + 1) hi
   ·simpa using _X6 h k f lo ((lo + hi) / 2)
theorem _qnf:∀ (f:Nat) (p:Array Nat) (x:Nat),PA n p->inR n (fun r=>PA n r) (Km f p x)
 | 0,p,x,h=>by rw [Km]; exact h
 | f + 1,p,x,h=>by
  rw [Km];exact _vi _ _ (_X6 hn h _ _ _ _) fun l _=>_qnf f _ _ ((bubble_perm _ _ _).trans h)
theorem _qfc:inR n (fun r=>PA n r) (Hm n):=by
 have h0:PA n (Ar n).toArray:=Array.Perm.refl _;unfold Hm;refine _vi _ _ (_qjf hn h0 _) fun r hr=>?_;split
 ·exact _qnf hn _ _ _ hr
 ·exact hr
end
theorem _Zs {α:Type} {n:Nat} {lt:Nat->Nat->Bool} {cmp:Nat->Nat->(Bool->Shared->Prop)->Shared->Prop} {s:Shared} (hc:∀ i j C,i < n->j < n->C (lt i j) s->cmp i j C s) {G':α->Prop} {G:α->Shared->Prop}:∀ (t:KasT α),inR n G' t->G (_qt3 lt t) s->Ld cmp t G s
 | .ret a,_,h=>by rw [Ld]; exact h
 | .ask i j k,hi,h=>by
  rw [Ld];exact hc i j _ hi.1 hi.2.1 (_Zs hc (k (lt i j)) (hi.2.2 _) h)
def lexB (p q:Int × Int):Bool:=if p.1=q.1 then decide (p.2 < q.2) else decide (p.1 < q.1)
section
variable {prog:Ak} {w:World} {A:Around} {E:Value->Shared->Prop} {s:Shared}
theorem _ql8 {x y:Addr} {ox oy:Obj} {n k:Nat} {a b c d:Int} {t1 t2 t3 t4:Tok} {C:Bool->Shared->Prop} (hx:s.heap.get? x=some ox) (dx:ox.data=.seq #[.int a t1,.int b t2] n) (hy:s.heap.get? y=some oy) (dy:oy.data=.seq #[.int c t3,.int d t4] k) (h:C (lexB (a,b) (c,d)) s) :
  wpAny (model prog w) A (keyLt' (tuples' true) (.ref x) (.ref y)) C E s:=by
 refine kat_lt hx dx hy dy ?_;show KatLex prog w A true _ C [(Value.int a t1,Value.int c t3),(Value.int b t2,Value.int d t4)] 0 s;rw [KatLex];refine Ez ?_;unfold lexB at h
 by_cases e1:a=c
 ·rw [if_pos (by simpa using e1),KatLex]
  simp only [e1,if_true] at h;refine Ez ?_
  by_cases e2:b=d
  ·rw [if_pos (by simpa using e2),KatLex]
   subst e2;simpa using h
  ·rw [if_neg (by simpa using e2)]
   refine kat_one _ _ ?_;exact G3 h
 ·rw [if_neg (by simpa using e1)]
  simp only [e1,if_false] at h;exact oneLt_int h
def _Ww (h:Heap) (v:Value) (p:Int × Int):Prop:=∃ (x:Addr) (o:Obj) (n:Nat) (t1 t2:Tok),v=.ref x/\h.get? x=some o/\o.cls=.type "tuple"/\o.data=.seq #[.int p.1 t1,.int p.2 t2] n
theorem _qif {n:Nat} {key:Nat->Int × Int} (hinj:∀ i j,i < n->j < n->key i=key j->i=j):Ord n fun i j=>lexB (key i) (key j) where
 trans:=by
  intro a b c h1 h2;unfold lexB at *;generalize key a=x at *;generalize key b=y at *;generalize key c=z at *;split at h1 <;> split at h2 <;> split <;> simp at * <;> omega
 asym:=by
  intro a b h1;unfold lexB at *;generalize key a=x at *;generalize key b=y at *;split at h1 <;> split <;> simp at * <;> omega
 total:=by
  intro a b ha hb hab h1;have hne:key a ≠ key b:=fun e=>hab (hinj a b ha hb e);unfold lexB at *;generalize key a=x at *;generalize key b=y at *;obtain ⟨x1,x2⟩:=x;obtain ⟨y1,y2⟩:=y;simp at hne;split at h1 <;> split <;> simp at * <;> omega
theorem _qew {vs:List Value} {ps:List (Int × Int)} (hl:ps.length=vs.length) (hp:∀ i,i < vs.length->_Ww s.heap (vs.getD i .none) (ps.getD i (0,0))) (i j:Nat) (C:Bool->Shared->Prop) (hi:i < vs.length) (hj:j < vs.length) (h:C (lexB (ps.getD i (0,0)) (ps.getD j (0,0))) s):kas_ask prog w A (tuples' true) vs i j C s:=by
 unfold kas_ask;obtain ⟨x,ox,n,t1,t2,e1,e2,_,e3⟩:=hp i hi;obtain ⟨y,oy,m,t3,t4,f1,f2,_,f3⟩:=hp j hj;rw [e1,f1];exact _ql8 e2 e3 f2 f3 h
end
section
variable {prog:Ak} {w:World} {A:Around} {E:Value->Shared->Prop} {s:Shared}
def _qu7 (h:Heap) (z TI TO:Addr) (T:Nat) (b:Bool):Prop:=h.get? z=some { cls:=.type "zip",data:=.fields #[B7 (T:Int),.bool b,.bool false,.ref TI,.ref TO] }
theorem _qgi {M:Model} {a:Addr} {Q:Option Obj->Shared->Prop} (h:Q (s.heap.get? a) s):wpAny M A (Me a) Q E s:=fun Γ p i=>by
 unfold Me;rw [Sem.wp_loadIfAlive];exact (Ad (M:=M) (A:=A) (E:=E) h) Γ p i
theorem _qu7.flag {h:Heap} {z TI TO:Addr} {T:Nat} {b:Bool} (hz:_qu7 h z TI TO T b):_qu7 (h.update z (Co fun f=>f.setIfInBounds 1 (.bool true))) z TI TO T true:=by
 unfold _qu7 at *;rw [Bf _ hz rfl];rfl
theorem _qam {z TI TO T:Addr} {fb:Bool} {oT:Obj} {Q:Bool->Shared->Prop} (hz:_qu7 s.heap z TI TO T fb) (hT:s.heap.get? T=some oT)
  (hQ:∀ h':Heap,_qu7 h' z TI TO T true->h'.objs.size=s.heap.objs.size->(∀ c,c ≠ z->h'.get? c=s.heap.get? c)->Q false { s with heap:=h' }):wpAny (model prog w) A (E7 (.ref z)) Q E s:=by
 unfold E7;refine Ac (Dk hz rfl rfl ?_);refine (?_:wpAny (model prog w) A (Me ((T:Int).toNat) >>= _) Q E s);refine Ac (_qgi ?_);rw [A9,hT];refine As (fun h=>by simp at h) fun _=>?_;refine Ac (Dk hz rfl rfl ?_);refine As (fun _=>?_) (fun h=>?_)
 ·refine Ac (Ce hz rfl (by simp) ?_)
  exact Ad (hQ _ hz.flag (by rw [Ci]) fun c hc=>Au _ _ (B4 hc))
 ·refine Ad ?_
  have e:fb=true:=by
   cases fb with
   | true=>rfl
   | false=>exact absurd rfl h
  subst e;exact hQ s.heap hz rfl fun _ _=>rfl
theorem _qgh {z TI TO i1 i2 l1 l2 T:Addr} {fb:Bool} {oT:Obj} {k1 k2:Nat} {xs ys:Array Value} {x y:Value} {Q:Value->Shared->Prop} (ap:J5 z TI TO i1 i2 l1 l2) (hz:_qu7 s.heap z TI TO T fb) (hT:s.heap.get? T=some oT)
  (hTI:Ga s.heap TI (.ref i1) (.ref i2)) (h1:s.heap.IsListIter i1 l1 k1) (h2:s.heap.IsListIter i2 l2 k2) (hl1:s.heap.IsList l1 xs) (hl2:s.heap.IsList l2 ys) (hx:xs[k1]?=some x) (hy:ys[k2]?=some y)
  (hQ:∀ h':Heap,_qu7 h' z TI TO T true->h'.IsListIter i1 l1 (k1 + 1)->h'.IsListIter i2 l2 (k2 + 1)->Ga h' s.heap.objs.size x y->h'.objs.size=s.heap.objs.size + 1->(∀ c o,c ≠ z->c ≠ i1->c ≠ i2->s.heap.get? c=some o->h'.get? c=some o) ->
   Q (.ref s.heap.objs.size) { s with heap:=h' }) :
  wpAny (model prog w) A (Builtin.«zip.__next__» { pos:=[.ref z] }) (fun fin s'=>∃ v,fin=.done (.ret v)/\Q v s') E s:=by
 unfold Builtin.«zip.__next__»;refine Ac (Ad ?_);dsimp only;refine Ac (Dk hz rfl rfl ?_);refine Ac (Dk hz rfl rfl ?_);refine Ac (wpAny_seqItems hTI rfl ?_);refine As (fun h=>absurd h (by simp)) fun _=>?_;refine Ac (_qam hz hT fun h0 hz0 hsz0 hk0=>?_);refine As (fun h=>absurd h (by simp)) fun _=>?_;have h10:h0.IsListIter i1 l1 k1:=h1.at fun o e=>by rw [hk0 _ ap.i1z]; exact e
 have h20:h0.IsListIter i2 l2 k2:=h2.at fun o e=>by rw [hk0 _ ap.i2z]; exact e
 have hl10:h0.IsList l1 xs:=hl1.at fun o e=>by rw [hk0 _ ap.l1z]; exact e
 have hl20:h0.IsList l2 ys:=hl2.at fun o e=>by rw [hk0 _ ap.l2z]; exact e
 refine Ac ?_;rw [<- Le];show wpAny _ _ (forIn [Value.ref i1,Value.ref i2] _ _) _ _ _;rw [forIn_cons];refine Ac (Ac (Ba ?_));change wpAny _ _ (if _=true then _ else (E4 (.ref i1) >>= fun v=>pure (some v))) _ _ _;refine As (fun h=>(An h).elim) fun _=>?_;refine Ac (Jg (s:={ s with heap:=h0 }) h10 hl10 hx fun hA itA sbA=>Ad ?_);refine Ad ?_;show wpAny _ _ (forIn [Value.ref i2] _ _) _ _ _;rw [forIn_cons];have hkA:∀ c,c ≠ i1->hA.get? c=h0.get? c:=fun c hc=>sbA.2 c hc;have h2A:hA.IsListIter i2 l2 k2:=h20.at fun o e=>by rw [hkA _ ap.i12.symm]; exact e
 have hl2A:hA.IsList l2 ys:=hl20.at fun o e=>by rw [hkA _ ap.l2i1]; exact e
 refine Ac (Ac (Ba ?_));change wpAny _ _ (if _=true then _ else (E4 (.ref i2) >>= fun v=>pure (some v))) _ _ _;refine As (fun h=>(An h).elim) fun _=>?_;refine Ac (Jg (s:={ s with heap:=hA }) h2A hl2A hy fun hB itB sbB=>Ad ?_);refine Ad ?_;show wpAny _ _ (forIn ([]:List Value) _ _) _ _ _;rw [List.forIn_nil];refine Ad ?_;have hkB:∀ c,c ≠ i2->hB.get? c=hA.get? c:=fun c hc=>sbB.2 c hc;refine Ac (Fm ?_ (by simp [Ao]));refine Ad ⟨_,rfl,?_⟩;have hsz:hB.objs.size=s.heap.objs.size:=by
  have a1:=sbA.1;have a2:=sbB.1;rw [a2,a1]; exact hsz0
 rw [hsz];have all:∀ c,c ≠ z->c ≠ i1->c ≠ i2->hB.get? c=s.heap.get? c:=fun c c1 c2 c3=>by rw [hkB c c3,hkA c c2,hk0 c c1]
 have ltz:z < s.heap.objs.size:=Af hz;have lt1:i1 < s.heap.objs.size:=let ⟨o,ho,_⟩:=h1; Af ho;have lt2:i2 < s.heap.objs.size:=let ⟨o,ho,_⟩:=h2; Af ho;have np:∀ c,c < s.heap.objs.size->∀ o,(hB.push o).get? c=hB.get? c:=fun c hc o=>Ep _ _ _ (by rw [hsz]; exact ne_of_lt hc);refine hQ _ ?_ ?_ ?_ ?_ ?_ ?_
 ·unfold _qu7
  rw [np z ltz,hkB z ap.i2z.symm,hkA z ap.i1z.symm];exact hz0
 ·exact itA.at fun o e=>by
   rw [np i1 lt1,hkB i1 ap.i12]; exact e
 ·exact itB.at fun o e=>by rw [np i2 lt2]; exact e
 ·rw [<- hsz]
  exact Ag _ rfl
 ·rw [By,hsz]
 ·intro c o c1 c2 c3 e
  rw [np c (Af e),all c c1 c2 c3];exact e
end
section
variable {prog:Ak} {w:World} {A:Around} {E:Value->Shared->Prop} {s:Shared}
theorem _Xl {z TI TO i1 i2 l1 l2 T:Addr} {fb:Bool} {oT:Obj} {k1:Nat} {xs:Array Value} {Q:Ma->Shared->Prop} (hh:A.handled=none) (ap:J5 z TI TO i1 i2 l1 l2) (hz:_qu7 s.heap z TI TO T fb) (hT:s.heap.get? T=some oT)
  (hTI:Ga s.heap TI (.ref i1) (.ref i2)) (h1:s.heap.IsListIter i1 l1 k1) (hl1:s.heap.IsList l1 xs) (hx:xs[k1]?=none)
  (hE:∀ (h':Heap) (e:Addr),(∀ c o,c ≠ z->c ≠ i1->s.heap.get? c=some o->h'.get? c=some o)->(∃ o,h'.get? e=some o/\o.cls=.type "StopIteration")->E (.ref e) { s with heap:=h' }) :
  wpAny (model prog w) A (Builtin.«zip.__next__» { pos:=[.ref z] }) Q E s:=by
 unfold Builtin.«zip.__next__»;refine Ac (Ad ?_);dsimp only;refine Ac (Dk hz rfl rfl ?_);refine Ac (Dk hz rfl rfl ?_);refine Ac (wpAny_seqItems hTI rfl ?_);refine As (fun h=>absurd h (by simp)) fun _=>?_;refine Ac (_qam hz hT fun h0 hz0 hsz0 hk0=>?_);refine As (fun h=>absurd h (by simp)) fun _=>?_;have h10:h0.IsListIter i1 l1 k1:=h1.at fun o e=>by rw [hk0 _ ap.i1z]; exact e
 have hl10:h0.IsList l1 xs:=hl1.at fun o e=>by rw [hk0 _ ap.l1z]; exact e
 refine Ac ?_;rw [<- Le];show wpAny _ _ (forIn [Value.ref i1,Value.ref i2] _ _) _ _ _;rw [forIn_cons];refine Ac (Ac (Ba ?_));change wpAny _ _ (if _=true then _ else (E4 (.ref i1) >>= fun v=>pure (some v))) _ _ _;refine As (fun h=>(An h).elim) fun _=>?_;refine Ac (wpAny_nextOf_list_end (s:={ s with heap:=h0 }) hh h10 hl10 hx fun hA e ex st=>?_);exact hE hA e (fun c o c1 c2 q=>ex c o c2 (by rw [hk0 c c1]; exact q)) st
theorem _kx:isSubtype (.type "StopIteration") (.type "StopIteration")=pure true:=by rw [Hl]; kernel_rfl
theorem _w3 {z:Addr} {Q:Option Value->Shared->Prop} (ht:s.TypeIs (.ref z) "zip")
  (h:wpAny (model prog w) A.in1 (Builtin.«zip.__next__» { pos:=[.ref z] }) (fun fin s'=>∃ v,fin=.done (.ret v)/\Q (some v) s') (fun e s'=>s'.TypeIs e "StopIteration"/\Q none s') s) :
  wpAny (model prog w) A (Dt (.ref z)) Q E s:=by
 unfold Dt;refine Ac (Eg (Bl (name:=Cu "__next__") ht F.slot_zip_next (Ax F.slot_zip_next ht F.entry_zip_next ?_ (F.args_zip_next_1 _))));refine Bj h (fun fin s' hq=>?_) (fun e s' hq=>?_)
 ·obtain ⟨v,rfl,hq⟩:=hq
  exact ⟨v,rfl,Ad hq⟩
 ·obtain ⟨t,hq⟩:=hq
  refine Ac (Dv (T:="StopIteration") (b:=true) t _kx ?_);exact Ad hq
end
section
variable {prog:Ak} {w:World} {A:Around} {E:Value->Shared->Prop} {s:Shared}
theorem _Zm:K7 (.type "zip") "__len__"=pure none:=by rw [Gw,Ej]; kernel_rfl
theorem _J2:K7 (.type "zip") "__length_hint__"=pure none:=by rw [Gw,Ej]; kernel_rfl
theorem _qin {r:Addr} {Q:Bool->Shared->Prop} (hT:s.TypeIs (.ref r) "zip") (h:Q true s):wpAny (model prog w) A (Cv (.ref r)) Q E s:=by
 unfold Cv;refine Ac (Gx hT _Zm ?_);dsimp only;refine As (fun hab=>absurd hab (by decide)) (fun _=>?_);refine As (fun hab=>absurd hab (by decide)) (fun _=>?_);refine Ac (Gx hT _J2 ?_);exact Ad h
theorem _zh {a b:Addr} {n:Nat} (h1:n > a) (h2:n <= b):b ≠ a:=fun e=>absurd h1 (La.mpr (e ▸ h2))
structure ZSt (h:Heap) (z TI TO i1 i2 l1 l2 S:Addr) (xs ys:Array Value) (N0:Nat) (Ts:List Addr) (c:Nat):Prop where
 zs:(Ts=[]/\IsZip h z TI TO .none/\∃ a b,Ga h TO a b) \/ (∃ T fb oT,_qu7 h z TI TO T fb/\h.get? T=some oT/\N0 <= T)
 ti:Ga h TI (.ref i1) (.ref i2)
 a1:h.IsListIter i1 l1 Ts.length
 a2:h.IsListIter i2 l2 Ts.length
 la1:h.IsList l1 xs
 la2:h.IsList l2 ys
 ls:h.get? S=some { cls:=.type "list",data:=.seq (Ts.map Value.ref).toArray c }
 tup:∀ (j:Nat) (T:Addr),Ts[j]?=some T->N0 <= T/\∃ x y,xs[j]?=some x/\ys[j]?=some y/\Ga h T x y
theorem ZSt.type {h:Heap} {z TI TO i1 i2 l1 l2 S:Addr} {xs ys:Array Value} {N0:Nat} {Ts:List Addr} {c:Nat} (q:ZSt h z TI TO i1 i2 l1 l2 S xs ys N0 Ts c) (hs:s.heap=h):s.TypeIs (.ref z) "zip":=by
 subst hs;rcases q.zs with ⟨_,h,_⟩ | ⟨T,fb,oT,h,_⟩
 ·exact ⟨_,h,rfl⟩
 ·exact ⟨_,h,rfl⟩
theorem _qiy {z TI TO i1 i2 l1 l2 S:Addr} {xs ys:Array Value} {N0 n:Nat} {res:Value} {R:L3->Shared->Prop} (hh:A.handled=none) (ap:J5 z TI TO i1 i2 l1 l2) (hxs:xs.size=n) (hys:ys.size=n) (hn:n <= 1000) (h1n:1 <= n)
  (hS:S ≠ z/\S ≠ TI/\S ≠ TO/\S ≠ i1/\S ≠ i2/\S ≠ l1/\S ≠ l2) (hlt:N0 > z/\N0 > TO/\N0 > i1/\N0 > i2/\N0 > S) :
  ∀ (k:Nat) (s:Shared) (Ts:List Addr) (c:Nat),n - Ts.length=k->Ts.length <= n->N0 <= s.heap.objs.size->ZSt s.heap z TI TO i1 i2 l1 l2 S xs ys N0 Ts c ->
  (∀ (h':Heap) (Ts':List Addr) (c':Nat),Ts'.length=n->h'.get? S=some { cls:=.type "list",data:=.seq (Ts'.map Value.ref).toArray c' }->(∀ (j:Nat) (T:Addr),Ts'[j]?=some T->N0 <= T/\∃ x y,xs[j]?=some x/\ys[j]?=some y/\Ga h' T x y)->(∀ b o,b ∉ [S,z,TO,i1,i2]->s.heap.get? b=some o->h'.get? b=some o)->R (.ok (.ret res)) { s with heap:=h' }) ->
  Dp (model prog w) A (.builtin "list.extend.loop" ⟨[.ref S,.ref z,res],[]⟩) R s:=by
 intro k
 induction k with
 | zero =>
  intro s Ts c hk hle hsz q hR;have hTn:Ts.length=n:=by omega
  refine Bn Kr ?_;rw [Bc Bv _];show wpAny _ A.in1 (Dt (.ref z) >>= _) _ _ s;refine Ac (_w3 (A:=A.in1) (q.type rfl) ?_);have hx:xs[Ts.length]?=none:=by simp [hTn,hxs]
  rcases q.zs with ⟨e,_⟩ | ⟨T,fb,oT,hz,hT,hNT⟩
  ·subst e; simp at hTn; omega
  ·refine _Xl (A:=A.in1.in1) hh ap hz hT q.ti q.a1 q.la1 hx fun h' e hk' st=>⟨?_,?_⟩
   ·obtain ⟨o,ho,hc⟩:=st
    exact ⟨o,ho,hc⟩
   ·refine Ad ?_
    refine hR h' Ts c hTn (hk' S _ hS.1 hS.2.2.2.1 q.ls) (fun j T' hj=>?_) (fun b o hb e=>hk' b o (fun z=>hb (by simp [z])) (fun z=>hb (by simp [z])) e);obtain ⟨g1,x,y,g2,g3,g4⟩:=q.tup j T' hj;exact ⟨g1,x,y,g2,g3,hk' T' _ (_zh hlt.1 g1) (_zh hlt.2.2.1 g1) g4⟩
 | succ k ih =>
  intro s Ts c hk hle hsz q hR;have hlt':Ts.length < n:=by omega
  obtain ⟨x,hx⟩:∃ x,xs[Ts.length]?=some x:=⟨xs[Ts.length]'(by omega),by simp [hxs,hlt']⟩;obtain ⟨y,hy⟩:∃ y,ys[Ts.length]?=some y:=⟨ys[Ts.length]'(by omega),by simp [hys,hlt']⟩;refine Bn Kr ?_;rw [Bc Bv _];show wpAny _ A.in1 (Dt (.ref z) >>= _) _ _ s;refine Ac (_w3 (A:=A.in1) (q.type rfl) ?_);have step:∀ h':Heap,(∃ T fb oT,_qu7 h' z TI TO T fb/\h'.get? T=some oT/\N0 <= T)->h'.IsListIter i1 l1 (Ts.length + 1)->h'.IsListIter i2 l2 (Ts.length + 1)->Ga h' s.heap.objs.size x y->h'.objs.size=s.heap.objs.size + 1 ->
    (∀ b o,b ≠ z->b ≠ TO->b ≠ i1->b ≠ i2->s.heap.get? b=some o->h'.get? b=some o) ->
    wpAny (model prog w) A.in1 (match some (Value.ref s.heap.objs.size) with | none=>ret res | some x=>do Builtin.List.listUpdate (.ref S) fun x_1=>x_1.push x; again (.builtin "list.extend.loop" ⟨[.ref S,.ref z,res],[]⟩)) (fun fin s'=>match fin with | .done f=>R (.ok f) s' | .again c'=>c'.quiet=true/\Dp (model prog w) A c' R s') (fun e s'=>R (.error e) s') { s with heap:=h' }:=by
   intro h' hzs b1 b2 bp bsz bk;have hS':h'.get? S=some { cls:=.type "list",data:=.seq (Ts.map Value.ref).toArray c }:=bk S _ hS.1 hS.2.2.1 hS.2.2.2.1 hS.2.2.2.2.1 q.ls;refine Ac (Gj (s:={ s with heap:=h' }) hS' rfl ?_ (by simp [Ao]; omega) (by simp [Ao]; omega));refine Ad ⟨Cz Bv _,?_⟩;have oth:∀ b,b ≠ S->(h'.update S (Bg fun a=>a.push (.ref s.heap.objs.size))).get? b=h'.get? b:=fun b hb=>Au _ _ (B4 hb);obtain ⟨c2,hS2⟩:∃ c2,(h'.update S (Bg fun a=>a.push (.ref s.heap.objs.size))).get? S=some { cls:=.type "list",data:=.seq ((Ts++[s.heap.objs.size]).map Value.ref).toArray c2 }:=by
    have e:((Ts++[s.heap.objs.size]).map Value.ref).toArray=(Ts.map Value.ref).toArray.push (.ref s.heap.objs.size):=by simp
    rw [e];exact ⟨_,Jr (n:=c) hS' fun a=>a.push (.ref s.heap.objs.size)⟩
   have sel:S ≠ s.heap.objs.size:=(_zh hlt.2.2.2.2 hsz).symm;refine ih _ (Ts++[s.heap.objs.size]) c2 (by simp; omega) (by simp; omega) (by show N0 <= (h'.update S _).objs.size; rw [Ci,bsz]; omega) ⟨.inr ?_,?_,?_,?_,?_,?_,?_,fun j T hj=>?_⟩ fun h2 Ts2 c3 hl hs2 ht2 hk2=>?_
   ·obtain ⟨T,fb,oT,g1,g2,g3⟩:=hzs
    exact ⟨T,fb,oT,by unfold _qu7 at *; rw [oth z hS.1.symm]; exact g1,by rw [oth T (_zh hlt.2.2.2.2 g3)]; exact g2,g3⟩
   ·rw [Ga,oth TI hS.2.1.symm]
    exact bk TI _ ap.TIz ap.TITO ap.TIi1 ap.TIi2 q.ti
   ·simpa using b1.at fun o e=>by rw [oth i1 hS.2.2.2.1.symm]; exact e
   ·simpa using b2.at fun o e=>by rw [oth i2 hS.2.2.2.2.1.symm]; exact e
   ·exact q.la1.at fun o e=>by rw [oth l1 hS.2.2.2.2.2.1.symm]; exact bk l1 o ap.l1z ap.l1TO ap.l1i1 ap.l1i2 e
   ·exact q.la2.at fun o e=>by rw [oth l2 hS.2.2.2.2.2.2.symm]; exact bk l2 o ap.l2z ap.l2TO ap.l2i1 ap.l2i2 e
   ·exact hS2
   ·by_cases hj':j < Ts.length
    ·rw [C9 hj'] at hj
     obtain ⟨g1,x,y,g2,g3,g4⟩:=q.tup j T hj;refine ⟨g1,x,y,g2,g3,?_⟩;rw [Ga,oth T (_zh hlt.2.2.2.2 g1)];exact bk T _ (_zh hlt.1 g1) (_zh hlt.2.1 g1) (_zh hlt.2.2.1 g1) (_zh hlt.2.2.2.1 g1) g4
    ·have:j=Ts.length:=by
      have:=(Ai.mp hj).1
      simp at this; omega
     subst this;have hT:T=s.heap.objs.size:=by simpa using hj.symm
     subst hT;exact ⟨hsz,x,y,hx,hy,by rw [Ga,oth _ sel.symm]; exact bp⟩
   ·refine hR h2 Ts2 c3 hl hs2 ht2 fun b o hb e=>hk2 b o hb ?_
    simp only [mem_cons,not_mem_nil,or_false,not_or] at hb;show (h'.update S _).get? b=some o;rw [oth b hb.1];exact bk b o hb.2.1 hb.2.2.1 hb.2.2.2.1 hb.2.2.2.2 e
  rcases q.zs with ⟨e,hz,a,b,hTO⟩ | ⟨T,fb,oT,hz,hT,hNT⟩
  ·refine zip_next_item (A:=A.in1.in1) ap hz q.ti hTO q.a1 q.a2 q.la1 q.la2 hx hy fun h' z1 z2 z3 z4 z5 z6 z7=>?_
   exact step h' ⟨s.heap.objs.size,false,_,z1,z5,hsz⟩ z3 z4 z5 z6 fun b o b1 b2 b3 b4 e=>z7 b o b1 b2 b3 b4 e
  ·refine _qgh (A:=A.in1.in1) ap hz hT q.ti q.a1 q.a2 q.la1 q.la2 hx hy fun h' z1 z3 z4 z5 z6 z7=>?_
   exact step h' ⟨T,true,oT,z1,z7 T oT (_zh hlt.1 hNT) (_zh hlt.2.2.1 hNT) (_zh hlt.2.2.2.1 hNT) hT,hNT⟩ z3 z4 z5 z6 fun b o b1 b2 b3 b4 e=>z7 b o b1 b3 b4 e
end
section
variable {prog:Ak} {w:World} {A:Around} {E:Value->Shared->Prop} {s:Shared}
structure ZNew (h:Heap) (z TI TO i1 i2 l1 l2:Addr) (xs ys:Array Value):Prop where
 zs:IsZip h z TI TO .none
 ti:Ga h TI (.ref i1) (.ref i2)
 to:∃ a b,Ga h TO a b
 a1:h.IsListIter i1 l1 0
 a2:h.IsListIter i2 l2 0
 la1:h.IsList l1 xs
 la2:h.IsList l2 ys
theorem _Wr {z TI TO i1 i2 l1 l2:Addr} {xs ys:Array Value} {n:Nat} (hh:A.handled=none) (ap:J5 z TI TO i1 i2 l1 l2) (q:ZNew s.heap z TI TO i1 i2 l1 l2 xs ys) (hxs:xs.size=n) (hys:ys.size=n) (hn:n <= 1000) (h1n:1 <= n) {Q:List Value->Shared->Prop}
  (h:∀ (h':Heap) (Ts:List Addr),Ts.length=n->(∀ (j:Nat) (T:Addr),Ts[j]?=some T->s.heap.objs.size <= T/\∃ x y,xs[j]?=some x/\ys[j]?=some y/\Ga h' T x y)->s.heap.objs.size < h'.objs.size->(∀ b o,b ∉ [z,TO,i1,i2]->s.heap.get? b=some o->h'.get? b=some o)->Q (Ts.map Value.ref) { s with heap:=h' }) :
  wpAny (model prog w) A (Lt (.ref z)) Q E s:=by
 have ltz:z < s.heap.objs.size:=Af q.zs;have ltTI:TI < s.heap.objs.size:=Af q.ti;have ltTO:TO < s.heap.objs.size:=let ⟨a,b,h⟩:=q.to; Af h;have lt1:i1 < s.heap.objs.size:=let ⟨o,ho,_⟩:=q.a1; Af ho;have lt2:i2 < s.heap.objs.size:=let ⟨o,ho,_⟩:=q.a2; Af ho;have ltl1:l1 < s.heap.objs.size:=let ⟨o,ho,_⟩:=q.la1; Af ho;have ltl2:l2 < s.heap.objs.size:=let ⟨o,ho,_⟩:=q.la2; Af ho;unfold Lt;refine Ac (Hj (Bn Gk ?_));rw [Bc Eo _];show wpAny _ A.in1 (Mh [] >>= fun l=>again (.builtin "list.__iadd__" ⟨[l,.ref z],[]⟩)) _ _ s;refine Ac (A8 ?_);refine Ad ⟨Cz Cb _,Bn Is ?_⟩;rw [Bc Cb _];have hS₁:(s.heap.push { cls:=.type "list",data:=.seq ([]:List Value).toArray }).get? s.heap.objs.size=some { cls:=.type "list",data:=.seq #[] }:=Ag _ rfl;show wpAny _ A.in1 (Cc (.ref s.heap.objs.size) (.ref z) (.ref s.heap.objs.size)) _ _ _;have kp:∀ b o,s.heap.get? b=some o->(s.heap.push { cls:=.type "list",data:=.seq ([]:List Value).toArray }).get? b=some o:=fun b o e=>Ae _ e;have hz1:=kp _ _ q.zs;have tz:Gg { s with heap:=s.heap.push { cls:=.type "list",data:=.seq ([]:List Value).toArray } } (.ref z) "zip":=⟨_,hz1,rfl⟩;unfold Cc;refine Ac (Ls (T:="zip") tz ?_);have h1:Do (.ref s.heap.objs.size) (.ref z)=false:=by simp [Do]; exact ne_of_gt ltz
 simp only [h1,show (Value.type "zip" == Value.type "list")=false from by decide,show (Value.type "zip" == Value.type "tuple")=false from by decide,Kw,Aw,if_false];refine Ac (wpAny_pyIter_zip hz1 ?_);refine Ac (Ba (_qin tz ?_));have hsz1:(s.heap.push { cls:=.type "list",data:=.seq ([]:List Value).toArray }).objs.size=s.heap.objs.size + 1:=By ..;have ne:∀ a:Addr,a < s.heap.objs.size->s.heap.objs.size ≠ a:=fun a h=>ne_of_gt h;have key:∀ (h1':Heap) (c₁:Nat),h1'.objs.size=s.heap.objs.size + 1->(∀ b o,s.heap.get? b=some o->h1'.get? b=some o)->h1'.get? s.heap.objs.size=some { cls:=.type "list",data:=.seq #[] c₁ } ->
   Dp (model prog w) A (.builtin "list.extend.loop" ⟨[.ref s.heap.objs.size,.ref z,.ref s.heap.objs.size],[]⟩)
    (fun r s'=>match r with
     | .ok (.ret v)=>wpAny (model prog w) A (match v with
      | .ref a=>do
       let o <- load a
       match o.data with
       | .seq xs _=>pure xs.toList
       | _=>Ig "internal:collect"
      | _=>Ig "internal:collect") Q E s'
     | .ok _=>False
     | .error e=>E e s') { s with heap:=h1' }:=by
  intro h1' c₁ hsz hk1 hS1;refine _qiy (N0:=s.heap.objs.size + 1) (n:=n) (S:=s.heap.objs.size) hh ap hxs hys hn h1n ⟨ne _ ltz,ne _ ltTI,ne _ ltTO,ne _ lt1,ne _ lt2,ne _ ltl1,ne _ ltl2⟩ ⟨lt_succ_of_lt ltz,lt_succ_of_lt ltTO,lt_succ_of_lt lt1,lt_succ_of_lt lt2,lt_succ_self _⟩ (n - 0) _ [] c₁ rfl (zero_le _) (by show _ <= h1'.objs.size; omega)
   ⟨.inl ⟨rfl,hk1 _ _ q.zs,let ⟨a,b,h⟩:=q.to; ⟨a,b,hk1 _ _ h⟩⟩,hk1 _ _ q.ti,q.a1.at fun o e=>hk1 _ _ e,q.a2.at fun o e=>hk1 _ _ e,q.la1.at fun o e=>hk1 _ _ e,q.la2.at fun o e=>hk1 _ _ e,hS1,fun j T hj=>by simp at hj⟩ fun h2 Ts c2 hl hs2 ht2 hk2=>?_
  show wpAny _ A (load s.heap.objs.size >>= _) _ _ _;refine Ac (Fy (s:={ s with heap:=h2 }) hs2 ?_);refine Ad (h h2 Ts hl (fun j T hj=>?_) (Af hs2) (fun b o hb e=>hk2 b o ?_ (hk1 b o e)))
  ·obtain ⟨g1,g2⟩:=ht2 j T hj
   exact ⟨Nat.le_of_succ_le g1,g2⟩
  ·simp only [mem_cons,not_mem_nil,or_false,not_or] at hb ⊢
   exact ⟨ne_of_lt (Af e),hb⟩
 refine As (fun _=>?_) (fun hab=>absurd rfl hab);refine Ac (Dm ?_);refine Ac ?_;show wpAny _ _ (L6 s.heap.objs.size (·.push .none) >>= fun _=>L6 s.heap.objs.size (·.pop)) _ _ _;refine Ac (Gy hS₁ rfl ?_);have hS₂:=Bf (Bg (·.push Value.none)) hS₁ rfl;refine Gy (hz:=by seq_fits) hS₂ rfl ?_;have hS₃:=Bf (Bg (·.pop)) hS₂ rfl;refine Ad ⟨Cz Bv _,?_⟩;refine Cn (key _ _ ?_ (fun b o e=>?_) hS₃) fun q s' x=>x
 ·rw [Ci,Ci,hsz1]
 ·exact (Au _ _ (B4 (ne_of_lt (Af e)))).trans ((Au _ _ (B4 (ne_of_lt (Af e)))).trans (kp b o e))
end
section
variable {prog:Ak} {w:World} {A:Around} {E:Value->Shared->Prop} {s:Shared}
theorem _vu {a:Addr} {v:Value} {n:Nat} {P:Ma->Shared->Prop} (ho:s.heap.get? a=some (Bq "list" #[v] n))
  (h:P (.done (.ret .none)) { s with heap:=Jf s.heap a [v] #[v] }) :
  wpAny (model prog w) A (Builtin.«list.sort» { pos:=[Value.ref a] }) P E s:=by
 rw [list_sort_plain a];have ha:=Af ho;refine Ac (Ly ho rfl (Ac (Gj ho rfl ?_)));obtain ⟨e1,ho1⟩:∃ e1,(s.heap.update a (Bg fun _=>#[])).get? a=some (Bq "list" #[] e1):=⟨_,Jr ho fun _=>#[]⟩;refine Ac (Kf ho1 rfl (Ac (Fm (Ac (Gi (Ba ?_))))));have ho6:(((s.heap.update a (Bg fun _=>#[])).push (Bq "tuple" #[v] 0)).push (Bq "list" #[] 0)).get? a=some (Bq "list" #[] e1):=by
  rw [Ep _ _ _ (by rw [Je,Ci]; exact ne_of_lt (lt_succ_of_lt ha)),Ep _ _ _ (by rw [Ci]; exact ne_of_lt ha)];exact ho1
 have hsz:(#[v]:Array Value).size < 2:=by simp
 refine (?_:wpAny (model prog w) A (if (#[v]:Array Value).size < 2 then _ else _) P E { s with heap:=((s.heap.update a (Bg fun _=>#[])).push (Bq "tuple" #[v] 0)).push (Bq "list" #[] 0) });rw [if_pos hsz];refine Ac (Ad ?_);dsimp only;rw [if_pos hsz];refine Ac ?_;refine (?_:wpAny _ _ (pure ((),_)) _ _ _);refine Ad ?_;have hs:Kn (fun x=>x.snd) (arrOf ((),SortSt.mk' Lz (#[v].zip #[v]) #[] 7 none).snd)=#[v]:=by
  show Kn (fun x=>x.snd) (#[v].zip #[v])=#[v]
  simp
 refine Ac (Kf ho6 rfl ?_);refine Ac (Gj ho6 rfl ?_ (by simp) (by rw [hs]; simp [Ao]));have hf:failedOf ((),SortSt.mk' Lz (#[v].zip #[v]) #[] 7 none).snd=none:=rfl;simp only [hf,bne_self_eq_false,Aw,if_false];refine Ad ?_;have hs':Kn (fun x=>x.snd) (arrOf (SortSt.mk' Lz (#[v].zip #[v]) #[] 7 none))=#[v]:=hs;rw [hs'];exact h
theorem _qnh:∀ {vs:List Value} {ps:List (Int × Int)},vs.length=ps.length->(∀ i,i < vs.length->_Ww s.heap (vs.getD i .none) (ps.getD i (0,0)))->∃ fs,KatTups s.heap vs fs/\fs.length=vs.length/\∀ v∈fs,∃ k t,v=Value.int k t
 | [],[],_,_=>⟨[],KatTups.nil ..,rfl,by simp⟩
 | [],_ :: _,h,_=>by simp at h
 | _ :: _,[],h,_=>by simp at h
 | v :: vs,p :: ps,h,k=>by
  obtain ⟨fs,h1,h2,h3⟩:=_qnh (vs:=vs) (ps:=ps) (by simpa using h) fun i hi=>by have:=k (i + 1) (by simp; omega); simpa using this
  obtain ⟨x,o,n,t1,t2,e1,e2,e3,e4⟩:=k 0 (by simp);simp at e1;subst e1;exact ⟨_,KatTups.cons e2 e3 e4 (f:=Value.int p.1 t1) rfl h1,by simp [h2],fun v hv=>by
   rcases Al.mp hv with rfl | hv
   ·exact ⟨_,_,rfl⟩
   ·exact h3 v hv⟩
theorem _qa4 {vs:List Value} {ps:List (Int × Int)} {Q:Ms->Shared->Prop} (h0:0 < vs.length) (hl:vs.length=ps.length) (hp:∀ i,i < vs.length->_Ww s.heap (vs.getD i .none) (ps.getD i (0,0))) (h:Q (tuples' true) s):wpAny (model prog w) A (keyKind' vs.toArray) Q E s:=by
 obtain ⟨fs,h1,h2,h3⟩:=_qnh hl hp;refine kat_kind (T:=.type "int") h1 (by omega) (fun v hv=>?_) (by decide) h;obtain ⟨k,t,rfl⟩:=h3 v hv;exact Looks.of_pure rfl
theorem _Wb {vs:List Value} {ps:List (Int × Int)} {p:Array Nat} (hl:vs.length=ps.length) (hn:ps.Nodup) (pa:PA vs.length p) (sp:SP (fun i j=>lexB (ps.getD i (0,0)) (ps.getD j (0,0))) p vs.length) :
  (p.toList.map fun i=>ps.getD i (0,0))=DL._ki ps:=by
 have hp:p.toList.Perm (Ar vs.length):=by
  have:=pa
  unfold PA at this;exact C4.mp this
 refine DL._qiz hn ?_ ?_
 ·have e:ps=(Ar vs.length).map fun i=>ps.getD i (0,0):=by
   apply ext_getElem
   ·simp [hl]
   ·intro i h1 h2; simp [h1]
  conv=>rhs; rw [e]
  exact hp.map _
 ·have hs:p.size=vs.length:=by have:=hp.length_eq; simpa using this
  rw [pairwise_map,Bu];intro i j hi hj hij
  have:=sp i j hij (by simpa [hs] using hj)
  simp at hi hj;have a0:∀ k,(hk:k < p.size)->at0 p k=p.toList[k]'(by simpa using hk):=fun k hk=>by simp [at0,hk]
  rw [a0 i hi,a0 j hj] at this;exact this
end
section
variable {prog:Ak} {w:World} {A:Around} {E:Value->Shared->Prop} {s:Shared}
theorem _Yl {z TI TO i1 i2 l1 l2:Addr} {xs ys:Array Value} {ns ms:List Int} {Q:Value->Shared->Prop} (hh:A.handled=none) (ap:J5 z TI TO i1 i2 l1 l2) (q:ZNew s.heap z TI TO i1 i2 l1 l2 xs ys) (hx:IntsAre xs.toList ns) (hy:IntsAre ys.toList ms) (hl:ns.length=ms.length) (h1:1 <= ns.length) (h64:ns.length < 64) (hnd:(ns.zip ms).Nodup)
  (h:∀ (D:Addr) (out:List Addr) (n:Nat) (h':Heap),s.heap.objs.size <= D->h'.get? D=some { cls:=.type "list",data:=.seq (out.map Value.ref).toArray n }->out.length=(DL._ki (ns.zip ms)).length->(∀ j (hj:j < out.length),s.heap.objs.size <= out[j]/\D ≠ out[j]/\_Ww h' (.ref out[j]) ((DL._ki (ns.zip ms)).getD j (0,0)))->(∀ b o,b ∉ [z,TO,i1,i2]->s.heap.get? b=some o->h'.get? b=some o)->Q (.ref D) { s with heap:=h' }) :
  wpAny (model prog w) A (call (.builtin "sorted") [.ref z]) Q E s:=by
 have hxl:=hx.length;have hyl:=hy.length;have hxs:xs.size=ns.length:=by simpa using hxl
 have hys:ys.size=ns.length:=by rw [hl]; simpa using hyl
 refine Db Md Lu Lv (Lw _) ?_;unfold Builtin.«sorted»;refine Ac (m:=checkCount "sorted" 1 1 _) (Ad ?_);refine Ac (_Wr (A:=A.in1) hh ap q hxs hys (by omega) h1 fun h1' Ts hTl hT hsz1 hk1=>?_);have hps:∀ i,i < Ts.length->_Ww h1' ((Ts.map Value.ref).getD i .none) ((ns.zip ms).getD i (0,0)):=by
  intro i hi;obtain ⟨_,x,y,e1,e2,e3⟩:=hT i Ts[i] (by simp [hi]);have g1:xs.toList[i]?=some x:=by rw [getElem?_toList]; exact e1
  have g2:ys.toList[i]?=some y:=by rw [getElem?_toList]; exact e2
  obtain ⟨t1,f1⟩:∃ t,x=.int (ns.getD i 0) t:=by
   exact IntsAre.int_at hx i x g1
  obtain ⟨t2,f2⟩:∃ t,y=.int (ms.getD i 0) t:=by
   exact IntsAre.int_at hy i y g2
  refine ⟨Ts[i],_,0,t1,t2,by simp [hi],e3,rfl,?_⟩;subst f1 f2
  have:i < ns.length:=by omega
  have:i < ms.length:=by omega
  simp [*]
 have hzl:(ns.zip ms).length=ns.length:=by simp [hl]
 refine Ac (Gi ?_ (by rw [Ao]; simp; omega));have hoL:(h1'.push (Bq "list" (Ts.map Value.ref).toArray 0)).get? h1'.objs.size=some (Bq "list" (Ts.map Value.ref).toArray 0):=Ag _ rfl;have fin:∀ (out:List Addr),out.length=(DL._ki (ns.zip ms)).length->(∀ j (hj:j < out.length),∃ i,∃ hi:i < Ts.length,out[j]=Ts[i]/\(DL._ki (ns.zip ms)).getD j (0,0)=(ns.zip ms).getD i (0,0)) ->
   Q (.ref h1'.objs.size) { s with heap:=Jf (h1'.push (Bq "list" (Ts.map Value.ref).toArray 0)) h1'.objs.size (Ts.map Value.ref) (out.map Value.ref).toArray }:=by
  intro out ho hout;obtain ⟨e,he⟩:=K0 (out:=(out.map Value.ref).toArray) hoL;have old:∀ b o,h1'.get? b=some o->(Jf (h1'.push (Bq "list" (Ts.map Value.ref).toArray 0)) h1'.objs.size (Ts.map Value.ref) (out.map Value.ref).toArray).get? b=some o:=fun b o hb=>by
   have hlt:=Af hb;rw [Ke (ne_of_lt hlt) (by rw [Je]; exact lt_succ_of_lt hlt)];exact Ae _ hb
  refine h _ out e _ (le_of_lt hsz1) (by simpa [Bq] using he) ho (fun j hj=>?_) (fun b o hb e=>old b o (hk1 b o hb e));obtain ⟨i,hi,e1,e2⟩:=hout j hj;obtain ⟨g1,_⟩:=hT i Ts[i] (by simp [hi]);obtain ⟨x,o,n,t1,t2,f1,f2,f3,f4⟩:=hps i hi;have ex:x=Ts[i]:=by simpa [hi] using f1.symm
  rw [e1,e2];refine ⟨g1,?_,⟨Ts[i],o,n,t1,t2,rfl,old _ _ (ex ▸ f2),f3,f4⟩⟩
  have:=Af f2
  rw [ex] at this;exact ne_of_gt this
 refine Ac (Ba (Ax Kc ⟨_,hoL,rfl⟩ Jq ?_ (Kd _)))
 by_cases h2:2 <= ns.length
 ·refine _vv (vs:=Ts.map Value.ref) hoL (by simp; omega) (by simp; omega) ?_
  generalize hh6:(((h1'.push (Bq "list" (Ts.map Value.ref).toArray 0)).update h1'.objs.size (Bg fun _=>#[])).push (Bq "tuple" (Ts.map Value.ref).toArray 0)).push (Bq "list" #[] 0)=h6;have old6:∀ b o,h1'.get? b=some o->h6.get? b=some o:=fun b o hb=>by
   rw [<- hh6];refine Ae _ (Ae _ ?_);rw [Au _ _ (ne_of_gt (Af hb))];exact Ae _ hb
  have hp6:∀ i,i < (Ts.map Value.ref).length->_Ww h6 ((Ts.map Value.ref).getD i .none) ((ns.zip ms).getD i (0,0)):=fun i hi=>by
   obtain ⟨x,o,n,t1,t2,f1,f2,f3,f4⟩:=hps i (by simpa using hi);exact ⟨x,o,n,t1,t2,f1,old6 _ _ f2,f3,f4⟩
  have hvl:(Ts.map Value.ref).length=(ns.zip ms).length:=by simp [hTl,hl]
  refine _qa4 (s:={ s with heap:=h6 }) (ps:=ns.zip ms) (by simp; omega) hvl hp6 ?_;have key:∀ i j,i < (Ts.map Value.ref).length->j < (Ts.map Value.ref).length->(ns.zip ms).getD i (0,0)=(ns.zip ms).getD j (0,0)->i=j:=fun i j hi hj e=>by
   rw [hvl] at hi hj;have e':(ns.zip ms)[i]=(ns.zip ms)[j]:=by
    rw [getD_eq_getElem?_getD,getD_eq_getElem?_getD,getElem?_eq_getElem hi,getElem?_eq_getElem hj] at e;exact e
   exact (getElem_inj hnd).mp e'
  have ord:=_qif (key:=fun i=>(ns.zip ms).getD i (0,0)) key;obtain ⟨pa,sp⟩:=_qfb ord (by simp; omega);refine _Zs (n:=(Ts.map Value.ref).length) (lt:=fun i j=>lexB ((ns.zip ms).getD i (0,0)) ((ns.zip ms).getD j (0,0))) (fun i j C hi hj hC=>_qew hvl.symm hp6 i j C hi hj hC) _ (_qfc (by simp; omega)) ⟨rfl,rfl,_,rfl,Ad ⟨_,rfl,?_⟩⟩;generalize _qt3 _ (Hm (Ts.map Value.ref).length)=p at pa sp;have hsl:=_Wb hvl hnd pa sp;have hpl:p.toList.Perm (Ar (Ts.map Value.ref).length):=C4.mp pa;have hpb:∀ i∈p.toList,i < Ts.length:=fun i hi=>by
   have:=A0.mp (hpl.mem_iff.mp hi)
   simpa using this
  have eo:(p.toList.map fun i=>(Ts.map Value.ref).getD i .none)=(p.toList.map fun i=>Ts.getD i 0).map Value.ref:=by
   rw [map_map];apply map_congr_left;intro i hi
   have:=hpb i hi
   simp [this]
  rw [eo];refine fin _ (by rw [<- hsl]; simp) fun j hj=>?_;have hj':j < p.toList.length:=by simpa using hj
  have hb:=hpb p.toList[j] (getElem_mem hj');refine ⟨p.toList[j],hb,by simp only [getElem_map]; rw [getD_eq_getElem?_getD,getElem?_eq_getElem hb]; rfl,?_⟩;rw [<- hsl,getD_eq_getElem?_getD,getElem?_map,getElem?_eq_getElem hj'];rfl
 ·have hT1:Ts.length=1:=by omega
  obtain ⟨T,rfl⟩:∃ T,Ts=[T]:=by
   match Ts,hT1 with
   | [T],_=>exact ⟨T,rfl⟩
  refine _vu (v:=.ref T) hoL ⟨_,rfl,Ad ⟨_,rfl,?_⟩⟩;have hp1:DL._ki (ns.zip ms)=ns.zip ms:=by
   obtain ⟨p,hp⟩:∃ p,ns.zip ms=[p]:=by
    have:(ns.zip ms).length=1:=by omega
    match ns.zip ms,this with
    | [p],_=>exact ⟨p,rfl⟩
   rw [hp]; rfl
  refine fin [T] (by rw [hp1]; simp at hTl ⊢; omega) fun j hj=>⟨j,hj,rfl,by rw [hp1]⟩
end
end SortW
namespace DL
open PySem PySem.Spec PyProof.Rows L2
section
variable {X:Cx}
theorem _qec {pins:List (Addr × Obj)} {σ:St} {H H':Hp} {s:Shared} {h':Heap} {t':Nat} (I:Inv X pins σ H s) (k:∀ b u,s.heap.get? b=some u->h'.get? b=some u) (same:∀ b u,H b=some u->H' b=some u)
  (hn:∀ b u,H' b=some u->H b=some u \/ s.heap.objs.size <= b/\_zn X.prog X.w H' h' b u):Inv X pins σ H' { s with heap:=h',toks:=t' }:=by
 refine I.un ⟨fun b u q _ _ _=>k b u q,fun b u q _ _ _=>⟨u.slots,k b u q⟩,fun b u q n _=>?_,fun b u q _=>⟨u,k b u q⟩,fun b xs q=>same _ _ q,fun b u xs q=>same _ _ q,fun b ps q=>⟨#[],by rw [same _ _ q]; simp⟩⟩ fun b u e=>?_
 ·cases e:H' b with
  | none=>rfl
  | some u' =>
   rcases hn b u' e with z | ⟨z,_⟩
   ·rw [n] at z; cases z
   ·exact absurd (Af q) (La.mpr z)
 ·rcases hn b u e with z | ⟨_,z⟩
  ·exact (I.hok b u z).stay (fun c v _ q=>k c v q) (fun c q=>same _ _ q) fun c xs q=>same _ _ q
  ·exact z
open Classical in
noncomputable def _qst (H:Hp) (out:List Addr) (ps:List (Int × Int)):Hp:=fun b=>if b∈out then some (.tup [.int (ps.getD (out.idxOf b) (0,0)).1,.int (ps.getD (out.idxOf b) (0,0)).2]) else H b
theorem _kf {H:Hp} {out:List Addr} {ps:List (Int × Int)} {b:Addr} (h:b ∉ out):_qst H out ps b=H b:=by unfold _qst; rw [if_neg h]
theorem _Xo {H:Hp} {out:List Addr} {ps:List (Int × Int)} {b:Addr} (h:b∈out):_qst H out ps b=some (.tup [.int (ps.getD (out.idxOf b) (0,0)).1,.int (ps.getD (out.idxOf b) (0,0)).2]):=by unfold _qst; rw [if_pos h]
def OneP (out:List Addr) (ps:List (Int × Int)):Prop:=∀ j,(hj:j < out.length)->ps.getD (out.idxOf out[j]) (0,0)=ps.getD j (0,0)
theorem _X8 {a b:Expr} {ta:TA} {p p2 p3 pos:Pos} (hc:X.calm=true) (hg1:Gl X "sorted") (hg2:Gl X "zip") (hm1:X.mg "sorted"=none) (hm2:X.mg "zip"=none) (ha:PA X [a,b] ta) (hs:Ap [a,b] X.env=[(false,eval a X.env),(false,eval b X.env)]:=by rfl) (hs2:Ap [b] X.env=[(false,eval b X.env)]:=by rfl) :
  PE X (.Call (.Name "sorted" p) [.Call (.Name "zip" p2) [a,b] [] p3] [] pos) (fun σ H Q=>ta σ H fun vs H1=>∃ (l1 l2:Addr) (ns ms:List Int),vs=[.ref l1,.ref l2]/\SqL X.K H1 l1 (ns.map V.int)/\SqL X.K H1 l2 (ms.map V.int)/\ns.length=ms.length/\1 <= ns.length/\ns.length < 64/\(ns.zip ms).Nodup /\
   ∀ (D:Addr) (out:List Addr),H1 D=none->(∀ b∈out,H1 b=none)->D ∉ out->out.length=(_ki (ns.zip ms)).length->OneP out (_ki (ns.zip ms))->Q (.ref D) (upd (_qst H1 out (_ki (ns.zip ms))) D (.lst (out.map V.ref)))):=by
 intro pins s σ H Q I h;refine B9 (_wo I hg1 hm1 _j7 ?_ (by decide) (by decide));refine callWith_builtin1 ?_ rfl rfl;show wpAny _ _ (spliced ((false,eval (.Call (.Name "zip" p2) [a,b] [] p3) X.env) :: C1 pos (Ap [] X.env))) _ _ s;refine B8 ?_;refine B9 (_wo I hg2 hm2 _qq0 ?_ (by decide) (by decide));refine Bp (thn (ha p3 pins s σ H _ I h) fun us s1 hQ=>?_) (by rw [hs,hs2]) (by rw [hs2]; rfl);obtain ⟨vs,H1,I1,r1,l1,l2,ns,ms,ev,hq1,hq2,hl,h1,h64,hnd,q⟩:=hQ;subst ev;cases r1 with
 | cons r rr =>
  cases rr with
  | cons r' rr =>
   cases rr;cases r;cases r';obtain ⟨its1,rv1,p1,hz1⟩:=I1.list hq1;obtain ⟨its2,rv2,p2,hz2⟩:=I1.list hq2;have lt1:=sq_lt I1 hq1;have lt2:=sq_lt I1 hq2;refine call_zip_2 p1.isList p2.isList fun h' hz hTI hTO hi1 hi2 hsz hk=>?_;refine Di ?_;have ap:=_qoa s1.heap.objs.size l1 l2 lt1 lt2;refine SortW._Yl (s:={ s1 with heap:=h' }) (xs:=its1.toArray) (ys:=its2.toArray) (ns:=ns) (ms:=ms) (I1.ok.hd hc) ap ⟨hz,hTI,⟨_,_,hTO⟩,hi1,hi2,p1.isList.at fun o e=>hk _ _ e,p2.isList.at fun o e=>hk _ _ e⟩ (by simpa using intsAre_of rv1) (by simpa using intsAre_of rv2) hl h1 h64 hnd fun D out n h2 hD hget hol hout hk2=>?_;have hle:s1.heap.objs.size <= D:=le_trans (by show s1.heap.objs.size <= h'.objs.size; omega) hD;have hleo:∀ b∈out,s1.heap.objs.size <= b/\D ≠ b:=fun b hb=>by
    obtain ⟨j,hj,rfl⟩:=getElem_of_mem hb;obtain ⟨g1,g2,_⟩:=hout j hj;exact ⟨le_trans (by show s1.heap.objs.size <= h'.objs.size; omega) g1,g2⟩
   have hDo:D ∉ out:=fun m=>(hleo D m).2 rfl;have one:OneP out (_ki (ns.zip ms)):=fun j hj=>by
    have hm:out[j]∈out:=getElem_mem hj;have hi:out.idxOf out[j] < out.length:=G8 hm;have e:out[out.idxOf out[j]]=out[j]:=Lf hi;obtain ⟨_,_,x,o,k,t1,t2,f1,f2,f3,f4⟩:=hout j hj;obtain ⟨_,_,x',o',k',t1',t2',f1',f2',f3',f4'⟩:=hout (out.idxOf out[j]) hi;rw [e] at f1';have ex:x=x':=by rw [<- (Value.ref.inj f1),<- (Value.ref.inj f1')]
    subst ex;rw [f2] at f2'; cases f2';rw [f4] at f4';injection f4' with g1 g2;injection g1 with g1;injection g1 with g3 g4;injection g3 with g3 _;injection g4 with g4 _;injection g4 with g4 _;exact (Prod.ext g3 g4).symm
   have hH:∀ b,s1.heap.objs.size <= b->H1 b=none:=fun b hb=>I1.hok.fresh hb;have kk:∀ b u,s1.heap.get? b=some u->h2.get? b=some u:=fun b u e=>hk2 b u (fun hm=>by
    have hlt:=Af e;simp only [mem_cons,not_mem_nil,or_false] at hm;rcases hm with z | z | z | z <;> (rw [z] at hlt; exact absurd hlt (La.mpr (by omega)))) (hk b u e)
   refine ⟨.ref D,_,(show L2.Inv X pins σ _ { s1 with heap:=h2 } from _qec (s:=s1) (h':=h2) (t':=s1.toks) I1 kk (fun b u e=>?_) (fun b u e=>?_)),rfl,q D out (hH D hle) (fun b hb=>hH b (hleo b hb).1) hDo hol one⟩
   ·have nb:b ≠ D:=fun z=>by rw [z,hH D hle] at e; cases e
    have nm:b ∉ out:=fun z=>by rw [hH b (hleo b z).1] at e; cases e
    rw [_e nb,_kf nm]; exact e
   ·by_cases nb:b=D
    ·subst nb
     rw [_a] at e; cases e;refine .inr ⟨hle,by rw [length_map,hol,(_js _).length_eq,Ao]; simp; omega,out.map Value.ref,n,?_,hget⟩;clear hget hol hout hk2 hleo hDo one kk q
     induction out with
     | nil=>exact .nil
     | cons x xs ih=>exact .cons rfl ih
    ·rw [_e nb] at e
     by_cases hm:b∈out
     ·rw [_Xo hm] at e; cases e
      have hi:out.idxOf b < out.length:=G8 hm;have eb:out[out.idxOf b]=b:=Lf hi;obtain ⟨_,_,x,o,k,t1,t2,f1,f2,f3,f4⟩:=hout (out.idxOf b) hi;rw [eb] at f1;have ex:x=b:=(Value.ref.inj f1).symm;subst ex;refine .inr ⟨(hleo _ hm).1,by simp [Ao],_,.cons ⟨t1,rfl⟩ (.cons ⟨t2,rfl⟩ .nil),o,f2,f3,k,f4⟩
     ·rw [_kf hm] at e
      exact .inl e
theorem _Y3 {K:Frag} {F:Hp}:∀ {out:List Addr} {ps:List (Int × Int)},out.length=ps.length->(∀ j,(hj:j < out.length)->F out[j]=some (.tup [.int (ps.getD j (0,0)).1,.int (ps.getD j (0,0)).2]))->Reps K F (out.map V.ref) (ps.map pairD)
 | [],[],_,_=>.nil
 | [],_ :: _,h,_=>by simp at h
 | _ :: _,[],h,_=>by simp at h
 | a :: out,p :: ps,h,k=>by
  refine .cons ?_ (_Y3 (by simpa using h) fun j hj=>by have:=k (j + 1) (by simp; omega); simpa using this)
  have:=k 0 (by simp)
  exact .tup (SqT.of this) (.cons (.int _) (.cons (.int _) .nil))
theorem _Zz {a b:Expr} {f:FA} {p p2 p3 pos:Pos} (hc:X.calm=true) (hg1:Gl X "sorted") (hg2:Gl X "zip") (hm1:X.mg "sorted"=none) (hm2:X.mg "zip"=none) (ha:DA X [a,b] f) (hs:Ap [a,b] X.env=[(false,eval a X.env),(false,eval b X.env)]:=by rfl) (hs2:Ap [b] X.env=[(false,eval b X.env)]:=by rfl) :
  DO X (.Call (.Name "sorted" p) [.Call (.Name "zip" p2) [a,b] [] p3] [] pos) (_qte _Qy f):=by
 refine PE.imp (_X8 hc hg1 hg2 hm1 hm2 ha hs hs2) fun σ H Q q=>?_;obtain ⟨F,ρ,o,s,re,hf,kk⟩:=q;obtain ⟨zs,hf2,rfl⟩:=map_some hf;obtain ⟨ds,hd,hf⟩:=bind_some hf2;refine ⟨F,ρ,ds,s,re,hd,fun vs F1 H1 e1 r1=>?_⟩;unfold _Qy at hf;split at hf
 ·rename_i xs ys
  obtain ⟨ns,hns,hf⟩:=bind_some hf;obtain ⟨ms,hms,hf⟩:=bind_some hf;split at hf
  ·rename_i hcnd
   cases hf
   have:=_xs hns
   subst this
   have:=_xs hms
   subst this;cases r1 with
   | cons q1 r2 =>
    cases r2 with
    | cons q2 r3 =>
     cases r3;cases q1 with
     | lst g1 t1 =>
      cases q2 with
      | lst g2 t2 =>
       have hv1:=_Z t1;have hv2:=_Z t2;subst hv1 hv2;refine ⟨_,_,ns,ms,rfl,(_qt1 e1.fh g1).l,(_qt1 e1.fh g2).l,hcnd.1,hcnd.2.1,hcnd.2.2.1,hcnd.2.2.2,fun D out hD ho hDo hol one=>?_⟩;have hF:∀ b,H1 b=none->F1 b=none:=fun b hb=>e1.fh.free hb;have ntD:_qst F1 out (_ki (ns.zip ms)) D=F1 D:=_kf hDo;have sFF:_qu9 F1 (_qst F1 out (_ki (ns.zip ms))):=fun b u e=>by
        rw [_kf (fun m=>by rw [hF b (ho b m)] at e; cases e)]; exact e
       have sFH:_qu9 (_qst F1 out (_ki (ns.zip ms))) (upd (_qst H1 out (_ki (ns.zip ms))) D (.lst (out.map V.ref))):=fun b u e=>by
        have nb:b ≠ D:=fun z=>by rw [z,ntD,hF D hD] at e; cases e
        rw [_e nb]
        by_cases m:b∈out
        ·rw [_Xo m] at e ⊢; exact e
        ·rw [_kf m] at e ⊢; exact e1.fh b u e
       have sHH:_qu9 H1 (upd (_qst H1 out (_ki (ns.zip ms))) D (.lst (out.map V.ref))):=fun b u e=>by
        have nb:b ≠ D:=fun z=>by rw [z,hD] at e; cases e
        rw [_e nb,_kf (fun m=>by rw [ho b m] at e; cases e)]; exact e
       have ex:Ext F1 H1 (_qst F1 out (_ki (ns.zip ms))) (upd (_qst H1 out (_ki (ns.zip ms))) D (.lst (out.map V.ref))):=⟨sFF,sFH,sHH,fun b u e=>by
        by_cases m:b∈out
        ·exact .inr (ho b m)
        ·rw [_kf m] at e; exact .inl e⟩
       refine kk (.ref D) _ _ _ (e1.trans ex) (_Zb _a (_Y3 hol fun j hj=>?_)) fun b z=>by
        subst z;exact ⟨by rw [ntD]; exact hF _ hD,e1.hh.free hD⟩
       rw [_Xo (getElem_mem hj),one j hj]
  ·cases hf
 ·cases hf
end
end DL
namespace DL
open PySem
end DL
namespace DL
open PySem PySem.Spec PyProof.Rows L2
section
variable {K:Frag} {F H:Hp}
end
section
variable {X:Cx} {i j:Nat} {S:List Bool}
end
def veB:List Value:=[.type "ValueError",.type "Exception",.type "BaseException",.type "object"]
structure ExcC (K:Frag) (C:Addr):Prop where
 ex:∃ (nm q:Str) (N:Addr) (bs bm:List Value) (hdct:Bool) (sn:List Str) (sub:List Value) (ab:Bool) (col:Option Bool) (dd:Option Addr) (k0 k1 k2 k3 k5:Option Value),
  K.lookup C=some (excClassObj nm q C N bs bm hdct sn sub ab col dd k0 k1 k2 k3 k5 "ValueError.__new__")/\PySem.W.nsOkIn K N=true/\nsIn K N "__init__"=some none/\PySem.W.tailIn K veB bm=true
section
variable {P:Ak} {w:World} {K:Frag} {mg:Str->Option Value} {base:Heap} {N:List Str} {qual:Str} {scope:Scope} {f:Addr} {cd:Value} {A:Around} {outer:List Env} {s:Shared} {H:Hp} {E:XK} {C:Addr}
end
section
variable {X:Cx} {pins:List (Addr × Obj)} {σ:L2.St} {H:Hp} {s s':Shared} {a:Addr} {oe:Obj} {C C':Addr} {E:XK} {e:Value}
end
structure ExcH (K:Frag) (C C':Addr):Prop where
 ty:J3 K (.ref C')=some (.type "type")
 cl:(K1 K C').isSome=true
 be:Ef K C' (.type "BaseException")=some true
 su:Ef K C (.ref C')=some true
section
variable {X:Cx} {C C':Addr} {k:Nat} {f:Addr} {fd:Am} {ps:List Str} {sp:Sp}
end
end DL
namespace DL
open PySem PySem.Spec PyProof.Rows L2
open Builtin Builtin.ObjectAttr Builtin.Getset_descriptor
structure ExcI (K:Frag) (C:Addr):Prop where
 cl:(K1 K C).isSome=true
 ga:A7 K (.ref C) "__getattribute__"=some (some (.builtin "BaseException.__getattribute__"))
 kl:A7 K (.ref C) "__class__"=some (some (.builtin "object.__class__"))
 gt:Hz K (.builtin "object.__class__") "__get__"=some (some (.builtin "getset_descriptor.__get__"))
 tk:PySem.W.takesIn K (.builtin "object.__class__")=some true
 ob:Ef K C (.type "object")=some true
 be:Ef K C (.type "BaseException")=some true
 no:A7 K (.ref C) "__getattr__"=some none
section
variable {prog:Ak} {w:World} {A:Around} {E:Value->Shared->Prop} {K:Frag} {s:Shared} {a C:Addr} {oe:Obj}
end
section
variable {X:Cx} {a C:Addr} {oe:Obj}
end
section
variable {X:Cx} {C C':Addr} {k:Nat} {f:Addr} {fd:Am} {ps:List Str} {sp:Sp}
end
end DL
namespace DL
open PySem
def _qth:List Int->List Int->Bool
 | _,[]=>false
 | [],_ :: _=>true
 | a :: s,b :: t=>decide (a < b) || (decide (a=b) && _qth s t)
def _qtk (m:List Int):List (List Int)->List (List Int)
 | []=>[m]
 | k :: ks=>if m=k then k :: ks else if _qth m k=true then m :: k :: ks else k :: _qtk m ks
def _jc (l:List (List Int)):List (List Int):=l.foldr _qtk []
def wtK (h:List (Int × List Int)) (m:List Int):Int:=((h.filter fun p=>decide (p.2=m)).map fun p=>p.1).sum
def _Jm (h:List (Int × List Int)):List (Int × List Int):=(_jc (h.map fun p=>p.2)).map fun m=>(wtK h m,m)
def kInt:D->Option Int
 | .int i=>some i
 | _=>none
def _qma:D->Option (List Int)
 | .lst xs=>xs.mapM kInt
 | _=>none
def _qm9:D->Option (Int × List Int)
 | .tup [.int w,m]=>(_qma m).map fun l=>(w,l)
 | _=>none
def _qk1:D->Option (List (Int × List Int))
 | .lst xs=>xs.mapM _qm9
 | _=>none
def _qa0 (p:Int × List Int):O:=.tup [.sh (.int p.1),ow (p.2.map D.int)]
def _qkb:List D->Option O
 | [d]=>(_qk1 d).bind fun h=>if h.length < 60/\(h.all fun p=>decide (p.2.length < 60))=true then some (.lst ((_Jm h).map _qa0)) else none
 | _=>none
def lawD:List D->Option D
 | [d]=>(_qma d).bind fun ns=>if ns.length <= 63 then some (.bl true) else none
 | _=>none
theorem _qe3 (ns:List Int) (h:ns.length <= 63):lawD [.lst (ns.map .int)]=some (.bl true):=by
 have:∀ l:List Int,(l.map D.int).mapM kInt=some l:=by
  intro l
  induction l with
  | nil=>rfl
  | cons a l ih=>rw [map_cons,mapM_cons,ih]; rfl
 simp [lawD,_qma,this,h]
end DL
namespace DL
open PySem PySem.Spec PyProof.Rows L2
theorem fsc {N P:List Str} {sc:Scope} (a:sc.kind=.function:=by rfl) (b:sc.isCoroutine=false:=by rfl) (c:sc.isGenerator=false:=by rfl) (d:N.Nodup:=by decide +kernel) (e:N.take P.length=P:=by rfl) (f:∀ x∈P,sc.names.lookup x=some .local \/ sc.names.lookup x=some .cell:=by decide +kernel) (g:∀ y∈sc.names,y.2 ≠ .free:=by decide +kernel):FnScope N P sc:=⟨a,b,c,d,e,f,g⟩
theorem hm {k n:Nat} {A:Around} (h:Room n A) (d:k <= n:=by decide):Room k A:=h.mono d
theorem pgc {X:Cx} {N':List Str} {scope:Scope} {cl:List (Str × Addr)} {C:Addr} {s₀:Shared} {H₀:Hp} {ex:List Addr} {pn:List (Addr × Obj)} (i:Nat) {x:Str} {pos:Pos} (hN:N'.Nodup:=by decide) (hi:N'[i]?=some x:=by rfl) (hx:Loc (_P X N' scope cl C s₀ H₀ ex pn).env.scope x:=by first | exact .inl rfl | exact .inr rfl) (hf:(_P X N' scope cl C s₀ H₀ ex pn).fn x=true \/ (_P X N' scope cl C s₀ H₀ ex pn).env.scope.names.lookup x=some .local:=by first | exact .inl rfl | exact .inr rfl | assumption):PG (_P X N' scope cl C s₀ H₀ ex pn) (.Name x pos) (_zj i):=_q0 hN hi hx hf
theorem pif0 {X:Cx} {N':List Str} {scope:Scope} {cl:List (Str × Addr)} (C:Addr) (s₀:Shared) (H₀:Hp) (ex:List Addr) (pn:List (Addr × Obj)):PIfs (_P X N' scope cl C s₀ H₀ ex pn) [] _wi:=.inl ⟨rfl,fun _ _ _ h=>h⟩
end DL
namespace MB
open PySem DL
theorem _qcb {n k:Nat} (h:n < 2 ^ k) (hk:k <= 1000000):n < BIG:=by
 unfold BIG;exact lt_of_lt_of_le h (pow_le_pow_right (by decide) hk)
theorem _qca {n k:Nat} (h:n < 2 ^ k) (hk:k <= 9000):n < BIGD:=by
 unfold BIGD;exact lt_of_lt_of_le h (pow_le_pow_right (by decide) hk)
theorem _qqb (i:Int):(if i < 0 then -i else i)=(i.natAbs:Int):=by split <;> omega
theorem _qe1 {a b m n:Nat} (h:a < 2 ^ m) (h':b < 2 ^ n):a * b < 2 ^ (m + n):=by
 rw [pow_add];exact Nat.mul_lt_mul_of_lt_of_lt h h'
theorem _qpl {a b:Int} {k:Nat} (h:a.natAbs < 2 ^ k) (h':b.natAbs < 2 ^ k):Ds a b < 2 ^ k:=by
 by_cases ha:a=0
 ·subst ha; rw [Int.gcd_zero_left]; exact h'
 ·have:Ds a b ∣ a.natAbs:=Nat.gcd_dvd_left _ _
  exact lt_of_le_of_lt (K2 (by omega) this) h
def rng (n:Nat):Nat:=max 1 (min n 30)
def Sz (k:Nat) (v:Int):Prop:=v.natAbs < 2 ^ k
theorem Sz.mono {a b:Nat} {v:Int} (h:Sz a v) (hab:a <= b):Sz b v:=lt_of_lt_of_le h (pow_le_pow_right (by decide) hab)
theorem Sz.mul {a b:Nat} {x y:Int} (h:Sz a x) (h':Sz b y):Sz (a + b) (x * y):=by
 unfold Sz; rw [Fo]; exact _qe1 h h'
theorem Sz.add {a:Nat} {x y:Int} (h:Sz a x) (h':Sz a y):Sz (a + 1) (x + y):=by
 unfold Sz at *; rw [Nat.pow_succ]; omega
theorem Sz.sub {a:Nat} {x y:Int} (h:Sz a x) (h':Sz a y):Sz (a + 1) (x - y):=by
 unfold Sz at *; rw [Nat.pow_succ]; omega
theorem Sz.big {a:Nat} {x:Int} (h:Sz a x) (ha:a <= 1000000):x.natAbs < BIG:=_qcb h ha
theorem Sz.one:Sz 1 1:=by show (1:Int).natAbs < 2 ^ 1; decide
def nf1 (t b:Int):Int:=t / (Ds t b:Int)
def nf2 (t b:Int):Int:=b / (Ds t b:Int)
section
variable {t b:Int}
theorem _Zv (hb:0 < b):0 < (Ds t b:Int):=by
 have:Ds t b ≠ 0:=fun h=>by have:=(Int.gcd_eq_zero_iff.mp h).2; omega
 omega
theorem _qlv:nf1 t b * (Ds t b:Int)=t:=Ks (Int.gcd_dvd_left t b)
theorem _qlu:nf2 t b * (Ds t b:Int)=b:=Ks (Int.gcd_dvd_right t b)
theorem _qp2 (hb:0 < b):(nf1 t b).natAbs <= t.natAbs:=by
 have h1:=congrArg Int.natAbs (_qlv (t:=t) (b:=b));rw [Fo] at h1;rw [<- h1]
 have:=_Zv (t:=t) hb
 exact Iv _ (by omega)
theorem _qp1 (hb:0 < b):(nf2 t b).natAbs <= b.natAbs:=by
 have h1:=congrArg Int.natAbs (_qlu (t:=t) (b:=b));rw [Fo] at h1;rw [<- h1]
 have:=_Zv (t:=t) hb
 exact Iv _ (by omega)
end
def fr (p q:Int):D:=.tup [.int p,.int q]
def frD (a:Rat):D:=.tup [.int a.num,.int a.den]
theorem _qmp {a b:Rat} (h:a.num=b.num) (h':(a.den:Int)=b.den):a=b:=Rat.ext h (by omega)
@[simp] theorem _qr1 (a:Rat):imm (frD a)=true:=by simp [frD]
@[simp] theorem _qqg {n:Nat} (a:Rat):shp (n + 1) (frD a)=true:=by simp [frD]
theorem _qg7 (a b:Rat):eqD (frD a) (frD b)=decide (a=b):=by
 rw [A5];simp only [frD,eqD,_qtt,Bool.and_true,C0,beq_iff_eq,decide_eq_true_eq];exact ⟨fun ⟨h,h'⟩=>_qmp h h',fun h=>by subst h; exact ⟨rfl,rfl⟩⟩
@[simp] theorem _qrg (a b:Rat):dEq (frD a) (frD b)=some (.bl (decide (a=b))):=by simp [dEq,_qg7]
@[simp] theorem _qrc (a b:Rat):dNe (frD a) (frD b)=some (.bl (!decide (a=b))):=by simp [dNe,_qg7]
theorem _qft {t:Int} {b:Nat} (hb:b ≠ 0):nf1 t b=(Rat.normalize t b hb).num/\nf2 t b=((Rat.normalize t b hb).den:Int):=by
 rw [Rat.normalize_eq];unfold nf1 nf2;have e:Ds t (b:Int)=t.natAbs.gcd b:=by simp [Ds]
 rw [e];exact ⟨rfl,by rw [Int.natCast_ediv]⟩
theorem nf_mk {t:Int} {b:Nat} (hb:b ≠ 0):D.tup [.int (nf1 t b),.int (nf2 t b)]=frD (mkRat t b):=by
 obtain ⟨h1,h2⟩:=_qft (t:=t) hb;rw [h1,h2,Cw]; rfl
theorem den_pos (a:Rat):0 < (a.den:Int):=by have:=a.den_pos; omega
theorem _qnn (a b:Rat):mkRat (a.num * b.den + b.num * a.den) (a.den * b.den)=a + b:=by rw [Rat.add_def,Cw]
theorem _qkh (a b:Rat):mkRat (a.num * b.den - b.num * a.den) (a.den * b.den)=a - b:=by rw [Rat.sub_def,Cw]
theorem _qlw (a b:Rat):mkRat (a.num * b.num) (a.den * b.den)=a * b:=by rw [Rat.mul_def,Cw]
def Bd (n d:Nat) (a:Rat):Prop:=a.num.natAbs < 2 ^ n/\a.den < 2 ^ d
theorem Bd.mono {n d n' d':Nat} {a:Rat} (h:Bd n d a) (hn:n <= n') (hd:d <= d'):Bd n' d' a:=⟨lt_of_lt_of_le h.1 (pow_le_pow_right (by decide) hn),lt_of_lt_of_le h.2 (pow_le_pow_right (by decide) hd)⟩
theorem Bd.num {n d:Nat} {a:Rat} (h:Bd n d a):Sz n a.num:=h.1
theorem Bd.den {n d:Nat} {a:Rat} (h:Bd n d a):Sz d (a.den:Int):=by show (a.den:Int).natAbs < 2 ^ d; rw [Bb]; exact h.2
theorem Bd.mk {n d:Nat} {t:Int} {b:Nat} (hb:b ≠ 0) (ht:Sz n t) (hd:b < 2 ^ d):Bd n d (mkRat t b):=by
 obtain ⟨h1,h2⟩:=_qft (t:=t) hb;rw [Cw] at h1 h2;have hp:(0:Int) < b:=by omega
 refine ⟨?_,?_⟩
 ·rw [<- h1]; exact lt_of_le_of_lt (_qp2 hp) ht
 ·have:=_qp1 (t:=t) hp
  rw [h2] at this;omega
theorem Bd.add {n d m e:Nat} {a b:Rat} (ha:Bd n d a) (hb:Bd m e b):Bd (max (n + e) (m + d) + 1) (d + e) (a + b):=by
 rw [<- _qnn];refine Bd.mk (mul_ne_zero a.den_nz b.den_nz) ?_ (_qe1 ha.2 hb.2);exact Sz.add ((ha.num.mul hb.den).mono (Jn _ _)) ((hb.num.mul ha.den).mono (Iq _ _))
theorem Bd.sub {n d m e:Nat} {a b:Rat} (ha:Bd n d a) (hb:Bd m e b):Bd (max (n + e) (m + d) + 1) (d + e) (a - b):=by
 rw [<- _qkh];refine Bd.mk (mul_ne_zero a.den_nz b.den_nz) ?_ (_qe1 ha.2 hb.2);exact Sz.sub ((ha.num.mul hb.den).mono (Jn _ _)) ((hb.num.mul ha.den).mono (Iq _ _))
theorem Bd.mul {n d m e:Nat} {a b:Rat} (ha:Bd n d a) (hb:Bd m e b):Bd (n + m) (d + e) (a * b):=by
 rw [<- _qlw];exact Bd.mk (mul_ne_zero a.den_nz b.den_nz) (ha.num.mul hb.num) (_qe1 ha.2 hb.2)
def ev {α:Type}:List α->List α
 | []=>[]
 | [x]=>[x]
 | x :: _ :: l=>x :: ev l
def od {α:Type}:List α->List α
 | []=>[]
 | [_]=>[]
 | _ :: y :: l=>y :: od l
abbrev _qud:=Int × List Int
def _y (l:List Int):D:=.lst (l.map .int)
def _x3 (p:_qud):D:=.tup [.int p.1,_y p.2]
def _F (h:List _qud):D:=.lst (h.map _x3)
@[simp] theorem _qo1 (l:List Int):imm (_y l)=false:=by simp [_y]
@[simp] theorem _qns {n:Nat} (l:List Int):shp (n + 1) (_y l)=true:=by simp [_y]
@[simp] theorem _qnr {n:Nat} (p:_qud):shp (n + 2) (_x3 p)=true:=by simp [_x3]
@[simp] theorem _qnt {n:Nat} (h:List _qud):shp (n + 3) (_F h)=true:=by
 simp only [_F,_qfd];exact _Xq.mpr fun d m=>by obtain ⟨p,_,rfl⟩:=Ah.mp m; simp
@[simp] theorem _qo0 (p:_qud):imm (_x3 p)=false:=by simp [_x3]
@[simp] theorem _qo2 (h:List _qud):imm (_F h)=false:=by simp [_F]
theorem _Q6 (a b:List Int):eqD (_y a) (_y b)=decide (a=b):=by simp [_y,eqD,_qeh]
@[simp] theorem _qen (a b:List Int):dEq (_y a) (_y b)=some (.bl (decide (a=b))):=by simp [dEq,_Q6]
@[simp] theorem _qo3 (a b:List Int):dNe (_y a) (_y b)=some (.bl (!decide (a=b))):=by simp [dNe,_Q6]
theorem _qei (p q:_qud):eqD (_x3 p) (_x3 q)=decide (p=q):=by
 obtain ⟨a,l⟩:=p;obtain ⟨b,m⟩:=q;rw [A5];simp [_x3,eqD,_qtt,_Q6]
theorem _qbm {α:Type} [DecidableEq α] {inj:α->D} (h:∀ a b,eqD (inj a) (inj b)=decide (a=b)):∀ (xs ys:List α),_qtt (xs.map inj) (ys.map inj)=decide (xs=ys)
 | [],[]=>by simp [_qtt]
 | [],_ :: _=>by simp [_qtt]
 | _ :: _,[]=>by simp [_qtt]
 | x :: xs,y :: ys=>by rw [A5]; simp [_qtt,h,_qbm h xs ys]
theorem _Ko (h k:List _qud):eqD (_F h) (_F k)=decide (h=k):=by
 simp only [_F,eqD];exact _qbm _qei h k
@[simp] theorem _qo8 (a b:List _qud):dEq (_F a) (_F b)=some (.bl (decide (a=b))):=by simp [dEq,_Ko]
@[simp] theorem _qo4 (a b:List _qud):dNe (_F a) (_F b)=some (.bl (!decide (a=b))):=by simp [dNe,_Ko]
def has (l:List Int) (c:Int):Bool:=l.contains c
theorem _vw {l:List Int} {c:Int}:has l c=true ↔ c∈l:=by simp [has]
theorem _wf (c:Int) (l:List Int):((l.map D.int).any fun y=>eqD y (.int c))=has l c:=by
 rw [A5,_vw];simp [any_eq_true,eqD]
@[simp] theorem _qpy (c:Int) (l:List Int):dIn (.int c) (_y l)=some (.bl (has l c)):=by
 have:=_wf c l
 simp only [_y,dIn,this]; simp
@[simp] theorem _qk2 (c:Int) (l:List Int):_Xc (.int c) (_y l)=some (.bl (!has l c)):=by
 have:=_wf c l
 simp only [_y,_Xc,this]; simp
@[simp] theorem _qem (p:_qud):dIx (_x3 p) (.int 0)=some (.int p.1):=_qbw
@[simp] theorem _qo7 (p:_qud):dIx (_x3 p) (.int 1)=some (_y p.2):=_qjd
theorem _qbc (l:List Int):oD (ow (l.map .int))=some (_y l):=by simp [_y]
def atB {α:Type} (p:α->Bool):Option α->Bool
 | some x=>p x
 | none=>false
@[simp] theorem _qlz (l:List Int):_Jl (_y l)=some (l.map .int):=rfl
@[simp] theorem _qm0 (h:List _qud):_Jl (_F h)=some (h.map _x3):=rfl
@[simp] theorem _qo5 (l:List Int):dLen [_y l]=some (.int l.length):=by simp [_y]
@[simp] theorem _qo6 (h:List _qud):dLen [_F h]=some (.int h.length):=by simp [_F]
@[simp] theorem _qnw (l:List Int):_qtj "list" (_y l)=some (.bl true):=rfl
@[simp] theorem _qnx (l:List _qud):_qtj "list" (_F l)=some (.bl true):=rfl
@[simp] theorem _qnv (l:_qud):_qtj "tuple" (_x3 l)=some (.bl true):=rfl
@[simp] theorem _qph (l:List Int):isT (_y l) "list"=true:=rfl
@[simp] theorem _qm5 (l:List Int):_qg1 [_y l]=some (l.map .int):=rfl
def _xq (m s:List Int):Bool:=s.all fun c=>has m c
def agr (h:List _qud) (s:List Int):List Int:=((Ar h.length).filter fun i=>atB (fun p:_qud=>_xq p.2 s) h[i]?).map fun (i:Nat)=>(i:Int)
theorem _Kp {α:Type} (inj:α->D) (h:List α):_qbn (h.map inj)=((Ar h.length).zip h).map fun q=>.tup [.int (q.1:Int),inj q.2]:=by
 unfold _qbn;rw [length_map];apply ext_getElem
 ·simp
 ·intro i h1 h2
  simp
theorem _Wy {α:Type} (p:α->Bool) (h:List α):((((Ar h.length).zip h).filter fun q=>p q.2).map fun q=>q.1)=(Ar h.length).filter fun i=>atB p h[i]?:=by
 have key:∀ (l:List Nat) (h':List α),(∀ i∈l,i < h.length)->(l.zip h').length=l.length->(∀ j (hj:j < l.length),h'[j]?=h[l[j]]?)->(((l.zip h').filter fun q=>p q.2).map fun q=>q.1)=l.filter fun i=>atB p h[i]?:=by
  intro l
  induction l with
  | nil=>intro h' _ _ _; simp
  | cons i l ih =>
   intro h' hl hlen hget;cases h' with
   | nil=>simp at hlen
   | cons x h' =>
    have h0:=hget 0 (by simp);simp at h0;have ih':=ih h' (fun j m=>hl j (mem_cons_of_mem _ m)) (by simpa using hlen) (fun j hj=>by have:=hget (j + 1) (by simpa using hj); simpa using this);have e:atB p h[i]?=p x:=by rw [<- h0]; rfl
    rw [Hn,filter_cons,filter_cons];simp only [e];cases p x with
    | true=>simp [ih']
    | false=>simpa using ih'
 exact key (Ar h.length) h (fun i m=>A0.mp m) (by simp) (fun j hj=>by simp)
end MB
namespace MT
open MB DL
theorem lex_irr:∀ s,_qth s s=false:=by
 intro s
 induction s with
 | nil=>rfl
 | cons a s ih=>simp [_qth,ih]
theorem lex_tr:∀ {s t u},_qth s t=true->_qth t u=true->_qth s u=true:=by
 intro s
 induction s with
 | nil =>
  intro t u h1 h2;cases u with
  | nil=>cases t <;> simp [_qth] at h2
  | cons _ _=>rfl
 | cons a s ih =>
  intro t u h1 h2;cases t with
  | nil=>simp [_qth] at h1
  | cons b t =>
   cases u with
   | nil=>simp [_qth] at h2
   | cons c u =>
    simp only [_qth,Jp,C0,decide_eq_true_eq] at h1 h2 ⊢;rcases h1 with h1 | ⟨rfl,h1⟩ <;> rcases h2 with h2 | ⟨rfl,h2⟩
    ·left; omega
    ·left; exact h1
    ·left; exact h2
    ·right; exact ⟨rfl,ih h1 h2⟩
theorem lex_tot:∀ s t,_qth s t=false->s ≠ t->_qth t s=true:=by
 intro s
 induction s with
 | nil=>intro t h1 h2; cases t with
  | nil=>exact absurd rfl h2
  | cons _ _=>simp [_qth] at h1
 | cons a s ih =>
  intro t h1 h2;cases t with
  | nil=>rfl
  | cons b t =>
   simp only [_qth,Jp,C0,decide_eq_true_eq,Bool.or_eq_false_iff,Bool.and_eq_false_iff,decide_eq_false_iff_not] at h1 ⊢
   by_cases e:a=b
   ·subst e
    right
    refine ⟨rfl,ih t ?_ ?_⟩
    ·rcases h1.2 with h | h
     ·exact absurd rfl h
     ·exact h
    ·intro e; exact h2 (by rw [e])
   ·left; omega
theorem _qfx {m x:List Int} {ks:List (List Int)}:x∈_qtk m ks ↔ x=m \/ x∈ks:=by
 induction ks with
 | nil=>simp [_qtk]
 | cons k ks ih =>
  simp only [_qtk];split
  ·rename_i e; subst e; simp
  ·split
   ·simp
   ·simp only [mem_cons,ih]
    constructor
    ·rintro (h | h | h) <;> simp [h]
    ·rintro (h | h | h) <;> simp [h]
theorem mem_keys {x:List Int} {l:List (List Int)}:x∈_jc l ↔ x∈l:=by
 induction l with
 | nil=>simp [_jc]
 | cons a l ih=>simp only [_jc,List.foldr_cons,_qfx,mem_cons] at ih ⊢; rw [ih]
theorem _qg2 (m:List Int):∀ ks:List (List Int),(_qtk m ks).length <= ks.length + 1
 | []=>by simp [_qtk]
 | k :: ks=>by
  unfold _qtk
  have:=_qg2 m ks
  split
  ·simp
  ·split
   ·simp
   ·simp; omega
theorem keys_len (l:List (List Int)):(_jc l).length <= l.length:=by
 induction l with
 | nil=>simp [_jc]
 | cons a l ih =>
  have:=_qg2 a (_jc l)
  have e:_jc (a :: l)=_qtk a (_jc l):=rfl;rw [e]
  simp; omega
def Ris (ks:List (List Int)):Prop:=ks.Pairwise fun a b=>_qth a b=true
theorem _qme {m:List Int} {ks:List (List Int)} (h:Ris ks):Ris (_qtk m ks):=by
 induction ks with
 | nil=>simp [_qtk,Ris]
 | cons k ks ih =>
  simp only [Ris,pairwise_cons] at h ih;simp only [_qtk];split
  ·simpa [Ris] using h
  ·rename_i e
   split
   ·rename_i e2
    simp only [Ris,pairwise_cons,mem_cons];refine ⟨?_,h⟩;rintro x (rfl | hx)
    ·exact e2
    ·exact lex_tr e2 (h.1 x hx)
   ·rename_i e2
    simp only [Ris,pairwise_cons];refine ⟨?_,ih h.2⟩;intro x hx;rcases _qfx.mp hx with rfl | hx
    ·exact lex_tot _ _ (by simpa using e2) e
    ·exact h.1 x hx
theorem keys_ris (l:List (List Int)):Ris (_jc l):=by
 induction l with
 | nil=>simp [_jc,Ris]
 | cons a l ih=>exact _qme ih
theorem ris_eq:∀ {a b:List (List Int)},Ris a->Ris b->(∀ x,x∈a ↔ x∈b)->a=b:=by
 intro a
 induction a with
 | nil =>
  intro b _ _ h;cases b with
  | nil=>rfl
  | cons x _=>exact absurd ((h x).mpr (by simp)) (by simp)
 | cons x a ih =>
  intro b ha hb h;cases b with
  | nil=>exact absurd ((h x).mp (by simp)) (by simp)
  | cons y b =>
   simp only [Ris,pairwise_cons] at ha hb;have exy:x=y:=by
    rcases Al.mp ((h x).mp (by simp)) with e | hx
    ·exact e
    ·rcases Al.mp ((h y).mpr (by simp)) with e | hy
     ·exact e.symm
     ·have:=lex_tr (hb.1 x hx) (ha.1 y hy)
      rw [lex_irr] at this; exact absurd this (by simp)
   subst exy;congr 1;refine ih ha.2 hb.2 fun z=>?_;have nx:∀ {c:List (List Int)},(∀ w∈c,_qth x w=true)->x ∉ c:=fun hc hm=>by
    have:=hc x hm; rw [lex_irr] at this; exact absurd this (by simp)
   constructor
   ·intro hz
    rcases Al.mp ((h z).mp (by simp [hz])) with e | hz'
    ·subst e; exact absurd hz (nx ha.1)
    ·exact hz'
   ·intro hz
    rcases Al.mp ((h z).mpr (by simp [hz])) with e | hz'
    ·subst e; exact absurd hz (nx hb.1)
    ·exact hz'
theorem wt_none {h:List _qud} {m:List Int} (n:m ∉ h.map fun p=>p.2):wtK h m=0:=by
 have:(h.filter fun p=>decide (p.2=m))=[]:=by
  rw [List.filter_eq_nil_iff];intro p hp;simp only [decide_eq_true_eq];intro e;exact n (by rw [<- e]; exact List.mem_map_of_mem hp)
 simp [wtK,this]
theorem wt_append (h k:List _qud) (m:List Int):wtK (h++k) m=wtK h m + wtK k m:=by simp [wtK]
end MT
namespace L2
open PySem PySem.Spec PyProof.Rows
section
variable {κ:Type} [DecidableEq κ]
def _qsr (kvs:List (κ × V)) (k:κ):Option V:=(kvs.find? fun kv=>decide (kv.1=k)).map (·.2)
def _qt7 (kvs:List (κ × V)) (k:κ) (v:V):List (κ × V) :=
 if (kvs.any fun kv=>decide (kv.1=k))=true then kvs.map (fun kv=>if kv.1=k then (kv.1,v) else kv) else kvs++[(k,v)]
def _qct (kvs:List (κ × V)) (k:κ):List (κ × V):=kvs.filter fun kv=>decide (kv.1 ≠ k)
theorem _ql {p:κ × V} {r:List (κ × V)} {k:κ} (e:p.1=k):_qsr (p :: r) k=some p.2:=by simp [_qsr,find?_cons,e]
theorem _qm {p:κ × V} {r:List (κ × V)} {k:κ} (e:¬ p.1=k):_qsr (p :: r) k=_qsr r k:=by simp [_qsr,find?_cons,e]
theorem _xf (k:κ):∀ kvs:List (κ × V),(kvs.any fun kv=>decide (kv.1=k))=(_qsr kvs k).isSome
 | []=>rfl
 | p :: r=>by
  rw [any_cons]
  by_cases e:p.1=k
  ·simp only [_ql e,decide_eq_true e,Bool.true_or,Option.isSome_some]
  ·rw [_qm e,decide_eq_false e,Bool.false_or]; exact _xf k r
theorem _W6 (k j:κ) (y:V):∀ kvs:List (κ × V),_qsr (kvs.map fun kv=>if kv.1=k then (kv.1,y) else kv) j=(_qsr kvs j).map fun x=>if j=k then y else x
 | []=>rfl
 | p :: r=>by
  have ih:=_W6 k j y r;rw [map_cons]
  by_cases h:p.1=k
  ·rw [if_pos h]
   by_cases e:p.1=j
   ·rw [_ql (p:=(p.1,y)) e,_ql e,Option.map_some,if_pos (e.symm.trans h)]
   ·rw [_qm (p:=(p.1,y)) e,_qm e,ih]
  ·rw [if_neg h]
   by_cases e:p.1=j
   ·rw [_ql (p:=p) e,_ql e,Option.map_some,if_neg (fun z=>h (e.trans z))]
   ·rw [_qm (p:=p) e,_qm e,ih]
theorem _Vm (k j:κ) (y:V):∀ kvs:List (κ × V),_qsr kvs k=none->_qsr (kvs++[(k,y)]) j=if j=k then some y else _qsr kvs j
 | [],_=>by
  by_cases e:k=j
  ·rw [if_pos e.symm]; exact _ql (p:=(k,y)) e
  ·rw [if_neg (fun z=>e z.symm)]; exact _qm (p:=(k,y)) e
 | p :: r,hn=>by
  rw [List.cons_append];have hk:¬ p.1=k:=fun z=>by rw [_ql z] at hn; cases hn
  rw [_qm hk] at hn;have ih:=_Vm k j y r hn
  by_cases e:p.1=j
  ·rw [_ql e,_ql e,if_neg (fun z=>hk (e.trans z))]
  ·rw [_qm e,_qm e,ih]
theorem _W5 (kvs:List (κ × V)) (k j:κ) (y:V):_qsr (_qt7 kvs k y) j=if j=k then some y else _qsr kvs j:=by
 unfold _qt7
 by_cases a:(kvs.any fun kv=>decide (kv.1=k))=true
 ·rw [if_pos a,_W6]
  rw [_xf] at a
  by_cases e:j=k
  ·obtain ⟨x,hx⟩:=Im.mp a
   rw [if_pos e,e,hx,Option.map_some,if_pos rfl]
  ·rw [if_neg e]
   cases _qsr kvs j with
   | none=>rfl
   | some x=>rw [Option.map_some,if_neg e]
 ·rw [if_neg a]
  refine _Vm k j y kvs ?_;rw [_xf] at a;cases q:_qsr kvs k with
  | none=>rfl
  | some x=>rw [q] at a; exact (a rfl).elim
theorem _vh (kvs:List (κ × V)) (k:κ) (v:V):(_qt7 kvs k v).length <= kvs.length + 1:=by
 unfold _qt7;split
 ·rw [length_map]; omega
 ·rw [length_append,length_cons,List.length_nil]; omega
theorem _qub.isSome_eq {o:Option V} {u:Option Value} (r:_qub o u):o.isSome=u.isSome:=by
 cases o with
 | none=>cases u with
  | none=>rfl
  | some _=>exact (show False from r).elim
 | some _=>cases u with
  | none=>exact (show False from r).elim
  | some _=>rfl
theorem _qub.getD {o:Option V} {u:Option Value} {d:V} {d':Value} (r:_qub o u) (rd:RelV d d'):RelV (o.getD d) (u.getD d'):=by
 cases o with
 | none=>cases u with
  | none=>exact rd
  | some _=>exact (show False from r).elim
 | some _=>cases u with
  | none=>exact (show False from r).elim
  | some _=>exact r
theorem KV.val {kvs:List (κ × V)} {vs:List (κ × Value)} (r:KV kvs vs) (k:κ):_qub (_qsr kvs k) (Ko vs k):=by
 unfold KV at r
 induction r with
 | nil=>exact True.intro
 | @cons p q ps qs h t ih =>
  obtain ⟨h1,h2⟩:=h
  by_cases e:p.1=k
  ·have e':q.1=k:=h1.symm.trans e
   have b:Ko (q :: qs) k=some q.2:=by simp [Ko,find?_cons,e']
   rw [_ql e,b]; exact h2
  ·have e':¬ q.1=k:=fun z=>e (h1.trans z)
   have b:Ko (q :: qs) k=Ko qs k:=by simp [Ko,find?_cons,e']
   rw [_qm e,b]; exact ih
theorem KV.any {kvs:List (κ × V)} {vs:List (κ × Value)} (r:KV kvs vs) (k:κ):(kvs.any fun kv=>decide (kv.1=k))=vs.any fun kv=>decide (kv.1=k):=by
 unfold KV at r
 induction r with
 | nil=>rfl
 | cons h t ih=>rw [any_cons,any_cons,ih,h.1]
theorem KV.repl {kvs:List (κ × V)} {vs:List (κ × Value)} (r:KV kvs vs) (k:κ) {y:V} {u:Value} (ry:RelV y u) :
  KV (kvs.map fun kv=>if kv.1=k then (kv.1,y) else kv) (vs.map fun kv=>if kv.1=k then (kv.1,u) else kv):=by
 unfold KV at r ⊢
 induction r with
 | nil=>exact .nil
 | @cons p q ps qs h t ih =>
  rw [map_cons,map_cons];refine .cons ?_ ih;obtain ⟨h1,h2⟩:=h
  by_cases e:p.1=k
  ·rw [if_pos e,if_pos (h1.symm.trans e)]; exact ⟨h1,ry⟩
  ·rw [if_neg e,if_neg (fun z=>e (h1.trans z))]; exact ⟨h1,h2⟩
theorem KV.put {kvs:List (κ × V)} {vs:List (κ × Value)} (r:KV kvs vs) (k:κ) {y:V} {u:Value} (ry:RelV y u):KV (_qt7 kvs k y) (stored vs k u):=by
 unfold _qt7 stored;rw [r.any k]
 by_cases e:(vs.any fun kv=>decide (kv.1=k))=true
 ·rw [if_pos e,if_pos e]; exact r.repl k ry
 ·rw [if_neg e,if_neg e]; exact Paired.snoc r ⟨rfl,ry⟩
theorem KV.drop {kvs:List (κ × V)} {vs:List (κ × Value)} (r:KV kvs vs) (k:κ):KV (_qct kvs k) (without vs k):=by
 unfold KV at r ⊢;unfold _qct without
 induction r with
 | nil=>exact .nil
 | @cons p q ps qs h t ih =>
  obtain ⟨h1,h2⟩:=h;rw [filter_cons,filter_cons]
  by_cases e:p.1=k
  ·have a:¬ decide (p.1 ≠ k)=true:=by simp [e]
   have b:¬ decide (q.1 ≠ k)=true:=by simp [h1.symm.trans e]
   rw [if_neg a,if_neg b]; exact ih
  ·have e':¬ q.1=k:=fun z=>e (h1.trans z)
   have a:decide (p.1 ≠ k)=true:=by simp [e]
   have b:decide (q.1 ≠ k)=true:=by simp [e']
   rw [if_pos a,if_pos b]; exact .cons ⟨h1,h2⟩ ih
theorem KV.length {kvs:List (κ × V)} {vs:List (κ × Value)} (r:KV kvs vs):kvs.length=vs.length:=Paired.length r
theorem _qj9 (kvs:List (κ × V)) (k:κ):(_qct kvs k).length <= kvs.length:=length_filter_le _ _
end
theorem _qk0 {P:Ak} {w:World} {k:Key} {u:Value} (r:RelV (kV k) u):(_qj P w).is k u=true:=by
 cases k with
 | inl i=>obtain ⟨t,e⟩:=(show ∃ t,u=Value.int i t from r); subst e; exact _Wk P w i t
 | inr x=>obtain ⟨t,e⟩:=(show ∃ t,u=Value.str x t from r); subst e; exact _Wj P w x t
theorem _Ki {P:Ak} {w:World}:∀ {ks:List Key} {us:List Value},_qu8 (ks.map kV) us->ItemsAre (_qj P w) ks us
 | [],_,r=>by rw [map_nil] at r; cases r; exact .nil
 | k :: ks,_,r=>by
  rw [map_cons] at r;cases r with
  | cons h t=>exact .cons (_qk0 h) (_Ki t)
abbrev KT (H:Hp):List (List Key × V)->List (List Key × Addr × Value)->Prop:=Paired fun p q=>p.1=q.1/\H q.2.1=some (.tup (p.1.map kV))/\RelV p.2 q.2.2
theorem KT.val {H:Hp} {kvs:List (List Key × V)} {xs:List (List Key × Addr × Value)} (r:KT H kvs xs) (k:List Key):_qub (_qsr kvs k) ((atKey xs k).map (·.2)):=by
 induction r with
 | nil=>exact True.intro
 | @cons p q ps qs h t ih =>
  obtain ⟨h1,_,h2⟩:=h
  by_cases e:p.1=k
  ·have e':q.1=k:=h1.symm.trans e
   have b:atKey (q :: qs) k=some q.2:=by simp [atKey,find?_cons,e']
   rw [_ql e,b]; exact h2
  ·have e':¬ q.1=k:=fun z=>e (h1.trans z)
   have b:atKey (q :: qs) k=atKey qs k:=by simp [atKey,find?_cons,e']
   rw [_qm e,b]; exact ih
theorem KT.repl {H:Hp} {kvs:List (List Key × V)} {xs:List (List Key × Addr × Value)} (r:KT H kvs xs) (k:List Key) {y:V} {u:Value} (ry:RelV y u) :
  KT H (kvs.map fun kv=>if kv.1=k then (kv.1,y) else kv) (xs.map (putAt k u)):=by
 induction r with
 | nil=>exact .nil
 | @cons p q ps qs h t ih =>
  rw [map_cons,map_cons];refine .cons ?_ ih;obtain ⟨h1,h2,h3⟩:=h;unfold putAt
  by_cases e:p.1=k
  ·rw [if_pos e,if_pos (h1.symm.trans e)]; exact ⟨h1,h2,ry⟩
  ·rw [if_neg e,if_neg (fun z=>e (h1.trans z))]; exact ⟨h1,h2,h3⟩
theorem KT.put {H:Hp} {kvs:List (List Key × V)} {xs:List (List Key × Addr × Value)} (r:KT H kvs xs) (k:List Key) {b:Addr} {y:V} {u:Value} (hb:H b=some (.tup (k.map kV))) (ry:RelV y u) :
  KT H (_qt7 kvs k y) (storedH xs k b u):=by
 have e:(kvs.any fun kv=>decide (kv.1=k))=(atKey xs k).isSome:=by
  rw [_xf,(r.val k).isSome_eq,isSome_map]
 unfold _qt7 storedH;rw [e]
 by_cases q:(atKey xs k).isSome=true
 ·rw [if_pos q,if_pos q]; exact r.repl k ry
 ·rw [if_neg q,if_neg q]; exact Paired.snoc r ⟨rfl,hb,ry⟩
theorem KT.keeps {H H':Hp} {kvs:List (List Key × V)} {xs:List (List Key × Addr × Value)} (r:KT H kvs xs) (ht:∀ b ys,H b=some (.tup ys)->H' b=some (.tup ys)):KT H' kvs xs :=
 Paired.mapP r fun _ _ z=>⟨z.1,ht _ _ z.2.1,z.2.2⟩
section
variable {P:Ak} {w:World} {H:Hp} {h:Heap} {a:Addr}
theorem rd_of {u:HO} (ok:HOk P w H h) (e:Rd H a u):_zn P w H h a u:=e.ok ok
theorem _qjb {kvs:List (Key × V)} (ok:HOk P w H h) (e:Rd H a (.dK kvs)):kvs.length <= Aj/\(a == Bi)=false/\∃ vs,KV kvs vs/\h.DictOf (_qj P w) a vs :=
 show _zn P w H h a (.dK kvs) from rd_of ok e
theorem dk_of {kvs:List (Key × V)} (ok:HOk P w H h) (e:H a=some (.dK kvs)):kvs.length <= Aj/\(a == Bi)=false/\∃ vs,KV kvs vs/\h.DictOf (_qj P w) a vs:=_qjb ok (.inl e)
theorem _Zq {ks:List Key} (ok:HOk P w H h) (e:H a=some (.tup (ks.map kV))):(Fc (_qj P w)).is h ks a:=by
 obtain ⟨_,its,r,o,h1,h2,n,h3⟩:=(show _zn P w H h a (.tup (ks.map kV)) from ok a _ e);exact ⟨o,its.toArray,n,h1,h2,h3,by simpa using _Ki r⟩
theorem _qj3 {kvs:List (List Key × V)} (ok:HOk P w H h) (e:Rd H a (.dT kvs)):kvs.length <= Aj/\(a == Bi)=false /\
  ∃ xs,KT H kvs xs/\h.DictOfH (Fc (_qj P w)) a xs:=by
 obtain ⟨z,y,xs,r,o,es,ep,h1,h2,h3,h4,h5⟩:=(show _zn P w H h a (.dT kvs) from rd_of ok e);refine ⟨z,y,xs,r,o,es,ep,h1,h2,h3,h4,fun x hx=>?_,h5⟩;have all:∀ {l:List (List Key × V)} {m:List (List Key × Addr × Value)},KT H l m->∀ x∈m,(Fc (_qj P w)).is h x.1 x.2.1:=by
  intro l m q
  induction q with
  | nil=>intro x hx; exact nomatch hx
  | @cons p q ps qs hq t ih =>
   intro x hx;rcases Al.mp hx with e | hx
   ·subst e
    exact _Zq ok (by rw [<- hq.1]; exact hq.2.1)
   ·exact ih x hx
 exact all r x hx
theorem dt_of {kvs:List (List Key × V)} (ok:HOk P w H h) (e:H a=some (.dT kvs)):kvs.length <= Aj/\(a == Bi)=false /\
  ∃ xs,KT H kvs xs/\h.DictOfH (Fc (_qj P w)) a xs:=_qj3 ok (.inl e)
end
def _qui (H:Hp) (a:Addr) (y:V) (r:Option V):Prop :=
 (∃ kvs k,Rd H a (.dK kvs)/\y=kV k/\r=_qsr kvs k) \/ ∃ kvs k b,Rd H a (.dT kvs)/\y=.ref b/\H b=some (.tup (k.map kV))/\r=_qsr kvs k
def DPut (H:Hp) (a:Addr) (y v:V) (H':Hp):Prop :=
 (∃ kvs k,H a=some (.dK kvs)/\y=kV k/\kvs.length < Aj/\H'=upd H a (.dK (_qt7 kvs k v))) \/
 ∃ kvs k b,H a=some (.dT kvs)/\y=.ref b/\H b=some (.tup (k.map kV))/\kvs.length < Aj/\H'=upd H a (.dT (_qt7 kvs k v))
theorem _qui.t {H:Hp} {a b:Addr} {kvs:List (List Key × V)} {k:List Key} (e:H a=some (.dT kvs)) (eb:H b=some (.tup (k.map kV))):_qui H a (.ref b) (_qsr kvs k):=.inr ⟨kvs,k,b,.inl e,rfl,eb,rfl⟩
theorem DPut.t {H:Hp} {a b:Addr} {kvs:List (List Key × V)} {k:List Key} {v:V} (e:H a=some (.dT kvs)) (eb:H b=some (.tup (k.map kV))) (hl:kvs.length < Aj) :
  DPut H a (.ref b) v (upd H a (.dT (_qt7 kvs k v))):=.inr ⟨kvs,k,b,e,rfl,eb,hl,rfl⟩
section
variable {X:Cx} {pins:List (Addr × Obj)} {σ:St} {H:Hp} {s:Shared} {a:Addr} {y v:V} {u r:Value} {o:Option V} {A:Around} {E:Value->Shared->Prop}
theorem Inv.big (I:Inv X pins σ H s):Bi < s.heap.objs.size:=by
 have h:Aq < s.heap.objs.size:=(I.mod.glob.keeps I.bk).lt;exact lt_trans (by decide) h
theorem _qel {Q:Value->Shared->Prop} (hu:A.units + 1 < cLine) (I:Inv X pins σ H s) (g:_qui H a y (some v)) (ry:RelV y u) (h:∀ w' s',Inv X pins σ H s'->RelV v w'->Q w' s') :
  wpAny (model X.prog X.w) A (Lo (.ref a) u) Q E s:=by
 rcases g with ⟨kvs,k,e,ey,l⟩ | ⟨kvs,k,b,e,ey,eb,l⟩
 ·subst ey
  obtain ⟨z,hd,vs,rel,dd⟩:=_qjb I.hok e;obtain ⟨w',hw,rw'⟩:=_qub.some_of (v:=v) (o:=Ko vs k) (by rw [l]; exact rel.val k);exact wpAny_getItem_of (_qk0 ry) dd.mapOf hw (h w' _ (I.tok _) rw')
 ·subst ey
  cases (show u=Value.ref b from ry);obtain ⟨z,hd,xs,rel,dd⟩:=_qj3 I.hok e;obtain ⟨w',hw,rw'⟩:=_qub.some_of (v:=v) (o:=(atKey xs k).map (·.2)) (by rw [l]; exact rel.val k);obtain ⟨p,hp,hp2⟩:=D7.mp hw;refine wpAny_getItem_heap (Cj hu) (_Zq I.hok eb) dd hp ?_;rw [hp2];exact h w' _ (I.tok _) rw'
theorem d_in {Q:Value->Shared->Prop} (hu:A.units + 1 < cLine) (I:Inv X pins σ H s) (g:_qui H a y o) (ry:RelV y u) (h:∀ s',Inv X pins σ H s'->Q (.bool o.isSome) s') :
  wpAny (model X.prog X.w) A (Bm .In u (.ref a)) Q E s:=by
 rcases g with ⟨kvs,k,e,ey,l⟩ | ⟨kvs,k,b,e,ey,eb,l⟩
 ·subst ey
  obtain ⟨z,hd,vs,rel,dd⟩:=_qjb I.hok e;refine wpAny_in_of (_qk0 ry) hd dd.mapOf ?_;rw [<- (rel.val k).isSome_eq,<- l];exact h _ (I.tok _)
 ·subst ey
  cases (show u=Value.ref b from ry);obtain ⟨z,hd,xs,rel,dd⟩:=_qj3 I.hok e;refine wpAny_in_heap (Cj hu) (_Zq I.hok eb) hd dd ?_;have q:=(rel.val k).isSome_eq;rw [isSome_map] at q;rw [<- q,<- l];exact h _ (I.tok _)
theorem _qn2 {Q:Value->Shared->Prop} (hu:A.units + 1 < cLine) (I:Inv X pins σ H s) (g:_qui H a y o) (ry:RelV y u) (h:∀ s',Inv X pins σ H s'->Q (.bool (!o.isSome)) s') :
  wpAny (model X.prog X.w) A (Bm .NotIn u (.ref a)) Q E s:=by
 rcases g with ⟨kvs,k,e,ey,l⟩ | ⟨kvs,k,b,e,ey,eb,l⟩
 ·subst ey
  obtain ⟨z,hd,vs,rel,dd⟩:=_qjb I.hok e;refine wpAny_notIn_of (_qk0 ry) hd dd.mapOf ?_;rw [<- (rel.val k).isSome_eq,<- l];exact h _ (I.tok _)
 ·subst ey
  cases (show u=Value.ref b from ry);obtain ⟨z,hd,xs,rel,dd⟩:=_qj3 I.hok e;refine wpAny_notIn_heap (Cj hu) (_Zq I.hok eb) hd dd ?_;have q:=(rel.val k).isSome_eq;rw [isSome_map] at q;rw [<- q,<- l];exact h _ (I.tok _)
theorem _qbu {h':Heap} {t':Nat} {ob:HO} (I:Inv X pins σ H s) (mu:Mut (H a)) (hs:Heap.SameBut a s.heap h') (he:∃ q,h'.get? a=some q) (new:_zn X.prog X.w (upd H a ob) h' a ob) :
  Inv X pins σ (upd H a ob) { s with heap:=h',toks:=t' } :=
 I.write (x:=a) (e:=a) mu (.inl rfl) (fun b q hb z=>(hs.2 b hb).trans z) he new
theorem _qpu {P:Ak} {w:World} {H':Hp} {h':Heap} {kvs:List (Key × V)} {vs:List (Key × Value)} (z:kvs.length <= Aj) (hd:(a == Bi)=false) (rel:KV kvs vs) (dd:h'.DictOf (_qj P w) a vs) :
  _zn P w H' h' a (.dK kvs):=⟨z,hd,vs,rel,dd⟩
theorem _qek {H':Hp} {Q:Unit->Shared->Prop} (hu:A.units + 1 < cLine) (I:Inv X pins σ H s) (g:DPut H a y v H') (ry:RelV y u) (rv:RelV v r) (h:∀ s',Inv X pins σ H' s'->Q () s') :
  wpAny (model X.prog X.w) A (setItem (.ref a) u r) Q E s:=by
 rcases g with ⟨kvs,k,e,ey,l,eH⟩ | ⟨kvs,k,b,e,ey,eb,l,eH⟩
 ·subst ey eH
  obtain ⟨z,hd,vs,rel,dd⟩:=dk_of I.hok e;have hz:vs.length <= Aj:=by rw [<- rel.length]; exact z
  have hl:(_qt7 kvs k v).length <= Aj:=by have:=_vh kvs k v; omega
  refine wpAny_setItem_pairs (hsz:=hz) (_qk0 ry) dd fun h' dd' hs=>h _ ?_;have he:∃ q,h'.get? a=some q:=let ⟨q,_,_,hq,_⟩:=dd'; ⟨q,hq⟩;exact _qbu I (by rw [e]; exact True.intro) hs he (_qpu hl hd (rel.put k rv) dd')
 ·subst ey eH
  cases (show u=Value.ref b from ry);obtain ⟨z,hd,xs,rel,dd⟩:=dt_of I.hok e;have hz:xs.length <= Aj:=by rw [<- Paired.length rel]; exact z
  have hl:(_qt7 kvs k v).length <= Aj:=by have:=_vh kvs k v; omega
  refine wpAny_setItem_heap (hsz:=hz) (Cj hu) (_Zq I.hok eb) dd fun h' dd' hs=>h _ ?_;obtain ⟨q,es,ep,hq,h2,h3,h4,_,h5⟩:=dd';refine _qbu I (by rw [e]; exact True.intro) hs ⟨q,hq⟩ ⟨hl,hd,_,(rel.put k eb rv).keeps fun c ys ec=>?_,q,es,ep,hq,h2,h3,h4,h5⟩;rw [_e (_zh ec e (fun z=>nomatch z))];exact ec
end
section
variable {X:Cx} {pins:List (Addr × Obj)} {σ:St} {H:Hp} {s:Shared} {a:Addr} {kvs:List (Key × V)} {k:Key} {u:Value} {A:Around} {E:Value->Shared->Prop}
end
def NoSl (i:Expr):Prop:=∀ ov iv,J4 i false ov iv=operate [ov,iv] (Lo ov iv)
theorem _qki {prog:Ak} {w:World} {A:Around} {E:Value->Shared->Prop} {s:Shared} {env:Env} {value slice:Expr} {pos:Pos} {T id:String} {Q:Value->Shared->Prop}
  (hl:K7 (.type T) "__getitem__"=pure (some (.builtin id))) (hs:NoSl slice)
  (h:wpAny (model prog w) A (eval value env) (fun o s₁=>wpAny (model prog w) A (eval slice env) (fun i s₂=>s₂.TypeIs o T/\wpAny (model prog w) A (Lo o i) Q E s₂) E s₁) E s) :
  wpAny (model prog w) A (eval (.Subscript value slice pos) env) Q E s:=by
 refine Subscript_ (Bj h (fun o s₁ h₁=>Bj h₁ (fun i s₂ h₂=>?_) fun _ _ x=>x) fun _ _ x=>x);obtain ⟨hT,h₂⟩:=h₂;unfold Kv;refine Ac ?_;rw [getitemInPython_of_ne hT.not_modules];refine Ac (Gx hT hl ?_);have fin:wpAny (model prog w) A (J4 slice false o i) (fun r s₃=>wpAny (model prog w) A (letTemporaryGo value o r >>= fun _=>pure r) Q E s₃) E s₂:=by
  rw [hs o i];exact wpAny_operating (Bj h₂ (fun r s₃ h₃=>Ac (wpAny_letTemporaryGo (Ad h₃))) fun _ _ x=>x)
 first
  | exact Ad (Ac fin)
  | exact Ac (Ad (Ac fin))
  | exact Ac fin
theorem _Wo {X:Cx} {pins:List (Addr × Obj)} {σ:St} {H:Hp} {s:Shared} {a:Addr} {y:V} {o:Option V} (I:Inv X pins σ H s) (g:_qui H a y o):s.TypeIs (.ref a) "dict":=by
 rcases g with ⟨kvs,k,e,_,_⟩ | ⟨kvs,k,b,e,_,_,_⟩
 ·obtain ⟨_,_,vs,_,dd⟩:=_qjb I.hok e
  exact dd.typeIs
 ·obtain ⟨_,_,xs,_,dd⟩:=_qj3 I.hok e
  exact dd.typeIs
def _qjv (td ty:TE):TE:=fun σ H Q=>td σ H fun x H1=>ty σ H1 fun y H2=>∃ a v,x=.ref a/\_qui H2 a y (some v)/\Q v H2
def tDIn (ty td:TE):TE:=fun σ H Q=>ty σ H fun y H1=>td σ H1 fun x H2=>∃ a o,x=.ref a/\_qui H2 a y o/\Q (.bl o.isSome) H2
def tDNotIn (ty td:TE):TE:=fun σ H Q=>ty σ H fun y H1=>td σ H1 fun x H2=>∃ a o,x=.ref a/\_qui H2 a y o/\Q (.bl (!o.isSome)) H2
def sDPut (td ty tv:TE):TS:=fun D σ H=>tv σ H fun v H1=>td σ H1 fun x H2=>ty σ H2 fun y H3=>∃ a H4,x=.ref a/\DPut H3 a y v H4/\D.nx σ H4
section
variable {X:Cx} {o i e value:Expr} {pos pos' tpos:Pos} {td ty tv:TE}
theorem _Jv (hu:X.A.units + 1 < cLine) (ho:PE X o td) (hi:PE X i ty) (hs:NoSl i):PE X (.Subscript o i pos) (_qjv td ty):=by
 intro pins s σ H Q I h;refine _qki PySem.F.slot_dict_getitem.lookup hs (thn (ho pins s σ H _ I h) fun u s1 ⟨x,H1,I1,rx,q1⟩=>thn (hi pins s1 σ H1 _ I1 q1) fun iv s2 hQ=>?_);obtain ⟨y,H2,I2,ry,a,v,ex,g,q2⟩:=hQ;subst ex;obtain rfl:u=Value.ref a:=rx;exact ⟨_Wo I2 g,_qel hu I2 g ry fun w' s3 I3 rw'=>⟨v,H2,I3,rw',q2⟩⟩
theorem _ql7 (hu:X.A.units + 1 < cLine) (hi:PE X i ty) (ho:PE X o td):PC X .In i o (tDIn ty td):=by
 intro pins s σ H Q I h;refine thn (hi pins s σ H _ I h) fun iv s1 ⟨y,H1,I1,ry,q1⟩=>thn (ho pins s1 σ H1 _ I1 q1) fun u s2 hQ=>?_;obtain ⟨x,H2,I2,rx,a,ov,ex,g,q2⟩:=hQ;subst ex;obtain rfl:u=Value.ref a:=rx;exact d_in hu I2 g ry fun s3 I3=>⟨.bl ov.isSome,H2,I3,rfl,q2⟩
theorem _qdo (hu:X.A.units + 1 < cLine) (hi:PE X i ty) (ho:PE X o td):PC X .NotIn i o (tDNotIn ty td):=by
 intro pins s σ H Q I h;refine thn (hi pins s σ H _ I h) fun iv s1 ⟨y,H1,I1,ry,q1⟩=>thn (ho pins s1 σ H1 _ I1 q1) fun u s2 hQ=>?_;obtain ⟨x,H2,I2,rx,a,ov,ex,g,q2⟩:=hQ;subst ex;obtain rfl:u=Value.ref a:=rx;exact _qn2 hu I2 g ry fun s3 I3=>⟨.bl (!ov.isSome),H2,I3,rfl,q2⟩
theorem _Jt (hu:X.A.units + 1 < cLine) (ho:PE X o td) (hi:PE X i ty) (hv:PE X value tv) (hs:Hc value (some (.Subscript o i pos')) pos.line X.env=pure false) :
  PS X (.Assign [.Subscript o i pos'] value pos) (sDPut td ty tv):=by
 intro pins s σ H D I h;refine wpAny_Assign_Subscript (thn (hv pins s σ H _ I h) fun r s1 ⟨v,H1,I1,rv,q1⟩=>thn (ho pins s1 σ H1 _ I1 q1) fun u s2 ⟨x,H2,I2,rx,q2⟩=>thn (hi pins s2 σ H2 _ I2 q2) fun iv s3 hQ=>?_) hs;obtain ⟨y,H3,I3,ry,a,H4,ex,g,q3⟩:=hQ;subst ex;obtain rfl:u=Value.ref a:=rx;exact _qek hu I3 g ry rv fun s4 I4=>⟨σ,H4,I4,q3⟩
end
theorem _qj4 {P:Ak} {w:World} {H:Hp} (h:Heap) (hb:Bi < h.objs.size):_zn P w H (h.push { cls:=.type "dict",data:=.dict #[] }) h.objs.size (.dT []) :=
 ⟨zero_le _,beq_eq_false_iff_ne.mpr (B4 (ne_of_lt hb)),[],.nil,_,#[],0,Ag _ rfl,⟨rfl,rfl,rfl⟩,rfl,rfl,nodup_nil⟩
def tDNewT:TE:=fun _ H Q=>∀ p,H p=none->Q (.ref p) (upd H p (.dT []))
section
variable {X:Cx} {pos:Pos}
theorem _Qu:PE X (.Dict [] [] pos) tDNewT:=fun pins s σ H Q I h =>
 wpAny_Dict_empty ⟨.ref s.heap.objs.size,_,I.laid (a:=s.heap.objs.size) (o:=.dT []) (t':=s.toks) (fun _ _ q=>Ae _ q) (le_refl _) (_qj4 s.heap I.big),rfl,h _ (I.hok.fresh (le_refl _))⟩
end
structure M1 (X:Cx) (o:Expr) (m:Str) (apos:Pos) (e:Expr) (cpos:Pos):Prop where
 base:Ee o m X.env (eval o X.env)=eval o X.env
 few:((C1 cpos (Ap [e] X.env)).all (fun x=>!x.1) && (Ln cpos (Ib [] X.env)).all (fun x=>x.1.isSome)
  && decide (([e]:List Expr).length + ([]:List Kl).length + (if ([]:List Kl).isEmpty then 0 else 1) < 30))=true
 line:(apos.endLine == cpos.line)=true
 trees:C1 cpos (Ap [e] X.env)=[(false,eval e X.env)]
structure M2 (X:Cx) (o:Expr) (m:Str) (apos:Pos) (e f:Expr) (cpos:Pos):Prop where
 base:Ee o m X.env (eval o X.env)=eval o X.env
 few:((C1 cpos (Ap [e,f] X.env)).all (fun x=>!x.1) && (Ln cpos (Ib [] X.env)).all (fun x=>x.1.isSome)
  && decide (([e,f]:List Expr).length + ([]:List Kl).length + (if ([]:List Kl).isEmpty then 0 else 1) < 30))=true
 line:(apos.endLine == cpos.line)=true
 trees:C1 cpos (Ap [e,f] X.env)=[(false,eval e X.env),(false,eval f X.env)]
def IsD (H:Hp) (a:Addr):Prop:=(∃ kvs,Rd H a (.dK kvs)) \/ ∃ kvs,Rd H a (.dT kvs)
theorem _qim {X:Cx} {pins:List (Addr × Obj)} {σ:St} {H:Hp} {s:Shared} {a:Addr} (I:Inv X pins σ H s) (d:IsD H a) :
  s.TypeIs (.ref a) "dict"/\(∀ b,Value.ref a=.ref b->∃ ob,s.heap.get? b=some ob/\ob.dict=none)/\(a == Bi)=false:=by
 rcases d with ⟨kvs,e⟩ | ⟨kvs,e⟩
 ·obtain ⟨_,hd,vs,_,dd⟩:=_qjb I.hok e
  refine ⟨dd.typeIs,fun b q=>?_,hd⟩;cases q;obtain ⟨ob,_,_,h1,h2,_⟩:=dd;exact ⟨ob,h1,h2.2.1⟩
 ·obtain ⟨_,hd,xs,_,dd⟩:=_qj3 I.hok e
  refine ⟨dd.typeIs,fun b q=>?_,hd⟩;cases q;obtain ⟨ob,_,_,h1,h2,_⟩:=dd;exact ⟨ob,h1,h2.2.1⟩
section
variable {X:Cx} {pins:List (Addr × Obj)} {σ:St} {H:Hp} {s:Shared} {a:Addr} {y d:V} {u r:Value} {o:Option V} {A:Around} {E:Value->Shared->Prop}
theorem _qpw {Q:Value->Shared->Prop} (hu:A.units + 1 < cLine) (I:Inv X pins σ H s) (g:_qui H a y o) (ry:RelV y u) (rd:RelV d r) (h:∀ w' s',Inv X pins σ H s'->RelV (o.getD d) w'->Q w' s') :
  wpAny (model X.prog X.w) A (call (.builtin "dict.get") [.ref a,u,r]) Q E s:=by
 rcases g with ⟨kvs,k,e,ey,l⟩ | ⟨kvs,k,b,e,ey,eb,l⟩
 ·subst ey
  obtain ⟨z,hd,vs,rel,dd⟩:=_qjb I.hok e;refine call_meetsIn Fw dd.typeIs Jh (Iw _ _ _) (meets_dict_get_default (_qj X.prog X.w) a (_qk0 ry) hd r) ⟨_,dd.mapOf,h _ _ (I.tok _) ?_⟩;rw [l];exact (rel.val k).getD rd
 ·subst ey
  cases (show u=Value.ref b from ry);obtain ⟨z,hd,xs,rel,dd⟩:=_qj3 I.hok e;refine call_meetsIn Fw dd.typeIs Jh (Iw _ _ _) (meetsH_dict_get_default (Fc (_qj X.prog X.w)) a b hd r) ⟨Cj hu,k,xs,_Zq I.hok eb,dd,h _ _ (I.tok _) ?_⟩;rw [l];exact (rel.val k).getD rd
end
def _qkf (td ty tx:TE):TE:=fun σ H Q=>td σ H fun x H1=>∃ a,x=.ref a/\IsD H1 a/\ty σ H1 fun y H2=>tx σ H2 fun z H3=>∃ o,_qui H3 a y o/\Q (o.getD z) H3
section
variable {X:Cx} {o e f:Expr} {apos cpos:Pos} {td ty tx:TE}
theorem _kp (hu:X.A.units + 1 < cLine) (ho:PE X o td) (he:PE X e ty) (hf:PE X f tx) (m:M2 X o "get" apos e f cpos):PE X (.Call (.Attribute o "get" apos) [e,f] [] cpos) (_qkf td ty tx):=by
 intro pins s σ H Q I h;refine Fp m.base m.few m.line Dw Fw PySem.F.type_dict_get (thn (ho pins s σ H _ I h) fun u s1 hQ=>?_);obtain ⟨x,H1,I1,rx,a,ex,d,q1⟩:=hQ;subst ex;obtain rfl:u=Value.ref a:=rx;obtain ⟨t1,t2,_⟩:=_qim I1 d;refine ⟨t1,t2,?_⟩;rw [m.trees];refine Ct rfl (Eu (B8 (thn (he pins s1 σ H1 _ I1 q1) fun iv s2 ⟨y,H2,I2,ry,q2⟩ =>
  B8 (thn (hf pins s2 σ H2 _ I2 q2) fun fv s3 ⟨z,H3,I3,rz,ov,g,q3⟩=>Di ?_))))
 exact _qpw hu I3 g ry rz fun w' s4 I4 rw'=>⟨_,H3,I4,rw',q3⟩
end
section
variable {X:Cx} {pins:List (Addr × Obj)} {σ:St} {H:Hp} {s:Shared} {a:Addr} {kvs:List (Key × V)} {A:Around} {E:Value->Shared->Prop}
end
section
variable {X:Cx} {pins:List (Addr × Obj)} {σ:St} {H:Hp} {s:Shared} {a:Addr} {y:V} {u:Value} {A:Around} {E:Value->Shared->Prop}
end
end L2
namespace DL
open PySem PySem.W PyProof.Rows PySem.SeqAt MeetsSeq MeetsSeq2 MeetsSeq3 PySem.Spec
open AutoSeq1 (wpAny_loadPart')
theorem _qbb:∀ {vs:List Value} {ns:List Int} {i:Nat} {n:Int},IntsAre vs ns->ns[i]?=some n->∃ t,vs[i]?=some (.int n t)
 | _,_,_,_,.nil,h=>by simp at h
 | _,_,0,_,.cons n t _,h=>by simp at h; subst h; exact ⟨t,by simp⟩
 | _,_,i + 1,_,.cons n t r,h=>by
  obtain ⟨u,hu⟩:=_qbb (i:=i) r (by simpa using h);exact ⟨u,by simpa using hu⟩
theorem _qie {a b:List Int} {i:Nat} (h:i=a.length \/ i=b.length) (h1:i <= a.length) (h2:i <= b.length):_qth (a.drop i) (b.drop i)=decide (a.length < b.length):=by
 rcases h with h | h
 ·rw [drop_of_length_le (by omega)]
  cases q:b.drop i with
  | nil =>
   have:=congrArg List.length q
   simp at this;simp [_qth]; omega
  | cons x r =>
   have:=congrArg List.length q
   simp at this;simp [_qth]; omega
 ·rw [drop_of_length_le (l:=b) (by omega)]
  have:_qth (a.drop i) []=false:=by cases a.drop i <;> rfl
  rw [this]
  simp; omega
theorem _qm1 {a b:List Int} {i:Nat} {x y:Int} (hx:a[i]?=some x) (hy:b[i]?=some y):_qth (a.drop i) (b.drop i)=(decide (x < y) || (decide (x=y) && _qth (a.drop (i + 1)) (b.drop (i + 1)))):=by
 obtain ⟨h1,e1⟩:=Ai.mp hx;obtain ⟨h2,e2⟩:=Ai.mp hy;rw [Dc h1,Dc h2,e1,e2];rfl
end DL
namespace DL
open PySem PySem.Spec PyProof.Rows L2
section
variable {X:Cx} {K:Frag}
theorem _Ke:∀ {ds:List D} {ns:List Int},ds.mapM kInt=some ns->ds=ns.map D.int
 | [],ns,h=>by simp at h; subst h; rfl
 | d :: ds,ns,h=>by
  rw [mapM_cons] at h;obtain ⟨n,hn,h⟩:=bind_some h;obtain ⟨r,hr,h⟩:=bind_some h;cases h;cases d <;> cases hn;rw [_Ke hr]; rfl
theorem _J4 {d:D} {ns:List Int} (h:_qma d=some ns):d=.lst (ns.map D.int):=by
 cases d <;> first | (cases h; done) | skip
 rw [_Ke h]
end
end DL
namespace DL
open PySem PySem.W PyProof.Rows PySem.SeqAt MeetsSeq MeetsSeq2 MeetsSeq3 PySem.Spec
open AutoSeq1 (wpAny_loadPart')
theorem _qcy (l b:Addr) (its its2:List Value) (ns ms:List Int) (n n2:Nat) (dd dd2:Option Addr) (sl sl2:Array (Option Value)) (ia:IntsAre its ns) (ib:IntsAre its2 ms) :
  Meets (Builtin.«tuple.__lt__» ⟨[.ref l,.ref b],[]⟩)
   (fun A R s=>s.heap.get? l=some { cls:=.type "tuple",dict:=dd,data:=.seq its.toArray n,slots:=sl }/\s.heap.get? b=some { cls:=.type "tuple",dict:=dd2,data:=.seq its2.toArray n2,slots:=sl2 }/\R (.ok (.ret (.bool (_qth ns ms)))) s) :=
 .of_wp fun prog w A R s h=>by
  obtain ⟨hp,g,d,tk,os⟩:=s; obtain ⟨hl,hb,h⟩:=h;have l1:=ia.length;have l2:=ib.length;have f2:=AutoSeq1.sub_tuple_tuple
  wp_walk using wpAny_loadPart' hl,wpAny_loadPart' hb,wpAny_forIn_list _ (fun _qt6 b s'=>b.1=none/\s'=⟨hp,g,d,tk,os⟩/\∃ i,i <= ns.length/\i <= ms.length/\_qt6=(its.zip its2).drop i /\
   R (.ok (.ret (.bool (_qth (ns.drop i) (ms.drop i))))) ⟨hp,g,d,tk,os⟩) _
  case turn =>
   rintro ⟨y,x⟩ _qt6 b s' ⟨hb',rfl,i,hi,hj,hz,hR⟩;have hlt:i < (its.zip its2).length:=by
    rcases Nat.lt_or_ge i (its.zip its2).length with h' | h'
    ·exact h'
    ·rw [drop_of_length_le h'] at hz; cases hz
   have hm:i < ns.length/\i < ms.length:=by simp at hlt; omega
   rw [Dc hlt] at hz;injection hz with hyx hrest;obtain ⟨p,hp1⟩:∃ p,ns[i]?=some p:=⟨ns[i]'hm.1,by simp⟩;obtain ⟨q,hq1⟩:∃ q,ms[i]?=some q:=⟨ms[i]'hm.2,by simp⟩;obtain ⟨t,ht⟩:=_qbb ia hp1;obtain ⟨u,hu⟩:=_qbb ib hq1;have e:(its.zip its2)[i]=(Value.int p t,Value.int q u):=by
    obtain ⟨_,e1⟩:=Ai.mp ht;obtain ⟨_,e2⟩:=Ai.mp hu;simp [e1,e2]
   rw [e] at hyx;injection hyx with e1 e2;subst e1 e2;rw [_qm1 hp1 hq1] at hR;refine Ac (Ez ?_)
   by_cases e:p=q
   ·subst e
    simp only [beq_self_eq_true]
    wp_walk
    exact ⟨rfl,rfl,i + 1,hm.1,hm.2,hrest,by simpa using hR⟩
   ·have e':(p == q)=false:=by simpa using e
    rw [e'];simp only [Bool.not_false,if_true];refine Ac (Dm (Ac (G3 ?_)))
    wp_walk
    exact ⟨_,rfl,by simpa [e] using hR⟩
  case fin =>
   rintro ⟨b1,b2⟩ s' ⟨hb',rfl,i,hi,hj,hz,hR⟩;simp only at hb';subst hb';have hge:i=ns.length \/ i=ms.length:=by
    rcases Nat.lt_or_ge i (its.zip its2).length with h' | h'
    ·rw [Dc h'] at hz; cases hz
    ·simp at h'; omega
   rw [_qie hge hi hj] at hR
   wp_walk
   refine ⟨_,rfl,?_⟩;simpa [Builtin.Tuple.tupleCompareSizes,l1,l2] using hR
  case h =>
   exact ⟨rfl,rfl,0,zero_le _,zero_le _,rfl,by simpa using h⟩
end DL
namespace SortW
open PySem PySem.W PyProof.Rows DL
def TupAt (h:Heap) (x:Addr) (ns:List Int):Prop:=∃ (its:List Value) (n:Nat) (dd:Option Addr) (sl:Array (Option Value)),h.get? x=some { cls:=.type "tuple",dict:=dd,data:=.seq its.toArray n,slots:=sl }/\IntsAre its ns
theorem TupAt.keep {h h':Heap} {x:Addr} {ns:List Int} (t:TupAt h x ns) (k:∀ o,h.get? x=some o->h'.get? x=some o):TupAt h' x ns:=by
 obtain ⟨its,n,dd,sl,e,r⟩:=t;exact ⟨its,n,dd,sl,k _ e,r⟩
section
variable {prog:Ak} {w:World} {A:Around} {E:Value->Shared->Prop} {s:Shared}
theorem _w8 {fin:Bool} {C:Bool->Shared->Prop}:∀ {its its2:List Value} {ns ms:List Int} (i:Nat),IntsAre its ns->IntsAre its2 ms->fin=decide (ns.length < ms.length)->C (_qth ns ms) s->KatLex prog w A true fin C (its.zip its2) i s
 | _,_,_,_,i,.nil,.nil,hf,h=>by subst hf; exact kat_nil (by simpa [_qth] using h)
 | _,_,_,_,i,.nil,.cons _ _ _,hf,h=>by subst hf; exact kat_nil (by simpa [_qth] using h)
 | _,_,_,_,i,.cons _ _ _,.nil,hf,h=>by subst hf; exact kat_nil (by simpa [_qth] using h)
 | _,_,_,_,i,.cons n t r,.cons m u q,hf,h=>by
  rw [Hn];refine kat_cons (Ez ?_)
  by_cases e:n=m
  ·subst e
   rw [show (n == n)=true by simp];exact kat_yes (_w8 (i + 1) r q (by rw [hf]; simp) (by simpa [_qth] using h))
  ·rw [show (n == m)=false by simpa using e]
   have h':C (decide (n < m)) s:=by simpa [_qth,e] using h
   refine kat_no ?_;cases i with
   | zero=>exact oneLt_int h'
   | succ i=>exact kat_one _ _ (G3 h')
def TK (κ:Ms):Prop:=κ=tuples' true \/ κ=oneType' \/ κ=Lz
theorem _qc6 {x y:Addr} {a b:List Int} {Q:Value->Shared->Prop} (hx:TupAt s.heap x a) (hy:TupAt s.heap y b) (h:Q (.bool (_qth a b)) s):wpAny (model prog w) A (call (.builtin "tuple.__lt__") [.ref x,.ref y]) Q E s:=by
 obtain ⟨its,n,dd,sl,e,r⟩:=hx;obtain ⟨its2,n2,dd2,sl2,e2,r2⟩:=hy;exact call_meets Js ⟨_,e,rfl⟩ F.entry_tuple_lt (F.args_tuple_lt_2 _ _) (_qcy x y its its2 a b n n2 dd dd2 sl sl2 r r2) ⟨e,e2,h⟩
theorem _Q1 (x y:Value):keyLt' Lz x y=oneLt' false x y:=rfl
theorem _qjp {κ:Ms} (hκ:TK κ) (hu:A.units < cLine) {x y:Addr} {a b:List Int} {C:Bool->Shared->Prop} (hx:TupAt s.heap x a) (hy:TupAt s.heap y b) (h:C (_qth a b) s):wpAny (model prog w) A (keyLt' κ (.ref x) (.ref y)) C E s:=by
 have tx:s.TypeIs (.ref x) "tuple":=by obtain ⟨_,_,_,_,e,_⟩:=hx; exact ⟨_,e,rfl⟩
 have ty:s.TypeIs (.ref y) "tuple":=by obtain ⟨_,_,_,_,e,_⟩:=hy; exact ⟨_,e,rfl⟩
 rcases hκ with rfl | rfl | rfl
 ·obtain ⟨its,n,dd,sl,e,r⟩:=hx
  obtain ⟨its2,n2,dd2,sl2,e2,r2⟩:=hy;refine kat_lt e rfl e2 rfl ?_;simp only [size_toArray];exact _w8 0 r r2 (by rw [r.length,r2.length]) h
 ·rw [keyLt'_oneType,oneLt'_eq]
  simp only [if_true];refine Ac (wpAny_cRoomFor hu ?_);refine Ac (wpAny_callSpecialIfBound?_slot tx Js (_qc6 hx hy ?_));exact El h
 ·rw [_Q1]
  refine kat_one _ _ ?_;refine (?_:wpAny (model prog w) A (richCompare .Lt (.ref x) (.ref y)) (PySem.W.BoolBack C) E s);exact G9 (T:="tuple") (op:=.Lt) (id:="tuple.__lt__") tx ty Js (_qc6 hx hy ⟨by simp,h⟩) hu
theorem _w9:∀ (Ts:List Addr) (keys:List (List Int)) {Q:List (Option Value)->Shared->Prop},Ts.length=keys.length->(∀ i (h:i < Ts.length),TupAt s.heap Ts[i] (keys.getD i []))->(∀ fs:List (Option Value),fs.length=Ts.length->(fs.all (·.isSome)=true->∀ k∈keys,k ≠ [])->Q fs s)->wpAny (model prog w) A ((Ts.map Value.ref).mapM firstOfTuple') Q E s
 | [],[],_,_,_,h=>by
  rw [map_nil,List.mapM_nil]; exact Ad (h [] rfl (by simp))
 | [],_ :: _,_,hl,_,_=>by simp at hl
 | _ :: _,[],_,hl,_,_=>by simp at hl
 | T :: Ts,k :: ks,Q,hl,ht,h=>by
  rw [map_cons,mapM_cons];obtain ⟨its,n,dd,sl,e,r⟩:=ht 0 (by simp);refine Ac ?_;rw [kas_first_eq];refine Ac (Looks.here (show Looks (model prog w) s.heap (typeOf (.ref T)) (.type "tuple") from (Looks.ld e).andThen .now) ?_);rw [if_neg (by first | decide | simp)];refine Ac (Ly e rfl (Ad ?_));refine Ac (_w9 Ts ks (by simpa using hl) (fun i hi=>ht (i + 1) (Nat.succ_lt_succ hi)) fun fs hfs hn=>Ad (h _ (by simp [hfs]) fun ha k' hk=>?_));rw [List.all_cons,C0] at ha;rcases Al.mp hk with rfl | hk
  ·rintro rfl
   simp at r;cases r;simp at ha
  ·exact hn ha.2 k' hk
theorem _Yb:∀ (Ts:List Addr) (keys:List (List Int)),Ts.length=keys.length->(∀ i (h:i < Ts.length),TupAt s.heap Ts[i] (keys.getD i []))->(∀ k∈keys,k ≠ [])->∃ fs,KatTups s.heap (Ts.map Value.ref) fs/\fs.length=Ts.length/\∀ v∈fs,∃ k t,v=Value.int k t
 | [],[],_,_,_=>⟨[],KatTups.nil ..,rfl,by simp⟩
 | [],_ :: _,hl,_,_=>by simp at hl
 | _ :: _,[],hl,_,_=>by simp at hl
 | T :: Ts,k :: ks,hl,ht,hn=>by
  obtain ⟨fs,h1,h2,h3⟩:=_Yb Ts ks (by simpa using hl) (fun i hi=>ht (i + 1) (Nat.succ_lt_succ hi)) fun k hk=>hn k (mem_cons_of_mem _ hk);obtain ⟨its,n,dd,sl,e,r⟩:=ht 0 (by simp);simp at e r;cases r with
  | nil=>exact absurd rfl (hn [] (by simp))
  | cons m t r =>
   exact ⟨Value.int m t :: fs,KatTups.cons e rfl rfl (by simp) h1,by simp [h2],fun v hv=>by
    rcases Al.mp hv with rfl | hv
    ·exact ⟨_,_,rfl⟩
    ·exact h3 v hv⟩
theorem _qe4 {Ts:List Addr} {keys:List (List Int)} {Q:Ms->Shared->Prop} (h0:0 < Ts.length) (hl:Ts.length=keys.length) (ht:∀ i (h:i < Ts.length),TupAt s.heap Ts[i] (keys.getD i [])) (h:∀ κ,TK κ->Q κ s):wpAny (model prog w) A (keyKind' (Ts.map Value.ref).toArray) Q E s:=by
 by_cases hn:∀ k∈keys,k ≠ []
 ·obtain ⟨fs,h1,h2,h3⟩:=_Yb Ts keys hl ht hn
  refine kat_kind (T:=.type "int") h1 (by omega) (fun v hv=>?_) (by decide) (h _ (.inl rfl));obtain ⟨k,t,rfl⟩:=h3 v hv;exact Looks.of_pure rfl
 ·rw [kat_kind_eq,List.mapM_toArray,map_eq_pure_bind]
  refine Ac (Ac (_w9 Ts keys hl ht fun fs hfs ha=>Ad ?_));rw [if_neg (by rw [List.all_toArray]; exact fun z=>hn (ha z))];refine As (fun _=>Ad (h _ (.inr (.inr rfl)))) fun _=>?_;rw [oneTypeOnly'_eq,List.mapM_toArray,map_eq_pure_bind];refine Ac (Ac (Ac (kas_mapM (r:=Value.type "tuple") _ (fun v hv Q' hq=>?_) (Ad ?_))))
  ·obtain ⟨T,hT,rfl⟩:=Ah.mp hv
   obtain ⟨i,hi,rfl⟩:=getElem_of_mem hT;obtain ⟨its,n,dd,sl,e,r⟩:=ht i hi;exact Looks.here (show Looks (model prog w) s.heap (typeOf (.ref Ts[i])) (.type "tuple") from (Looks.ld e).andThen .now) hq
  ·split
   ·refine Ad (Ad ?_)
    split
    ·exact h _ (.inr (.inl rfl))
    ·exact h _ (.inr (.inr rfl))
   ·refine Ad (Ad ?_)
    split
    ·exact h _ (.inr (.inl rfl))
    ·exact h _ (.inr (.inr rfl))
theorem _qid {n:Nat} {key:Nat->List Int} (hinj:∀ i j,i < n->j < n->key i=key j->i=j):Ord n fun i j=>_qth (key i) (key j) where
 trans:=fun a b c h1 h2=>MT.lex_tr h1 h2
 asym:=fun a b h1=>by
  cases q:_qth (key b) (key a) with
  | false=>rfl
  | true=>have:=MT.lex_tr h1 q; rw [MT.lex_irr] at this; cases this
 total:=fun a b ha hb hab h1=>MT.lex_tot _ _ h1 fun e=>hab (hinj a b ha hb e)
end
section
variable {prog:Ak} {w:World} {A:Around} {E:Value->Shared->Prop} {s:Shared}
theorem _Wm {keys:List (List Int)} {n:Nat} {p:Array Nat} (hl:n=keys.length) (hn:keys.Nodup) (pa:PA n p) (sp:SP (fun i j=>_qth (keys.getD i []) (keys.getD j [])) p n):(p.toList.map fun i=>keys.getD i [])=_jc keys:=by
 have hp:p.toList.Perm (Ar n):=by
  have:=pa
  unfold PA at this;exact C4.mp this
 have e:keys=(Ar n).map fun i=>keys.getD i []:=by
  apply ext_getElem
  ·simp [hl]
  ·intro i h1 h2; simp [h1]
 have hperm:(p.toList.map fun i=>keys.getD i []).Perm keys:=by
  conv=>rhs; rw [e]
  exact hp.map _
 refine MT.ris_eq ?_ (MT.keys_ris _) fun x=>by rw [hperm.mem_iff,MT.mem_keys]
 have hs:p.size=n:=by have:=hp.length_eq; simpa using this
 unfold MT.Ris;rw [pairwise_map,Bu];intro i j hi hj hij
 have:=sp i j hij (by simpa [hs] using hj)
 simp at hi hj;have a0:∀ k,(hk:k < p.size)->at0 p k=p.toList[k]'(by simpa using hk):=fun k hk=>by simp [at0,hk]
 rw [a0 i hi,a0 j hj] at this;exact this
theorem _qe5 {keys:List (List Int)} (hn:keys.Nodup):(_jc keys).length=keys.length:=by
 have hd:(_jc keys).Nodup:=(MT.keys_ris keys).imp fun {a b} h e=>by subst e; rw [MT.lex_irr] at h; cases h
 have:∀ {a b:List (List Int)},a.Nodup->b.Nodup->(∀ x,x∈a ↔ x∈b)->a.length=b.length:=by
  intro a b ha hb h;exact ((List.perm_ext_iff_of_nodup ha hb).mpr h).length_eq
 exact this hd hn fun x=>MT.mem_keys
theorem _qd2 {a:Addr} {Ts:List Addr} {keys:List (List Int)} {n:Nat} {P:Ma->Shared->Prop} (hu:A.units < cLine) (ho:s.heap.get? a=some (Bq "list" (Ts.map Value.ref).toArray n)) (hl:Ts.length=keys.length) (hnd:keys.Nodup)
  (ht:∀ i (h:i < Ts.length),TupAt s.heap Ts[i] (keys.getD i [])) (hta:∀ T∈Ts,T ≠ a) (h64:Ts.length < 64)
  (h:∀ out:List Addr,out.length=(_jc keys).length->(∀ j (hj:j < out.length),∃ i,∃ hi:i < Ts.length,out[j]=Ts[i]/\(_jc keys).getD j []=keys.getD i [])->P (.done (.ret .none)) { s with heap:=Jf s.heap a (Ts.map Value.ref) (out.map Value.ref).toArray }) :
  wpAny (model prog w) A (Builtin.«list.sort» { pos:=[Value.ref a] }) P E s:=by
 by_cases h2:2 <= Ts.length
 ·refine _vv (vs:=Ts.map Value.ref) ho (by simpa using h64) (by simpa using h2) ?_
  generalize hh6:((s.heap.update a (Bg fun _=>#[])).push (Bq "tuple" (Ts.map Value.ref).toArray 0)).push (Bq "list" #[] 0)=h6;have t6:∀ i (h:i < Ts.length),TupAt h6 Ts[i] (keys.getD i []):=fun i hi=>(ht i hi).keep fun o hb=>by
   rw [<- hh6];refine Ae _ (Ae _ ?_);rw [Au _ _ (B4 (hta _ (getElem_mem hi)))];exact hb
  refine _qe4 (s:={ s with heap:=h6 }) (by omega) hl t6 fun κ hκ=>?_;have hinj:∀ i j,i < Ts.length->j < Ts.length->keys.getD i []=keys.getD j []->i=j:=fun i j hi hj e=>by
   rw [hl] at hi hj;have e':keys[i]=keys[j]:=by
    rw [getD_eq_getElem?_getD,getD_eq_getElem?_getD,getElem?_eq_getElem hi,getElem?_eq_getElem hj] at e;exact e
   exact (getElem_inj hnd).mp e'
  have ord:=_qid (n:=Ts.length) (key:=fun i=>keys.getD i []) hinj;obtain ⟨pa,sp⟩:=_qfb ord (by omega);rw [show (Ts.map Value.ref).length=Ts.length by simp];refine _Zs (n:=Ts.length) (lt:=fun i j=>_qth (keys.getD i []) (keys.getD j [])) (fun i j C hi hj hC=>?_) _ (_qfc (by omega)) ⟨rfl,rfl,?_⟩
  ·unfold kas_ask
   have e1:(Ts.map Value.ref).getD i .none=.ref Ts[i]:=by simp [hi]
   have e2:(Ts.map Value.ref).getD j .none=.ref Ts[j]:=by simp [hj]
   rw [e1,e2];exact _qjp hκ hu (t6 i hi) (t6 j hj) hC
  generalize _qt3 _ (Hm Ts.length)=p at pa sp;have hsl:=_Wm hl hnd pa sp;have hpl:p.toList.Perm (Ar Ts.length):=C4.mp pa;have hpb:∀ i∈p.toList,i < Ts.length:=fun i hi=>A0.mp (hpl.mem_iff.mp hi);have eo:(p.toList.map fun i=>(Ts.map Value.ref).getD i .none)=(p.toList.map fun i=>Ts.getD i 0).map Value.ref:=by
   rw [map_map];apply map_congr_left;intro i hi
   have:=hpb i hi
   simp [this]
  rw [eo];refine h _ (by rw [<- hsl]; simp) fun j hj=>?_;have hj':j < p.toList.length:=by simpa using hj
  have hb:=hpb p.toList[j] (getElem_mem hj');refine ⟨p.toList[j],hb,by simp only [getElem_map]; rw [getD_eq_getElem?_getD,getElem?_eq_getElem hb]; rfl,?_⟩;rw [<- hsl,getD_eq_getElem?_getD,getElem?_map,getElem?_eq_getElem hj'];rfl
 ·match Ts,hl,ht,ho,h,h2 with
  | [],hl,ht,ho,h,h2 =>
   have hk:keys=[]:=Ca.mp (by simpa using hl.symm);subst hk;refine list_sort_tree (vs:=[]) (ns:=[]) ho .nil (by simp) fun out ns' a1 a2 a3=>?_
   have:ns'=[]:=Ca.mp a2.length_eq
   subst this;have ol:=a1.length
   have:out=#[]:=by
    apply Array.eq_empty_of_size_eq_zero;simpa using ol
   subst this;exact h [] rfl fun j hj=>by simp at hj
  | [T],hl,ht,ho,h,h2 =>
   refine _vu (v:=.ref T) ho ?_;obtain ⟨k,rfl⟩:∃ k,keys=[k]:=Cf.mp (by simpa using hl.symm);exact h [T] rfl fun j hj=>⟨j,hj,rfl,rfl⟩
  | _ :: _ :: _,_,_,_,_,h2=>simp at h2
end
def _quc (h:Heap) (d:Addr) (es:Array DictEntry) (ep:Nat):Prop:=∃ o,h.get? d=some o/\o.ExactDict/\o.data=.dict es ep
theorem _quc.keep {h h':Heap} {d:Addr} {es:Array DictEntry} {ep:Nat} (x:_quc h d es ep) (k:∀ o,h.get? d=some o->h'.get? d=some o):_quc h' d es ep:=by
 obtain ⟨o,e,r⟩:=x; exact ⟨o,k o e,r⟩
section
variable {prog:Ak} {w:World} {A:Around} {E:Value->Shared->Prop} {s:Shared} {d:Addr} {es:Array DictEntry} {ep:Nat}
theorem _quc.ty (x:_quc s.heap d es ep):s.TypeIs (.ref d) "dict":=by
 obtain ⟨o,e,c,_⟩:=x; exact ⟨o,e,c.1⟩
theorem _qik {Q:Value->Shared->Prop} (hd:(d == Bi)=false) (hm:_quc s.heap d es ep)
  (hQ:Q (.ref s.heap.objs.size) { s with heap:=s.heap.push { cls:=.type "dict_keyiterator",data:=.fields #[.ref d,.int 0 0,.int es.size 0,.int ep 0] } }):wpAny (model prog w) A (J2 (.ref d)) Q E s:=by
 have hT:=hm.ty;obtain ⟨o,ho,hc,hdat⟩:=hm;refine En hT Ji (Ax Ji hT PySem.F.entry_dict_iter ?_ (PySem.F.args_dict_iter_1 _));unfold Builtin.«dict.__iter__» Builtin.Dict.dictSlotNone;refine Ac (Ac (Ek hT ?_));refine (?_:wpAny _ _ (pure (Value.ref d)) _ _ s);refine Ad ?_;refine (?_:wpAny _ _ (C8 d >>= _) _ _ s);unfold C8;rw [hd];simp only [Aw,if_false];refine Ac (Ad (Ac (Bh ho hdat (Ac (Df ho hdat ?_)))));refine Ac (A8 (Ad ⟨_,rfl,"dict_keyiterator",_,⟨_,Ag _ rfl,rfl⟩,C5.lookup,?_⟩));simpa [B7] using hQ
theorem _qao {it:Addr} {i:Nat} {Q:Option Value->Shared->Prop} (hit:s.heap.IsKeyIter it d i es.size ep) (hm:_quc s.heap d es ep)
  (h:wpAny (model prog w) A.in1 (Builtin.«dict_keyiterator.__next__» ⟨[.ref it],[]⟩) (fun fin s'=>∃ v,fin=.done (.ret v)/\Q (some v) s') (fun e s'=>s'.TypeIs e "StopIteration"/\Q none s') s):wpAny (model prog w) A (Dt (.ref it)) Q E s:=by
 unfold Dt;refine Ac (Eg (Bl (name:=Cu "__next__") hit.typeIs C5 (Ax C5 hit.typeIs PySem.F.entry_dict_keyiterator_next ?_ (PySem.F.args_dict_keyiterator_next_1 _))));refine Bj h (fun fin s' hq=>?_) (fun e s' hq=>?_)
 ·obtain ⟨v,rfl,hq⟩:=hq
  exact ⟨v,rfl,Ad hq⟩
 ·obtain ⟨t,hq⟩:=hq
  refine Ac (Dv (T:="StopIteration") (b:=true) t _kx ?_);exact Ad hq
theorem _Zr {it:Addr} {i:Nat} (o:Obj) (hd:o.data=.fields #[.ref d,.int i 0,.int es.size 0,.int ep 0]) {h:Heap} (ho:h.get? it=some o) (hc:o.cls=.type "dict_keyiterator"):(h.update it (Co (·.setIfInBounds 1 (B7 ((i:Int) + 1))))).IsKeyIter it d (i + 1) es.size ep :=
 ⟨_,Bf _ ho (Fv (Ea hd _)),(Obj.cls_mapFields ..).trans hc,by rw [Ea hd]; simp [B7]⟩
theorem _qe0 {it:Addr} {i:Nat} {Q:Option Value->Shared->Prop} (hit:s.heap.IsKeyIter it d i es.size ep) (hm:_quc s.heap d es ep) (hi:i < es.size)
  (hQ:∀ h',h'.IsKeyIter it d (i + 1) es.size ep->Heap.SameBut it s.heap h'->Q (some es[i].key) { s with heap:=h' }):wpAny (model prog w) A (Dt (.ref it)) Q E s:=by
 refine _qao hit hm ?_;obtain ⟨o,ho,hc,hd⟩:=id hit;obtain ⟨od,hod,hcd,hdd⟩:=hm;refine Ac (Ad (Ac (Ac ?_)));refine Ac (Cp hit.typeIs (Ad ?_));refine Ac (C3 ho hd ?_);have own:B5 "dict_keyiterator"=false:=by decide
 simp only [own,Aw,if_false];refine (?_:wpAny _ _ (if (Value.ref d == Value.none)=true then _ else _) _ _ s);rw [if_neg (show ¬ ((Value.ref d == Value.none)=true) from An)];refine Ac (Ad (Ac (Bh hod hdd ?_)));rw [if_neg (by simp)];refine Ac (Ad (Ac (Df hod hdd ?_)));rw [if_neg (by simp)];refine Ad ?_;simp only [show ¬ ((i:Int) < 0) from by omega,if_false,A9,Da hi];refine Ac (Ac (Cp hit.typeIs (Ad ?_)));refine Ac (Jy hit.typeIs ?_);refine (?_:wpAny _ _ (Mt (.ref it) 1 (B7 ((i:Int) + 1)) >>= _) _ _ s);refine Ac (Ce ho hd (by simp) ?_);have hit':=_Zr o hd ho hc;refine Ac (Ba (Ac ?_));refine Jy (s:={ s with heap:=s.heap.update it (Co (·.setIfInBounds 1 (B7 ((i:Int) + 1)))) }) hit'.typeIs ?_;refine (?_:wpAny _ _ (pure es[i].key) _ _ _);exact Ad (Ad ⟨_,rfl,hQ _ hit' (Cg ..)⟩)
theorem _qi1 {it:Addr} {i:Nat} {Q:Option Value->Shared->Prop} (hh:A.handled=none) (hit:s.heap.IsKeyIter it d i es.size ep) (hm:_quc s.heap d es ep) (hi:es.size <= i)
  (hQ:∀ h',Heap.ExtBut it s.heap h'->Q none { s with heap:=h' }):wpAny (model prog w) A (Dt (.ref it)) Q E s:=by
 refine _qao hit hm ?_;obtain ⟨o,ho,hc,hd⟩:=id hit;obtain ⟨od,hod,hcd,hdd⟩:=hm;refine Ac (Ad (Ac (Ac ?_)));refine Ac (Cp hit.typeIs (Ad ?_));refine Ac (C3 ho hd ?_);have own:B5 "dict_keyiterator"=false:=by decide
 simp only [own,Aw,if_false];refine (?_:wpAny _ _ (if (Value.ref d == Value.none)=true then _ else _) _ _ s);rw [if_neg (show ¬ ((Value.ref d == Value.none)=true) from An)];refine Ac (Ad (Ac (Bh hod hdd ?_)));rw [if_neg (by simp)];refine Ac (Ad (Ac (Df hod hdd ?_)));rw [if_neg (by simp)];refine Ad ?_;simp only [show ¬ ((i:Int) < 0) from by omega,if_false,A9,getElem?_eq_none hi];refine Ac (Ac (Cp hit.typeIs (Ad ?_)));refine (?_:wpAny _ _ (Mt (.ref it) 0 .none >>= _) _ _ s);refine Ac (Ce ho hd (by simp) ?_);refine (?_:wpAny _ _ (Mq (.type "StopIteration") [] >>= _) _ _ _);simp only [Mq,newTuple];refine Ac (Ac (A8 ?_ (by size_fits)));refine Ac (m:=Ew _ _) (J8 (a:=Value.none) (by first | rfl | (simp only [Ew]; rfl)) ?_);refine A8 ?_ (by size_fits);simp only [Mr];refine Ac (Kz ?_);rw [show A.in1.handled=none from hh];refine Ac (Ad (Mc ⟨⟨_,Ag _ rfl,rfl⟩,?_⟩));exact hQ _ (((Cg ..).extBut.push _).push _)
theorem _qku (lo:(d == Bi)=false):KdlSrc prog w "dict" d d es.size (fun i v=>∃ h:i < es.size,v=es[i].key) (fun h=>_quc h d es ep) where
 type:=fun _ hm=>hm.ty
 there:=fun _ hm=>by obtain ⟨o,e,_⟩:=hm; exact ⟨Af e,Af e⟩
 keep:=fun _ _ hm hk=>hm.keep fun o e=>hk d (.inl rfl) o e
 notList:=by decide
 notTuple:=by decide
 hint:=fun _ _ _ _ hm hq=>kdl_hint_dict hm.ty hq
 iter:=fun A s hh hm=>by
  have hlt:d < s.heap.objs.size:=by obtain ⟨o,e,_⟩:=hm; exact Af e
  refine ⟨_,fun i h=>h.IsKeyIter s.heap.objs.size d i es.size ep/\_quc h d es ep,fun _ _ hq=>_qik lo hm hq,⟨fun b hb=>by simp at hb; simp [hb],fun _ _ _ st hk=>⟨st.1.at fun o e=>hk _ (by simp) o e,st.2.keep fun o e=>hk d (by simp) o e⟩,fun i s1 Q E hi st hQ=>?_,fun s1 Q E st hQ=>?_,fun _ _ _ _ st hQ=>wpAny_pyIter_keyiter st.1 hQ⟩,⟨_,Ag _ rfl,rfl,rfl⟩,hm.keep fun o e=>Ae _ e⟩
  ·exact _qe0 st.1 st.2 hi fun h' hit' hs'=>hQ _ h' s1.toks ⟨hi,rfl⟩ ⟨hit',st.2.keep fun o e=>hs'.extBut d o (ne_of_lt hlt) e⟩ fun b o hb e=>hs'.extBut b o (fun h=>hb (by simp [h])) e
  ·exact _qi1 hh st.1 st.2 (le_refl _) fun h' he'=>hQ h' s1.toks fun b o hb e=>he' b o (fun h=>hb (by simp [h])) e
end
section
variable {prog:Ak} {w:World} {A:Around} {E:Value->Shared->Prop} {s:Shared} {d:Addr} {es:Array DictEntry} {ep:Nat}
theorem _Ws {T:String} {r:Addr} {n:Nat} {P:Nat->Value->Prop} {OK:Heap->Prop} {R:List Value->Shared->Prop} (K:KdlSrc prog w T r d n P OK) (hh:A.handled=none) (hok:OK s.heap) (hn:n <= Aj)
  (h:∀ (h':Heap) (tk:Nat) (acc:Array Value),s.heap.objs.size < h'.objs.size->(∀ b o,s.heap.get? b=some o->h'.get? b=some o)->ItemsOf P acc n->R acc.toList { s with heap:=h',toks:=tk }):wpAny (model prog w) A (Lt (.ref r)) R E s:=by
 have lt:=K.there _ hok;unfold Lt;refine Ac (Hj (Bn Gk ?_));rw [Bc Eo _];refine (?_:wpAny _ A.in1 (Mh [] >>= fun l=>again (.builtin "list.__iadd__" ⟨[l,.ref r],[]⟩)) _ _ s);refine Ac (A8 (Ad ⟨Cz Cb _,Bn Is ?_⟩));rw [Bc Cb _];have e0:(s.heap.push { cls:=.type "list",data:=.seq ([]:List Value).toArray }).get? s.heap.objs.size=some { cls:=.type "list",data:=.seq #[] }:=Ag _ rfl;refine (?_:wpAny _ A.in1 (Cc (.ref s.heap.objs.size) (.ref r) (.ref s.heap.objs.size)) _ _ _);have fin:∀ (q:L3) (s':Shared),(∃ (h':Heap) (tk:Nat) (acc':Array Value) (c':Nat),q=.ok (.ret (.ref s.heap.objs.size))/\s'={ s with heap:=h',toks:=tk }/\(∀ b o,s.heap.get? b=some o->h'.get? b=some o)/\h'.get? s.heap.objs.size=some { cls:=.type "list",dict:=none,data:=.seq acc' c',slots:=#[] }/\ItemsOf P acc' n) ->
   ∃ (h':Heap) (tk:Nat) (acc':Array Value) (c':Nat),q=.ok (.ret (.ref s.heap.objs.size))/\s'={ s with heap:=h',toks:=tk }/\h'.get? s.heap.objs.size=some { cls:=.type "list",dict:=none,data:=.seq acc' c',slots:=#[] }/\R acc'.toList s':=by
  rintro q s' ⟨h',tk,acc',c',e1,e2,e3,e4,e5⟩;exact ⟨h',tk,acc',c',e1,e2,e4,e2 ▸ h h' tk acc' (Af e4) e3 e5⟩
 refine Bj (kdl_extend (A:=A) (s:={ s with heap:=s.heap.push { cls:=.type "list",data:=.seq ([]:List Value).toArray } }) (R:=fun q s'=>∃ (h':Heap) (tk:Nat) (acc':Array Value) (c':Nat),q=.ok (.ret (.ref s.heap.objs.size))/\s'={ s with heap:=h',toks:=tk }/\(∀ b o,s.heap.get? b=some o->h'.get? b=some o)/\h'.get? s.heap.objs.size=some { cls:=.type "list",dict:=none,data:=.seq acc' c',slots:=#[] }/\ItemsOf P acc' n)
  K hh (K.keep _ _ hok fun b _ o e=>Ae _ e) s.heap.objs.size (ne_of_gt lt.1) (ne_of_gt lt.2) (.ref s.heap.objs.size) 0 e0 (fun h' tk acc' c' hk hS' hacc=>⟨h',tk,acc',c',rfl,rfl,fun b o e=>hk b o (ne_of_lt (Af e)) (Ae _ e),hS',hacc⟩) hn) (fun q s' x=>?_) fun e s' x=>?_
 ·cases q with
  | done f =>
   obtain ⟨h',tk,acc',c',e,rfl,hS',hr⟩:=fin _ _ x;cases e;refine (?_:wpAny _ A (load s.heap.objs.size >>= _) _ _ _);exact Ac (Fy hS' (Ad hr))
  | again c₁ =>
   refine ⟨x.1,Cn x.2 fun q s₂ y=>?_⟩;obtain ⟨h',tk,acc',c',rfl,rfl,hS',hr⟩:=fin _ _ y;refine (?_:wpAny _ A (load s.heap.objs.size >>= _) _ _ _);exact Ac (Fy hS' (Ad hr))
 ·obtain ⟨_,_,_,_,e',_⟩:=x
  cases e'
theorem _Wc {Ts:List Addr} {keys:List (List Int)} {Q:Value->Shared->Prop} (hu:A.in1.in1.units < cLine) (hh:A.handled=none) (lo:(d == Bi)=false) (hm:_quc s.heap d es ep) (hes:es.toList.map (·.key)=Ts.map Value.ref) (hl:Ts.length=keys.length) (hnd:keys.Nodup)
  (ht:∀ i (h:i < Ts.length),TupAt s.heap Ts[i] (keys.getD i [])) (h64:Ts.length < 64)
  (h:∀ (D:Addr) (out:List Addr) (n:Nat) (h':Heap) (tk:Nat),s.heap.objs.size <= D->h'.get? D=some { cls:=.type "list",data:=.seq (out.map Value.ref).toArray n }->out.length=(_jc keys).length->(∀ j (hj:j < out.length),∃ i,∃ hi:i < Ts.length,out[j]=Ts[i]/\(_jc keys).getD j []=keys.getD i []) ->
   (∀ b o,s.heap.get? b=some o->h'.get? b=some o)->Q (.ref D) { s with heap:=h',toks:=tk }) :
  wpAny (model prog w) A (call (.builtin "sorted") [.ref d]) Q E s:=by
 have hsz:es.size=Ts.length:=by have:=congrArg List.length hes; simpa using this
 refine Db Md Lu Lv (Lw _) ?_;unfold Builtin.«sorted»;refine Ac (m:=checkCount "sorted" 1 1 _) (Ad ?_);refine Ac (_Ws (A:=A.in1) (_qku lo) hh hm (by rw [Ao]; omega) fun h1 tk acc hgr hk hacc=>?_);have hacc':acc.toList=Ts.map Value.ref:=by
  rw [<- hes];apply Ic;intro i;rw [getElem?_toList,getElem?_map,getElem?_toList]
  by_cases hi:i < es.size
  ·have hi':i < acc.size:=by rw [hacc.1]; exact hi
   obtain ⟨_,e⟩:=hacc.2 i acc[i] (by simp [hi']);simp [hi,hi',e]
  ·have hi':¬ i < acc.size:=by rw [hacc.1]; exact hi
   simp [hi,hi']
 rw [hacc'];refine Ac (Gi ?_ (by rw [Ao]; simp; omega));have hoL:(h1.push (Bq "list" (Ts.map Value.ref).toArray 0)).get? h1.objs.size=some (Bq "list" (Ts.map Value.ref).toArray 0):=Ag _ rfl;have ltT:∀ i (hi:i < Ts.length),Ts[i] < h1.objs.size:=fun i hi=>by
  obtain ⟨_,_,_,_,e,_⟩:=ht i hi;exact Af (hk _ _ e)
 refine Ac (Ba (Ax Kc ⟨_,hoL,rfl⟩ Jq ?_ (Kd _)));refine _qd2 (s:={ s with heap:=h1.push (Bq "list" (Ts.map Value.ref).toArray 0),toks:=tk }) hu hoL hl hnd (fun i hi=>(ht i hi).keep fun o e=>Ae _ (hk _ _ e)) (fun T hT=>?_) h64 fun out ho hout=>⟨_,rfl,Ad ⟨_,rfl,?_⟩⟩
 ·obtain ⟨i,hi,rfl⟩:=getElem_of_mem hT
  exact ne_of_lt (ltT i hi)
 obtain ⟨e,he⟩:=K0 (out:=(out.map Value.ref).toArray) hoL;refine h _ out e _ tk ?_ (by simpa [Bq] using he) ho hout fun b o hb=>?_
 ·exact le_of_lt hgr
 ·have hlt:=Af (hk b o hb)
  rw [Ke (ne_of_lt hlt) (by rw [Je]; exact lt_succ_of_lt hlt)];exact Ae _ (hk b o hb)
end
end SortW
namespace DL
open PySem PySem.Spec PyProof.Rows L2
def dkv (kvs:List (List Int × V)):List (List Key × V):=kvs.map fun p=>(p.1.map Sum.inl,p.2)
theorem _ju (k:List Int):(k.map Sum.inl:List Key).map kV=k.map V.int:=by
 rw [map_map]; rfl
theorem _J6 {a b:List Int} (h:(a.map Sum.inl:List Key)=b.map Sum.inl):a=b:=by
 have:=congrArg (List.map (fun k:Key=>match k with | .inl i=>i | .inr _=>0)) h
 simpa [map_map,Ii] using this
theorem _qm6 {H:Hp}:∀ {kvs:List (List Int × V)} {xs:List (List Key × Addr × Value)},KT H (dkv kvs) xs->xs.length=kvs.length/\xs.map (·.1)=kvs.map (fun p=>p.1.map Sum.inl)/\∀ i (h:i < xs.length),H xs[i].2.1=some (.tup ((kvs.map (·.1)).getD i [] |>.map V.int))
 | [],_,.nil=>⟨rfl,rfl,fun i h=>by simp at h⟩
 | p :: kvs,_,.cons (b:=q) hq t=>by
  obtain ⟨h1,h2,h3⟩:=_qm6 t;refine ⟨by simp [h1],?_,fun i h=>?_⟩
  ·simp only [map_cons]
   rw [h2,<- hq.1]
  ·cases i with
   | zero =>
    have:=hq.2.1
    rw [_ju] at this;exact this
   | succ i=>exact h3 i (by simpa using h)
theorem _qgm {X:Cx} {pins:List (Addr × Obj)} {σ:St} {H:Hp} {s:Shared} {b:Addr} {k:List Int} (I:Inv X pins σ H s) (e:H b=some (.tup (k.map V.int))):SortW.TupAt s.heap b k:=by
 obtain ⟨its,r,⟨o,h1,h2,n,h3⟩,_⟩:=I.tuple (SqT.of e);obtain ⟨c,dd,dt,sl⟩:=o;cases h2;cases h3;exact ⟨its,n,dd,sl,by simpa using h1,intsAre_of r⟩
theorem _zk (hu:X.A.units + 64 < cLine) (hc:X.calm=true):_wh X (.builtin "sorted") (fun xs H Q=>∃ (p:Addr) (kvs:List (List Int × V)),xs=[.ref p]/\H p=some (.dT (dkv kvs))/\kvs.length < 64/\∀ l (bs:List Addr),H l=none->bs.length=(_jc (kvs.map (·.1))).length->(∀ j (hj:j < bs.length),H bs[j]=some (.tup (((_jc (kvs.map (·.1))).getD j []).map V.int)))->Q (.ref l) (upd H l (.lst (bs.map V.ref)))):=by
 intro pins s σ H xs us Q I r h;obtain ⟨p,kvs,rfl,hp,h64,q⟩:=h;obtain ⟨u,rfl,ru⟩:=r.one;cases ru;obtain ⟨z,hd,xs,rel,o,es,ep,g1,g2,g3,g4,g5,g6⟩:=dt_of I.hok hp;obtain ⟨k1,k2,k3⟩:=_qm6 rel;have hes:es.toList.map (·.key)=(xs.map (·.2.1)).map Value.ref:=by
  rw [g4,map_map,map_map]; rfl
 have hnd:(kvs.map (·.1)).Nodup:=by
  rw [k2] at g6
  have:(kvs.map (fun p=>(p.1.map Sum.inl:List Key)))=(kvs.map (·.1)).map (fun k=>(k.map Sum.inl:List Key)):=by rw [map_map]; rfl
  rw [this] at g6;exact (List.pairwise_map.mp g6).imp fun h e=>h (congrArg _ e)
 have hT:∀ i (h:i < (xs.map (·.2.1)).length),H (xs.map (·.2.1))[i]=some (.tup (((kvs.map (·.1)).getD i []).map V.int)):=fun i hi=>by
  simp only [getElem_map];exact k3 i (by simpa using hi)
 refine SortW._Wc (keys:=kvs.map (·.1)) (by simp only [units_in1]; omega) (I.ok.hd hc) hd ⟨o,g1,g2,g3⟩ hes (by simp [k1]) hnd (fun i hi=>_qgm I (hT i hi)) (by simp [k1]; omega) fun D out n h' tk hD hget hlen hout hk=>?_;refine ⟨.ref D,_,I.laid (a:=D) (o:=.lst (out.map V.ref)) hk hD ⟨?_,out.map Value.ref,n,?_,hget⟩,rfl,q D out (I.hok.fresh hD) hlen fun j hj=>?_⟩
 ·rw [length_map,hlen,SortW._qe5 hnd,length_map,Ao]; omega
 ·clear hout hget hlen
  induction out with
  | nil=>exact .nil
  | cons a out ih=>exact .cons rfl ih
 ·obtain ⟨i,hi,e1,e2⟩:=hout j hj
  rw [e1,e2];exact hT i hi
theorem _qbs (kvs:List (List Int × V)) (k:List Int):_qsr (dkv kvs) (k.map Sum.inl)=_qsr kvs k:=by
 induction kvs with
 | nil=>rfl
 | cons p r ih =>
  show _qsr ((p.1.map Sum.inl,p.2) :: dkv r) _=_
  by_cases e:p.1=k
  ·rw [_ql (by rw [e]),_ql e]
  ·rw [_qm fun h=>e (_J6 h),_qm e,ih]
theorem _qmu (kvs:List (List Int × V)) (k:List Int) (v:V):_qt7 (dkv kvs) (k.map Sum.inl) v=dkv (_qt7 kvs k v):=by
 have ha:((dkv kvs).any fun kv=>decide (kv.1=(k.map Sum.inl:List Key)))=(kvs.any fun kv=>decide (kv.1=k)):=by rw [_xf,_xf,_qbs]
 unfold _qt7;rw [ha];split
 ·unfold dkv
  rw [map_map,map_map];apply map_congr_left;intro p _;simp only [Function.comp_apply]
  by_cases e:p.1=k
  ·rw [if_pos (by rw [e]),if_pos e]
  ·rw [if_neg fun h=>e (_J6 h),if_neg e]
 ·simp [dkv]
def TWt (kvs:List (List Int × V)) (hp:List (Int × List Int)):Prop:=kvs.length <= hp.length/\∀ k,_qsr kvs k=if k∈hp.map (·.2) then some (.int (wtK hp k)) else none
theorem _qk8:TWt [] []:=⟨le_refl _,fun k=>rfl⟩
theorem _qk9 {kvs:List (List Int × V)} {hp:List (Int × List Int)} (h:TWt kvs hp) (k:List Int):(_qsr kvs k).getD (.int 0)=.int (wtK hp k):=by
 rw [h.2 k];split
 ·rfl
 ·rename_i hn
  rw [MT.wt_none hn]; rfl
theorem _qk7 {kvs:List (List Int × V)} {hp:List (Int × List Int)} (h:TWt kvs hp) (w:Int) (k:List Int):TWt (_qt7 kvs k (.int (wtK hp k + w))) (hp++[(w,k)]):=by
 refine ⟨le_trans (_vh _ _ _) (by have:=h.1; simp; omega),fun j=>?_⟩;rw [_W5,h.2 j,MT.wt_append]
 by_cases e:j=k
 ·subst e
  rw [if_pos rfl,if_pos (by simp)];simp [wtK]
 ·rw [if_neg e]
  have:j∈(hp++[(w,k)]).map (·.2) ↔ j∈hp.map (·.2):=by simp [e]
  have ek:¬ k=j:=fun z=>e z.symm
  by_cases hm:j∈hp.map (·.2)
  ·rw [if_pos hm,if_pos (this.mpr hm)]
   simp [wtK,ek]
  ·rw [if_neg hm,if_neg fun z=>hm (this.mp z)]
theorem _qgl {kvs:List (List Int × V)} {hp:List (Int × List Int)} (h:TWt kvs hp):_jc (kvs.map (·.1))=_jc (hp.map (·.2)):=by
 refine MT.ris_eq (MT.keys_ris _) (MT.keys_ris _) fun x=>?_;rw [MT.mem_keys,MT.mem_keys];have e:x∈kvs.map (·.1) ↔ (_qsr kvs x).isSome=true:=by
  rw [<- _xf,any_eq_true];constructor
  ·intro hx
   obtain ⟨p,hp,rfl⟩:=Ah.mp hx;exact ⟨p,hp,by simp⟩
  ·rintro ⟨p,hp,e⟩
   exact Ah.mpr ⟨p,hp,by simpa using e⟩
 rw [e,h.2 x];split
 ·rename_i hx; simp [hx]
 ·rename_i hx; simp [hx]
section
variable {K:Frag} {F1 H1 F H:Hp} {σ:L2.St} {ρ:_quj} {l:Addr} {done:List O}
theorem _qpz (ci:CI K F1 H1 F H σ ρ l done) (hB:H1 l=none) {y:V} {o:O} {A4:AS} {F4 H4:Hp} (e4:Ext F H F4 H4) (r4:Own K F4 H4 y o A4) (n4:∀ b,A4 b->F4 b=none/\H b=none) :
  ∃ acc,H4 l=some (.lst acc)/\acc.length=done.length/\CI K F1 H1 F4 (upd H4 l (.lst (acc++[y]))) σ ρ l (done++[o]):=by
 have ci4:=ci.more e4;obtain ⟨acc3,A3,k1,k2,k3⟩:=ci.hl;have t4:H4 l=some (.lst acc3):=e4.hh _ _ k1;have k2':=k2.ext e4.ff e4.hh;refine ⟨acc3,t4,k2.length,?_⟩;have nl:¬ A4 l:=fun z=>by have:=(n4 l z).2; rw [k1] at this; cases this
 refine ⟨⟨ci4.ext.ff,fun b u hb=>by rw [_e (_c hb ci4.fl)]; exact ci4.ext.fh _ _ hb,fun b u hb=>by rw [_e (_c hb hB)]; exact ci4.ext.hh _ _ hb,ci4.ext.nw⟩,ci4.re,ci4.len,ci4.fl,acc3++[y],fun b=>A3 b \/ A4 b,_a,?_,fun b z=>?_⟩
 ·refine (k2'.stay (_qu9.refl _) (H':=upd H4 l (.lst (acc3++[y]))) fun b z=>_e (k3 b z).2.2).append (.cons (r4.stay (_qu9.refl _) (H':=upd H4 l (.lst (acc3++[y]))) fun b z=>_e (by rintro rfl; exact nl z)) (.nil (A:=fun _=>False) fun _ z=>z) (fun _ _ z=>z) fun b=>⟨.inl,fun z=>z.elim id Az⟩) fun b z y=>?_
  obtain ⟨u,hu,_⟩:=k2.there b z;rw [(n4 b y).2] at hu; cases hu
 ·rcases z with z | z
  ·obtain ⟨g1,g2,g3⟩:=k3 b z
   obtain ⟨u,hu,_⟩:=k2.there b z;refine ⟨?_,g2,g3⟩;cases w:F4 b with
   | none=>rfl
   | some o =>
    rcases e4.nw b o w with y | y
    ·rw [g1] at y; cases y
    ·rw [hu] at y; cases y
  ·exact ⟨(n4 b z).1,ci.ext.hh.free (n4 b z).2,by rintro rfl; exact nl z⟩
theorem _qhj (s:_qu9 F H) {q p:Addr} {w:Int} {k:List Int} (hq:H q=none) (hp:upd H q (.lst (k.map V.int)) p=none) :
  Ext F H (upd F p (.tup [.int w,.ref q])) (upd (upd H q (.lst (k.map V.int))) p (.tup [.int w,.ref q]))/\Own K (upd F p (.tup [.int w,.ref q])) (upd (upd H q (.lst (k.map V.int))) p (.tup [.int w,.ref q])) (.ref p) (_qa0 (w,k)) (fun b=>b=q)/\∀ b,b=q->upd F p (.tup [.int w,.ref q]) b=none/\H b=none:=by
 have npq:q ≠ p:=by rintro rfl; rw [_a] at hp; cases hp
 have e1:=Ext.laidH (o:=.lst (k.map V.int)) s hq;have e2:=Ext.laid (o:=.tup [.int w,.ref q]) e1.fh hp;refine ⟨e1.trans e2,.tup _a (.cons (.sh (.int w) (A:=fun _=>False) fun _ z=>z) (.cons (_Zb (a:=q) (by rw [_e npq,_a]) (_R k)) (.nil (A:=fun _=>False) fun _ z=>z) (fun _ _ z=>z) (A:=fun b=>b=q) fun b=>⟨.inl,fun z=>z.elim id Az⟩) (fun _ z=>z.elim) fun b=>⟨.inr,fun z=>z.elim Az id⟩),?_⟩;rintro b rfl;exact ⟨by rw [_e npq]; exact s.free hq,hq⟩
end
theorem _j1 {X:Cx} {elt target iter:Expr} {ifs:List Expr} {scope:Scope} {pos:Pos} {cl:List (Str × Addr)} {N':List Str} {js:List (Option Nat)} {wi:TI} {g:TG} {tc:TT} {te:TE} (k:CompOk X scope cl N' js) (hi:PI X target iter wi)
  (hg:∀ C s₀ H₀ ex pn,PG (_P X N' scope cl C s₀ H₀ ex pn) target g) (ht:∀ C s₀ H₀ ex pn,PIfs (_P X N' scope cl C s₀ H₀ ex pn) ifs tc) (he:∀ C s₀ H₀ ex pn,PE (_P X N' scope cl C s₀ H₀ ex pn) elt te) (hs:∀ x,Cd iter X.env x=pure x:=by intro _; rfl):PE X (.ListComp elt [⟨target,iter,ifs,0⟩] scope pos) (_qd0 wi g tc te js) :=
 _qfl k.calm hi (_x2 k.clo) k.free k.hcl k.hhas k.cell k.kind k.names hg ht he hs
def rLOf (K:Frag):List V->Hp->VK->Prop:=fun xs H Q=>∃ p ys,xs=[.ref p]/\(SqL K H p ys \/ SqT K H p ys)/\∀ l,H l=none->Q (.ref l) (upd H l (.lst ys))
theorem _Z5 {X:Cx} {K:Frag} (h:X.K=K):_wh X (.type "list") (rLOf K):=by subst h; exact _j6
theorem _qb4 {d:D} {p:Int × List Int} (h:_qm9 d=some p):d=.tup [.int p.1,.lst (p.2.map D.int)]:=by
 unfold _qm9 at h;split at h
 ·obtain ⟨l,hl,rfl⟩:=map_some h
  rw [_J4 hl]
 ·cases h
theorem _qb5 {d:D} {hp:List (Int × List Int)} (h:_qk1 d=some hp):d=.lst (hp.map fun p=>.tup [.int p.1,.lst (p.2.map D.int)]):=by
 unfold _qk1 at h;split at h
 ·rename_i xs
  congr 1
  induction xs generalizing hp with
  | nil=>simp at h; subst h; rfl
  | cons x xs ih =>
   rw [mapM_cons] at h;obtain ⟨p,hp1,h⟩:=bind_some h;obtain ⟨r,hr,h⟩:=bind_some h;cases h;rw [_qb4 hp1,ih hr]; rfl
 ·cases h
theorem _qh5 {K:Frag} {F:Hp} {v:V} {p:Int × List Int} (r:Rep K F v (.tup [.int p.1,.lst (p.2.map D.int)])):∃ t m,v=.ref t/\SqT K F t [.int p.1,.ref m]/\SqE K F m (p.2.map V.int):=by
 cases r with
 | tup h r =>
  cases r with
  | cons r1 r=>cases r with
   | cons r2 r=>cases r with
    | nil =>
     cases r1;cases r2 with
     | lst h2 t =>
      have:=_Z t
      subst this;exact ⟨_,_,rfl,h,h2⟩
theorem _qcz {K:Frag} {F0 H H':Hp} {c0 c2 c3 c4:Option V} {d:Addr} {kvs:List (List Int × V)} {hp:List (Int × List Int)} {Q:VK} (sm:_qu9 F0 H) (s1:_qu9 H H') (hd:H' d=some (.dT (dkv kvs))) (tw:TWt kvs hp) (hl:hp.length < 60) (hm:∀ p∈hp,p.2.length < 60)
  (k:∀ v F' H' A,Ext F0 H F' H'->Own K F' H' v (.lst ((_Jm hp).map _qa0)) A->(∀ b,A b->F' b=none/\H b=none)->Q v H') :
  _qd0 (_qmh K (tCB (fun xs H Q=>∃ (p:Addr) (kvs:List (List Int × V)),xs=[.ref p]/\H p=some (.dT (dkv kvs))/\kvs.length < 64/\∀ l (bs:List Addr),H l=none->bs.length=(_jc (kvs.map (·.1))).length->(∀ j (hj:j < bs.length),H bs[j]=some (.tup (((_jc (kvs.map (·.1))).getD j []).map V.int)))->Q (.ref l) (upd H l (.lst (bs.map V.ref)))) (_z6 (_qsw 1) _qsx)))
   (_zj 0) _wi (tTup (_z6 (_qjv (_qsw 1) (_qsw 0)) (_z6 (tCB (rLOf K) (_z6 (_qsw 0) _qsx)) _qsx))) [none,some 1] [c0,some (.ref d),c2,c3,c4] H' Q:=by
 refine ⟨_,rfl,d,kvs,rfl,hd,by have:=tw.1; omega,fun l bs hl1 hbl hbs=>⟨l,rfl,⟨_,SqL.of _a⟩,fun L hL=>?_⟩⟩;rw [_qgl tw] at hbl hbs;have hld:d ≠ l:=_c hd hl1;have hd1:upd H' l (.lst (bs.map V.ref)) d=some (.dT (dkv kvs)):=by rw [_e hld]; exact hd
 have s2:_qu9 H' (upd H' l (.lst (bs.map V.ref))):=_i hl1;have sF:_qu9 F0 (upd H' l (.lst (bs.map V.ref))):=(sm.trans s1).trans s2;have hn:bs.length=(_Jm hp).length:=by rw [hbl]; simp [_Jm]
 have e0:Ext F0 H F0 (upd H' l (.lst (bs.map V.ref))):=⟨_qu9.refl _,sF,s1.trans s2,fun _ _ h=>.inl h⟩;have re0:∀ (F:Hp) (σ:L2.St),RE K F σ [none,none]:=fun F σ i d h=>by
  match i,h with
  | 0,h=>cases h
  | 1,h=>cases h
 generalize hH1:upd H' l (.lst (bs.map V.ref))=H1 at *;have hl2:H1 l=some (.lst (bs.map V.ref)):=by rw [<- hH1]; exact _a
 refine ⟨fun i m σ' H''=>i <= bs.length/\m=bs.length - i/\∃ F' c,σ'=[c,some (.ref d)]/\CI K F0 H1 F' H'' σ' [none,none] L (((_Jm hp).take i).map _qa0),⟨_,zero_le _,rfl,F0,none,rfl,Ext.laidH sF hL,re0 _ _,rfl,sF.free hL,[],fun _=>False,_a,.nil fun _ z=>z,fun _ z=>z.elim⟩,?_⟩;rintro i m σ' H'' ⟨hi,rfl,F',c,rfl,ci⟩;have hq:SqL K H'' l (bs.map V.ref):=SqL.of (ci.ext.hh _ _ hl2)
 by_cases hlt:i < bs.length
 ·have hm':(bs.map V.ref)[i]?=some (.ref bs[i]):=by simp [hlt]
  refine .inr ⟨⟨_,_,hq,hm'⟩,fun x H2 y=>?_⟩;obtain ⟨rfl,y⟩:=y;have hx:x=.ref bs[i]:=by
   have:=y _ hq
   rw [hm'] at this;exact (Option.some.inj this).symm
  subst hx;unfold _zj _wi;dsimp only;rw [if_pos rfl];have hki:i < (_jc (hp.map (·.2))).length:=by rw [<- hbl]; exact hlt
  have hkey:H2 bs[i]=some (.tup (((_jc (hp.map (·.2)))[i]).map V.int)):=by
   have:=hbs i hlt
   rw [getD_eq_getElem?_getD,getElem?_eq_getElem hki] at this;exact ci.ext.hh _ _ (s2 _ _ this)
  have hmem:(_jc (hp.map (·.2)))[i]∈hp.map (·.2):=MT.mem_keys.mp (getElem_mem hki);have hv:_qsr (dkv kvs) (((_jc (hp.map (·.2)))[i]).map Sum.inl)=some (.int (wtK hp (_jc (hp.map (·.2)))[i])):=by
   rw [_qbs,tw.2,if_pos hmem]
  have hz:((_jc (hp.map (·.2)))[i]).length < 60:=by
   obtain ⟨p,hp1,e⟩:=Ah.mp hmem;rw [<- e]; exact hm p hp1
  have hdg:=_qui.t (ci.ext.hh _ _ hd1) (k:=((_jc (hp.map (·.2)))[i]).map Sum.inl) (b:=bs[i]) (by rw [_ju]; exact hkey);rw [hv] at hdg;refine ⟨_,rfl,_,rfl,d,_,rfl,hdg,_,rfl,bs[i],_,rfl,.inr (SqT.of hkey),fun q hq1=>⟨by show 2 <= Aj; rw [Ao]; omega,fun p hp1=>?_⟩⟩;obtain ⟨e4,r4,n4⟩:=_qhj (K:=K) (w:=wtK hp (_jc (hp.map (·.2)))[i]) ci.ext.fh hq1 hp1;have ci2:CI K F0 H1 F' H2 [some (.ref bs[i]),some (.ref d)] [none,none] L (((_Jm hp).take i).map _qa0):=⟨ci.ext,re0 _ _,rfl,ci.fl,ci.hl⟩;obtain ⟨acc,a1,a2,a3⟩:=_qpz ci2 hL e4 r4 n4;refine ⟨acc,a1,?_,_,Nat.sub_succ_lt_self _ _ hlt,hlt,rfl,upd F' p (.tup [.int (wtK hp (_jc (hp.map (·.2)))[i]),.ref q]),_,rfl,?_⟩
  ·rw [a2,length_map,length_take,Ao]
   have:(_Jm hp).length=bs.length:=hn.symm
   have hk2:(_jc (hp.map (·.2))).length <= hp.length:=by
    have:=MT.keys_len (hp.map (·.2))
    simpa using this
   omega
  ·have ht:(_Jm hp).take (i + 1)=(_Jm hp).take i++[(wtK hp (_jc (hp.map (·.2)))[i],(_jc (hp.map (·.2)))[i])]:=by
    rw [take_succ_eq_append_getElem (by omega)];simp [_Jm]
   rw [ht,map_append];exact a3
 ·refine .inl ⟨⟨_,hq,by simp; omega⟩,?_⟩
  have e:(_Jm hp).take i=_Jm hp:=D6 (by omega);rw [e] at ci;obtain ⟨A,o1,o2⟩:=ci.own hL;exact k (.ref L) F' H'' A (e0.trans ci.ext) o1 fun b z=>⟨(o2 b z).1,e0.hh.free (o2 b z).2⟩
theorem _Yc {K:Frag} {F0 H:Hp} {vs:List V} {ds:List D} {o:O} {Q:VK} (sm:_qu9 F0 H) (r:Reps K F0 vs ds) (hl:ds.length=1) (hg:_qkb ds=some o) (k:∀ v F' H' A,Ext F0 H F' H'->Own K F' H' v o A->(∀ b,A b->F' b=none/\H b=none)->Q v H') :
  tSeq (tAsg tDNewT (_zj 1)) (tSeq (tFor (_qmh K (_qsw 0)) (gTup K 2 (_qbh (_zj 2) (_qbh (_zj 3) gNil))) (tSeq (tAsg (tCB (fun xs H Q=>∃ p ys,xs=[.ref p]/\((SqL K H p ys/\∀ l,H l=none->Q (.ref l) (upd H l (.tup ys))) \/ (SqT K H p ys/\Q (.ref p) H))) (_z6 (_qsw 3) _qsx)) (_zj 4)) (sDPut (_qsw 1) (_qsw 4) (tOp (rI0 fun i j=>.int (i + j)) (_qkf (_qsw 1) (_qsw 4) (tC (.int 0))) (_qsw 2)))))
   (tRet (_qd0 (_qmh K (tCB (fun xs H Q=>∃ (p:Addr) (kvs:List (List Int × V)),xs=[.ref p]/\H p=some (.dT (dkv kvs))/\kvs.length < 64/\∀ l (bs:List Addr),H l=none->bs.length=(_jc (kvs.map (·.1))).length->(∀ j (hj:j < bs.length),H bs[j]=some (.tup (((_jc (kvs.map (·.1))).getD j []).map V.int)))->Q (.ref l) (upd H l (.lst (bs.map V.ref)))) (_z6 (_qsw 1) _qsx)))
    (_zj 0) _wi (tTup (_z6 (_qjv (_qsw 1) (_qsw 0)) (_z6 (tCB (rLOf K) (_z6 (_qsw 0) _qsx)) _qsx))) [none,some 1]))) { nx:=fun _ H'=>Q .non H',rt:=Q } (vs.map some++C2 (5 - vs.length) none) H:=by
 cases r with
 | nil=>cases hl
 | cons r1 r=>cases r with
  | cons r2 r=>cases hl
  | nil =>
   obtain ⟨hp,hk,hg⟩:=bind_some (show (_qk1 _).bind _=some o from hg);split at hg
   ·rename_i hc
    cases hg
    have:=_qb5 hk
    subst this;cases r1 with
    | lst q t =>
     rename_i a vs0;have hmk:∀ p∈hp,p.2.length < 60:=fun p hp1=>by simpa using F9.mp hc.2 p hp1
     have hvl:vs0.length=hp.length:=by rw [t.length]; simp
     refine fun d hd=>?_;refine ⟨_,rfl,a,rfl,⟨vs0,(_qt1 (sm.trans (_i hd)) q).l⟩,_qbj (xs:=vs0) (fun i σ' H'=>∃ c2 c3 c4 kvs,σ'=[some (.ref a),some (.ref d),c2,c3,c4]/\_qu9 H H'/\H' d=some (.dT (dkv kvs))/\TWt kvs (hp.take i))
      ⟨none,none,none,[],rfl,_i hd,_a,by simpa using _qk8⟩ (fun i σ' H' _ ⟨_,_,_,_,_,s1,_⟩=>(_qt1 (sm.trans s1) q).l) (fun i x σ' H' hx hI=>?_) fun σ' H' hI=>?_⟩
     ·obtain ⟨c2,c3,c4,kvs,rfl,s1,hd1,tw⟩:=hI
      obtain ⟨dd,hdd,rp⟩:=t.get hx;rw [getElem?_map] at hdd;obtain ⟨p,hpi,rfl⟩:=map_some hdd;obtain ⟨t',m,rfl,ht,hm⟩:=_qh5 rp;refine ⟨t',[.int p.1,.ref m],rfl,seqT (sm.trans s1) ht,rfl,_,_,rfl,_,_,rfl,rfl,?_⟩;refine ⟨_,rfl,m,_,rfl,.inl ⟨(_qt1 (sm.trans s1) hm).l,fun kt hkt=>?_⟩⟩;have hdk:d ≠ kt:=_c hd1 hkt;have hd2:upd H' kt (.tup (p.2.map V.int)) d=some (.dT (dkv kvs)):=by rw [_e hdk]; exact hd1
      have hk2:upd H' kt (.tup (p.2.map V.int)) kt=some (.tup ((p.2.map Sum.inl:List Key).map kV)):=by rw [_ju]; exact _a
      have hdg:=_qui.t hd2 hk2;have hlen:(dkv kvs).length < Aj:=by
       have:=tw.1
       simp at this;simp [dkv,Ao]; omega
      have hgd:(_qsr (dkv kvs) (p.2.map Sum.inl)).getD (.int 0)=.int (wtK (hp.take i) p.2):=by rw [_qbs]; exact _qk9 tw p.2
      refine ⟨_,rfl,d,rfl,.inr ⟨_,.inl hd2⟩,_,rfl,_,hdg,_,rfl,_,_,hgd,rfl,_,rfl,_,rfl,d,_,rfl,DPut.t hd2 hk2 hlen,?_⟩;refine ⟨_,_,_,_qt7 kvs p.2 (.int (wtK (hp.take i) p.2 + p.1)),rfl,fun b u hb=>?_,by rw [_a,_qmu],?_⟩
      ·rw [_e (_c hb hd),_e (_c (s1 _ _ hb) hkt)]
       exact s1 _ _ hb
      ·have e:hp.take (i + 1)=hp.take i++[(p.1,p.2)]:=by
        obtain ⟨hi,e⟩:=Ai.mp hpi;rw [take_succ_eq_append_getElem hi,e]
       rw [e];exact _qk7 tw p.1 p.2
     ·obtain ⟨c2,c3,c4,kvs,rfl,s1,hd1,tw⟩:=hI
      rw [hvl,take_length] at tw;exact _qcz sm s1 hd1 tw hc.1 hmk k
   ·cases hg
section
variable {P:Ak} {w:World} {K:Frag} {mg:Str->Option Value} {base:Heap} {N:List Str} {qual:Str} {scope:Scope} {f:Addr} {cd:Value} {A:Around} {outer:List Env} {s:Shared} {H:Hp} {E:XK} {C:Addr}
end
section
variable {X:Cx} {pins p2:List (Addr × Obj)} {R:Addr->Hp->Prop} {σ:L2.St} {H:Hp} {s:Shared}
structure ExcS (K:Frag) (C C':Addr):Prop where
 ty:J3 K (.ref C')=some (.type "type")
 cl:(K1 K C').isSome=true
 be:Ef K C' (.type "BaseException")=some true
 su:Ef K C (.ref C')=some false
end
section
variable {X:Cx}
theorem _Wd (x:Str) (h:1 <= x.length):(Txt.slice x (some 1) none)=⟨(x.cps.toList.drop 1).toArray⟩:=by
 unfold Txt.slice;have e:Ha (some 1) none 1 x.length=Ha (some ((1:Nat):Int)) (some (x.length:Int)) 1 x.length:=by
  rw [StrLaws.sliceIdx_none_hi]; rfl
 rw [e];have e2:=StrLaws.strSliceIndices_plain h (le_refl x.length);have e3:=StrLaws.sliced_plain x h (le_refl x.length);rw [if_neg (by rw [e2]; simp; omega),e3];congr 2;rw [D6 (by simp [Str.length])]
def rSl1:V->Option Int->Option Int->Hp->VK->Prop:=fun x lo hi H Q=>∃ z:Str,x=.str z/\lo=some 1/\hi=none/\1 <= z.length/\z.length <= Aj/\Q (.str ⟨(z.cps.toList.drop 1).toArray⟩) H
theorem _qkl:SlR X rSl1:=by
 intro pins s σ H x v vl vu lo hi sl Q I rx hs pl pu h;obtain ⟨z,rfl,rfl,rfl,h1,hz,q⟩:=h;obtain ⟨t,rfl⟩:=rx;cases pl with
 | int i ti =>
  cases pu with
  | none =>
   refine ⟨"str",_,slot_str_getitem.lookup,K8 s z t,?_⟩;have hs':s.heap.IsSlice sl (some (1,ti)) none none:=hs;refine wpAny_getItem_str_slice hs' rfl (post_val_or_str ⟨le_trans (Txt.slice_le z (some 1) none) hz,fun t' k=>?_⟩);refine ⟨.str ⟨(z.cps.toList.drop 1).toArray⟩,H,I.tok k,⟨t',?_⟩,q⟩;rw [<- _Wd z h1];rfl
theorem _qi3:MtR X "str.index" (fun x vs H Q=>∃ z y i _qt6,x=.str z/\vs=[.str y]/\Ix z y 0 z.length 1=i :: _qt6/\Q (.int (i:Nat)) H):=by
 intro pins s σ H x vs v us Q I rx rv h;obtain ⟨z,y,i,_qt6,rfl,rfl,ho,q⟩:=h;obtain ⟨t,rfl⟩:=rx;obtain ⟨u,rfl,ru⟩:=rv.one;obtain ⟨t2,rfl⟩:=ru;refine call_gives F.slot_str_index (K8 s z t) F.entry_str_index (F.args_str_index_2 _ _) (gives_str_index z y t t2 i _qt6 ho) ?_;exact ⟨.int i,H,I.tok _,⟨_,rfl⟩,q⟩
def _xb:Str:="abcdefghijklmnopqrstuvwxyz"
theorem _J3:∀ i,i < 26->∃ _qt6,Ix _xb ⟨#[97 + i]⟩ 0 _xb.length 1=i :: _qt6:=by
 intro i hi;refine ⟨[],?_⟩
 revert i
 decide +kernel
end
section
variable {X:Cx} {pins:List (Addr × Obj)} {σ:L2.St} {H:Hp} {s:Shared}
end
theorem _wz {X:Cx} {ss:List Stmt}:PSs X ss (fun _ _ _=>False):=fun _ _ _ _ _ _ h=>Az h
end DL
namespace SortW
open PySem PySem.W PyProof.Rows DL
section
variable {prog:Ak} {w:World} {A:Around} {E:Value->Shared->Prop} {s:Shared} {d it:Addr} {es:Array DictEntry} {ep i:Nat} {ok ov:Value}
theorem _qba {Q:Option Value->Shared->Prop} (hit:Eb s.heap it d i es.size ep ok ov)
  (h:wpAny (model prog w) A.in1 (Builtin.«dict_itemiterator.__next__» ⟨[.ref it],[]⟩) (fun fin s'=>∃ v,fin=.done (.ret v)/\Q (some v) s') (fun e s'=>s'.TypeIs e "StopIteration"/\Q none s') s):wpAny (model prog w) A (Dt (.ref it)) Q E s:=by
 have hT:s.TypeIs (.ref it) "dict_itemiterator":=⟨_,hit,rfl⟩;unfold Dt;refine Ac (Eg (Bl (name:=Cu "__next__") hT Bz (Ax Bz hT PySem.F.entry_dict_itemiterator_next ?_ (PySem.F.args_dict_itemiterator_next_1 _))));refine Bj h (fun fin s' hq=>?_) (fun e s' hq=>?_)
 ·obtain ⟨v,rfl,hq⟩:=hq
  exact ⟨v,rfl,Ad hq⟩
 ·obtain ⟨t,hq⟩:=hq
  refine Ac (Dv (T:="StopIteration") (b:=true) t _kx ?_);exact Ad hq
theorem _qhi {k v:Value} {Q:Value->Shared->Prop} (hit:Eb s.heap it d i es.size ep ok ov)
  (hQ:∀ h',K3 h' it d i es.size ep k v s.heap.objs.size->h'.get? s.heap.objs.size=some { cls:=.type "tuple",data:=.seq #[k,v] }->h'.objs.size=s.heap.objs.size + 1->(∀ b o,b ≠ it->s.heap.get? b=some o->h'.get? b=some o)->Q (.ref s.heap.objs.size) { s with heap:=h' }) :
  wpAny (model prog w) A (Dl (.ref it) 6 k v) Q E s:=by
 obtain ⟨hp,g,dr,tk,os⟩:=s;have hil:it ≠ hp.objs.size:=ne_of_lt (Af hit);unfold Dl;refine Ac (Fm ?_);have he:Eb (hp.push { cls:=.type "tuple",data:=.seq #[k,v] }) it d i es.size ep ok ov:=Ae _ hit;have ht:(hp.push { cls:=.type "tuple",data:=.seq #[k,v] }).get? hp.objs.size=some { cls:=.type "tuple",data:=.seq #[k,v] }:=Ag _ rfl;have hz:(hp.push { cls:=.type "tuple",data:=.seq #[k,v] }).objs.size=hp.objs.size + 1:=By _ _;have hk:∀ b o,b ≠ it->hp.get? b=some o->(hp.push { cls:=.type "tuple",data:=.seq #[k,v] }).get? b=some o:=fun b o _ e=>Ae _ e;generalize hp.push { cls:=.type "tuple",data:=.seq #[k,v] }=h2 at he ht hz hk;refine (?_:wpAny _ _ (E8 (.ref it) >>= _) _ _ ⟨h2,g,dr,tk,os⟩);refine Ac ?_;unfold E8;refine Ac (Dk he rfl (x:=.none) rfl (Ad ?_));simp only [if_true];refine Ac (Dk he rfl (x:=ok) rfl (Ac (Dk he rfl (x:=ov) rfl ?_)));refine Ac (Ec he (by simp) fun h3 he3 hs3=>?_);refine Ac (Ec (show Eb h3 it d i es.size ep k ov from he3) (by simp) fun h4 he4 hs4=>?_);refine Ac (Ec (show Eb h4 it d i es.size ep k v from he4) (by simp) fun h5 he5 hs5=>?_);refine Ac (Ec (show K3 h5 it d i es.size ep k v hp.objs.size from he5) (by simp) fun h6 he6 hs6=>?_);have all:∀ b o,b ≠ it->h2.get? b=some o->h6.get? b=some o:=fun b o hb e=>(show Heap.SameBut it h5 h6 from hs6).extBut b o hb ((show Heap.SameBut it h4 h5 from hs5).extBut b o hb ((show Heap.SameBut it h3 h4 from hs4).extBut b o hb ((show Heap.SameBut it h2 h3 from hs3).extBut b o hb e)));refine Ac (Kg (Ad (hQ h6 he6 (all _ _ hil.symm ht) ?_ fun b o hb e=>all b o hb (hk b o hb e))));rw [(show Heap.SameBut it h5 h6 from hs6).1,(show Heap.SameBut it h4 h5 from hs5).1,(show Heap.SameBut it h3 h4 from hs4).1,(show Heap.SameBut it h2 h3 from hs3).1,hz]
theorem _qb9 {Q:Option Value->Shared->Prop} (hit:Eb s.heap it d i es.size ep ok ov) (hm:_quc s.heap d es ep) (hi:i < es.size)
  (hQ:∀ h',K3 h' it d (i + 1) es.size ep es[i].key es[i].val s.heap.objs.size->h'.get? s.heap.objs.size=some { cls:=.type "tuple",data:=.seq #[es[i].key,es[i].val] }->h'.objs.size=s.heap.objs.size + 1 ->
   (∀ b o,b ≠ it->s.heap.get? b=some o->h'.get? b=some o)->Q (some (.ref s.heap.objs.size)) { s with heap:=h' }):wpAny (model prog w) A (Dt (.ref it)) Q E s:=by
 refine _qba hit ?_;obtain ⟨hp,g,dr,tk,os⟩:=s;obtain ⟨od,hod,hcd,hdd⟩:=hm;have hT:Gg ⟨hp,g,dr,tk,os⟩ (.ref it) "dict_itemiterator":=⟨_,hit,rfl⟩;refine Ac (Ad (Ac (Ac ?_)));refine Ac (Ck hT (Ad ?_));refine Ac (C3 hit rfl ?_);have own:B5 "dict_itemiterator"=true:=by decide
 simp only [own,if_true];refine (?_:wpAny _ _ (if (Value.ref d == Value.none)=true then _ else _) _ _ _);rw [if_neg (show ¬ ((Value.ref d == Value.none)=true) from An)];refine Ac (Ad (Ac (Bh hod hdd ?_)));rw [if_neg (by simp)];refine Ac (Ad (Ac (Df hod hdd ?_)));rw [if_neg (by simp)];refine Ad ?_;simp only [show ¬ ((i:Int) < 0) from by omega,if_false,A9,Da hi];refine Ac (Ac (Ck hT (Ad ?_)));refine Ac (Fr hT ?_);refine (?_:wpAny _ _ (Mt (.ref it) 3 (B7 ((i:Int) + 1)) >>= _) _ _ ⟨hp,g,dr,tk,os⟩);refine Ac (Ec hit (by simp) fun h1 he1 hs1=>?_);have hs1':Heap.SameBut it hp h1:=hs1;have he1':Eb h1 it d (i + 1) es.size ep ok ov:=by
  have e:((i + 1:Nat):Int)=(i:Int) + 1:=by omega
  unfold Eb; rw [e]; simpa [B7] using he1
 have hT1:Gg ⟨h1,g,dr,tk,os⟩ (.ref it) "dict_itemiterator":=⟨_,he1',rfl⟩;refine Ac (Ba (Ac (Fr hT1 (Ac (Fr hT1 ?_)))));refine (?_:wpAny _ _ (Dl (.ref it) 6 es[i].key es[i].val) _ _ ⟨h1,g,dr,tk,os⟩);have hz1:h1.objs.size=hp.objs.size:=hs1'.1;refine _qhi he1' fun h' a1 a2 a3 a4=>Ad ⟨_,rfl,?_⟩;have e1:(Shared.mk h1 g dr tk os).heap.objs.size=hp.objs.size:=hz1;rw [e1] at a1 a2 a3 ⊢;exact hQ h' a1 a2 a3 fun b o hb e=>a4 b o hb (hs1'.extBut b o hb e)
theorem _qe9 {Q:Option Value->Shared->Prop} (hh:A.handled=none) (hit:Eb s.heap it d i es.size ep ok ov) (hm:_quc s.heap d es ep) (hi:es.size <= i)
  (hQ:∀ h',Heap.ExtBut it s.heap h'->Q none { s with heap:=h' }):wpAny (model prog w) A (Dt (.ref it)) Q E s:=by
 refine _qba hit ?_;obtain ⟨od,hod,hcd,hdd⟩:=hm;have hT:s.TypeIs (.ref it) "dict_itemiterator":=⟨_,hit,rfl⟩;refine Ac (Ad (Ac (Ac ?_)));refine Ac (Ck hT (Ad ?_));refine Ac (C3 hit rfl ?_);have own:B5 "dict_itemiterator"=true:=by decide
 simp only [own,if_true];refine (?_:wpAny _ _ (if (Value.ref d == Value.none)=true then _ else _) _ _ s);rw [if_neg (show ¬ ((Value.ref d == Value.none)=true) from An)];refine Ac (Ad (Ac (Bh hod hdd ?_)));rw [if_neg (by simp)];refine Ac (Ad (Ac (Df hod hdd ?_)));rw [if_neg (by simp)];refine Ad ?_;simp only [show ¬ ((i:Int) < 0) from by omega,if_false,A9,getElem?_eq_none hi];refine Ac (Ac (Ck hT (Ad ?_)));refine (?_:wpAny _ _ (Mt (.ref it) 2 .none >>= _) _ _ s);refine Ac (Ce hit rfl (by simp) ?_);refine (?_:wpAny _ _ (Mq (.type "StopIteration") [] >>= _) _ _ _);simp only [Mq,newTuple];refine Ac (Ac (A8 ?_ (by size_fits)));refine Ac (m:=Ew _ _) (J8 (a:=Value.none) (by first | rfl | (simp only [Ew]; rfl)) ?_);refine A8 ?_ (by size_fits);simp only [Mr];refine Ac (Kz ?_);rw [show A.in1.handled=none from hh];refine Ac (Ad (Mc ⟨⟨_,Ag _ rfl,rfl⟩,?_⟩));exact hQ _ (((Cg ..).extBut.push _).push _)
end
end SortW
namespace DL
open PySem PySem.Spec PyProof.Rows L2 SortW
section
variable {X:Cx} {pins:List (Addr × Obj)} {σ:L2.St} {H:Hp} {s:Shared}
theorem Inv.freezeT (I:L2.Inv X pins σ H s) {d:Addr} {kvs:List (List Key × V)} (e:H d=some (.dT kvs)):∃ o es ep,s.heap.get? d=some o/\o.ExactDict/\o.data=.dict es ep/\es.size=kvs.length/\(d == Bi)=false/\L2.Inv X pins σ (upd H d (.frz o (.dT kvs))) s:=by
 obtain ⟨z1,z2,xs,r,o,es,ep,ho,hc,hd,he,hn⟩:=(show _zn X.prog X.w H s.heap d (.dT kvs) from I.hok d _ e);refine ⟨o,es,ep,ho,hc,hd,?_,z2,?_⟩
 ·have:=congrArg List.length he
  rw [length_map] at this;rw [<- length_toList,this,r.length]
 ·have nt:∀ b ys,H b=some (.tup ys)->b ≠ d:=fun b ys q=>_zh q e (by intro z; cases z)
  exact I.write (x:=d) (e:=d) (h':=s.heap) (t':=s.toks) (by rw [e]; exact True.intro) (.inl rfl) (fun b q hb z=>z) ⟨o,ho⟩ ⟨ho,z1,z2,xs,Paired.mapP r fun p q z=>⟨z.1,by rw [_e (nt _ _ z.2.1)]; exact z.2.1,z.2.2⟩,o,es,ep,ho,hc,hd,he,hn⟩
theorem Inv.thaw (I:L2.Inv X pins σ H s) {d:Addr} {o:Obj} {u:HO} (e:H d=some (.frz o u)) (h0:∀ o' u',X.H₀ d ≠ some (.frz o' u')):L2.Inv X pins σ (upd H d u) s:=by
 have nn:∀ b,H b=none->b ≠ d:=fun b n z=>by rw [z,e] at n; cases n
 have nt:∀ b ys,H b=some (.tup ys)->b ≠ d:=fun b ys q=>_zh q e (by intro z; cases z);have no:∀ b y,H b=some (.own y)->b ≠ d:=fun b y q=>_zh q e (by intro z; cases z);refine ⟨I.ok,I.os,I.bare,⟨I.base.keep,I.base.slot,fun b ob q n hx=>?_,I.base.there,fun b xs q=>?_,fun b ob w q=>?_,fun b ps q=>?_⟩,I.loc,I.cell,by rw [_e (nn _ I.free)]; exact I.free,fun x c q=>by rw [_e (nn _ (I.freeC x c q))]; exact I.freeC x c q,fun p hp=>?_,fun b w q=>?_,I.len⟩
 ·have z:=I.base.free b ob q n hx
  rw [_e (nn _ z)]; exact z
 ·have z:=I.base.tups b xs q
  rw [_e (nt _ _ z)]; exact z
 ·have z:=I.base.frzs b ob w q
  rw [_e (by rintro rfl; exact h0 _ _ q)]; exact z
 ·obtain ⟨more,z⟩:=I.base.tbls b ps q
  exact ⟨more,by rw [_e (_zh z e (by intro z; cases z))]; exact z⟩
 ·obtain ⟨a1,a2,a3⟩:=I.pin p hp
  exact ⟨a1,by rw [_e (nn _ a2)]; exact a2,a3⟩
 ·by_cases hb:b=d
  ·subst hb
   rw [_a] at q;cases q;obtain ⟨_,z⟩:=(show _zn X.prog X.w H s.heap b (.frz o u) from I.hok b _ e);exact z.stay (fun _ _ _ z=>z) (fun c z=>by rw [_e (no _ _ z)]; exact z) fun c xs z=>by rw [_e (nt _ _ z)]; exact z
  ·rw [_e hb] at q
   exact (I.hok b w q).stay (fun _ _ _ z=>z) (fun c z=>by rw [_e (no _ _ z)]; exact z) fun c xs z=>by rw [_e (nt _ _ z)]; exact z
end
def tThaw (H₀:Hp) (t:TE):TE:=fun σ H Q=>t σ H fun v H1=>∃ d o u,H1 d=some (.frz o u)/\(∀ o' u',H₀ d ≠ some (.frz o' u'))/\Q v (upd H1 d u)
theorem _ql3 {X:Cx} {e:Expr} {t:TE} (h:PE X e t):PE X e (tThaw X.H₀ t):=by
 intro pins s σ H Q I q;refine thn (h pins s σ H _ I q) fun v s1 hQ=>?_;obtain ⟨x,H1,I1,r1,d,o,u,e1,h0,q1⟩:=hQ;exact ⟨x,_,Inv.thaw I1 e1 h0,r1,q1⟩
def ItI (d:Addr) (o:Obj) (kvs:List (List Key × V)):It :=
 ⟨fun i H=>H d=some (.frz o (.dT kvs))/\i < kvs.length,fun i H x H'=>∃ T k p,x=.ref T/\H T=none/\kvs[i]?=some p/\H k=some (.tup (p.1.map kV))/\H'=upd H T (.tup [.ref k,p.2]),fun i H=>H d=some (.frz o (.dT kvs))/\kvs.length <= i⟩
theorem _Jw {α β:Type} {R:α->β->Prop}:∀ {xs:List α} {ys:List β},Paired R xs ys->∀ {i:Nat} {x:α},xs[i]?=some x->∃ y,ys[i]?=some y/\R x y
 | _,_,.cons h t,0,x,e=>by simp at e; subst e; exact ⟨_,rfl,h⟩
 | _,_,.cons h t,i + 1,x,e=>by
  obtain ⟨y,hy,r⟩:=_Jw t (i:=i) (x:=x) (by simpa using e);exact ⟨y,by simpa using hy,r⟩
theorem _Ya {P:Ak} {w:World} {K:Frag} {elts:List Expr} {kk:Nat} {tp:Pos} (d it:Addr) (o:Obj) (kvs:List (List Key × V)) (ep:Nat) (es:Array DictEntry) (hd:o.data=.dict es ep) (hz:es.size=kvs.length) :
  Turn P w K (.Tuple elts kk tp) (ItI d o kvs) [it] it (fun i h=>∃ ok ov,Eb h it d i es.size ep ok ov) where
 mem:=by simp
 obj:=fun i h st b hb=>by
  obtain ⟨ok,ov,st⟩:=st;have e:b=it:=by simpa using hb
  subst e;exact ⟨_,st,fun v z=>by
   have z':Data.fields _=Data.cell v:=z;cases z'⟩
 keep:=fun i h h' st k=>by
  obtain ⟨ok,ov,st⟩:=st;exact ⟨ok,ov,k it (by simp) _ st⟩
 item:=by
  intro X hP hw hK hc i pins s σ H E I hf st hg;subst hP hw hK;obtain ⟨ok,ov,st⟩:=st;obtain ⟨hg,hi⟩:=hg;obtain ⟨ho,z1,z2,xs,r,o',es',ep',ho',hx,hxd,hxs,hn⟩:=(show _zn X.prog X.w H s.heap d (.frz o (.dT kvs)) from I.hok d _ hg);rw [ho] at ho';cases ho';rw [hd] at hxd;cases hxd;have hi':i < es.size:=by omega
  obtain ⟨y,hy,e1,e2,e3⟩:=_Jw r (i:=i) (x:=kvs[i]) (by simp [hi]);have he:es[i]=entryOfKey (Fc (_qj X.prog X.w)) y:=by
   have h1:es.toList[i]?=some es[i]:=by simp [hi']
   rw [hxs,getElem?_map,hy] at h1;exact (Option.some.inj h1).symm
  have hit:it < s.heap.objs.size:=Af st;refine _qb9 st ⟨o,ho,hx,hd⟩ hi' fun h' a1 a2 a3 a4=>⟨_,rfl,?_⟩;rw [he] at a1 a2;refine wpAny_letOwnedTupleGo_items (s:={ s with heap:=h' }) a1 fun h'' b1 b2=>?_;have nT:s.heap.objs.size ≠ it:=ne_of_gt hit;have kall:∀ b u,b ∉ [it]->s.heap.get? b=some u->h''.get? b=some u:=fun b u hb e=>b2.extBut b u (by simpa using hb) (a4 b u (by simpa using hb) e);have new:_zn X.prog X.w (upd H s.heap.objs.size (.tup [.ref y.2.1,kvs[i].2])) h'' s.heap.objs.size (.tup [.ref y.2.1,kvs[i].2]) :=
   ⟨by simp [Ao],[.ref y.2.1,y.2.2],.cons rfl (.cons e3 .nil),_,b2.extBut _ _ nT a2,rfl,0,rfl⟩
  have I2:=DL.Inv.turnedT I (h':=h'') (t':=s.toks) kall hf (le_refl _) new;refine ⟨.ref s.heap.objs.size,_,I2,rfl,⟨_,y.2.1,kvs[i],rfl,I.hok.fresh (le_refl _),by simp [hi],e2,rfl⟩,⟨_,_,b1⟩,fun b hb=>?_⟩;have hb':b=it:=by simpa using hb
  subst hb';rw [_e nT.symm];exact (hf b (by simp)).1
 done:=by
  intro X hP hw hK hc i pins s σ H E I hf st hg;subst hP hw hK;obtain ⟨ok,ov,st⟩:=st;obtain ⟨hg,hi⟩:=hg;obtain ⟨f0,f1,f2,f3,f4,f5⟩:=hf it (by simp);obtain ⟨ho,z1,z2,xs,r,o',es',ep',ho',hx,hxd,hxs,hn⟩:=(show _zn X.prog X.w H s.heap d (.frz o (.dT kvs)) from I.hok d _ hg);exact _qe9 (I.ok.hd hc) st ⟨o,ho,by rw [ho] at ho'; cases ho'; exact hx,hd⟩ (by omega) fun h' eb=>⟨rfl,I.turned (t':=s.toks) (fun b o hb e=>eb b o hb e) f0 f1 f3 f4 f5⟩
 self:=fun A i s Q E st h=>by
  obtain ⟨ok,ov,st⟩:=st;have hT:s.TypeIs (.ref it) "dict_itemiterator":=⟨_,st,rfl⟩;have hen:Mp table "dict_itemiterator.__iter__"=some Builtin.«dict_keyiterator.__iter__»:=J9 (id':="dict_keyiterator.__iter__") (by kernel_rfl) rfl (by decide +kernel) (by kernel_rfl);refine En hT E9 (Ax E9 hT hen ?_ (PySem.F.args_dict_itemiterator_iter_1 _));refine (?_:wpAny _ _ (ret (.ref it)) _ _ s);exact Ad ⟨_,rfl,"dict_itemiterator",_,hT,Bz.lookup,h⟩
theorem erase_filter {κ:Type} [DecidableEq κ] {β:Type}:∀ {xs:List (κ × β)},(xs.map (·.1)).Nodup->∀ {j:Nat} {k:κ} {p:β},xs[j]?=some (k,p)->xs.eraseIdx j=xs.filter fun x=>decide (x.1 ≠ k)
 | [],_,j,k,p,h=>by simp at h
 | x :: xs,hn,0,k,p,h=>by
  simp at h;subst h;rw [map_cons,nodup_cons] at hn;simp only [List.eraseIdx_zero,List.tail_cons];rw [filter_cons_of_neg (by simp)];refine (Av.mpr fun y hy=>?_).symm
  have:y.1∈xs.map (·.1):=Ah.mpr ⟨y,hy,rfl⟩
  simp
  rintro rfl;exact hn.1 this
 | x :: xs,hn,j + 1,k,p,h=>by
  rw [map_cons,nodup_cons] at hn;have hj:xs[j]?=some (k,p):=by simpa using h
  have hk:k∈xs.map (·.1):=Ah.mpr ⟨(k,p),mem_of_getElem? hj,rfl⟩;have ne:x.1 ≠ k:=by rintro e; rw [e] at hn; exact hn.1 hk
  rw [Ff,erase_filter hn.2 hj,filter_cons_of_pos (by simpa using ne)]
theorem _Kd {α β:Type} (f:α->β):∀ (xs:List α) (j:Nat),(xs.map f).eraseIdx j=(xs.eraseIdx j).map f
 | [],_=>by simp
 | x :: xs,0=>by simp
 | x :: xs,j + 1=>by simp only [map_cons,Ff,_Kd f xs j]
theorem KT.drop {H:Hp} {kvs:List (List Key × V)} {xs:List (List Key × Addr × Value)} (r:KT H kvs xs) (k:List Key):KT H (_qct kvs k) (xs.filter fun x=>decide (x.1 ≠ k)):=by
 unfold _qct
 induction r with
 | nil=>exact .nil
 | @cons p q ps qs h t ih =>
  by_cases e:p.1=k
  ·rw [filter_cons_of_neg (by simp [e]),filter_cons_of_neg (by simp [<- h.1,e])]; exact ih
  ·rw [filter_cons_of_pos (by simp [e]),filter_cons_of_pos (by simp [<- h.1,e])]; exact .cons h ih
section
variable {prog:Ak} {w:World} {κ:Type} [DecidableEq κ] {knd:HeapKind prog w κ} {A:Around} {E:Value->Shared->Prop} {s:Shared} {d a:Addr} {xs:List (κ × Addr × Value)} {k:κ}
theorem _kg {Q:Option DictEntry->Shared->Prop} (hu:knd.room A) (hkey:knd.is s.heap k a) (hm:s.heap.DictOfH knd d xs) (hsz:xs.length <= Aj)
  (hnone:atKey xs k=none->Q none { s with toks:=s.toks + knd.draws k })
  (hsome:∀ p h',atKey xs k=some p->h'.DictOfH knd d (xs.filter fun x=>decide (x.1 ≠ k))->Heap.SameBut d s.heap h'->Q (some (entryOfKey knd (k,p))) { s with heap:=h',toks:=s.toks + knd.draws k }) :
  wpAny (model prog w) A (Kh d (.ref a)) Q E s:=by
 obtain ⟨o,es,ep,ho,hc,hd,he,his,hn⟩:=hm;unfold Kh;refine Ba ?_;refine Ac (knd.pyHash hu hkey (Ac (wpAny_dictFind_heap (s:={ s with toks:=s.toks + knd.draws k }) hu hkey ho hd he his hn ?_ ?_)))
 ·intro hno
  exact Ad (hnone (atKey_none_of_get hno))
 ·intro j p hj
  refine Ac (Bh (s:={ s with toks:=s.toks + knd.draws k }) ho hd ?_);rw [entry_at he j,hj];have hz:es.size <= Aj:=by rw [size_of_entries he]; exact hsz
  have hjl:j < es.size:=by
   rw [size_of_entries he];exact (Ai.mp hj).1
  refine Ac (wpAny_updateDictKeys (hz:=hz) (s:={ s with toks:=s.toks + knd.draws k }) ho hd (Ad (hsome p _ (atKey_of_get hn hj)
   ⟨_,_,ep + 1,Bf _ ho (Obj.isFreed_of_dict (Ki hd _)),hc.mapDictKeys _,Ki hd _,?_,fun x hx=>?_,?_⟩ (Cg ..))))
  ·rw [Array.toList_eraseIdxIfInBounds,he,<- erase_filter hn hj,_Kd]
  ·exact knd.keeps (his x (Ay.mp hx).1) ho hd (Cg ..)
  ·exact (E3 _ filter_sublist).nodup hn
end
section
variable {X:Cx} {pins:List (Addr × Obj)} {σ:L2.St} {H:Hp} {s:Shared} {a b:Addr} {kvs:List (List Key × V)} {k:List Key} {A:Around} {E:Value->Shared->Prop}
theorem _qn1 {more:List Value} {Q:Value->Shared->Prop} (hu:A.units + 1 < cLine) (I:L2.Inv X pins σ H s) (e:H a=some (.dT kvs)) (eb:H b=some (.tup (k.map kV))) (hm:more=[] \/ ∃ x,more=[x])
  (h1:∀ v w' s',_qsr kvs k=some v->L2.Inv X pins σ (upd H a (.dT (_qct kvs k))) s'->RelV v w'->Q w' s') (h2:_qsr kvs k=none->∃ x,more=[x]/\∀ s',L2.Inv X pins σ H s'->Q x s') :
  wpAny (model X.prog X.w) A (call (.builtin "dict.pop") (.ref a :: .ref b :: more)) Q E s:=by
 obtain ⟨z,hd,xs,rel,dd⟩:=dt_of I.hok e;have hz:xs.length <= Aj:=by rw [<- Paired.length rel]; exact z
 have ha:argsOk "dict.pop" ⟨.ref a :: .ref b :: more,[]⟩:=by
  rcases hm with q | ⟨x,q⟩
  ·subst q; exact PySem.F.args_dict_pop_2 _ _
  ·subst q; exact PySem.F.args_dict_pop_3 _ _ _
 have kk:=_Zq I.hok eb;refine Ax Fx dd.typeIs PySem.F.entry_dict_pop ?_ ha;unfold Builtin.«dict.pop»;refine Ac ?_;unfold Builtin.Dict.keyAndDefault;refine Ac (Ek dd.typeIs ?_);obtain ⟨o,es,ep,ho,hc,hdat,he,his,hn⟩:=id dd;have emp:es.isEmpty=true->_qsr kvs k=none:=by
  intro hem
  have:es.toList=[]:=by simpa using hem
  rw [this] at he;have hx:xs=[]:=by simpa using he.symm
  subst hx;cases rel;rfl
 have non:atKey xs k=none->_qsr kvs k=none:=by
  intro hno
  have:=rel.val k
  rw [hno] at this;cases q:_qsr kvs k with
  | none=>rfl
  | some v=>rw [q] at this; exact this.elim
 have got:∀ p h',atKey xs k=some p->h'.DictOfH (Fc (_qj X.prog X.w)) a (xs.filter fun x=>decide (x.1 ≠ k))->Heap.SameBut a s.heap h'->Q p.2 { s with heap:=h',toks:=s.toks + (Fc (_qj X.prog X.w)).draws k }:=by
  intro p h' hp dd' hs;have rv:=rel.val k;rw [hp] at rv;cases q:_qsr kvs k with
  | none=>rw [q] at rv; exact rv.elim
  | some v =>
   rw [q] at rv;refine h1 v _ _ q ?_ rv;obtain ⟨q1,es1,ep1,hq1,g2,g3,g4,_,g5⟩:=dd';refine _qbu I (by rw [e]; exact True.intro) hs ⟨q1,hq1⟩ ⟨le_trans (_qj9 kvs k) z,hd,_,(KT.drop rel k).keeps fun c ys ec=>?_,q1,es1,ep1,hq1,g2,g3,g4,g5⟩;rw [_e (_zh ec e (fun z=>nomatch z))];exact ec
 rcases hm with rfl | ⟨x,rfl⟩
 ·refine (?_:wpAny _ _ (pure (a,Value.ref b,none)) _ _ s)
  refine Ad ?_;dsimp only;rw [if_neg (show ¬ (keyPart (Value.ref b)).isSome=true from by simp [keyPart])];refine Ac (Bh ho hdat (Ac (Ad ?_)))
  by_cases hem:es.isEmpty=true
  ·obtain ⟨x,hx,_⟩:=h2 (emp hem)
   cases hx
  ·rw [if_neg hem]
   refine Ac (_kg (Cj hu) kk dd hz (fun hno=>?_) fun p h' hp dd' hs=>?_)
   ·obtain ⟨x,hx,_⟩:=h2 (non hno)
    cases hx
   ·simp only [Lg,Aw,if_false]
    exact Ac (Kg (Ad ⟨_,rfl,got p h' hp dd' hs⟩))
 ·refine (?_:wpAny _ _ (pure (a,Value.ref b,some x)) _ _ s)
  refine Ad ?_;dsimp only;rw [if_neg (show ¬ (keyPart (Value.ref b)).isSome=true from by simp [keyPart])];refine Ac (Bh ho hdat (Ac (Ad ?_)))
  by_cases hem:es.isEmpty=true
  ·rw [if_pos hem]
   refine Ac (Dm (Ac (Ad ?_)));simp only [Lh,if_true];refine Ac (Ht hd ?_);obtain ⟨y,hy,hq⟩:=h2 (emp hem);cases hy;exact Ac (Dm (Ad ⟨x,rfl,hq s I⟩))
  ·rw [if_neg hem]
   refine Ac (_kg (Cj hu) kk dd hz (fun hno=>?_) fun p h' hp dd' hs=>?_)
   ·simp only [Lh,if_true]
    refine Ac (Ht hd ?_);obtain ⟨y,hy,hq⟩:=h2 (non hno);cases hy;exact Ac (Dm (Ad ⟨x,rfl,hq _ (I.tok _)⟩))
   ·simp only [Lg,Aw,if_false]
    exact Ac (Kg (Ad ⟨_,rfl,got p h' hp dd' hs⟩))
end
end DL
namespace DL
open PySem PySem.Spec PyProof.Rows L2
section
variable {X:Cx} {pins:List (Addr × Obj)} {σ:L2.St} {H H1:Hp} {s s':Shared} {C:Addr} {e:Value}
end
section
variable {P:Ak} {w:World} {K:Frag} {mg:Str->Option Value} {base:Heap} {N:List Str} {qual:Str} {scope:Scope} {f:Addr} {cd:Value} {A:Around} {outer:List Env} {s:Shared} {H:Hp} {E:XK} {C:Addr}
end
section
variable {X:Cx} {pins p2:List (Addr × Obj)} {R:Addr->Hp->Prop} {σ:L2.St} {H:Hp} {s:Shared}
end
end DL
namespace DL
open PySem PySem.Spec PyProof.Rows L2 SortW
def iItemsT (tl:TE):TI:=fun σ H R=>tl σ H fun x H1=>∃ d kvs,x=.ref d/\H1 d=some (.dT kvs)/\∀ o,R (ItI d o kvs) (upd H1 d (.frz o (.dT kvs)))
theorem _qdk {X:Cx} {e:Expr} {elts:List Expr} {kk:Nat} {tp apos pos:Pos} {tl:TE} (hl:PE X e tl) (hbase:Ee e "items" X.env (eval e X.env)=eval e X.env:=by rfl) (hline:(apos.endLine == pos.line)=true:=by rfl) :
  PI X (.Tuple elts kk tp) (.Call (.Attribute e "items" apos) [] [] pos) (iItemsT tl):=by
 intro pins s σ H R I h;refine Fp (T:="dict") (id:="dict.items") hbase rfl hline Dw Iy PySem.F.type_dict_items (thn (hl pins s σ H _ I h) fun v s1 hQ=>?_);obtain ⟨x,H1,I1,r1,d,kvs,ex,ed,q⟩:=hQ;subst ex;obtain rfl:v=Value.ref d:=r1;obtain ⟨o,es,ep,ho,hc,hd,hz,hsys,I2⟩:=Inv.freezeT I1 ed;have hT:s1.TypeIs (.ref d) "dict":=⟨o,ho,hc.1⟩;refine ⟨hT,fun b q=>by cases q; exact ⟨o,ho,hc.2.1⟩,?_⟩;refine (?_:wpAny _ _ (callWith pos (.builtin "dict.items") [.ref d] [] []) _ _ s1);refine Ct rfl (PySem.evalArgs_none ?_);refine Ax Iy hT PySem.F.entry_dict_items ?_ (PySem.F.args_dict_items_1 _);unfold Builtin.«dict.items» Builtin.Dict.noArgs;refine Ac (Ac (Ek hT ?_));refine (?_:wpAny _ _ (pure d) _ _ s1);refine Ad ?_;refine (?_:wpAny _ _ (C8 d >>= _) _ _ s1);unfold C8;rw [if_neg (by rw [hsys]; exact An)];refine Ac (Ad (Ac (A8 (Ad ⟨_,rfl,?_⟩))));have I3:=I2.kept (h':=s1.heap.push { cls:=.type "dict_items",data:=.fields #[.ref d] }) (t':=s1.toks) fun b u q=>Ae _ q;have hv:(s1.heap.push { cls:=.type "dict_items",data:=.fields #[.ref d] }).get? s1.heap.objs.size=some { cls:=.type "dict_items",data:=.fields #[.ref d] }:=Ag _ rfl;have ho3:(s1.heap.push { cls:=.type "dict_items",data:=.fields #[.ref d] }).get? d=some o:=Ae _ ho;generalize hh3:s1.heap.push { cls:=.type "dict_items",data:=.fields #[.ref d] }=h3 at I3 hv ho3;have hTv:Gg { s1 with heap:=h3 } (.ref s1.heap.objs.size) "dict_items":=⟨_,hv,rfl⟩;refine (?_:wpAny _ _ (J2 (.ref s1.heap.objs.size)) _ _ { s1 with heap:=h3 });refine En hTv Gz (Ax Gz hTv PySem.F.entry_dict_items_iter ?_ (PySem.F.args_dict_items_iter_1 _));unfold Builtin.«dict_items.__iter__»;refine Ac (Ad (Ac ?_));unfold Builtin.Dict_items.dictOf;refine Ac (Dk hv rfl (x:=.ref d) rfl (Ad (Ac ?_)));unfold Builtin.Dict_items.newIterator;refine Ac (Bh ho3 hd (Ac (Df ho3 hd ?_)));have own:B5 "dict_itemiterator"=true:=by decide
 simp only [own,if_true];refine A8 (Ad ⟨_,rfl,"dict_itemiterator",_,⟨_,Ag _ rfl,rfl⟩,Bz.lookup,?_⟩)
  (by simp only [sizeOk,Fa,size_toArray,length_append,length_cons,List.length_nil,Ao]; omega)
 have I4:=I3.kept (h':=h3.push { cls:=.type "dict_itemiterator",data:=.fields #[.none,.bool false,.ref d,.int 0 0,.int es.size 0,.int ep 0,.none,.none] }) (t':=s1.toks) fun b u q=>Ae _ q;have fin:PIE X pins σ (.Tuple elts kk tp) R (.ref h3.objs.size) { s1 with heap:=h3.push { cls:=.type "dict_itemiterator",data:=.fields #[.none,.bool false,.ref d,.int 0 0,.int es.size 0,.int ep 0,.none,.none] } }:=by
  refine ⟨_,[_],_,_,_,rfl,I4,_Ya d _ o kvs ep es hd hz,⟨_,_,Ag _ rfl⟩,fun b hb=>?_,q o⟩;have hb':b=h3.objs.size:=by simpa using hb
  subst hb';exact I3.fpOk (le_refl _) (I3.hok.fresh (le_refl _))
 simpa [B7,Fa] using fin
def _qke (td ty:TE):TE:=fun σ H Q=>td σ H fun x H1=>∃ a,x=.ref a/\IsD H1 a/\ty σ H1 fun y H2=>∃ kvs k v b,H2 a=some (.dT kvs)/\y=.ref b/\H2 b=some (.tup (k.map kV))/\_qsr kvs k=some v/\Q v (upd H2 a (.dT (_qct kvs k)))
def _qkd (td ty tx:TE):TE:=fun σ H Q=>td σ H fun x H1=>∃ a,x=.ref a/\IsD H1 a/\ty σ H1 fun y H2=>tx σ H2 fun z H3=>∃ kvs k b,H3 a=some (.dT kvs)/\y=.ref b/\H3 b=some (.tup (k.map kV)) /\
 (∀ v,_qsr kvs k=some v->Q v (upd H3 a (.dT (_qct kvs k))))/\(_qsr kvs k=none->Q z H3)
section
variable {X:Cx} {o e f:Expr} {td ty tx:TE} {apos cpos:Pos}
theorem _qdn (hu:X.A.units + 1 < cLine) (ho:PE X o td) (he:PE X e ty) (m:M1 X o "pop" apos e cpos):PE X (.Call (.Attribute o "pop" apos) [e] [] cpos) (_qke td ty):=by
 intro pins s σ H Q I h;refine Fp m.base m.few m.line Dw Fx Jz (thn (ho pins s σ H _ I h) fun u s1 hQ=>?_);obtain ⟨x,H1,I1,rx,a,ex,d,q1⟩:=hQ;subst ex;obtain rfl:u=Value.ref a:=rx;obtain ⟨t1,t2,_⟩:=_qim I1 d;refine ⟨t1,t2,?_⟩;rw [m.trees];refine Ct rfl (Eu (B8 (thn (he pins s1 σ H1 _ I1 q1) fun iv s2 ⟨y,H2,I2,ry,kvs,k,v,b,ea,ey,eb,l,q2⟩=>Di ?_)));subst ey;obtain rfl:iv=Value.ref b:=ry;exact _qn1 hu I2 ea eb (.inl rfl) (fun v' w' s3 e1 I3 r3=>by rw [l] at e1; cases e1; exact ⟨v,_,I3,r3,q2⟩) fun e1=>by rw [l] at e1; cases e1
theorem _qdm (hu:X.A.units + 1 < cLine) (ho:PE X o td) (he:PE X e ty) (hf:PE X f tx) (m:M2 X o "pop" apos e f cpos):PE X (.Call (.Attribute o "pop" apos) [e,f] [] cpos) (_qkd td ty tx):=by
 intro pins s σ H Q I h;refine Fp m.base m.few m.line Dw Fx Jz (thn (ho pins s σ H _ I h) fun u s1 hQ=>?_);obtain ⟨x,H1,I1,rx,a,ex,d,q1⟩:=hQ;subst ex;obtain rfl:u=Value.ref a:=rx;obtain ⟨t1,t2,_⟩:=_qim I1 d;refine ⟨t1,t2,?_⟩;rw [m.trees];refine Ct rfl (Eu (B8 (thn (he pins s1 σ H1 _ I1 q1) fun iv s2 ⟨y,H2,I2,ry,q2⟩ =>
  B8 (thn (hf pins s2 σ H2 _ I2 q2) fun fv s3 ⟨z,H3,I3,rz,kvs,k,b,ea,ey,eb,q3,q4⟩=>Di ?_))))
 subst ey;obtain rfl:iv=Value.ref b:=ry;exact _qn1 hu I3 ea eb (.inr ⟨fv,rfl⟩) (fun v' w' s4 e1 I4 r4=>⟨v',_,I4,r4,q3 v' e1⟩) fun e1=>⟨fv,rfl,fun s4 I4=>⟨z,H3,I4,rz,q4 e1⟩⟩
end
section
variable {prog:Ak} {w:World} {A:Around} {E:Value->Shared->Prop} {s:Shared} {d:Addr} {es:Array DictEntry} {ep:Nat}
theorem _qm2 {R:Value->Shared->Prop} (hd:(d == Bi)=false) (hm:_quc s.heap d es ep) (h:R (.int es.size s.toks) { s with toks:=s.toks + 1 }) :
  wpAny (model prog w) A (Builtin.«dict.__len__» ⟨[.ref d],[]⟩) (fun fin s'=>∃ v,fin=.done (.ret v)/\R v s') E s:=by
 obtain ⟨o,ho,hc,hdat⟩:=hm;refine (?_:wpAny _ _ (dictSize d >>= _) _ _ s);unfold dictSize;refine Ac (Ac (Bh ho hdat (Ad ?_)));refine (?_:wpAny _ _ (Builtin.Dict.pendingCount d >>= _) _ _ s);refine Ac (wpAny_pendingCount_other hd ?_);refine wpAny_ret_mkInt ?_;simpa using h
theorem _Z4 {Q:Value->Shared->Prop} (hd:(d == Bi)=false) (hm:_quc s.heap d es ep) (hfit:(es.size:Int) < 2 ^ 63) (h:∀ t tk,Q (.int es.size t) { s with toks:=tk }):wpAny (model prog w) A (call (.builtin "len") [.ref d]) Q E s:=by
 refine Db kind_len plain_len entry_len (args_len1 _) ?_;unfold Builtin.«len»;refine Ac (m:=oneArg "len" _) (Ad ?_);refine Ac (m:=callSpecial? (.ref d) (Cu "__len__")) (Bl (name:=Cu "__len__") hm.ty J0
  (Ax J0 hm.ty PySem.F.entry_dict_len (_qm2 hd hm ?_) (PySem.F.args_dict_len_1 _)))
 refine Ac (Ba (Ad ?_));refine Ac (Kg ?_);refine (?_:wpAny _ _ (if ((es.size:Nat):Int) < 0 then _ else _) _ _ _);rw [if_neg (by omega)];refine (?_:wpAny _ _ (if ((es.size:Nat):Int) ≥ 2 ^ 63 then _ else _) _ _ _);rw [if_neg (by omega)];exact Ac (wpAny_mkInt (Ad ⟨_,rfl,h _ _⟩))
end
theorem _Jd {X:Cx}:_wh X (.builtin "len") (fun xs H Q=>∃ a kvs,xs=[V.ref a]/\H a=some (.dT kvs)/\Q (.int kvs.length) H):=by
 intro pins s σ H xs us Q I r h;obtain ⟨a,kvs,rfl,ha,q⟩:=h;obtain ⟨u,rfl,ru⟩:=vals1 r;cases ru;obtain ⟨o,es,ep,ho,hc,hd,hz,hsys,_⟩:=Inv.freezeT I ha;obtain ⟨z,_⟩:=(show _zn X.prog X.w H s.heap a (.dT kvs) from I.hok a _ ha);refine _Z4 hsys ⟨o,ho,hc,hd⟩ (by rw [hz]; rw [Ao] at z; omega) fun t tk=>⟨.int kvs.length,H,I.tok _,⟨t,by rw [hz]⟩,q⟩
end DL
namespace DL
open PySem PySem.Spec PyProof.Rows L2
theorem _qfs {X:Cx} {K:Frag} (h:X.K=K) (hu:X.A.units + 64 + 1 < cLine):OpR X (Bm .In) (rInD K false):=by subst h; exact _qac hu
theorem _qfk {X:Cx} {K:Frag} {e:Expr} {f:Str} {pos:Pos} {ta:TE} (h:X.K=K) (he:PE X e ta) (hb:Ee e f X.env (eval e X.env)=eval e X.env):PE X (.Attribute e f pos) (tFld K ta f):=by subst h; exact _ve he hb
theorem _qfj {X:Cx} {K:Frag} {pos:Pos} {es:List Expr} {k:Nat} {t:TGs} {n:Nat} (h:X.K=K) (hc:X.calm=true) (ht:PGs X es t)
  (hn:(B6 es X.env).length=n:=by rfl) (hst:(B6 es X.env).findIdx? (·.1)=none:=by rfl):PG X (.Tuple es k pos) (gTup K n t):=by subst h; exact _qdl hc ht hn hst
theorem _x0 {α β:Type} {xs:List α} {c:α->Bool} {e:α->β} {i:Nat} {x:α} (h:xs[i]?=some x):(((xs.take (i + 1)).filter c).map e)=(((xs.take i).filter c).map e)++(if c x=true then [e x] else []):=by
 have hi:=(Ai.mp h).1;have hx:=(Ai.mp h).2;rw [take_succ_eq_append_getElem hi,hx,List.filter_append,map_append];congr 1
 by_cases hc:c x=true
 ·simp [hc]
 ·simp [hc]
theorem _k4 {K:Frag} {z:Addr} {xs:List V} {j:Nat} {tc:TT} {te:TE} {js:List (Option Nat)} {σ:L2.St} {H:Hp} {Q:Addr->Hp->Prop} (hz:SqL K H z xs) (hlen:xs.length < Aj) (c:V->Bool) (e:V->V) (S:L2.St->Prop) (hS:S (mkS js σ))
  (step:∀ (i:Nat) (x:V) (σ':L2.St) (H':Hp),xs[i]?=some x->S σ'->_qu9 H H'->S (σ'.set j (some x))/\(∀ R:Bool->Hp->Prop,R (c x) H'->tc (σ'.set j (some x)) H' R)/\(∀ R:VK,c x=true->R (e x) H'->te (σ'.set j (some x)) H' R))
  (k:∀ l,H l=none->Q l (upd H l (.lst ((xs.filter c).map e)))) :
  ∀ l,H l=none->∃ W:Nat->Nat->L2.St->Hp->Prop,(∃ m,W 0 m (mkS js σ) (upd H l (.lst [])))/\∀ i m σ H,W i m σ H ->
   ((Itl K z).stop i H/\Q l H) \/ ((Itl K z).go i H/\∀ x H',(Itl K z).yld i H x H'->_zj j x σ H' fun σ2 H2=>tc σ2 H2 fun b H3 =>
     if b=true then te σ2 H3 fun y H4=>∃ acc,H4 l=some (.lst acc)/\acc.length < Aj/\∃ m',m' < m/\W (i + 1) m' σ2 (upd H4 l (.lst (acc++[y]))) else ∃ m',m' < m/\W (i + 1) m' σ2 H3):=by
 intro l hl;refine ⟨fun i m σ' H'=>m=xs.length - i/\i <= xs.length/\S σ'/\H'=upd H l (.lst (((xs.take i).filter c).map e)),⟨_,rfl,zero_le _,hS,by simp⟩,?_⟩;rintro i m σ' H' ⟨rfl,hi,hs,rfl⟩;have sm:_qu9 H (upd H l (.lst (((xs.take i).filter c).map e))):=_i hl
 by_cases hlt:i < xs.length
 ·refine .inr ⟨⟨xs,xs[i],sm.seq hz,by simp [hlt]⟩,fun x H2 y=>?_⟩
  obtain ⟨rfl,y⟩:=y;have hx:=y xs (sm.seq hz);obtain ⟨s1,s2,s3⟩:=step i x σ' _ hx hs sm;refine s2 _ ?_
  by_cases hc:c x=true
  ·rw [if_pos hc]
   refine s3 _ hc ⟨_,_a,?_,_,(by omega:xs.length - (i + 1) < xs.length - i),rfl,hlt,s1,?_⟩
   ·have h1:(((xs.take i).filter c).map e).length <= (xs.take i).length:=by rw [length_map]; exact length_filter_le _ _
    rw [length_take] at h1;omega
   ·rw [_x0 hx,if_pos hc]
    funext b
    by_cases hb:b=l
    ·subst hb; rw [_a,_a]
    ·rw [_e hb,_e hb,_e hb]
  ·rw [if_neg hc]
   refine ⟨_,(by omega:xs.length - (i + 1) < xs.length - i),rfl,hlt,s1,?_⟩;rw [_x0 hx,if_neg hc,append_nil]
 ·have e1:i=xs.length:=by omega
  subst e1;refine .inl ⟨⟨xs,sm.seq hz,le_refl _⟩,?_⟩;rw [take_length];exact k l hl
theorem _qbz {K:Frag} {z:Addr} {xs:List V} {j j':Nat} {tc:TT} {te:TE} {js:List (Option Nat)} {σ:L2.St} {H:Hp} {Q:Addr->Hp->Prop} (hz:SqL K H z xs) (hlen:xs.length < Aj) (c:Nat->V->Bool) (e:Nat->V->V) (S:L2.St->Prop) (hS:S (mkS js σ))
  (step:∀ (i:Nat) (x:V) (σ':L2.St) (H':Hp),xs[i]?=some x->S σ'->_qu9 H H'->S ((σ'.set j (some (.int (i:Int)))).set j' (some x))/\(∀ R:Bool->Hp->Prop,R (c i x) H'->tc ((σ'.set j (some (.int (i:Int)))).set j' (some x)) H' R)/\(∀ R:VK,c i x=true->R (e i x) H'->te ((σ'.set j (some (.int (i:Int)))).set j' (some x)) H' R))
  (k:∀ l H',H l=none->_qu9 H H'->H' l=some (.lst ((xs.zipIdx.filter fun p=>c p.2 p.1).map fun p=>e p.2 p.1))->Q l H') :
  ∀ l,H l=none->∃ W:Nat->Nat->L2.St->Hp->Prop,(∃ m,W 0 m (mkS js σ) (upd H l (.lst [])))/\∀ i m σ H,W i m σ H ->
   ((Ite K z).stop i H/\Q l H) \/ ((Ite K z).go i H/\∀ x H',(Ite K z).yld i H x H'->gTup K 2 (_qbh (_zj j) (_qbh (_zj j') gNil)) x σ H' fun σ2 H2=>tc σ2 H2 fun b H3 =>
     if b=true then te σ2 H3 fun y H4=>∃ acc,H4 l=some (.lst acc)/\acc.length < Aj/\∃ m',m' < m/\W (i + 1) m' σ2 (upd H4 l (.lst (acc++[y]))) else ∃ m',m' < m/\W (i + 1) m' σ2 H3):=by
 intro l hl;refine ⟨fun i m σ' H'=>m=xs.length - i/\i <= xs.length/\S σ'/\_qu9 H H'/\H' l=some (.lst (((xs.zipIdx.take i).filter fun p=>c p.2 p.1).map fun p=>e p.2 p.1)),⟨_,rfl,zero_le _,hS,_i hl,by simp [_a]⟩,?_⟩;rintro i m σ' H' ⟨rfl,hi,hs,sm,hl'⟩
 by_cases hlt:i < xs.length
 ·refine .inr ⟨⟨xs,xs[i],sm.seq hz,by simp [hlt]⟩,fun x H2 y=>?_⟩
  obtain ⟨T,v,rfl,hT,rfl,y⟩:=y;have hx:=y xs (sm.seq hz);have hx':xs.zipIdx[i]?=some (v,i):=by rw [List.getElem?_zipIdx,hx]; simp
  have sT:_qu9 H' (upd H' T (.tup [.int (i:Int),v])):=_i hT;have sm2:=sm.trans sT;have hl2:=sT _ _ hl';obtain ⟨s1,s2,s3⟩:=step i v σ' _ hx hs sm2;refine ⟨T,_,rfl,.inl (.inl _a),rfl,_,_,rfl,_,_,rfl,rfl,s2 _ ?_⟩
  by_cases hc:c i v=true
  ·rw [if_pos hc]
   refine s3 _ hc ⟨_,hl2,?_,_,(by omega:xs.length - (i + 1) < xs.length - i),rfl,hlt,s1,?_,?_⟩
   ·have h1:(((xs.zipIdx.take i).filter fun p=>c p.2 p.1).map fun p=>e p.2 p.1).length <= (xs.zipIdx.take i).length:=by rw [length_map]; exact length_filter_le _ _
    rw [length_take] at h1;omega
   ·intro b o hb
    rw [_e (_c hb hl)];exact sm2 _ _ hb
   ·rw [_a,_x0 (c:=fun p:V × Nat=>c p.2 p.1) (e:=fun p=>e p.2 p.1) hx',if_pos hc]
  ·rw [if_neg hc]
   refine ⟨_,(by omega:xs.length - (i + 1) < xs.length - i),rfl,hlt,s1,sm2,?_⟩;rw [_x0 (c:=fun p:V × Nat=>c p.2 p.1) (e:=fun p=>e p.2 p.1) hx',if_neg hc,append_nil];exact hl2
 ·have e1:i=xs.length:=by omega
  subst e1;refine .inl ⟨⟨xs,sm.seq hz,rfl⟩,?_⟩;rw [D6 (by simp)] at hl';exact k l _ hl sm hl'
def pkvD (p:List Int × Int):D:=.tup [.int p.2,.lst (p.1.map D.int)]
theorem _Qo {K:Frag} {F:Hp}:∀ {vs:List V} {ds:List D} {v:V} {d:D},Reps K F vs ds->Rep K F v d->Reps K F (vs++[v]) (ds++[d])
 | _,_,_,_,.nil,h=>.cons h .nil
 | _,_,_,_,.cons a t,h=>.cons a (_Qo t h)
theorem _Wq {K:Frag} {d:Addr} {o:Obj} {kv:List (List Int × Int)} {js:List (Option Nat)} {σ:L2.St} {H:Hp} {Q:Addr->Hp->Prop} (hd:H d=some (.frz o (.dT (kv.map fun p=>(p.1.map Sum.inl,V.int p.2))))) (hlen:kv.length < Aj) (hS:∃ c c',mkS js σ=[c,c'])
  (k:∀ l H' F,H l=none->_qu9 H H'->H' d=some (.frz o (.dT (kv.map fun p=>(p.1.map Sum.inl,V.int p.2))))->_qu9 F H'->F d=none->F l=none->(∃ ts,H' l=some (.lst ts)/\Reps K F ts (kv.map pkvD))->Q l H') :
  ∀ l,H l=none->∃ W:Nat->Nat->L2.St->Hp->Prop,(∃ m,W 0 m (mkS js σ) (upd H l (.lst [])))/\∀ i m σ H,W i m σ H ->
   ((ItI d o (kv.map fun p=>(p.1.map Sum.inl,V.int p.2))).stop i H/\Q l H) \/ ((ItI d o (kv.map fun p=>(p.1.map Sum.inl,V.int p.2))).go i H/\∀ x H',(ItI d o (kv.map fun p=>(p.1.map Sum.inl,V.int p.2))).yld i H x H'->gTup K 2 (_qbh (_zj 0) (_qbh (_zj 1) gNil)) x σ H' fun σ2 H2=>_wi σ2 H2 fun b H3 =>
     if b=true then tTup (_z6 (_qsw 1) (_z6 (tCB (rLOf K) (_z6 (_qsw 0) _qsx)) _qsx)) σ2 H3 fun y H4=>∃ acc,H4 l=some (.lst acc)/\acc.length < Aj/\∃ m',m' < m/\W (i + 1) m' σ2 (upd H4 l (.lst (acc++[y]))) else ∃ m',m' < m/\W (i + 1) m' σ2 H3):=by
 intro l hl;have nld:d ≠ l:=_c hd hl;refine ⟨fun i m σ' H'=>m=kv.length - i/\i <= kv.length/\(∃ c c',σ'=[c,c'])/\_qu9 H H'/\∃ F ts,_qu9 F H'/\F d=none/\F l=none/\H' l=some (.lst ts)/\ts.length=i/\Reps K F ts ((kv.take i).map pkvD),⟨_,rfl,zero_le _,hS,_i hl,fun _=>none,[],(fun b o e=>by cases e),rfl,rfl,_a,rfl,.nil⟩,?_⟩;rintro i m σ' H' ⟨rfl,hi,⟨c,c',rfl⟩,sm,F,ts,sF,Fd,Fl,hl',hts,rp⟩
 by_cases hlt:i < kv.length
 ·refine .inr ⟨⟨sm _ _ hd,by rw [length_map]; exact hlt⟩,fun x H2 y=>?_⟩
  obtain ⟨T,a,p,rfl,hT,hp,ha,rfl⟩:=y;rw [getElem?_map,getElem?_eq_getElem hlt] at hp;have hp':p=(kv[i].1.map Sum.inl,V.int kv[i].2):=(Option.some.inj hp).symm;subst hp';rw [show ((kv[i].1.map Sum.inl:List Key).map kV)=kv[i].1.map V.int by rw [map_map]; rfl] at ha;have sT:_qu9 H' (upd H' T (.tup [.ref a,.int kv[i].2])):=_i hT;refine ⟨T,_,rfl,.inl (.inl _a),rfl,_,_,rfl,_,_,rfl,rfl,?_⟩;dsimp only [_wi];rw [if_pos rfl];have ha1:=sT _ _ ha;have hl1:=sT _ _ hl';have sm1:=sm.trans sT;have sF1:=sF.trans sT;generalize upd H' T (.tup [.ref a,.int kv[i].2])=H1 at ha1 hl1 sm1 sF1 ⊢;refine ⟨_,rfl,_,rfl,a,_,rfl,.inr (.inl (.inl ha1)),fun q hq=>⟨by show 2 <= Aj; decide,fun t ht=>?_⟩⟩;have s2:_qu9 H1 (upd H1 q (.lst (kv[i].1.map V.int))):=_i hq;have s3:_qu9 (upd H1 q (.lst (kv[i].1.map V.int))) (upd (upd H1 q (.lst (kv[i].1.map V.int))) t (.tup [.int kv[i].2,.ref q])):=_i ht;have nql:q ≠ l:=(_c hl1 hq).symm;have ntl:t ≠ l:=(_c (s2 _ _ hl1) ht).symm;have nqd:q ≠ d:=(_c (sm1 _ _ hd) hq).symm;have ntd:t ≠ d:=(_c (s2 _ _ (sm1 _ _ hd)) ht).symm;have ntq:q ≠ t:=_c _a ht;have Fq:F q=none:=sF1.free hq;have Ft:(upd F q (.lst (kv[i].1.map V.int))) t=none:=by rw [_e ntq.symm]; exact sF1.free (s2.free ht)
  have sA:_qu9 F (upd (upd F q (.lst (kv[i].1.map V.int))) t (.tup [.int kv[i].2,.ref q])):=(_i Fq).trans (_i Ft);refine ⟨ts,s3 _ _ (s2 _ _ hl1),by omega,_,(by omega:kv.length - (i + 1) < kv.length - i),rfl,hlt,⟨_,_,rfl⟩,fun b o' hb=>?_,upd (upd F q (.lst (kv[i].1.map V.int))) t (.tup [.int kv[i].2,.ref q]),ts++[.ref t],fun b o' hb=>?_,?_,?_,_a,by simp [hts],?_⟩
  ·rw [_e (_c hb hl)]
   exact s3 _ _ (s2 _ _ (sm1 _ _ hb))
  ·by_cases hbt:b=t
   ·subst hbt
    rw [_a] at hb;rw [_e ntl,_a]; exact hb
   ·rw [_e hbt] at hb
    by_cases hbq:b=q
    ·subst hbq
     rw [_a] at hb;rw [_e nql,_e hbt,_a]; exact hb
    ·rw [_e hbq] at hb
     have nbl:b ≠ l:=_c hb Fl;rw [_e nbl,_e hbt,_e hbq];exact sF1 _ _ hb
  ·rw [_e ntd.symm,_e nqd.symm]; exact Fd
  ·rw [_e ntl.symm,_e nql.symm]; exact Fl
  ·rw [take_succ_eq_append_getElem hlt,map_append]
   refine _Qo ((_xk sA).2 rp) ?_;refine .tup (.inl (.inl _a)) (.cons (.int _) (.cons (.lst (.inl (.inl ?_)) (_R _)) .nil));rw [_e ntq,_a]
 ·have e1:i=kv.length:=by omega
  subst e1;refine .inl ⟨⟨sm _ _ hd,by rw [length_map]; exact le_refl _⟩,?_⟩;rw [take_length] at rp;exact k l H' F hl sm (sm _ _ hd) sF Fd Fl ⟨ts,hl',rp⟩
def idxS (st:List Str) (y:Str):Nat:=st.findIdx fun x=>decide (x=y)
theorem _qby {K:Frag} {z dA:Addr} {bs:List Addr} {ks:List (List Int)} {kvs:List (List Key × V)} {val:List Int->Int} {js:List (Option Nat)} {σ:L2.St} {H:Hp} {Q:Addr->Hp->Prop} (hz:H z=some (.lst (bs.map V.ref))) (hb:bs.length=ks.length) (hbs:∀ j (hj:j < bs.length),H bs[j]=some (.tup ((ks.getD j []).map V.int)))
  (hd:H dA=some (.dT kvs)) (hv:∀ k∈ks,_qsr kvs (k.map Sum.inl)=some (.int (val k))) (hlen:ks.length < Aj) (hS:∃ c,mkS js σ=[c,some (.ref dA)])
  (k:∀ l H' F,H l=none->_qu9 H H'->_qu9 F H'->F l=none->(∃ ts,H' l=some (.lst ts)/\Reps K F ts (ks.map fun k=>pkvD (k,val k)))->Q l H') :
  ∀ l,H l=none->∃ W:Nat->Nat->L2.St->Hp->Prop,(∃ m,W 0 m (mkS js σ) (upd H l (.lst [])))/\∀ i m σ H,W i m σ H ->
   ((Itl K z).stop i H/\Q l H) \/ ((Itl K z).go i H/\∀ x H',(Itl K z).yld i H x H'->_zj 0 x σ H' fun σ2 H2=>_wi σ2 H2 fun b H3 =>
     if b=true then tTup (_z6 (_qjv (_qsw 1) (_qsw 0)) (_z6 (tCB (rLOf K) (_z6 (_qsw 0) _qsx)) _qsx)) σ2 H3 fun y H4=>∃ acc,H4 l=some (.lst acc)/\acc.length < Aj/\∃ m',m' < m/\W (i + 1) m' σ2 (upd H4 l (.lst (acc++[y]))) else ∃ m',m' < m/\W (i + 1) m' σ2 H3):=by
 intro l hl;refine ⟨fun i m σ' H'=>m=ks.length - i/\i <= ks.length/\(∃ c,σ'=[c,some (.ref dA)])/\_qu9 H H'/\∃ F ts,_qu9 F H'/\F l=none/\H' l=some (.lst ts)/\ts.length=i/\Reps K F ts ((ks.take i).map fun k=>pkvD (k,val k)),⟨_,rfl,zero_le _,hS,_i hl,fun _=>none,[],(fun b o e=>by cases e),rfl,_a,rfl,.nil⟩,?_⟩;rintro i m σ' H' ⟨rfl,hi,⟨c,rfl⟩,sm,F,ts,sF,Fl,hl',hts,rp⟩
 by_cases hlt:i < ks.length
 ·have hib:i < bs.length:=by omega
  refine .inr ⟨⟨_,.ref bs[i],SqL.of (sm _ _ hz),by simp [hib]⟩,fun x H2 y=>?_⟩;obtain ⟨eH,y⟩:=y;rw [eH];have hx:=y _ (SqL.of (sm _ _ hz));rw [getElem?_map,getElem?_eq_getElem hib] at hx;obtain rfl:=(Option.some.inj hx).symm;have ha:=sm _ _ (hbs i hib);have hki:ks.getD i []=ks[i]:=by simp [getD_eq_getElem?_getD,hlt]
  rw [hki] at ha;have ha':H' bs[i]=some (.tup ((ks[i].map Sum.inl:List Key).map kV)):=by rw [_ju]; exact ha
  have g:_qui H' dA (.ref bs[i]) (_qsr kvs (ks[i].map Sum.inl)):=_qui.t (sm _ _ hd) ha';rw [hv ks[i] (getElem_mem hlt)] at g;dsimp only [_wi,_zj];rw [if_pos rfl];refine ⟨_,rfl,_,rfl,dA,_,rfl,g,_,rfl,bs[i],_,rfl,.inr (.inl (.inl ha)),fun q hq=>⟨by show 2 <= Aj; decide,fun t ht=>?_⟩⟩;have s2:_qu9 H' (upd H' q (.lst (ks[i].map V.int))):=_i hq;have s3:_qu9 (upd H' q (.lst (ks[i].map V.int))) (upd (upd H' q (.lst (ks[i].map V.int))) t (.tup [.int (val ks[i]),.ref q])):=_i ht;have nql:q ≠ l:=(_c hl' hq).symm;have ntl:t ≠ l:=(_c (s2 _ _ hl') ht).symm;have ntq:q ≠ t:=_c _a ht;have Fq:F q=none:=sF.free hq;have Ft:(upd F q (.lst (ks[i].map V.int))) t=none:=by rw [_e ntq.symm]; exact sF.free (s2.free ht)
  have sA:_qu9 F (upd (upd F q (.lst (ks[i].map V.int))) t (.tup [.int (val ks[i]),.ref q])):=(_i Fq).trans (_i Ft);refine ⟨ts,s3 _ _ (s2 _ _ hl'),by omega,_,(by omega:ks.length - (i + 1) < ks.length - i),rfl,hlt,⟨_,rfl⟩,fun b o' hb=>?_,upd (upd F q (.lst (ks[i].map V.int))) t (.tup [.int (val ks[i]),.ref q]),ts++[.ref t],fun b o' hb=>?_,?_,_a,by simp [hts],?_⟩
  ·rw [_e (_c hb hl)]
   exact s3 _ _ (s2 _ _ (sm _ _ hb))
  ·by_cases hbt:b=t
   ·subst hbt
    rw [_a] at hb;rw [_e ntl,_a]; exact hb
   ·rw [_e hbt] at hb
    by_cases hbq:b=q
    ·subst hbq
     rw [_a] at hb;rw [_e nql,_e hbt,_a]; exact hb
    ·rw [_e hbq] at hb
     have nbl:b ≠ l:=_c hb Fl;rw [_e nbl,_e hbt,_e hbq];exact sF _ _ hb
  ·rw [_e ntl.symm,_e nql.symm]; exact Fl
  ·rw [take_succ_eq_append_getElem hlt,map_append]
   refine _Qo ((_xk sA).2 rp) ?_;refine .tup (.inl (.inl _a)) (.cons (.int _) (.cons (.lst (.inl (.inl ?_)) (_R _)) .nil));rw [_e ntq,_a]
 ·have e1:i=ks.length:=by omega
  subst e1;refine .inl ⟨⟨_,SqL.of (sm _ _ hz),by rw [length_map]; omega⟩,?_⟩;rw [take_length] at rp;exact k l H' F hl sm sF Fl ⟨ts,hl',rp⟩
end DL
namespace DL
open PySem PySem.Spec PyProof.Rows L2 SortW PySem.W
section
variable {prog:Ak} {w:World} {A:Around} {E:Value->Shared->Prop} {s:Shared} {a b:Addr} {es es':Array DictEntry} {ep ep':Nat}
theorem _qdp {nm:String} {Q:Bool->Shared->Prop} (ha:(a == Bi)=false) (hb:(b == Bi)=false) (da:_quc s.heap a es ep) (db:_quc s.heap b es' ep') (hz:es'.size=0) (h:Q (decide (es.size=0)) s) :
  wpAny (model prog w) A (Jj nm a b) Q E s:=by
 obtain ⟨oa,hoa,_,hda⟩:=da;obtain ⟨ob,hob,_,hdb⟩:=db;unfold Jj C8;rw [if_neg (show ¬ (a == Bi)=true by rw [ha]; exact An),if_neg (show ¬ (b == Bi)=true by rw [hb]; exact An)];refine Ac (Ad (Ac (Ad ?_)));refine Ac (Bh hoa hda ?_);dsimp only;refine Ac (Bh hob hdb ?_)
 by_cases hsz:es.size=0
 ·rw [if_neg (by rw [hsz,hz]; simp)]
  refine Ac (Df hoa hda ?_);refine Ac ?_;rw [Std.Legacy.Range.forIn_eq_forIn_range'];simp only [Std.Legacy.Range.size,Nat.sub_zero,Nat.add_sub_cancel,Nat.div_one];rw [hsz];refine Ad ?_;exact Ad (by simpa [hsz] using h)
 ·rw [if_pos (by rw [hz]; simpa using hsz)]
  exact Ac (Dm (Ad (by simpa [hsz] using h)))
theorem _qp3 {Q:Value->Shared->Prop} (ha:(a == Bi)=false) (hb:(b == Bi)=false) (da:_quc s.heap a es ep) (db:_quc s.heap b es' ep') (hz:es'.size=0) (hu:A.units < cLine) (h:Q (.bool (!decide (es.size=0))) s) :
  wpAny (model prog w) A (Bm .NotEq (.ref a) (.ref b)) Q E s:=by
 refine G9 (op:=.NotEq) da.ty db.ty Kj (Ax Kj da.ty PySem.F.entry_dict_ne ?_ (PySem.F.args_dict_ne_2 _ _)) hu;show wpAny _ _ (Hu "__ne__" ⟨[.ref a,.ref b],[]⟩ >>= _) _ _ s;refine Ac ?_;unfold Hu;refine Ac (Ek da.ty ?_);show wpAny _ _ (pure (Value.ref a,Value.ref b)) _ _ s;refine Ad ?_;refine Ac (Dv (T:="dict") db.ty PySem.F.sub_dict_dict ?_);simp only [Bool.not_true,Aw,if_false];refine Ac (Ad (Ac (Ad ?_)));refine Ac (_qdp ha hb da db hz ?_);refine Ad ⟨_,rfl,?_,?_⟩
 ·exact fun x=>nomatch x
 ·simpa using h
end
theorem _qoo {X:Cx} (hu:X.A.units < cLine):OpR X (Bm .NotEq) (fun x y H Q=>∃ a b kvs,x=.ref a/\y=.ref b/\H a=some (.dT kvs)/\H b=some (.dT [])/\Q (.bl (!decide (kvs.length=0))) H):=by
 intro pins s σ H x y v u Q I rx ry h;obtain ⟨a,b,kvs,rfl,rfl,ha,hb,q⟩:=h;cases rx;cases ry;obtain ⟨o,es,ep,ho,hc,hd,hz,hsys,_⟩:=Inv.freezeT I ha;obtain ⟨o',es',ep',ho',hc',hd',hz',hsys',_⟩:=Inv.freezeT I hb;refine _qp3 hsys hsys' ⟨o,ho,hc,hd⟩ ⟨o',ho',hc',hd'⟩ hz' hu ⟨.bl _,H,I,rfl,by rw [hz]; exact q⟩
end DL
namespace MB
open PySem DL
@[irreducible] def Goes (g:GD) (b:Blk) (d:D) (ρ:Cs) (Q:Cs->Prop):Prop:=match g d ρ with
 | some ρ1=>(match b ρ1 with
  | some (.nx ρ2)=>Q ρ2
  | some (.ct ρ2)=>Q ρ2
  | _=>False)
 | none=>False
@[irreducible] def Rets (g:GD) (b:Blk) (d:D) (ρ:Cs) (o:O):Prop:=match g d ρ with
 | some ρ1=>(match b ρ1 with
  | some (.rt x _)=>x=o
  | _=>False)
 | none=>False
theorem Goes.use {g:GD} {b:Blk} {d:D} {ρ:Cs} {Q:Cs->Prop} (h:Goes g b d ρ Q):∃ ρ1 ρ2,g d ρ=some ρ1/\(b ρ1=some (.nx ρ2) \/ b ρ1=some (.ct ρ2))/\Q ρ2:=by
 unfold Goes at h;split at h
 ·rename_i ρ1 e1
  split at h
  ·rename_i ρ2 e2; exact ⟨ρ1,ρ2,e1,.inl e2,h⟩
  ·rename_i ρ2 e2; exact ⟨ρ1,ρ2,e1,.inr e2,h⟩
  ·exact h.elim
 ·exact h.elim
theorem Rets.use {g:GD} {b:Blk} {d:D} {ρ:Cs} {o:O} (h:Rets g b d ρ o):∃ ρ1 ρ2,g d ρ=some ρ1/\b ρ1=some (.rt o ρ2):=by
 unfold Rets at h;split at h
 ·rename_i ρ1 e1
  split at h
  ·rename_i x ρ2 e2; subst h; exact ⟨ρ1,ρ2,e1,e2⟩
  ·exact h.elim
 ·exact h.elim
theorem _Q3 {α:Type} {inj:α->D} {g:GD} {b:Blk} (P:List α->Cs->Prop) (xs:List α) (ρ:Cs) (h0:P [] ρ)
  (step:∀ (pre:List α) (a:α) (post:List α) (ρ:Cs),xs=pre++a :: post->P pre ρ->Goes g b (inj a) ρ (P (pre++[a]))) :
  ∃ ρ',_qtp g b (xs.map inj) ρ=some (.nx ρ')/\P xs ρ' :=
 _qbk P xs ρ h0 fun pre a post ρ e h=>(step pre a post ρ e h).use
@[simp] theorem gN_ap {i:Nat} {d:D} {ρ:Cs}:gN i d ρ=some (ρ.set i (some (.sh d))):=rfl
theorem _xc {α:Type} {l:List α} {i:Nat} {d:α} (h:i < l.length):l.getD i d=l[i]:=by simp [h]
theorem _q7 {α:Type} [DecidableEq α]:∀ {l m:List α},l.Nodup->(∀ x∈l,x∈m)->l.length <= m.length
 | [],_,_,_=>by simp
 | a :: l,m,hn,hs=>by
  have ha:a∈m:=hs a (by simp);rw [nodup_cons] at hn;have ih:=_q7 (l:=l) (m:=m.erase a) hn.2 fun x hx=>by
   have:x ≠ a:=fun e=>hn.1 (e ▸ hx)
   exact (Kb this).mpr (hs x (by simp [hx]))
  have:=List.length_erase_of_mem ha
  have hp:=List.length_pos_of_mem ha
  simp
  omega
def six:List Int:=[0,1,2,3,4,5]
theorem _Vt:six.Pairwise (· < ·):=by decide
def okH (h:List _qud):Prop:=∀ p∈h,p.2.Sublist six
theorem okH.len {h:List _qud} (k:okH h):∀ p∈h,p.2.length <= 6:=fun p m=>(k p m).length_le
theorem okH.mem {h:List _qud} (k:okH h) {p:_qud} (m:p∈h) {x:Int} (hx:x∈p.2):x∈six:=(k p m).subset hx
def _s (h:List _qud):List Int:=six.filter fun c=>h.any fun p=>has p.2 c
theorem _qay (h:List _qud):(_s h).Sublist six:=filter_sublist
theorem _xr (h:List _qud):(_s h).length <= 6:=length_filter_le _ _
end MB
namespace DL
open PySem PySem.Spec PyProof.Rows L2
theorem _Wv:∀ r:Nat,r < 26->atI _xb.cps.toList (r:Int)=some (97 + r):=by decide +kernel
theorem _wc {r:Int} (h0:0 <= r) (h:r < 26):atI _xb.cps.toList r=some (97 + r.toNat):=by
 have:=_Wv r.toNat (by omega)
 rwa [show ((r.toNat:Nat):Int)=r by omega] at this
theorem _w6:_xb.length <= Aj:=by decide +kernel
def _qi (x:Str):Prop:=1 <= x.length/\x.length <= 8/\∀ c∈x.cps.toList,97 <= c/\c < 123
theorem _qf7 (x:Str) (c:Nat):(x++(⟨#[c]⟩:Str)).cps.toList=x.cps.toList++[c]:=by
 show (x.cps++#[c]).toList=_
 simp
theorem _qna (l:List Nat) (c:Nat):((⟨#[c]⟩:Str)++(⟨l.toArray⟩:Str))=⟨(c :: l).toArray⟩:=by
 show (⟨#[c]++l.toArray⟩:Str)=_
 simp
theorem str_len (x:Str):x.length=x.cps.toList.length:=by simp [Str.length]
def adv (m:Nat) (x:Str):Str:=match x.cps.toList with
 | []=>x
 | c :: t=>⟨((97 + (c - 97 + m) % 26) :: t).toArray⟩
theorem _Xj {x:Str} {c:Nat} {t:List Nat} (h:x.cps.toList=c :: t) (m:Nat):adv m x=⟨((97 + (c - 97 + m) % 26) :: t).toArray⟩:=by
 unfold adv; rw [h]
theorem _zw {x:Str} (h:_qi x):∃ c t,x.cps.toList=c :: t/\97 <= c/\c < 123/\x=⟨(c :: t).toArray⟩:=by
 obtain ⟨h1,h2,h3⟩:=h;rw [str_len] at h1;cases q:x.cps.toList with
 | nil=>rw [q] at h1; simp at h1
 | cons c t =>
  refine ⟨c,t,rfl,(h3 c (by rw [q]; simp)).1,(h3 c (by rw [q]; simp)).2,?_⟩;rw [<- q]
theorem _qjs {x:Str} (h:_qi x):adv 0 x=x:=by
 obtain ⟨c,t,e,h1,h2,h3⟩:=_zw h;rw [_Xj e,h3];congr 3;omega
theorem _qqa {x:Str} (h:_qi x) (m:Nat):_qi (adv m x):=by
 obtain ⟨c,t,e,h1,h2,h3⟩:=_zw h;rw [_Xj e];obtain ⟨g1,g2,g3⟩:=h;rw [str_len,e] at g1 g2;refine ⟨by rw [str_len]; simp,by rw [str_len]; simpa using g2,fun d hd=>?_⟩;simp at hd;rcases hd with rfl | hd
 ·omega
 ·exact g3 d (by rw [e]; exact mem_cons_of_mem _ hd)
theorem _qnm {x:Str} (h:_qi x) (m n:Nat):adv m (adv n x)=adv (n + m) x:=by
 obtain ⟨c,t,e,h1,h2,h3⟩:=_zw h;rw [_Xj e,_Xj e,_Xj (c:=97 + (c - 97 + n) % 26) (t:=t) (by simp)];congr 3;omega
theorem _qnl {x:Str} (h:_qi x) {m n:Nat} (hm:m < 26) (hn:n < 26) (e:adv m x=adv n x):m=n:=by
 obtain ⟨c,t,ec,h1,h2,h3⟩:=_zw h;rw [_Xj ec,_Xj ec] at e
 have:=congrArg (fun s:Str=>s.cps.toList.head?) e
 simp at this;omega
theorem _qjt {x:Str} (h:_qi x) (names:List Str) (hl:names.length < 26):∃ m,m < 26/\adv m x ∉ names:=by
 apply E5;intro hn;have hall:∀ m,m < 26->adv m x∈names:=fun m hm=>E5 fun hx=>hn ⟨m,hm,hx⟩;have nd:((Ar 26).map fun m=>adv m x).Nodup:=by
  rw [List.Nodup,pairwise_map];refine List.Pairwise.imp_of_mem (fun {a b} ha hb hab e=>?_) (Iu (n:=26));exact hab (_qnl h (A0.mp ha) (A0.mp hb) e)
 have:=MB._q7 nd (m:=names) fun y hy=>by
  obtain ⟨m,hm,rfl⟩:=Ah.mp hy;exact hall m (A0.mp hm)
 simp at this;omega
theorem _ze {x:Str} (h:_qi x) (n:Nat):shp n (.str x)=true:=by
 have:x.cps.all (fun c=>decide (c < 0x110000))=true:=by
  rw [<- Array.all_toList,F9];intro c hc
  have:=h.2.2 c hc
  simp; omega
 simpa [shp] using this
theorem _xg {l:List Str} (h:∀ x∈l,_qi x) (n:Nat):_qt0 n (l.map D.str)=true:=by
 induction l with
 | nil=>rfl
 | cons x l ih =>
  simp only [map_cons,_qt0,C0];exact ⟨_ze (h x (by simp)) n,ih fun y hy=>h y (mem_cons_of_mem _ hy)⟩
theorem _v9 (l:List Str) (x:Str):((l.map D.str).any fun y=>eqD y (.str x))=decide (x∈l):=by
 rw [A5,any_eq_true,decide_eq_true_eq];constructor
 ·rintro ⟨d,hd,e⟩
  obtain ⟨y,hy,rfl⟩:=Ah.mp hd;have e':(y == x)=true:=e;rw [<- eq_of_beq e']; exact hy
 ·intro h
  refine ⟨.str x,Ah.mpr ⟨x,h,rfl⟩,?_⟩;show (x == x)=true
  simp
theorem _q2 {K:Frag} {F:Hp} (l:List Str):Reps K F (l.map V.str) (l.map D.str):=by
 induction l with
 | nil=>exact .nil
 | cons x l ih=>exact .cons (.str x) ih
end DL
namespace MB
def _Xp (l:List Nat) (f:Nat->Rat):Rat:=(l.map f).sum
theorem _qd1 (f:Nat->Rat):_Xp [] f=0:=rfl
theorem _zp (i:Nat) (l:List Nat) (f:Nat->Rat):_Xp (i :: l) f=f i + _Xp l f:=by simp [_Xp]
theorem _kh {f:Nat->Rat}:∀ {l:List Nat},(∀ i∈l,0 <= f i)->0 <= _Xp l f
 | [],_=>by rw [_qd1]; grind
 | i :: l,h=>by
  have h1:=h i (by simp);have h2:=_kh (f:=f) (l:=l) fun j hj=>h j (by simp [hj]);rw [_zp]; grind
theorem _Vp (c:Rat) (f:Nat->Rat):∀ (l:List Nat),_Xp l (fun i=>f i * c)=_Xp l f * c
 | []=>by simp [_Xp]
 | i :: l=>by rw [_zp,_zp,_Vp c f l]; grind
def cnt (lk:Nat->Int->Bool) (rows:List (Int × Rat)) (i t:Nat):Nat:=((rows.take t).filter fun q=>lk i q.1).length
def pays (l:List Nat) (w p:Nat->Rat) (r:Rat):Rat:=_Xp l fun i=>w i * min (p i) r
def _que (D:Nat) (a:Rat):Prop:=∃ x:Int,a * (D:Rat)=(x:Rat)
theorem _que.add {D:Nat} {a b:Rat} (ha:_que D a) (hb:_que D b):_que D (a + b):=by
 obtain ⟨x,hx⟩:=ha;obtain ⟨y,hy⟩:=hb;exact ⟨x + y,by rw [Rat.add_mul,hx,hy]; simp⟩
theorem _que.sub {D:Nat} {a b:Rat} (ha:_que D a) (hb:_que D b):_que D (a - b):=by
 obtain ⟨x,hx⟩:=ha;obtain ⟨y,hy⟩:=hb;have e:(a - b) * (D:Rat)=a * D - b * D:=by grind
 exact ⟨x - y,by rw [e,hx,hy]; simp⟩
theorem _que.mulInt {D:Nat} {a:Rat} (ha:_que D a) (n:Int):_que D (a * n):=by
 obtain ⟨x,hx⟩:=ha;refine ⟨x * n,?_⟩;rw [Eh,Jk (n:Rat),<- Eh,hx]; simp
theorem _que.mn {D:Nat} {a b:Rat} (ha:_que D a) (hb:_que D b):_que D (min a b):=by
 have:min a b=a \/ min a b=b:=by grind
 rcases this with e | e <;> rw [e] <;> assumption
theorem _x9 (D:Nat):(((D:Nat):Int):Rat)=(D:Rat):=rfl
theorem _vf (D:Nat) (n:Int):_que D (n:Rat):=⟨n * D,by simp [_x9]⟩
theorem _qi0 (a:Rat):a * (a.den:Rat)=(a.num:Rat):=by
 rw [<- _qlw];have e1:((a.den:Rat)).num=(a.den:Int):=by simp
 have e2:((a.den:Rat)).den=1:=by simp
 rw [e1,e2,Nat.mul_one];have e3:(a.num:Rat)=mkRat a.num 1:=by simp [Rat.mkRat_one]
 rw [e3,Rat.mkRat_eq_iff a.den_nz (by decide)]
 simp
theorem _que.dvd {D E:Nat} {a:Rat} (ha:_que D a) (h:D ∣ E):_que E a:=by
 obtain ⟨x,hx⟩:=ha;obtain ⟨e,rfl⟩:=h;refine ⟨x * e,?_⟩
 have:((D * e:Nat):Rat)=(D:Rat) * (e:Rat):=by simp
 rw [this,<- Eh,hx]; simp [_x9]
theorem _que.den {D:Nat} {a:Rat} (ha:_que D a):a.den ∣ D:=by
 obtain ⟨x,hx⟩:=ha;have h1:a.num * (D:Int)=x * (a.den:Int):=by
  have h2:a * (a.den:Rat)=(a.num:Rat):=_qi0 a;have h3:((a.num * (D:Int):Int):Rat)=((x * (a.den:Int):Int):Rat):=by
   have e1:((a.num * (D:Int):Int):Rat)=(a.num:Rat) * (D:Rat):=by simp [_x9]
   have e2:((x * (a.den:Int):Int):Rat)=(x:Rat) * (a.den:Rat):=by simp [_x9]
   rw [e1,e2,<- hx,<- h2]; grind
  exact_mod_cast h3
 have h4:a.den ∣ a.num.natAbs * D:=by
  have:=congrArg Int.natAbs h1
  rw [Fo,Fo,Bb,Bb] at this;exact ⟨x.natAbs,by rw [this,L0]⟩
 exact (Nat.Coprime.dvd_of_dvd_mul_left (Nat.Coprime.symm a.reduced) h4)
theorem _que.bd {D d m:Nat} {a:Rat} (ha:_que D a) (hD:0 < D) (hd:D < 2 ^ d) (hlo:-((2 ^ m:Nat):Rat) <= a) (hhi:a <= ((2 ^ m:Nat):Rat)):Bd (m + d) d a:=by
 have h1:a.den <= D:=K2 hD ha.den;refine ⟨?_,lt_of_le_of_lt h1 hd⟩;have hden:(0:Rat) <= (a.den:Rat):=by exact_mod_cast zero_le _
 have e:=_qi0 a;have u1:(a.den:Rat) * a <= (a.den:Rat) * ((2 ^ m:Nat):Rat):=Dz hhi hden;have u2:(a.den:Rat) * (-((2 ^ m:Nat):Rat)) <= (a.den:Rat) * a:=Dz hlo hden;have v1:(a.num:Rat) <= ((a.den * 2 ^ m:Nat):Rat):=by
  have:((a.den * 2 ^ m:Nat):Rat)=(a.den:Rat) * ((2 ^ m:Nat):Rat):=by simp
  rw [this]; grind
 have v2:-((a.den * 2 ^ m:Nat):Rat) <= (a.num:Rat):=by
  have:((a.den * 2 ^ m:Nat):Rat)=(a.den:Rat) * ((2 ^ m:Nat):Rat):=by simp
  rw [this]; grind
 have w1:a.num <= ((a.den * 2 ^ m:Nat):Int):=by exact_mod_cast v1
 have w2:-((a.den * 2 ^ m:Nat):Int) <= a.num:=by
  have v3:(-a.num:Rat) <= ((a.den * 2 ^ m:Nat):Rat):=by grind
  have v4:((-a.num:Int):Rat) <= ((a.den * 2 ^ m:Nat):Rat):=by simpa using v3
  have v5:-a.num <= ((a.den * 2 ^ m:Nat):Int):=by exact_mod_cast v4
  omega
 have w3:a.num.natAbs <= a.den * 2 ^ m:=by omega
 have w4:a.den * 2 ^ m < 2 ^ d * 2 ^ m:=Er (lt_of_le_of_lt h1 hd) (Lc (by simp));rw [pow_add,L0 (2 ^ m)];omega
end MB
namespace MB
open PySem DL
theorem _qbl (m n:Nat):((m:Int)).fdiv (n:Int)=((m / n:Nat):Int):=by
 rw [He _ (by omega)]; rfl
def cbF (b:Nat) (q:Rat):Nat:=b * (q.den / Ij b q.den)
def cb (l:List Rat):Nat:=l.foldl cbF 1
theorem _Ky (b:Nat) (q:Rat):cbF b q=Nat.lcm b q.den:=by
 unfold cbF Nat.lcm;rw [Nat.mul_div_assoc _ (Nat.gcd_dvd_right b q.den)]
theorem _qeo:∀ (l:List Rat) (b:Nat),0 < b->0 < l.foldl cbF b/\b ∣ l.foldl cbF b/\(∀ q∈l,q.den ∣ l.foldl cbF b)/\∀ D,b ∣ D->(∀ q∈l,q.den ∣ D)->l.foldl cbF b ∣ D
 | [],b,h=>⟨h,Nat.dvd_refl _,by simp,fun D h _=>h⟩
 | q :: l,b,h=>by
  have hp:0 < cbF b q:=by rw [_Ky]; exact Nat.lcm_pos h q.den_pos
  obtain ⟨a1,a2,a3,a4⟩:=_qeo l (cbF b q) hp;have d1:b ∣ cbF b q:=by rw [_Ky]; exact Nat.dvd_lcm_left _ _
  have d2:q.den ∣ cbF b q:=by rw [_Ky]; exact Nat.dvd_lcm_right _ _
  refine ⟨a1,Nat.dvd_trans d1 a2,fun r hr=>?_,fun D hb hq=>a4 D ?_ fun r hr=>hq r (by simp [hr])⟩
  ·rcases Al.mp hr with rfl | hr
   ·exact Nat.dvd_trans d2 a2
   ·exact a3 r hr
  ·rw [_Ky]; exact Nat.lcm_dvd hb (hq q (by simp))
theorem _qc4 (l:List Rat):0 < cb l:=(_qeo l 1 (by decide)).1
theorem _qn9 {l:List Rat} {q:Rat} (h:q∈l):q.den ∣ cb l:=(_qeo l 1 (by decide)).2.2.1 q h
theorem _qc5 {l:List Rat} {D:Nat} (h:∀ q∈l,q.den ∣ D):cb l ∣ D:=(_qeo l 1 (by decide)).2.2.2 D (Nat.one_dvd _) h
theorem _qn8 (l:List Rat) (q:Rat):cb (l++[q])=cbF (cb l) q:=by simp [cb]
def _qsu (b:Nat) (q:Rat):Int:=q.num * ((b / q.den:Nat):Int)
theorem _qf4 {b:Nat} {q:Rat} (h:q.den ∣ b):(_qsu b q:Rat)=q * (b:Rat):=by
 obtain ⟨k,rfl⟩:=h;have e:q.den * k / q.den=k:=Nat.mul_div_cancel_left k q.den_pos;unfold _qsu;rw [e];have e1:((q.den * k:Nat):Rat)=(q.den:Rat) * (k:Rat):=by simp
 have e2:((q.num * (k:Int):Int):Rat)=(q.num:Rat) * (k:Rat):=by simp [_x9]
 rw [e1,e2,<- Eh,_qi0]
def _qs (P:List Rat):D:=.lst (P.map frD)
@[simp] theorem _qly (P:List Rat):_Jl (_qs P)=some (P.map frD):=rfl
@[simp] theorem _qpj (P:List Rat):imm (_qs P)=false:=by simp [_qs]
def _zc (t:Nat) (P:List Rat):Prop:=∃ D:Nat,0 < D/\D < 2 ^ (80 * t + 1)/\∀ q∈P,_que D q/\0 <= q/\q <= ((t * 2 ^ 80:Nat):Rat)
theorem _zc.bd {t:Nat} {P:List Rat} (h:_zc t P) (ht:t <= 20) {q:Rat} (hq:q∈P):Bd 1800 1700 q:=by
 obtain ⟨D,h1,h2,h3⟩:=h;obtain ⟨o,q0,q1⟩:=h3 q hq;have hm:((t * 2 ^ 80:Nat):Rat) <= ((2 ^ 85:Nat):Rat):=by
  have:t * 2 ^ 80 <= 2 ^ 85:=le_trans (Ex _ (le_trans ht (by decide:20 <= 32))) (by decide)
  exact_mod_cast this
 have hz:(0:Rat) <= ((2 ^ 85:Nat):Rat):=by exact_mod_cast zero_le _
 exact (o.bd (m:=85) h1 h2 (by grind) (by grind)).mono (by omega) (by omega)
theorem _zc.cb {t:Nat} {P:List Rat} (h:_zc t P) (ht:t <= 20):cb P < 2 ^ 1700:=by
 obtain ⟨D,h1,h2,h3⟩:=h
 have:=K2 h1 (_qc5 fun q hq=>(h3 q hq).1.den)
 exact lt_of_le_of_lt this (lt_of_lt_of_le h2 (pow_le_pow_right (by decide) (by omega)))
theorem _zc.sub {t:Nat} {P Q:List Rat} (h:_zc t P) (hs:∀ q∈Q,q∈P):_zc t Q:=by
 obtain ⟨D,h1,h2,h3⟩:=h;exact ⟨D,h1,h2,fun q hq=>h3 q (hs q hq)⟩
theorem _zc.top {t:Nat} {P:List Rat} (h:_zc t P) (ht:t <= 20) {q:Rat} (hq:q∈P) {b:Nat} (hb:b < 2 ^ 1700):Sz 3600 (_qsu b q):=by
 have h1:=(h.bd ht hq).num;have h2:Sz 1700 ((b / q.den:Nat):Int):=by
  show ((b / q.den:Nat):Int).natAbs < _;rw [Bb];exact lt_of_le_of_lt (Jt _ _) hb
 exact (h1.mul h2).mono (by decide)
structure Dealt (w c:List Int) (s:Nat) (n:List Nat) (q:Option Rat):Prop where
 len:n.length=w.length
 cap:∀ k,k < n.length->(n.getD k 0:Int) <= c.getD k 0
 sum:n.sum=s \/ n.sum < s/\∀ k,k < n.length->(n.getD k 0:Int)=c.getD k 0
 non:q=none->∀ k,n.getD k 0=0
 met:∀ r,q=some r->∃ k,k < n.length/\0 < n.getD k 0/\mkRat (w.getD k 0) (n.getD k 0)=r
 low:∀ r,q=some r->∀ k,k < n.length->0 < n.getD k 0->r <= mkRat (w.getD k 0) (n.getD k 0)
 top:∀ r,q=some r->∀ k,k < n.length->(n.getD k 0:Int) < c.getD k 0->mkRat (w.getD k 0) (n.getD k 0 + 1) <= r
def sc (b:Int) (o:Nat × Rat):Nat × Rat:=(o.1,o.2 * (b:Rat))
def _qh6:List (Int × Int)->Int->Int->Option (Int × Int)
 | [],_,_=>none
 | q :: l,_qt6,W=>if _qt6 <= W * q.1 then some (_qt6,W) else _qh6 l (_qt6 - q.2 * q.1) (W - q.2)
def _qsy (l:List (Int × Int)):Int:=(l.map fun q=>q.2).sum
def capS (l:List (Int × Int)) (x:Rat):Rat:=(l.map fun q=>(q.2:Rat) * min (q.1:Rat) x).sum
theorem _z7:∀ {l:List (Int × Int)},(∀ q∈l,1 <= q.2)->0 <= _qsy l
 | [],_=>by simp [_qsy]
 | q :: l,h=>by
  have h1:=h q (by simp);have h2:=_z7 (l:=l) fun q hq=>h q (by simp [hq]);simp only [_qsy,map_cons,sum_cons] at h2 ⊢; omega
theorem _Y2 {_qt6 W t w:Int} (hr:¬ _qt6 <= W * t):(W - w) * t < _qt6 - w * t:=by
 rw [Int.sub_mul]; omega
theorem _qjh {l:List (Int × Int)} {x:Rat} (h:∀ q∈l,x <= (q.1:Rat)):capS l x=(_qsy l:Rat) * x:=by
 induction l with
 | nil=>simp only [capS,_qsy,map_nil,List.sum_nil]; grind
 | cons q l ih =>
  have h1:=h q (by simp);have h2:=ih fun q hq=>h q (by simp [hq]);have hm:min (q.1:Rat) x=x:=by grind
  simp only [capS,_qsy,map_cons,sum_cons] at h2 ⊢;rw [h2,hm];push_cast;grind
theorem _Js:∀ (l:List (Int × Int)) (_qt6 W t0 ρ V:Int),(∀ q∈l,0 <= q.1/\1 <= q.2)->l.Pairwise (fun a b=>a.1 <= b.1)->(∀ q∈l,t0 <= q.1)->W=_qsy l->0 < _qt6->W * t0 <= _qt6->_qh6 l _qt6 W=some (ρ,V) ->
  0 < ρ/\ρ <= _qt6/\1 <= V/\V <= W/\t0 * V <= ρ/\∀ x:Rat,x * (V:Rat)=(ρ:Rat)->capS l x=(_qt6:Rat)/\∃ q∈l,x <= (q.1:Rat)
 | [],_,_,_,_,_,_,_,_,_,_,_,e=>by cases e
 | q :: l,_qt6,W,t0,ρ,V,hq,hs,ht,hW,hp,h0,e=>by
  have hq1:=hq q (by simp);have hl:∀ q∈l,0 <= q.1/\1 <= q.2:=fun q hm=>hq q (by simp [hm]);have hW':W - q.2=_qsy l:=by rw [hW]; simp [_qsy]; omega
  have hn:=_z7 (l:=l) fun q hm=>(hl q hm).2;rw [pairwise_cons] at hs;unfold _qh6 at e;split at e
  ·rename_i hr
   cases e;refine ⟨hp,Kk _,by omega,Kk _,by rw [Int.mul_comm]; exact h0,fun x hx=>?_⟩;have Vp:(0:Rat) < (W:Rat):=by exact_mod_cast (by omega:0 < W)
   have hxq:x <= (q.1:Rat):=by
    have hr':(_qt6:Rat) <= (q.1:Rat) * (W:Rat):=by
     have:_qt6 <= q.1 * W:=by rw [Int.mul_comm]; exact hr
     exact_mod_cast this
    rw [<- hx] at hr';exact Ey hr' Vp
   refine ⟨?_,q,by simp,hxq⟩;rw [_qjh fun r hm=>?_]
   ·rw [<- hW,<- hx,Jk]
   ·rcases Al.mp hm with rfl | hm
    ·exact hxq
    ·have:(q.1:Rat) <= (r.1:Rat):=by exact_mod_cast hs.1 r hm
     exact Hb hxq this
  ·rename_i hr
   have hlt:=_Y2 (w:=q.2) hr;have hge:0 <= (W - q.2) * q.1:=Fs (by omega) hq1.1;have hwt:0 <= q.2 * q.1:=Fs (by omega) hq1.1;obtain ⟨r1,r2,r3,r4,r5,r6⟩:=_Js l (_qt6 - q.2 * q.1) (W - q.2) q.1 ρ V hl hs.2 (fun r hm=>hs.1 r hm) hW' (by omega) (by omega) e;refine ⟨r1,by omega,r3,by omega,Fi (Gd (ht q (by simp)) (by omega)) r5,fun x hx=>?_⟩;obtain ⟨c1,p,c2,c3⟩:=r6 x hx;refine ⟨?_,p,by simp [c2],c3⟩;have Vp:(0:Rat) < (V:Rat):=by exact_mod_cast (by omega:0 < V)
   have hqx:(q.1:Rat) <= x:=by
    have:(q.1:Rat) * (V:Rat) <= (ρ:Rat):=by exact_mod_cast r5
    rw [<- hx] at this;exact Ey this Vp
   have hm:min (q.1:Rat) x=(q.1:Rat):=by grind
   simp only [capS,map_cons,sum_cons] at c1 ⊢;rw [c1,hm];push_cast;grind
end MB
namespace L_k62
open PySem DL
noncomputable def _q5:Blk :=
 (_qu1 (mO [true,true] (_zv [none,some 1] (_qtq 0) (geN 0) qT (oE (_qtr (_k (_qtq 1) (_k (fC (.int 1)) _qu6)))))))
noncomputable def _w:List D->Option D:=_qt4 2 _q5
noncomputable def _qcn:Blk :=
 (_qu1 (mE [true,true] (f2 dLt (f2 _qtu (f2 dIx (_qtq 0) (fC (.int 0))) (f2 dIx (_qtq 1) (fC (.int 1)))) (f2 _qtu (f2 dIx (_qtq 1) (fC (.int 0))) (f2 dIx (_qtq 0) (fC (.int 1)))))))
noncomputable def _vt:List D->Option D:=_qt4 2 _qcn
noncomputable def _z3:Blk :=
 (bIf (qOr (qV (f2 dIs (_qtq 1) (fC .non))) (qV (_q1 2 _vt (_k (f2 dIx (_qtq 2) (fC (.int 1))) (_k (f2 dIx (_qtq 1) (fC (.int 1))) _qu6))))) (_qtz 1 (mE [false,false,true] (_qtq 2))) _qu2)
noncomputable def _qck:Blk :=
 (_qu0 (_qtz 1 (mE [false,false,false] (fC .non)))
  (_qu0 (_qu3 [true,false,false] (_qtq 0) (gN 2) _z3)
  (_qu1 (mE [false,true,false] (_qtq 1)))))
noncomputable def _xp:List D->Option D:=_qt4 3 _qck
noncomputable def _vl:Blk :=
 (_qu1 (mE [true] (_qts dSum (_k (fL (_zv [none,none] (_qtq 0) (_qto [(geN 0),(geN 1)]) qT (oE (_qtq 0)))) _qu6))))
noncomputable def _qn:List D->Option D:=_qt4 1 _vl
noncomputable def _zm:Blk :=
 (_qu1 (mE [true,true] (_qts dAll (_k (fL (_zv [none,some 0] (_qtq 1) (geN 0) qT (oE (f2 dIn (_qtq 0) (f2 dIx (_qtq 1) (fC (.int 1))))))) _qu6))))
noncomputable def _qa:List D->Option D:=_qt4 2 _zm
noncomputable def _Vf:Blk :=
 (_qu1 (mO [true,true] (_qak [none,none,some 1] (_qtq 0) (_qto [(geN 0),(geN 1)]) (qV (_q1 2 _qa (_k (_qtq 1) (_k (_qtq 2) _qu6)))) (oE (_qtq 0)))))
noncomputable def _kv:List D->Option O:=_qt2 2 _Vf
noncomputable def _Ve:Blk :=
 (_qu1 (mO [true,true] (_qcr 2 _kv (_k (_qtq 0) (_k (fL (oLst (_k (_qtq 1) _qu6))) _qu6)))))
noncomputable def _q8:List D->Option O:=_qt2 2 _Ve
noncomputable def _vo:Blk :=
 (_qu0 (_qtz 4 (mE [false,false,true,true,false] (f2 dMod (_qtq 2) (_qtq 3))))
  (_qu0 (_qtz 2 (mE [false,false,false,true,false] (_qtq 3)))
  (_qtz 3 (mE [false,false,false,false,true] (_qtq 4)))))
noncomputable def _Jh:Blk :=
 (_qu0 (_qtz 2 (mE [true,false,false,false,false] (_qts dAbs (_k (_qtq 0) _qu6))))
  (_qu0 (_qtz 3 (mE [false,true,false,false,false] (_qts dAbs (_k (_qtq 1) _qu6))))
  (_qu0 (_z4 (qV (f2 dNe (_qtq 3) (fC (.int 0)))) _vo)
  (_qu1 (mE [false,false,true,false,false] (_qtq 2))))))
noncomputable def _j3:List D->Option D:=_qt4 5 _Jh
noncomputable def _qx:Blk :=
 (_qtz 1 (mE [false,true,false,true] (f2 _qtu (_qtq 1) (f2 _qtw (_qtq 3) (_q1 2 _j3 (_k (_qtq 1) (_k (_qtq 3) _qu6)))))))
noncomputable def _jn:Blk :=
 (_qu0 (_qtz 1 (mE [false,false,false,false] (fC (.int 1))))
  (_qu0 (_qu3 [true,false,false,false] (_qtq 0) (gTp [(gN 2),(gN 3)]) _qx)
  (_qu1 (mE [false,true,false,false] (_qtq 1)))))
noncomputable def _z:List D->Option D:=_qt4 4 _jn
noncomputable def _vn:Blk :=
 (_qu1 (mO [true,true] (_zv [none,none,some 0] (_qtq 1) (_qto [(geN 0),(geN 1)]) qT (oE (f2 _qtu (_qtq 0) (f2 _qtw (_qtq 2) (_qtq 1)))))))
noncomputable def _qp:List D->Option D:=_qt4 2 _vn
noncomputable def _vm:Blk :=
 (_qu1 (mE [true,true] (_qts dSum (_k (fL (_zv [none,some 0] (_qtq 1) (geN 0) qT (oE (f2 dIx (f2 dIx (_qtq 1) (_qtq 0)) (fC (.int 0)))))) _qu6))))
noncomputable def _qo:List D->Option D:=_qt4 2 _vm
noncomputable def _qch:Blk :=
 (_qu0 (bIf (qV (f2 dEq (_qtq 1) (fC (.int 0)))) bNever _qu2)
  (_qu0 (_qtz 2 (mE [true,true,false] (_q1 2 _j3 (_k (_qtq 0) (_k (_qtq 1) _qu6)))))
  (_qu0 (bIf (qV (f2 dLt (_qtq 1) (fC (.int 0)))) (_qtz 2 (mE [false,false,true] (f1 dNeg (_qtq 2)))) _qu2)
  (_qu1 (mE [true,true,true] (_qtr (_k (f2 _qtw (_qtq 0) (_qtq 2)) (_k (f2 _qtw (_qtq 1) (_qtq 2)) _qu6))))))))
noncomputable def _xn:List D->Option D:=_qt4 3 _qch
noncomputable def _zl:Blk :=
 (_qu0 (bIf (qV (f2 dLe (_qtq 7) (f2 _qtu (_qtq 8) (_qtq 9)))) (_qu1 (mE [false,false,false,false,false,true,false,true,true,false,false] (_q1 2 _xn (_k (_qtq 7) (_k (f2 _qtu (_qtq 8) (_qtq 5)) _qu6))))) _qu2)
  (_qu0 (_qtz 7 (mE [true,false,false,false,false,false,false,true,false,true,true] (f2 dSub (_qtq 7) (f2 _qtu (f2 dIx (f2 dIx (_qtq 0) (_qtq 10)) (fC (.int 0))) (_qtq 9)))))
  (_qtz 8 (mE [true,false,false,false,false,false,false,false,true,false,true] (f2 dSub (_qtq 8) (f2 dIx (f2 dIx (_qtq 0) (_qtq 10)) (fC (.int 0))))))))
noncomputable def _qev:Blk :=
 (_qu0 (_qtz 4 (mO [true,false,true,false,false,false,false,false,false,false,false] (_qcr 2 _q8 (_k (_qtq 0) (_k (_qtq 2) _qu6)))))
  (_qu0 (_qtz 5 (mE [false,true,false,false,true,false,false,false,false,false,true] (_q1 1 _z (_k (fL (_zv [none,some 1] (_qtq 4) (geN 0) qT (oE (f2 dIx (_qtq 1) (_qtq 0))))) _qu6))))
  (_qu0 (_qtz 6 (mE [false,true,false,false,true,true,false,false,false,false,true] (_q1 2 _qp (_k (_qtq 5) (_k (fL (_zv [none,some 1] (_qtq 4) (geN 0) qT (oE (f2 dIx (_qtq 1) (_qtq 0))))) _qu6)))))
  (_qu0 (_qtz 7 (mE [false,false,false,true,false,true,false,false,false,false,false] (f2 _qtu (_qtq 3) (_qtq 5))))
  (_qu0 (_qtz 8 (mE [true,false,false,false,true,false,false,false,false,false,false] (_q1 2 _qo (_k (_qtq 0) (_k (_qtq 4) _qu6)))))
  (_qu0 (_qu3 [false,false,false,false,true,false,true,false,false,false,false] (fL (_qte _Qy (_k (_qtq 6) (_k (_qtq 4) _qu6)))) (gTp [(gN 9),(gN 10)]) _zl)
  (_qu1 (mE [false,false,false,false,false,false,false,false,false,false,false] (fC .non)))))))))
noncomputable def _Zl:List D->Option D:=_qt4 11 _qev
noncomputable def _Jf:Blk :=
 (bExt 1 [false,false,false,true] pNil (_qtq 3))
noncomputable def _qcj:Blk :=
 (_qu0 (_qtz 1 (mO [false,false,false,false] (oLst _qu6)))
  (_qu0 (_qu3 [true,false,false,false] (_qtq 0) (gTp [(gN 2),(gN 3)]) _Jf)
  (_qu1 (mO [false,true,false,false] (_qte _Qz (_k (_qtq 1) _qu6))))))
noncomputable def _vs:List D->Option O:=_qt2 4 _qcj
noncomputable def _Vd:Blk :=
 (_qu0 (_qtz 3 (mO [false,false,true,false,false,false] (_zv [none] (_qtq 2) (geN 0) qT (oE (f2 dIx (_qtq 0) (fC (.int 0)))))))
  (_qu0 (_qtz 4 (mE [true,false,false,false,false,false] (_q1 1 _qn (_k (_qtq 0) _qu6))))
  (_qu0 (_qtz 5 (mO [true,true,false,true,true,false] (_zv [none,some 0,some 1,some 4,some 3] (fL (_qcr 1 _vs (_k (_qtq 0) _qu6))) (geN 0) (qV (f2 _Xc (_qtq 0) (_qtq 4))) (oE (_qtr (_k (_qtq 0) (_k (_q1 4 _Zl (_k (_qtq 1) (_k (_qtq 2) (_k (_qtq 0) (_k (_qtq 3) _qu6))))) _qu6)))))))
  (_qu1 (mO [false,false,false,false,false,true] (_zv [none] (_qtq 5) (geN 0) (qV (f2 _qtv (f2 dIx (_qtq 0) (fC (.int 1))) (fC .non))) (oE (_qtq 0))))))))
noncomputable def _xo:List D->Option D:=_qt4 6 _Vd
noncomputable def _qci:Blk :=
 (_qu1 (mE [true,true] (_q1 2 _xn (_k (f2 dSub (f2 _qtu (f2 dIx (_qtq 0) (fC (.int 0))) (f2 dIx (_qtq 1) (fC (.int 1)))) (f2 _qtu (f2 dIx (_qtq 1) (fC (.int 0))) (f2 dIx (_qtq 0) (fC (.int 1))))) (_k (f2 _qtu (f2 dIx (_qtq 0) (fC (.int 1))) (f2 dIx (_qtq 1) (fC (.int 1)))) _qu6)))))
noncomputable def _w4:List D->Option D:=_qt4 2 _qci
noncomputable def _q4:Blk :=
 (_qu0 (bIf (qV (_q1 2 _vt (_k (_qtq 0) (_k (_qtq 1) _qu6)))) (_qu1 (mE [false,false] (_qtr (_k (fC (.int 0)) (_k (fC (.int 1)) _qu6))))) _qu2)
  (_qu1 (mE [true,true] (_q1 2 _w4 (_k (_qtq 0) (_k (_qtq 1) _qu6))))))
noncomputable def _S:List D->Option D:=_qt4 2 _q4
noncomputable def _Vc:Blk :=
 (bPut 4 [false,false,false,false,false,true] pNil (_qtq 5) (mE [false,true,false,true,false,true] (_q1 2 _S (_k (f2 dIx (_qtq 1) (_qtq 5)) (_k (_qtq 3) _qu6)))))
noncomputable def _qjo:Blk :=
 (_qu0 (_qtz 4 (mO [false,true,false,false,false,false] (_qte _qg1 (_k (_qtq 1) _qu6))))
  (_qu0 (_qu3 [true,false,true,false,false,false] (fL (_qcr 2 _q8 (_k (_qtq 0) (_k (_qtq 2) _qu6)))) (gN 5) _Vc)
  (_qu1 (mE [false,false,false,false,true,false] (_qtq 4)))))
noncomputable def _qat:List D->Option D:=_qt4 6 _qjo
noncomputable def _k9:Blk :=
 (_qu0 (_qtz 2 (mE [true,false,true,false,true] (_q1 4 _qat (_k (_qtq 0) (_k (_qtq 2) (_k (f2 dIx (_qtq 4) (fC (.int 0))) (_k (f2 dIx (_qtq 4) (fC (.int 1))) _qu6)))))))
  (_qu0 (bMut 3 [false,false,false,false,false] pNil (mE [false,false,true,false,true] (_qtr (_k (f2 dIx (_qtq 4) (fC (.int 0))) (_k (f2 dIx (_qtq 4) (fC (.int 1))) (_k (_qtq 2) _qu6))))) gApp)
  (_qtz 4 (mE [true,false,true,true,false] (_q1 1 _xp (_k (_q1 3 _xo (_k (_qtq 0) (_k (_qtq 2) (_k (_qtq 3) _qu6)))) _qu6))))))
noncomputable def _Vb:Blk :=
 (_qu0 (_qtz 2 (mE [true,true,false,false,false] (_q1 2 _w (_k (_qtq 0) (_k (_qtq 1) _qu6)))))
  (_qu0 (_qtz 3 (mO [false,false,false,false,false] (oLst _qu6)))
  (_qu0 (_qtz 4 (mE [true,false,true,true,false] (_q1 1 _xp (_k (_q1 3 _xo (_k (_qtq 0) (_k (_qtq 2) (_k (_qtq 3) _qu6)))) _qu6))))
  (_qu0 (_z4 (qV (f2 _qtv (_qtq 4) (fC .non))) _k9)
  (_qu1 (mE [false,false,false,true,false] (_qtq 3)))))))
noncomputable def _vg:List D->Option D:=_qt4 5 _Vb
noncomputable def _jo:Blk :=
 (_qu1 (mO [true] (_zv [none] (_qtq 0) (geN 0) qT (oE (f2 dIx (_qtq 0) (fC (.int 0)))))))
noncomputable def _G:List D->Option D:=_qt4 1 _jo
noncomputable def _Je:Blk :=
 (_qu1 (mE [true,true,true] (_qts dSum (_k (fL (_zv [none,some 1,some 0] (_qtq 2) (geN 0) qT (oE (f2 _qtu (f2 dIx (f2 dIx (_qtq 2) (_qtq 0)) (fC (.int 0))) (f2 dIx (_qtq 1) (_qtq 0)))))) _qu6))))
noncomputable def _zy:List D->Option D:=_qt4 3 _Je
noncomputable def _qeu:Blk :=
 (_qu0 (_qtz 3 (mO [true,false,true,false,false,false] (_qcr 2 _q8 (_k (_qtq 0) (_k (_qtq 2) _qu6)))))
  (_qu0 (_qtz 4 (mE [false,true,false,false,false,false] (_q1 1 _z (_k (_qtq 1) _qu6))))
  (_qu0 (_qtz 5 (mE [true,true,false,true,true,false] (f2 dSub (f2 _qtu (_q1 1 _qn (_k (_qtq 0) _qu6)) (_qtq 4)) (_q1 3 _zy (_k (_qtq 0) (_k (_q1 2 _qp (_k (_qtq 4) (_k (_qtq 1) _qu6))) (_k (_qtq 3) _qu6)))))))
  (_qu0 (bIf (qV (f2 dLe (_qtq 5) (fC (.int 0)))) (_qu1 (mE [false,false,false,false,false,false] (_qtr (_k (fC (.int 0)) (_k (fC (.int 1)) _qu6))))) _qu2)
  (_qu1 (mE [true,false,false,true,true,true] (_q1 2 _xn (_k (_qtq 5) (_k (f2 _qtu (_q1 2 _qo (_k (_qtq 0) (_k (_qtq 3) _qu6))) (_qtq 4)) _qu6)))))))))
noncomputable def _Zk:List D->Option D:=_qt4 6 _qeu
noncomputable def _K5:Blk :=
 (_qu0 (bIf (qV (f2 dGe (_qts dLen (_k (_qtq 2) _qu6)) (_qtq 3))) (_qu1 (mO [false,false,false,false] (oLst _qu6))) _qu2)
  (_qu1 (mO [true,true,true,false] (_zv [none,some 0,some 1,some 2] (fL (_qcr 1 _vs (_k (_qtq 0) _qu6))) (geN 0) (qV (f2 _Xc (_qtq 0) (_qtq 3))) (oE (_qtr (_k (_qtq 0) (_k (_q1 3 _Zk (_k (_qtq 1) (_k (_qtq 2) (_k (_qtq 0) _qu6)))) _qu6))))))))
noncomputable def _vr:List D->Option D:=_qt4 4 _K5
noncomputable def _qjn:Blk :=
 (_qu1 (mE [true,true] (_q1 2 _xn (_k (f2 dAdd (f2 _qtu (f2 dIx (_qtq 0) (fC (.int 0))) (f2 dIx (_qtq 1) (fC (.int 1)))) (f2 _qtu (f2 dIx (_qtq 1) (fC (.int 0))) (f2 dIx (_qtq 0) (fC (.int 1))))) (_k (f2 _qtu (f2 dIx (_qtq 0) (fC (.int 1))) (f2 dIx (_qtq 1) (fC (.int 1)))) _qu6)))))
noncomputable def _J0:List D->Option D:=_qt4 2 _qjn
noncomputable def _jm:Blk :=
 (_qu0 (_qtz 3 (mO [true,false,true,false] (_qcr 2 _q8 (_k (_qtq 0) (_k (f2 dIx (_qtq 2) (fC (.int 0))) _qu6)))))
  (_qu1 (mO [false,true,true,true] (_qak [none,none,some 3,some 2] (_qtq 1) (_qto [(geN 0),(geN 1)]) qT (oE (fIf (qV (f2 dIn (_qtq 0) (_qtq 2))) (_qtr (_k (fC (.int 0)) (_k (fC (.int 1)) _qu6))) (_q1 2 _J0 (_k (_qtq 1) (_k (f2 dIx (_qtq 3) (fC (.int 1))) _qu6)))))))))
noncomputable def _X:List D->Option D:=_qt4 4 _jm
noncomputable def _Jg:Blk :=
 (_qu0 (_qtz 1 (mE [true,true,false,false,false,false,true] (_q1 3 _X (_k (_qtq 0) (_k (_qtq 1) (_k (_qtq 6) _qu6))))))
  (_qu0 (bMut 5 [false,false,false,false,false,false,false] pNil (mE [false,true,false,false,false,false,true] (_qtr (_k (f2 dIx (_qtq 6) (fC (.int 0))) (_k (f2 dIx (_qtq 6) (fC (.int 1))) (_k (_qtq 1) _qu6))))) gApp)
  (_qu0 (bMut 4 [false,false,false,false,false,false,false] pNil (mE [false,false,false,false,false,false,true] (f2 dIx (_qtq 6) (fC (.int 0)))) gApp)
  (_qtz 6 (mE [true,true,false,true,true,false,false] (_q1 1 _xp (_k (_q1 4 _vr (_k (_qtq 0) (_k (_qtq 1) (_k (_qtq 4) (_k (_qtq 3) _qu6))))) _qu6)))))))
noncomputable def _qcl:Blk :=
 (_qu0 (_qtz 4 (mO [false,false,true,false,false,false,false] (_qte _qg1 (_k (_qtq 2) _qu6))))
  (_qu0 (_qtz 5 (mO [false,false,false,false,false,false,false] (oLst _qu6)))
  (_qu0 (_qtz 6 (mE [true,true,false,true,true,false,false] (_q1 1 _xp (_k (_q1 4 _vr (_k (_qtq 0) (_k (_qtq 1) (_k (_qtq 4) (_k (_qtq 3) _qu6))))) _qu6))))
  (_qu0 (_z4 (qV (f2 _qtv (_qtq 6) (fC .non))) _Jg)
  (_qu1 (mE [false,false,false,false,false,true,false] (_qtq 5)))))))
noncomputable def _J1:List D->Option D:=_qt4 7 _qcl
noncomputable def _ji:Blk :=
 (_qu0 (bIf (qV (f2 dEq (_qtq 2) (fL (oLst _qu6)))) (_qu1 (mE [true,true,false] (_q1 2 _w (_k (_qtq 0) (_k (_qtq 1) _qu6))))) _qu2)
  (_qu1 (mE [false,false,true] (f2 dIx (f2 dIx (_qtq 2) (f1 dNeg (fC (.int 1)))) (fC (.int 2))))))
noncomputable def _qe:List D->Option D:=_qt4 3 _ji
noncomputable def _qcm:Blk :=
 (_qu0 (_qtz 2 (mE [true,true,false,false,false] (_q1 2 _vg (_k (_qtq 0) (_k (_qtq 1) _qu6)))))
  (_qu0 (_qtz 3 (mE [false,false,true,false,false] (_q1 1 _G (_k (_qtq 2) _qu6))))
  (_qu0 (_qtz 4 (mE [true,true,true,true,false] (_q1 4 _J1 (_k (_qtq 0) (_k (_q1 3 _qe (_k (_qtq 0) (_k (_qtq 1) (_k (_qtq 2) _qu6)))) (_k (fL (_qte _qjy (_k (_qtq 3) _qu6))) (_k (_qtq 1) _qu6)))))))
  (_qu1 (mO [false,false,true,true,true] (oTupO (_qcp (_qte _qjy (_k (fL (o2 dCat (_qtq 3) (_q1 1 _G (_k (_qtq 4) _qu6)))) _qu6)) (_qcp (oE (_qtq 2)) (_qcp (oE (_qtq 4)) aoNil)))))))))
noncomputable def _w5:List D->Option D:=_qt4 5 _qcm
noncomputable def _jw:Blk :=
 (_qu0 (bIf (qV (f2 dLt (_qtq 1) (_qts dLen (_k (_qtq 0) _qu6)))) (_qu1 (mE [true,true] (f2 dIx (_qtq 0) (_qtq 1)))) _qu2)
  (_qu0 (bIf (qV (f2 dEq (_qtq 0) (fL (oLst _qu6)))) (_qu1 (mE [false,true] (f2 dAdd (f2 _qtu (f2 _qtu (_qtq 1) (_qtq 1)) (fC (.int 7919))) (f2 _qtu (fC (.int 13)) (_qtq 1))))) _qu2)
  (_qu1 (mE [true,true] (f2 dMod (f2 _qtu (f2 dAdd (f2 dAdd (f2 dIx (_qtq 0) (f2 dMod (_qtq 1) (_qts dLen (_k (_qtq 0) _qu6)))) (f2 _qtu (f2 _qtu (_qtq 1) (_qtq 1)) (fC (.int 7919)))) (fC (.int 1))) (fC (.int 48271))) (fC (.int 2147483647)))))))
noncomputable def _T:List D->Option D:=_qt4 2 _jw
noncomputable def _wa:Blk :=
 (_qu0 (_qtz 3 (mE [true,true,false,false] (_q1 2 _w5 (_k (_qtq 0) (_k (_qtq 1) _qu6)))))
  (_qu1 (mO [false,false,true,true] (o2 dCat (fL (_zv [none,some 2] (f2 dIx (_qtq 3) (fC (.int 1))) (geN 0) qT (oE (f2 dIx (_qtq 1) (f2 dIx (_qtq 0) (fC (.int 0))))))) (fL (_zv [none,some 2] (f2 dIx (_qtq 3) (fC (.int 2))) (geN 0) qT (oE (f2 dIx (_qtq 1) (f2 dIx (_qtq 0) (fC (.int 0)))))))))))
noncomputable def _zz:List D->Option D:=_qt4 4 _wa
noncomputable def _qjx:List D->Option D:=lawD
end L_k62
set_option maxHeartbeats 4000000
namespace L_k62
open PySem DL MB
theorem _qed (l:List Int):D.lst (l.map D.int)=_y l:=rfl
theorem _qb7 {h:List _qud} {i:Nat} (hi:i < h.length):dIx (_F h) (.int (i:Int))=some (_x3 h[i]):=by
 have:=_qn5 (ds:=h.map _x3) (i:=i) (by simpa using hi)
 rw [_F,this]; simp
theorem _qb6 {l:List Int} {i:Nat} (h:i < l.length):dIx (_y l) (.int (i:Int))=some (.int l[i]):=by
 have:=_qn5 (ds:=l.map .int) (i:=i) (by simpa using h)
 rw [_y,this]; simp
theorem _qib (p:_qud) (s:List Int) (hs:s.length <= 100):_qa [_x3 p,_y s]=some (.bl (_xq p.2 s)):=by
 have hc:_v0 (geN 0) qT (oE (f2 dIn (_qtq 0) (f2 dIx (_qtq 1) (fC (.int 1))))) (s.map D.int) [none,some (_x3 p)]=some (s.map fun c=>O.sh (.bl (has p.2 c))):=by
  have:=_B (inj:=D.int) (g:=geN 0) (c:=qT) (e:=oE (f2 dIn (_qtq 0) (f2 dIx (_qtq 1) (fC (.int 1))))) (fun ρ=>∃ d,ρ=[d,some (_x3 p)]) (fun _=>true) (fun c=>O.sh (.bl (has p.2 c))) s [none,some (_x3 p)] ⟨_,rfl⟩ (by
   rintro c _ ρ ⟨d,rfl⟩;exact ⟨_,rfl,⟨_,rfl⟩,rfl,fun _=>by simp⟩)
  rwa [Av.mpr (by simp)] at this
 have hd:oDs (s.map fun c=>O.sh (.bl (has p.2 c)))=some (s.map fun c=>D.bl (has p.2 c)):=_zu (fun c=>by simp) s;have hb:_qjl (s.map fun c=>D.bl (has p.2 c))=some (s.map fun c=>has p.2 c):=by
  clear hc hd hs
  induction s with
  | nil=>rfl
  | cons c s ih=>simp [_qjl,ih]
 have hl:s.length <= 100000:=by omega
 simp [_qa,_qt4,_qt2,ini,_zm,_zv,mkD,hl,_qug,hc,hd,dAll,hb,_xq,List.all_map,Ii]
theorem _qex (h:List _qud) (s:List Int) (hh:h.length <= 100) (hs:s.length <= 100):_kv [_F h,_y s]=some (ow ((agr h s).map .int)):=by
 have hc:_v0 (_qto [(geN 0),(geN 1)]) (qV (_q1 2 _qa (_k (_qtq 1) (_k (_qtq 2) _qu6)))) (oE (_qtq 0)) (_qbn (h.map _x3)) [none,none,some (_y s)]=some ((agr h s).map fun i=>O.sh (.int i)):=by
  rw [_Kp]
  have:=_B (inj:=fun q:Nat × _qud=>D.tup [.int (q.1:Int),_x3 q.2]) (g:=_qto [(geN 0),(geN 1)]) (c:=qV (_q1 2 _qa (_k (_qtq 1) (_k (_qtq 2) _qu6)))) (e:=oE (_qtq 0))
   (fun ρ=>∃ d d',ρ=[d,d',some (_y s)]) (fun q=>_xq q.2.2 s) (fun q=>O.sh (.int (q.1:Int))) ((Ar h.length).zip h) [none,none,some (_y s)] ⟨_,_,rfl⟩ (by
   rintro ⟨i,p⟩ _ ρ ⟨d,d',rfl⟩;exact ⟨_,rfl,⟨_,_,rfl⟩,by simp [_qib p s hs],fun _=>by simp⟩)
  rw [this];have e:=_Wy (fun p:_qud=>_xq p.2 s) h;show some _=some ((agr h s).map _);unfold agr;rw [<- e,map_map,map_map];rfl
 have hl:h.length <= 100000:=by omega
 simp [_kv,_qt2,ini,_Vf,_qak,mkD,hl,_qug,hc,ow]
theorem _v6 (h:List _qud) (c:Int) (hh:h.length <= 100):_q8 [_F h,.int c]=some (ow ((agr h [c]).map .int)):=by
 have ha:=_qex h [c] hh (by simp);simp only [_y,map_cons,map_nil] at ha;simp [_q8,_qt2,ini,_Ve,_qug,ha]
def _qt (h:List _qud):List Int:=h.flatMap fun p=>p.2
theorem _qic (h:List _qud) (hh:h.length <= 100) (hm:∀ p∈h,p.2.length <= 12) (h64:(_I (_qt h)).length < 64):_vs [_F h]=some (ow ((_I (_qt h)).map .int)):=by
 have hlen:∀ l:List _qud,(∀ p∈l,p.2.length <= 12)->(_qt l).length <= 12 * l.length:=by
  intro l
  induction l with
  | nil=>intro _; simp [_qt]
  | cons p l ih =>
   intro hp;have h1:=hp p (by simp);have h2:=ih fun q m=>hp q (by simp [m]);simp [_qt] at h2 ⊢;omega
 obtain ⟨ρ',h1,c,c',h2⟩:=_qbk (inj:=_x3) (g:=gTp [(gN 2),(gN 3)]) (b:=_Jf) (fun pre ρ=>∃ c c',ρ=[some (.sh (_F h)),some (ow ((_qt pre).map .int)),c,c']) h
  [some (.sh (_F h)),some (ow []),none,none] ⟨_,_,rfl⟩ (by
   rintro pre p post ρ e ⟨c,c',rfl⟩;have hp:p.2.length <= 12:=hm p (by rw [e]; simp);have hpre:(_qt pre).length <= 12 * pre.length:=hlen pre fun q m=>hm q (by rw [e]; simp [m]);have hpl:pre.length <= 100:=by have:=congrArg List.length e; simp at this; omega
   refine ⟨[some (.sh (_F h)),some (ow ((_qt pre).map .int)),some (.sh (.int p.1)),some (.sh (_y p.2))],_,rfl,.inl ?_,some (.sh (.int p.1)),some (.sh (_y p.2)),rfl⟩;have hl:(_qt pre).length + p.2.length <= _qug:=by simp only [_qug]; omega
   have em:_qt (pre++[p])=_qt pre++p.2:=by simp [_qt]
   rw [em];simp [_Jf,bExt,pNil,_y,atO,gExt,ow,hl,-map_append]
   simp)
 have hn:(_qt h).length < 4000:=by have:=hlen h hm; omega
 simp [_vs,_qt2,ini,_qcj,_qu3,_qug,h1,h2,_Qz,hn,h64]
def cellOf (ns:List Int) (k:Nat):Int:=if k < ns.length then ns.getD k 0 else if ns=[] then (k:Int) * k * 7919 + 13 * k else ((ns.getD (k % ns.length) 0 + (k:Int) * k * 7919 + 1) * 48271).fmod 2147483647
theorem _qc3 (ns:List Int) (k:Nat) (hk:k <= 1000):_T [_y ns,.int (k:Int)]=some (.int (cellOf ns k)):=by
 have kk:_qtu (.int (k:Int)) (.int (k:Int))=some (.int ((k:Int) * k)):=_qn4 (lt_of_le_of_lt (show _ <= 1000 by omega) (by decide));have k79:_qtu (.int ((k:Int) * k)) (.int 7919)=some (.int ((k:Int) * k * 7919)):=_qn3 (by decide);have k13:_qtu (.int 13) (.int (k:Int))=some (.int (13 * (k:Int))):=_qn4 (by decide)
 by_cases h1:k < ns.length
 ·have hx:dIx (_y ns) (.int (k:Int))=some (.int (ns.getD k 0)):=by rw [_qb6 h1]; simp [h1]
  have h1':(k:Int) < (ns.length:Int):=by omega
  simp [_T,_qt4,_qt2,ini,_jw,h1,h1',hx,cellOf]
 ·have h1':¬ (k:Int) < (ns.length:Int):=by omega
  have he:dEq (_y ns) (.lst [])=some (.bl (decide (ns=[]))):=_qen ns []
  by_cases h2:ns=[]
  ·subst h2
   have h1'':¬ (k:Int) < 0:=by omega
   simp [_T,h1'',_qt4,_qt2,ini,_jw,he,_qug,kk,k79,k13,cellOf]
  ·have hlen:0 < ns.length:=G4.mpr h2
   have hm:dMod (.int (k:Int)) (.int (ns.length:Int))=some (.int ((k % ns.length:Nat):Int)):=by
    rw [_qbv (by omega),Et _ (by omega),<- Int.natCast_emod]
   have hlt:k % ns.length < ns.length:=mod_lt _ hlen;have hx:dIx (_y ns) (.int ((k % ns.length:Nat):Int))=some (.int (ns.getD (k % ns.length) 0)):=by rw [_qb6 hlt]; simp [hlt]
   have hm2:_qtu (.int (ns.getD (k % ns.length) 0 + (k:Int) * k * 7919 + 1)) (.int 48271)=some (.int ((ns.getD (k % ns.length) 0 + (k:Int) * k * 7919 + 1) * 48271)):=_qn3 (by decide);have hm3:dMod (.int ((ns.getD (k % ns.length) 0 + (k:Int) * k * 7919 + 1) * 48271)) (.int 2147483647)=some (.int (((ns.getD (k % ns.length) 0 + (k:Int) * k * 7919 + 1) * 48271).fmod 2147483647)):=_qbv (by decide);rw [show cellOf ns k=((ns.getD (k % ns.length) 0 + (k:Int) * k * 7919 + 1) * 48271).fmod 2147483647 by rw [cellOf,if_neg h1,if_neg h2]];generalize ns.getD (k % ns.length) 0=y at *;generalize k % ns.length=q at *;simp [_T,_qt4,_qt2,ini,_jw,h1',he,h2,_qug,kk,k79,hm,hx,hm2,hm3]
def plD (g:List Nat):D:=_y (g.map fun (i:Nat)=>(i:Int))
def _qu4 (h:List _qud) (s:List Int):List Nat:=(Ar h.length).filter fun i=>atB (fun p:_qud=>_xq p.2 s) h[i]?
theorem agr_N (h:List _qud) (s:List Int):agr h s=(_qu4 h s).map fun (i:Nat)=>(i:Int):=rfl
theorem _qk (h:List _qud) (s:List Int):∀ i∈_qu4 h s,i < h.length:=fun i m=>A0.mp (Ay.mp m).1
theorem _wg (h:List _qud) (s:List Int):(_qu4 h s).length <= h.length:=le_trans (length_filter_le _ _) (by simp)
theorem _v2:∀ (ns:List Int) (a:Int),sumD (ns.map D.int) a=some (a + ns.sum)
 | [],a=>by simp [sumD]
 | n :: ns,a=>by simp [sumD,_v2 ns,Int.add_assoc]
def wAt (h:List _qud) (i:Nat):Int:=(h.getD i (0,[])).1
def wG (h:List _qud) (g:List Nat):Int:=(g.map (wAt h)).sum
def _qsq (h:List _qud):Int:=(h.map fun p=>p.1).sum
theorem _kc (h:List _qud) (hh:h.length <= 100):_qn [_F h]=some (.int (_qsq h)):=by
 have hc:_v0 (_qto [(geN 0),(geN 1)]) qT (oE (_qtq 0)) (h.map _x3) [none,none]=some (h.map fun p=>O.sh (.int p.1)):=by
  have:=_B (inj:=_x3) (g:=_qto [(geN 0),(geN 1)]) (c:=qT) (e:=oE (_qtq 0)) (fun ρ=>∃ d d',ρ=[d,d']) (fun _=>true) (fun p=>O.sh (.int p.1)) h [none,none] ⟨_,_,rfl⟩ (by
   rintro p _ ρ ⟨d,d',rfl⟩;exact ⟨_,rfl,⟨_,_,rfl⟩,rfl,fun _=>rfl⟩)
  rwa [Av.mpr (by simp)] at this
 have hd:oDs (h.map fun p=>O.sh (.int p.1))=some ((h.map fun p=>p.1).map D.int):=by
  have:=_zu (f:=fun p:_qud=>O.sh (.int p.1)) (g:=fun p=>D.int p.1) (fun p=>by simp) h
  rw [this]; simp
 have hl:h.length <= 100000:=by omega
 simp [_qn,_qt4,_qt2,ini,_vl,_zv,mkD,_F,hl,_qug,hc,hd,dSum,_v2,_qsq,-map_map]
theorem _kd (h:List _qud) (g:List Nat) (hg:∀ i∈g,i < h.length) (hl:g.length <= 1000):_qo [_F h,plD g]=some (.int (wG h g)):=by
 have hc:_v0 (geN 0) qT (oE (f2 dIx (f2 dIx (_qtq 1) (_qtq 0)) (fC (.int 0)))) (g.map fun (i:Nat)=>D.int (i:Int)) [none,some (_F h)]=some (g.map fun i=>O.sh (.int (wAt h i))):=by
  have:=_B (inj:=fun (i:Nat)=>D.int (i:Int)) (g:=geN 0) (c:=qT) (e:=oE (f2 dIx (f2 dIx (_qtq 1) (_qtq 0)) (fC (.int 0)))) (fun ρ=>∃ d,ρ=[d,some (_F h)]) (fun _=>true) (fun i=>O.sh (.int (wAt h i))) g [none,some (_F h)] ⟨_,rfl⟩ (by
   rintro i hi ρ ⟨d,rfl⟩;have hx:=_qb7 (hg i hi);have hw:wAt h i=(h[i]'(hg i hi)).1:=by simp [wAt,hg i hi]
   exact ⟨_,rfl,⟨_,rfl⟩,rfl,fun _=>by simp [hx,hw]⟩)
  rwa [Av.mpr (by simp)] at this
 have hd:oDs (g.map fun i=>O.sh (.int (wAt h i)))=some ((g.map (wAt h)).map D.int):=by
  have:=_zu (f:=fun i:Nat=>O.sh (.int (wAt h i))) (g:=fun i=>D.int (wAt h i)) (fun p=>by simp) g
  rw [this]; simp
 have hl':g.length <= 100000:=by omega
 have hlo:_Jl (plD g)=some (g.map fun (i:Nat)=>D.int (i:Int)):=by simp [plD]
 simp [_qo,_qt4,_qt2,ini,_vm,_zv,mkD,hl',_qug,hlo,hc,hd,dSum,_v2,wG,-map_map]
def _qtm (l:List Nat) (i:Nat):Bool:=l.contains i
theorem _kz {l:List Nat} {i:Nat}:_qtm l i=true ↔ i∈l:=by simp [_qtm]
theorem _qmi (l:List Nat) (i:Nat):has (l.map fun (j:Nat)=>(j:Int)) (i:Int)=_qtm l i:=by
 rw [A5,_vw,_kz,Ah];exact ⟨fun ⟨a,m,e⟩=>by rw [<- Int.ofNat_inj.mp e]; exact m,fun m=>⟨i,m,rfl⟩⟩
theorem _K8 (h:List _qud) (s:List Int):(agr h s).map D.int=(_qu4 h s).map fun (i:Nat)=>D.int (i:Int):=by rw [agr_N,map_map]; rfl
theorem _Qq (g:List Nat):D.lst (g.map fun (i:Nat)=>D.int (i:Int))=plD g:=by simp [plD,_y]
theorem _qfz (h:List _qud) (k:okH h) (hh:h.length <= 100):_vs [_F h]=some (ow ((_s h).map .int)):=by
 have e:_I (_qt h)=_s h:=by
  refine _x1 (_je _) (List.Pairwise.filter _ _Vt) fun x=>?_;show x∈_I (_qt h) ↔ x∈six.filter _;rw [_xy,Ay,any_eq_true];simp only [_qt,List.mem_flatMap,_vw];exact ⟨fun ⟨p,hp,hx⟩=>⟨k.mem hp hx,p,hp,hx⟩,fun ⟨_,p,hp,hx⟩=>⟨p,hp,hx⟩⟩
 have hl:(_I (_qt h)).length < 64:=by
  rw [e];exact lt_of_le_of_lt (_xr h) (by decide)
 rw [<- e];exact _qic h hh (fun p hp=>le_trans (k.len p hp) (by decide)) hl
theorem _qog (g:List Nat):_Jl (plD g)=some (g.map fun (i:Nat)=>D.int (i:Int)):=by simp [plD]
def pAt (P:List Rat) (i:Nat):Rat:=P.getD i 0
def _qsz (h:List _qud) (P:List Rat) (c:Int):Rat:=_Xp (_qu4 h [c]) fun i=>(wAt h i:Rat) * pAt P i
def _j9 (h:List _qud) (P:List Rat) (c:Int):Rat:=if (_qsq h:Rat) - _qsz h P c <= 0 then 0 else ((_qsq h:Rat) - _qsz h P c) / (wG h (_qu4 h [c]):Rat)
theorem _qmd (l:List Int):((l.sum:Int):Rat)=(l.map fun (n:Int)=>(n:Rat)).sum:=by
 induction l with
 | nil=>rfl
 | cons a l ih=>simp [ih]
theorem _qf0 (h:List _qud):_qsq h=wG h (Ar h.length):=by
 unfold _qsq wG;congr 1;apply ext_getElem
 ·simp
 ·intro i h1 h2
  simp at h1;simp [wAt,h1]
structure okW (h:List _qud):Prop where
 pos:∀ p∈h,1 <= p.1
 lt:∀ p∈h,p.1 < 2 ^ 72
 len:h.length <= 16
theorem okW.at0 {h:List _qud} (k:okW h) (i:Nat):0 <= wAt h i:=by
 unfold wAt
 by_cases hi:i < h.length
 ·rw [_xc hi]; have:=k.pos _ (getElem_mem hi); omega
 ·simp [List.getD,hi]
theorem okW.at1 {h:List _qud} (k:okW h) {i:Nat} (hi:i < h.length):1 <= wAt h i:=by
 unfold wAt;rw [_xc hi]; exact k.pos _ (getElem_mem hi)
theorem okW.atlt {h:List _qud} (k:okW h) (i:Nat):wAt h i < 2 ^ 72:=by
 unfold wAt
 by_cases hi:i < h.length
 ·rw [_xc hi]; exact k.lt _ (getElem_mem hi)
 ·simp [List.getD,hi]
theorem _Vk {h:List _qud} (k:okW h):∀ g:List Nat,0 <= wG h g/\wG h g <= (g.length:Int) * 2 ^ 72
 | []=>by simp [wG]
 | i :: g=>by
  obtain ⟨a,b⟩:=_Vk k g;have h1:=k.at0 i;have h2:=k.atlt i;have e:wG h (i :: g)=wAt h i + wG h g:=by simp [wG]
  have e2:(((i :: g).length:Nat):Int) * 2 ^ 72=(g.length:Int) * 2 ^ 72 + 2 ^ 72:=by
   rw [length_cons,Int.natCast_add,Int.add_mul]; simp
  rw [e,e2];omega
theorem _qju {h:List _qud} (k:okW h) {g:List Nat} (hg:g.length <= 16):0 <= wG h g/\wG h g <= 2 ^ 76:=by
 obtain ⟨a,b⟩:=_Vk k g;refine ⟨a,Fi b ?_⟩
 have:(g.length:Int) * 2 ^ 72 <= 16 * 2 ^ 72:=Gd (by omega) (by decide)
 exact Fi this (by decide)
theorem _W4 {h:List _qud} (k:okW h):0 <= _qsq h/\_qsq h <= 2 ^ 76:=by
 rw [_qf0];exact _qju k (by simpa using k.len)
theorem _W3 {h:List _qud} (k:okW h) {g:List Nat} (hne:g ≠ []) (hg:∀ i∈g,i < h.length):1 <= wG h g:=by
 cases g with
 | nil=>exact absurd rfl hne
 | cons i g =>
  have e:wG h (i :: g)=wAt h i + wG h g:=by simp [wG]
  have:=k.at1 (hg i (by simp))
  have:=(_Vk k g).1
  omega
theorem _z1 {h:List _qud} {c:Int} (hc:c∈_s h):_qu4 h [c] ≠ []:=by
 obtain ⟨hs,ha⟩:=Ay.mp hc;obtain ⟨p,hp,hl⟩:=List.any_eq_true.mp ha;obtain ⟨i,hi,rfl⟩:=getElem_of_mem hp;refine List.ne_nil_of_mem (a:=i) (Ay.mpr ⟨A0.mpr hi,?_⟩);rw [getElem?_eq_getElem hi];simpa [atB,_xq] using hl
def _K (f:Option (Int × Rat)) (o:Int × Rat):Option (Int × Rat):=match f with
 | none=>some o
 | some a=>if o.2 < a.2 then some o else some a
def _O (l:List (Int × Rat)):Option (Int × Rat):=l.foldl _K none
def _jd (h:List _qud) (P:List Rat) (ch:List Int) (seats:Int):List (Int × Rat):=if seats <= (ch.length:Int) then [] else ((_s h).filter fun c=>!has ch c).map fun c=>(c,_j9 h P c)
def _Q (h:List _qud) (P:List Rat) (o:Int × Rat):List Rat:=(Ar P.length).map fun i=>if _qtm (_qu4 h [o.1]) i=true then 0 else pAt P i + o.2
def _Kl (h:List _qud) (seats:Int):Nat->List Rat->List Int->List (Int × Rat × List Rat)
 | 0,_,_=>[]
 | n + 1,P,ch=>match _O (_jd h P ch seats) with
  | none=>[]
  | some o=>(o.1,o.2,_Q h P o) :: _Kl h seats n (_Q h P o) (ch++[o.1])
theorem _x8 {P:List Rat} {i:Nat} (h:i < P.length):pAt P i∈P:=by unfold pAt; rw [_xc h]; exact getElem_mem h
theorem _jt {l:List (Int × Rat)} {o:Int × Rat} (h:_O l=some o):o∈l:=by
 have key:∀ (l:List (Int × Rat)) (f:Option (Int × Rat)) (o:Int × Rat),l.foldl _K f=some o->o∈l \/ f=some o:=by
  intro l
  induction l with
  | nil=>intro f o h; exact .inr h
  | cons a l ih =>
   intro f o h;rcases ih _ _ h with h | h
   ·exact .inl (by simp [h])
   ·cases f with
    | none=>simp [_K] at h; exact .inl (by simp [h])
    | some b =>
     simp only [_K] at h;split at h
     ·simp at h; exact .inl (by simp [h])
     ·exact .inr h
 rcases key l none o h with h | h
 ·exact h
 ·cases h
theorem _ke {h:List _qud} (k:okW h) (P:List Rat) (c:Int):0 <= _j9 h P c:=by
 unfold _j9;split
 ·exact Mf
 ·rename_i hn
  have h1:(0:Rat) <= (wG h (_qu4 h [c]):Rat):=by exact_mod_cast (_Vk k _).1
  have h2:(0:Rat) <= (_qsq h:Rat) - _qsz h P c:=by grind
  rw [Rat.div_def];refine Rat.mul_nonneg h2 ?_
  by_cases h3:(wG h (_qu4 h [c]):Rat)=0
  ·rw [h3]; simp
  ·exact Fu (Rat.inv_pos.mpr (by grind))
theorem _Wa {h:List _qud} (k:okW h) {P:List Rat} (hP:∀ q∈P,(0:Rat) <= q) (c:Int):0 <= _qsz h P c:=by
 refine _kh fun i _=>Rat.mul_nonneg (by exact_mod_cast k.at0 i) ?_;unfold pAt
 by_cases hi:i < P.length
 ·rw [_xc hi]; exact hP _ (getElem_mem hi)
 ·simp [List.getD,hi]
theorem _W2 {h:List _qud} (k:okW h) {P:List Rat} (hP:∀ q∈P,(0:Rat) <= q) {c:Int} (hc:c∈_s h):_j9 h P c <= ((2 ^ 80:Nat):Rat):=by
 unfold _j9;have hN:(_qsq h:Rat) <= ((2 ^ 80:Nat):Rat):=by
  have:=(_W4 k).2
  have h2:_qsq h <= ((2 ^ 80:Nat):Int):=Fi this (by decide);rw [<- _x9];exact Rat.intCast_le_intCast.mpr h2
 split
 ·exact_mod_cast zero_le _
 ·have h1:(1:Rat) <= (wG h (_qu4 h [c]):Rat):=by exact_mod_cast _W3 k (_z1 hc) (_qk h [c])
  have h2:=_Wa k hP c;generalize hx:((_qsq h:Rat) - _qsz h P c) / (wG h (_qu4 h [c]):Rat)=x;generalize (wG h (_qu4 h [c]):Rat)=W at *;have hW:W ≠ 0:=by grind
  have e:x * W=(_qsq h:Rat) - _qsz h P c:=by rw [<- hx,C6 hW]
  false_or_by_contra;rename_i hgt;have hgt':((2 ^ 80:Nat):Rat) < x:=by grind
  have hx0:(0:Rat) <= x:=by
   have:(0:Rat) <= ((2 ^ 80:Nat):Rat):=by exact_mod_cast zero_le _
   grind
  have:x * 1 <= x * W:=Dz h1 hx0
  grind
theorem _Zc {D:Nat}:∀ (l:List Nat) (f:Nat->Rat),(∀ i∈l,_que D (f i))->_que D (_Xp l f)
 | [],f,_=>⟨0,by simp [_Xp]⟩
 | i :: l,f,h=>by
  rw [_zp];exact (h i (by simp)).add (_Zc l f fun j m=>h j (by simp [m]))
theorem _Va {h:List _qud} (k:okW h) {P:List Rat} {t:Nat} (hs:_zc t P) (hl:P.length=h.length) {c:Int} (hc:c∈_s h):_zc (t + 1) (_Q h P (c,_j9 h P c)):=by
 obtain ⟨D,h1,h2,h3⟩:=hs;have hP:∀ q∈P,(0:Rat) <= q:=fun q m=>(h3 q m).2.1;have hW1:=_W3 k (_z1 hc) (_qk h [c]);have hW2:=(_qju k (g:=_qu4 h [c]) (le_trans (_wg h [c]) k.len)).2;obtain ⟨W,hW⟩:∃ W:Nat,wG h (_qu4 h [c])=(W:Int):=⟨(wG h (_qu4 h [c])).toNat,by omega⟩;rw [hW] at hW1 hW2;have hWlt:W < 2 ^ 80:=by
  have:(W:Int) < ((2 ^ 80:Nat):Int):=Li hW2 (by decide)
  exact_mod_cast this
 have hWp:0 < W:=by omega
 have hoS:_que D (_qsz h P c):=_Zc _ _ fun i hi=>by
  have:=_qk h [c] i hi
  have o:=(h3 _ (_x8 (P:=P) (i:=i) (by omega))).1;rw [Jk];exact o.mulInt _
 have hoW:_que (W * D) (_j9 h P c):=by
  unfold _j9;split
  ·exact _vf _ 0
  ·have o2:_que D ((_qsq h:Rat) - _qsz h P c):=(_vf D _).sub hoS
   obtain ⟨x,hx⟩:=o2;refine ⟨x,?_⟩;rw [hW];have hne:((W:Int):Rat) ≠ 0:=by
    have:(0:Rat) < ((W:Int):Rat):=by exact_mod_cast hW1
    grind
   have e1:((W * D:Nat):Rat)=((W:Int):Rat) * (D:Rat):=by simp [_x9]
   rw [e1,<- Eh,C6 hne];exact hx
 have hx0:=_ke k P c;have hx1:=_W2 k hP hc;have hcast:(((t + 1) * 2 ^ 80:Nat):Rat)=((t * 2 ^ 80:Nat):Rat) + ((2 ^ 80:Nat):Rat):=by
  rw [Nat.add_mul,Nat.one_mul]
  simp
 refine ⟨W * D,mul_pos hWp h1,?_,fun q hq=>?_⟩
 ·have:W * D < 2 ^ 80 * 2 ^ (80 * t + 1):=by
   calc W * D < 2 ^ 80 * D:=Er hWlt h1
    _ <= 2 ^ 80 * 2 ^ (80 * t + 1):=Kt _ (le_of_lt h2)
  rw [<- pow_add] at this;rw [show 80 * (t + 1) + 1=80 + (80 * t + 1) by omega];exact this
 ·obtain ⟨i,hi,rfl⟩:=Ah.mp hq
  have hi':=A0.mp hi;have hz:(0:Rat) <= (((t + 1) * 2 ^ 80:Nat):Rat):=by exact_mod_cast zero_le _
  split
  ·exact ⟨_vf _ 0,Mf,hz⟩
  ·obtain ⟨o,q0,q1⟩:=h3 _ (_x8 hi')
   refine ⟨(o.dvd (Nat.dvd_mul_left D W)).add hoW,?_,?_⟩
   ·grind
   ·rw [hcast]
    grind
theorem _qcf (h:List _qud) (P:List Rat) (o:Int × Rat):(_Q h P o).length=P.length:=by simp [_Q]
theorem _qit:∀ (n:Nat) (p q:Option O) (c:Option O) (a b:Nat),b=n->∃ c',_z4 (qV (f2 dNe (_qtq 3) (fC (.int 0)))) _vo [p,q,some (.sh (.int (a:Int))),some (.sh (.int (b:Int))),c]=some (.nx [p,q,some (.sh (.int (Ij a b:Int))),some (.sh (.int 0)),c']):=by
 intro n
 induction n using Nat.strongRecOn with
 | ind n ih =>
  intro p q c a b hn
  by_cases hb:b=0
  ·subst hb
   exact ⟨c,by simpa using _jb (by simp)⟩
  ·have hb':(b:Int) ≠ 0:=by omega
   have e:(a:Int).fmod (b:Int)=((a % b:Nat):Int):=by rw [Et _ (by omega)]; rfl
   obtain ⟨c',h⟩:=ih (a % b) (by rw [<- hn]; exact mod_lt _ (by omega)) p q (some (.sh (.int ((a % b:Nat):Int)))) b (a % b) rfl;refine ⟨c',_vp (by simp [hb]) ?_ (by rw [h,Nat.gcd_comm a b,Nat.gcd_rec b a,Nat.gcd_comm])⟩;simp [_vo,_qbv hb',e]
theorem _qml (a b:Int):_j3 [.int a,.int b]=some (.int (Ds a b)):=by
 obtain ⟨c',h⟩:=_qit _ (some (.sh (.int a))) (some (.sh (.int b))) none a.natAbs b.natAbs rfl;simp [_j3,_qt4,_qt2,ini,_Jh,_qqb,h,Ds]
theorem _Qg (t b:Int) (hb:0 < b) (ht:Sz 8000 t) (hb':Sz 8000 b):_xn [.int t,.int b]=some (.tup [.int (nf1 t b),.int (nf2 t b)]):=by
 have hg:=_Zv (t:=t) hb;have hz:(Ds t b:Int) ≠ 0:=by omega
 have hB:(Ds t b:Int).natAbs < BIGD:=_qca (k:=8000) (by rw [Bb]; exact _qpl ht hb') (by decide);have e1:t.fdiv (Ds t b:Int)=nf1 t b:=Iz (Int.gcd_dvd_left t b);have e2:b.fdiv (Ds t b:Int)=nf2 t b:=Iz (Int.gcd_dvd_right t b);have h0:¬ b=0:=by omega
 have h1:¬ b < 0:=by omega
 simp [_xn,_qt4,_qt2,ini,_qch,_qml,h0,h1,_qbx hz hB,e1,e2,_qug]
section
variable {p q r s:Int} (hq:0 < q) (hs:0 < s) (zp:Sz 2000 p) (zq:Sz 2000 q) (zr:Sz 2000 r) (zs:Sz 2000 s)
include hq hs zp zq zr zs
theorem _ql1:_J0 [.tup [.int p,.int q],.tup [.int r,.int s]]=some (.tup [.int (nf1 (p * s + r * q) (q * s)),.int (nf2 (p * s + r * q) (q * s))]):=by
 have m1:=_qw (zp.big (by decide)) (zs.big (by decide));have m2:=_qw (zr.big (by decide)) (zq.big (by decide));have m3:=_qw (zq.big (by decide)) (zs.big (by decide));have sh:=_Qg (p * s + r * q) (q * s) (Go hq hs) (((zp.mul zs).add (zr.mul zq)).mono (by decide)) ((zq.mul zs).mono (by decide));simp [_J0,_qt4,_qt2,ini,_qjn,m1,m2,m3,sh]
end
theorem _qjm {p q r s:Int} (hp:Sz 2000 p) (hq:Sz 2000 q) (hr:Sz 2000 r) (hs:Sz 2000 s):_vt [.tup [.int p,.int q],.tup [.int r,.int s]]=some (.bl (decide (p * s < r * q))):=by
 simp [_vt,_qt4,_qt2,ini,_qcn,_qw (hp.big (by decide)) (hs.big (by decide)),_qw (hr.big (by decide)) (hq.big (by decide))]
section
variable {a b:Rat} (ha:Bd 2000 2000 a) (hb:Bd 2000 2000 b)
include ha hb
theorem _qof:_J0 [frD a,frD b]=some (frD (a + b)):=by
 have h:=_ql1 (den_pos a) (den_pos b) ha.num ha.den hb.num hb.den;have e:=nf_mk (t:=a.num * b.den + b.num * a.den) (b:=a.den * b.den) (mul_ne_zero a.den_nz b.den_nz);rw [Int.natCast_mul] at e;rw [_qnn] at e;rw [<- e]; exact h
theorem _qge:_vt [frD a,frD b]=some (.bl (decide (a < b))):=by
 have h:=_qjm ha.num ha.den hb.num hb.den;have e:decide (a < b)=decide (a.num * b.den < b.num * a.den):=by rw [A5]; simp [Rat.lt_iff]
 rw [e]; exact h
end
section
variable {p q r s:Int} (hq:0 < q) (hs:0 < s) (zp:Sz 2000 p) (zq:Sz 2000 q) (zr:Sz 2000 r) (zs:Sz 2000 s)
include hq hs zp zq zr zs
theorem _qi4:_w4 [.tup [.int p,.int q],.tup [.int r,.int s]]=some (.tup [.int (nf1 (p * s - r * q) (q * s)),.int (nf2 (p * s - r * q) (q * s))]):=by
 have m1:=_qw (zp.big (by decide)) (zs.big (by decide));have m2:=_qw (zr.big (by decide)) (zq.big (by decide));have m3:=_qw (zq.big (by decide)) (zs.big (by decide));have sh:=_Qg (p * s - r * q) (q * s) (Go hq hs) (((zp.mul zs).sub (zr.mul zq)).mono (by decide)) ((zq.mul zs).mono (by decide));simp [_w4,_qt4,_qt2,ini,_qci,m1,m2,m3,sh]
end
section
variable {a b:Rat} (ha:Bd 2000 2000 a) (hb:Bd 2000 2000 b)
include ha hb
theorem _qlx:_w4 [frD a,frD b]=some (frD (a - b)):=by
 have h:=_qi4 (den_pos a) (den_pos b) ha.num ha.den hb.num hb.den;have e:=nf_mk (t:=a.num * b.den - b.num * a.den) (b:=a.den * b.den) (mul_ne_zero a.den_nz b.den_nz);rw [Int.natCast_mul] at e;rw [_qkh] at e;rw [<- e]; exact h
end
theorem _qgb (l:List Rat) {t:Nat} (hs:_zc t l) (ht:t <= 20):_z [_qs l]=some (.int (cb l:Nat)):=by
 obtain ⟨ρ',e1,c,c',e2⟩:=_Q3 (inj:=frD) (g:=gTp [(gN 2),(gN 3)]) (b:=_qx) (fun pre ρ=>∃ c c',ρ=[some (.sh (_qs l)),some (.sh (.int (cb pre:Nat))),c,c']) l [some (.sh (_qs l)),some (.sh (.int 1)),none,none] ⟨_,_,rfl⟩ (by
  rintro pre q post ρ e ⟨c,c',rfl⟩;have hq:q∈l:=by rw [e]; simp
  have hb:=(hs.sub (Q:=pre) fun r hr=>by rw [e]; simp [hr]).cb ht;have hd:=(hs.bd ht hq).2;have g1:=_qml (cb pre:Nat) (q.den:Nat);have eg:(Ds ((cb pre:Nat):Int) (q.den:Int))=Ij (cb pre) q.den:=rfl;rw [eg] at g1;have gp:0 < Ij (cb pre) q.den:=Nat.gcd_pos_of_pos_left _ (_qc4 pre);have gl:Ij (cb pre) q.den <= q.den:=Nat.gcd_le_right _ q.den_pos;have d1:_qtw (.int (q.den:Int)) (.int (Ij (cb pre) q.den:Nat))=some (.int ((q.den / Ij (cb pre) q.den:Nat):Int)):=by
   rw [_qbx (by omega) (_qca (k:=1700) (by rw [Bb]; omega) (by decide)),_qbl]
  have m1:_qtu (.int (cb pre:Nat)) (.int ((q.den / Ij (cb pre) q.den:Nat):Int))=some (.int ((cbF (cb pre) q:Nat):Int)):=by
   rw [_qw (_qcb (k:=1700) (by rw [Bb]; exact hb) (by decide)) (_qcb (k:=1700) (by rw [Bb]; exact lt_of_le_of_lt (Jt _ _) hd) (by decide))];simp [cbF]
  rw [_qn8];have hg:gTp [(gN 2),(gN 3)] (frD q) [some (.sh (_qs l)),some (.sh (.int (cb pre:Nat))),c,c']=some [some (.sh (_qs l)),some (.sh (.int (cb pre:Nat))),some (.sh (.int q.num)),some (.sh (.int (q.den:Nat)))]:=rfl;generalize cbF (cb pre) q=z at *;generalize q.den / Ij (cb pre) q.den=y at *;simp only [Goes,hg];simp [_qx,g1,d1,m1])
 simp [_z,_qt4,_qt2,ini,_jn,_qu3,_qug,e1,e2]
theorem _qf3 (l:List Rat) {t:Nat} (hs:_zc t l) (ht:t <= 20) (b:Nat) (hb:b < 2 ^ 1700) (hl:l.length <= 1000):_qp [.int (b:Int),_qs l]=some (_y (l.map (_qsu b))):=by
 have hc:_v0 (_qto [(geN 0),(geN 1)]) qT (oE (f2 _qtu (_qtq 0) (f2 _qtw (_qtq 2) (_qtq 1)))) (l.map frD) [none,none,some (.int (b:Int))]=some (l.map fun q=>O.sh (.int (_qsu b q))):=by
  have:=_B (inj:=frD) (g:=_qto [(geN 0),(geN 1)]) (c:=qT) (e:=oE (f2 _qtu (_qtq 0) (f2 _qtw (_qtq 2) (_qtq 1)))) (fun ρ=>∃ d d',ρ=[d,d',some (.int (b:Int))]) (fun _=>true) (fun q=>O.sh (.int (_qsu b q))) l [none,none,some (.int (b:Int))] ⟨_,_,rfl⟩ (by
   rintro q hq ρ ⟨d,d',rfl⟩;have hd:=(hs.bd ht hq).2;have hn:=(hs.bd ht hq).num;have d1:_qtw (.int (b:Int)) (.int (q.den:Int))=some (.int ((b / q.den:Nat):Int)):=by
    rw [_qbx (by have:=q.den_pos; omega) (_qca (k:=1700) (by rw [Bb]; exact hd) (by decide)),_qbl]
   have m1:_qtu (.int q.num) (.int ((b / q.den:Nat):Int))=some (.int (_qsu b q)):=by
    rw [_qw (hn.big (by decide)) (_qcb (k:=1700) (by rw [Bb]; exact lt_of_le_of_lt (Jt _ _) hb) (by decide))];rfl
   refine ⟨[some (.int q.num),some (.int (q.den:Int)),some (.int (b:Int))],rfl,⟨_,_,rfl⟩,rfl,fun _=>?_⟩;generalize _qsu b q=z at *;generalize b / q.den=y at *;simp [d1,m1])
  rwa [Av.mpr (by simp)] at this
 have hd:oDs (l.map fun q=>O.sh (.int (_qsu b q)))=some ((l.map (_qsu b)).map .int):=by
  have:=_zu (f:=fun q:Rat=>O.sh (.int (_qsu b q))) (g:=fun q=>D.int (_qsu b q)) (fun p=>by simp) l
  rw [this,map_map]; rfl
 have hl':l.length <= 100000:=by omega
 simp [_qp,_qt4,_qt2,ini,_vn,_zv,mkD,hl',_qug,hc,hd,-map_map];rfl
def tAt (T:List Int) (i:Nat):Int:=T.getD i 0
def _qsp (h:List _qud) (T:List Int) (g:List Nat):Int:=(g.map fun i=>wAt h i * tAt T i).sum
theorem _Wz (h:List _qud) (k:okW h) (T:List Int) (hT:∀ x∈T,Sz 3600 x) (g:List Nat) (hg:∀ i∈g,i < h.length) (hg2:∀ i∈g,i < T.length) (hl:g.length <= 1000):_zy [_F h,_y T,plD g]=some (.int (_qsp h T g)):=by
 have hc:_v0 (geN 0) qT (oE (f2 _qtu (f2 dIx (f2 dIx (_qtq 2) (_qtq 0)) (fC (.int 0))) (f2 dIx (_qtq 1) (_qtq 0)))) (g.map fun (i:Nat)=>D.int (i:Int)) [none,some (_y T),some (_F h)]=some (g.map fun i=>O.sh (.int (wAt h i * tAt T i))):=by
  have:=_B (inj:=fun (i:Nat)=>D.int (i:Int)) (g:=geN 0) (c:=qT) (e:=oE (f2 _qtu (f2 dIx (f2 dIx (_qtq 2) (_qtq 0)) (fC (.int 0))) (f2 dIx (_qtq 1) (_qtq 0)))) (fun ρ=>∃ d,ρ=[d,some (_y T),some (_F h)]) (fun _=>true) (fun i=>O.sh (.int (wAt h i * tAt T i))) g [none,some (_y T),some (_F h)] ⟨_,rfl⟩ (by
   rintro i hi ρ ⟨d,rfl⟩;have hx:=_qb7 (hg i hi);have hx2:=_qb6 (hg2 i hi);have hw:wAt h i=(h[i]'(hg i hi)).1:=by unfold wAt; rw [_xc (hg i hi)]
   have ht:tAt T i=T[i]'(hg2 i hi):=_xc (hg2 i hi);have hz:=hT _ (getElem_mem (hg2 i hi));have w0:=k.at0 i;have w1:=k.atlt i;have m1:_qtu (.int (h[i]'(hg i hi)).1) (.int (T[i]'(hg2 i hi)))=some (.int (wAt h i * tAt T i)):=by
    rw [ht,hw];exact _qw (_qcb (k:=72) (by rw [<- hw]; omega) (by decide)) (hz.big (by decide))
   refine ⟨_,rfl,⟨_,rfl⟩,rfl,fun _=>?_⟩;generalize wAt h i * tAt T i=z at *;simp [hx,hx2,m1])
  rwa [Av.mpr (by simp)] at this
 have hd:oDs (g.map fun i=>O.sh (.int (wAt h i * tAt T i)))=some ((g.map fun i=>wAt h i * tAt T i).map D.int):=by
  have:=_zu (f:=fun i:Nat=>O.sh (.int (wAt h i * tAt T i))) (g:=fun i=>D.int (wAt h i * tAt T i)) (fun p=>by simp) g
  rw [this,map_map]; rfl
 have hl':g.length <= 100000:=by omega
 have hlo:_Jl (plD g)=some (g.map fun (i:Nat)=>D.int (i:Int)):=by simp [plD]
 generalize hv:(g.map fun i=>wAt h i * tAt T i)=vals at *;simp [_zy,_qt4,_qt2,ini,_Je,_zv,mkD,hl',_qug,hlo,hc,hd,dSum,_v2,_qsp,hv,-map_map]
theorem _qcu (h:List _qud) (P:List Rat) (b:Nat) (hb:∀ q∈P,q.den ∣ b) (g:List Nat) (hg:∀ i∈g,i < P.length):(_qsp h (P.map (_qsu b)) g:Rat)=(_Xp g fun i=>(wAt h i:Rat) * pAt P i) * (b:Rat):=by
 unfold _qsp;rw [_qmd,map_map,<- _Vp];unfold _Xp;congr 1;refine map_congr_left fun i hi=>?_;have h1:=hg i hi;have h2:tAt (P.map (_qsu b)) i=_qsu b P[i]:=by rw [tAt,_xc (by simpa using h1)]; simp
 have h3:pAt P i=P[i]:=_xc h1;simp only [Ii];rw [h2,h3]
 have:=_qf4 (hb _ (getElem_mem h1))
 have e:((wAt h i * _qsu b P[i]:Int):Rat)=(wAt h i:Rat) * (_qsu b P[i]:Rat):=by simp
 rw [e,this,Eh]
theorem _qk5 (h:List _qud) (k:okW h) (P:List Rat) (hl:P.length=h.length) {t:Nat} (hs:_zc t P) (ht:t <= 20) (c:Int) (hc:c∈_s h):_Zk [_F h,_qs P,.int c]=some (frD (_j9 h P c)):=by
 have hh:=k.len;have l1:=_v6 h c (by omega);rw [_K8] at l1;have hlen:=_wg h [c];have b1:=_qgb P hs ht;have hb:=hs.cb ht;have t1:=_qf3 P hs ht (cb P) hb (by omega);have hTz:∀ x∈P.map (_qsu (cb P)),Sz 3600 x:=fun x hx=>by
  obtain ⟨q,hq,rfl⟩:=Ah.mp hx;exact hs.top ht hq hb
 have w1:=_Wz h k (P.map (_qsu (cb P))) hTz (_qu4 h [c]) (_qk h [c]) (fun i hi=>by simp; have:=_qk h [c] i hi; omega) (by omega);have w2:=_kc h (by omega);have w3:=_kd h (_qu4 h [c]) (_qk h [c]) (by omega);have hN:=_W4 k;have hW:=_qju k (g:=_qu4 h [c]) (by omega);have hW1:=_W3 k (_z1 hc) (_qk h [c]);have zN:Sz 77 (_qsq h):=by show _ < _; omega
 have zW:Sz 77 (wG h (_qu4 h [c])):=by show _ < _; omega
 have zb:Sz 1700 ((cb P:Nat):Int):=by show _ < _; rw [Bb]; exact hb
 have m1:=_qw (zN.big (by decide)) (zb.big (by decide));have m2:=_qw (zW.big (by decide)) (zb.big (by decide));have hbp:=_qc4 P;have key:((_qsq h * (cb P:Nat) - _qsp h (P.map (_qsu (cb P))) (_qu4 h [c]):Int):Rat)=((_qsq h:Rat) - _qsz h P c) * ((cb P:Nat):Rat):=by
  have e:=_qcu h P (cb P) (fun q hq=>_qn9 hq) (_qu4 h [c]) (fun i hi=>by have:=_qk h [c] i hi; omega);have e2:((_qsq h * ((cb P:Nat):Int) - _qsp h (P.map (_qsu (cb P))) (_qu4 h [c]):Int):Rat)=(_qsq h:Rat) * ((cb P:Nat):Rat) - (_qsp h (P.map (_qsu (cb P))) (_qu4 h [c]):Rat):=by simp [_x9]
  rw [e2,e];unfold _qsz;grind
 have zs:Sz 3700 (_qsp h (P.map (_qsu (cb P))) (_qu4 h [c])):=by
  have gen:∀ g:List Nat,(∀ i∈g,i < P.length)->(_qsp h (P.map (_qsu (cb P))) g).natAbs <= g.length * 2 ^ 3672:=by
   intro g
   induction g with
   | nil=>intro _; simp [_qsp]
   | cons i g ih =>
    intro hi;have h1:=ih fun j m=>hi j (by simp [m]);have h2:=hi i (by simp);have e:_qsp h (P.map (_qsu (cb P))) (i :: g)=wAt h i * tAt (P.map (_qsu (cb P))) i + _qsp h (P.map (_qsu (cb P))) g:=by simp [_qsp]
    have h3:Sz 3600 (tAt (P.map (_qsu (cb P))) i):=by rw [tAt,_xc (by simpa using h2)]; exact hTz _ (getElem_mem _)
    have w0:=k.at0 i;have wl:=k.atlt i;have h4:Sz 72 (wAt h i):=by show _ < _; omega
    have h5:(wAt h i * tAt (P.map (_qsu (cb P))) i).natAbs < 2 ^ (72 + 3600):=h4.mul h3;rw [e,length_cons,Nat.add_mul,Nat.one_mul];have h6:=Int.natAbs_add_le (wAt h i * tAt (P.map (_qsu (cb P))) i) (_qsp h (P.map (_qsu (cb P))) g);omega
  have g1:=gen (_qu4 h [c]) fun i hi=>by have:=_qk h [c] i hi; omega
  have g2:(_qu4 h [c]).length * 2 ^ 3672 <= 16 * 2 ^ 3672:=Ex _ (by omega);have g3:16 * 2 ^ 3672 < 2 ^ 3700:=by
   have:16 * 2 ^ 3672=2 ^ 3676:=by rw [show 3676=4 + 3672 by decide,pow_add]
   rw [this];exact Nat.pow_lt_pow_right (by decide) (by decide)
  exact lt_of_le_of_lt (le_trans g1 g2) g3
 have zm:Sz 3701 (_qsq h * (cb P:Nat) - _qsp h (P.map (_qsu (cb P))) (_qu4 h [c])):=((zN.mul zb).mono (by decide)).sub zs;generalize hmiss:_qsq h * ((cb P:Nat):Int) - _qsp h (P.map (_qsu (cb P))) (_qu4 h [c])=miss at *;have hf:=_Qq (_qu4 h [c]);have hbr:(0:Rat) < ((cb P:Nat):Rat):=by exact_mod_cast hbp
 by_cases cm:miss <= 0
 ·have hle:(_qsq h:Rat) - _qsz h P c <= 0:=by
   false_or_by_contra;rename_i hgt
   have:(0:Rat) < (_qsq h:Rat) - _qsz h P c:=by grind
   have h2:=Rat.mul_pos this hbr;rw [<- key] at h2
   have:(miss:Rat) <= 0:=by exact_mod_cast cm
   grind
  have e0:_j9 h P c=0:=by unfold _j9; rw [if_pos hle]
  rw [e0];simp [_Zk,_qt4,_qt2,ini,_qeu,l1,b1,w2,hf,t1,w1,m1,hmiss,cm,_qug];rfl
 ·have hgt:¬ (_qsq h:Rat) - _qsz h P c <= 0:=fun hle=>by
   have:(0:Rat) < (miss:Rat):=by
    have:0 < miss:=by omega
    exact_mod_cast this
   rw [key] at this;have h2:((_qsq h:Rat) - _qsz h P c) * ((cb P:Nat):Rat) <= 0 * ((cb P:Nat):Rat):=Cl hle (Fu hbr);grind
  have sh:=_Qg miss (wG h (_qu4 h [c]) * (cb P:Nat)) (Go (by omega) (by omega)) (zm.mono (by decide)) ((zW.mul zb).mono (by decide));obtain ⟨W,hWn⟩:∃ W:Nat,wG h (_qu4 h [c])=(W:Int):=⟨(wG h (_qu4 h [c])).toNat,by omega⟩;have hne:W * cb P ≠ 0:=mul_ne_zero (by omega) (by omega);have e1:wG h (_qu4 h [c]) * ((cb P:Nat):Int)=((W * cb P:Nat):Int):=by rw [hWn]; simp
  have e2:=nf_mk (t:=miss) hne;rw [<- e1] at e2;rw [e2] at sh;have e3:mkRat miss (W * cb P)=_j9 h P c:=by
   unfold _j9;rw [if_neg hgt,hWn];have hWr:((W:Int):Rat) ≠ 0:=by
    have:(0:Rat) < ((W:Int):Rat):=by
     have:0 < (W:Int):=by omega
     exact_mod_cast this
    grind
   have hbr':((cb P:Nat):Rat) ≠ 0:=by grind
   have e4:mkRat miss (W * cb P)=(miss:Rat) / (((W * cb P:Nat):Rat)):=by
    rw [<- Rat.divInt_ofNat,Rat.divInt_eq_div]; rfl
   have e5:((W * cb P:Nat):Rat)=((W:Int):Rat) * ((cb P:Nat):Rat):=by simp [_x9]
   rw [e4,e5,key];generalize (_qsq h:Rat) - _qsz h P c=X at *;generalize ((cb P:Nat):Rat)=B at *;generalize ((W:Int):Rat)=V at *;have hVB:V * B ≠ 0:=by
    intro hz;rcases Rat.mul_eq_zero.mp hz with hz | hz
    ·exact hWr hz
    ·exact hbr' hz
   have q1:X * B / (V * B) * (V * B)=X * B:=C6 hVB;have q2:X / V * V=X:=C6 hWr;generalize X * B / (V * B)=Y at *;generalize X / V=Z at *;grind
  rw [e3] at sh;simp [_Zk,_qt4,_qt2,ini,_qeu,l1,b1,w2,hf,t1,w1,m1,hmiss,cm,w3,m2,sh,_qug]
def _qtd (o:Int × Rat):D:=.tup [.int o.1,frD o.2]
@[simp] theorem _qqx (o:Int × Rat):imm (_qtd o)=true:=by simp [_qtd]
def _qtb:Option (Int × Rat)->D
 | none=>.non
 | some o=>_qtd o
theorem _Kk (o:Option (Int × Rat)):imm (_qtb o)=true:=by cases o <;> simp [_qtb]
def _V9 (l:List (Int × Rat)):D:=.lst (l.map _qtd)
theorem off0 (o:Int × Rat):dIx (_qtd o) (.int 0)=some (.int o.1):=_qbw
theorem off1 (o:Int × Rat):dIx (_qtd o) (.int 1)=some (frD o.2):=_qjd
theorem _qb0 (l:List (Int × Rat)) (hb:∀ o∈l,Bd 2000 2000 o.2):_xp [_V9 l]=some (_qtb (_O l)):=by
 have hmem:∀ pre:List (Int × Rat),(∀ o∈pre,Bd 2000 2000 o.2)->∀ o,_O pre=some o->Bd 2000 2000 o.2:=fun pre hp o ho=>hp o (_jt ho);obtain ⟨ρ',e1,c,e2⟩:=_Q3 (inj:=_qtd) (g:=gN 2) (b:=_z3) (fun pre ρ=>∃ c,ρ=[some (.sh (_V9 l)),some (.sh (_qtb (_O pre))),c]) l [some (.sh (_V9 l)),some (.sh .non),none] ⟨_,rfl⟩ (by
  rintro pre o post ρ e ⟨c,rfl⟩;have ho:=hb o (by rw [e]; simp);have es:_O (pre++[o])=_K (_O pre) o:=by simp [_O]
  rw [es];have hp:=hmem pre fun r hr=>hb r (by rw [e]; simp [hr]);cases hl:_O pre with
  | none =>
   have i0:dIs .non .non=some (.bl true):=rfl;simp [Goes,_z3,_qtb,i0,_K]
  | some a =>
   have ba:=hp a hl;have i0:dIs (_qtd a) .non=some (.bl false):=rfl;have bl:=_qge ho ba
   by_cases hlt:o.2 < a.2
   ·rw [decide_eq_true hlt] at bl
    simp [Goes,_z3,_qtb,i0,_K,off1,bl,hlt]
   ·rw [decide_eq_false hlt] at bl
    simp [Goes,_z3,_qtb,i0,_K,off1,bl,hlt])
 have hlo:_Jl (_V9 l)=some (l.map _qtd):=rfl;simp [_xp,_qt4,_qt2,ini,_qck,_qu3,_qug,hlo,e1,e2]
theorem _qez {h:List _qud} (k:okW h) {P:List Rat} (hl:P.length=h.length) {t:Nat} (hs:_zc t P) (ht:t <= 19) {c:Int} (hc:c∈_s h):Bd 2000 2000 (_j9 h P c):=by
 obtain ⟨D,h1,h2,h3⟩:=hs;have hP:∀ q∈P,(0:Rat) <= q:=fun q m=>(h3 q m).2.1;have hW1:=_W3 k (_z1 hc) (_qk h [c]);have hW2:=(_qju k (g:=_qu4 h [c]) (le_trans (_wg h [c]) k.len)).2;obtain ⟨W,hW⟩:∃ W:Nat,wG h (_qu4 h [c])=(W:Int):=⟨(wG h (_qu4 h [c])).toNat,by omega⟩;rw [hW] at hW1 hW2;have hWlt:W < 2 ^ 80:=by
  have:(W:Int) < ((2 ^ 80:Nat):Int):=Li hW2 (by decide)
  exact_mod_cast this
 have hWp:0 < W:=by omega
 have hoS:_que D (_qsz h P c):=_Zc _ _ fun i hi=>by
  have:=_qk h [c] i hi
  have o:=(h3 _ (_x8 (P:=P) (i:=i) (by omega))).1;rw [Jk];exact o.mulInt _
 have hoW:_que (W * D) (_j9 h P c):=by
  unfold _j9;split
  ·exact _vf _ 0
  ·have o2:_que D ((_qsq h:Rat) - _qsz h P c):=(_vf D _).sub hoS
   obtain ⟨x,hx⟩:=o2;refine ⟨x,?_⟩;rw [hW];have hne:((W:Int):Rat) ≠ 0:=by
    have:(0:Rat) < ((W:Int):Rat):=by exact_mod_cast hW1
    grind
   have e1:((W * D:Nat):Rat)=((W:Int):Rat) * (D:Rat):=by simp [_x9]
   rw [e1,<- Eh,C6 hne];exact hx
 have hx0:=_ke k P c;have hx1:=_W2 k hP hc;have hlt:W * D < 2 ^ (80 + (80 * t + 1)):=by
  rw [pow_add]
  calc W * D < 2 ^ 80 * D:=Er hWlt h1
   _ <= 2 ^ 80 * 2 ^ (80 * t + 1):=Kt _ (le_of_lt h2)
 have hz:(0:Rat) <= ((2 ^ 80:Nat):Rat):=by exact_mod_cast zero_le _
 exact (hoW.bd (m:=80) (mul_pos hWp h1) hlt (by grind) hx1).mono (by omega) (by omega)
theorem _qgj (h:List _qud) (kh:okH h) (k:okW h) (P:List Rat) (hl:P.length=h.length) {t:Nat} (hs:_zc t P) (ht:t <= 19) (ch:List Int) (seats:Int):_vr [_F h,_qs P,_y ch,.int seats]=some (_V9 (_jd h P ch seats)):=by
 have hh:=k.len
 by_cases c1:seats <= (ch.length:Int)
 ·simp [_vr,_qt4,_qt2,ini,_K5,c1,_qug,_jd,_V9]
 ·have lk:=_qfz h kh (by omega)
  have hz:oD (ow ((_s h).map D.int))=some (_y (_s h)):=by simp [_y]
  have hc:_v0 (geN 0) (qV (f2 _Xc (_qtq 0) (_qtq 3))) (oE (_qtr (_k (_qtq 0) (_k (_q1 3 _Zk (_k (_qtq 1) (_k (_qtq 2) (_k (_qtq 0) _qu6)))) _qu6)))) ((_s h).map D.int) [none,some (_F h),some (_qs P),some (_y ch)]=some (((_s h).filter fun c=>!has ch c).map fun c=>O.sh (_qtd (c,_j9 h P c))) :=
   _B (inj:=D.int) (fun ρ=>∃ d,ρ=[d,some (_F h),some (_qs P),some (_y ch)]) (fun c=>!has ch c) (fun c=>O.sh (_qtd (c,_j9 h P c))) (_s h) _ ⟨_,rfl⟩ (by
    rintro c hc ρ ⟨d,rfl⟩;have w:=_qk5 h k P hl hs (by omega) c hc;exact ⟨_,rfl,⟨_,rfl⟩,by simp,fun _=>by simp [w,_qug,_qtd]⟩)
  have hd:oDs (((_s h).filter fun c=>!has ch c).map fun c=>O.sh (_qtd (c,_j9 h P c)))=some ((((_s h).filter fun c=>!has ch c).map fun c=>(c,_j9 h P c)).map _qtd):=by
   have:=_zu (f:=fun c:Int=>O.sh (_qtd (c,_j9 h P c))) (g:=fun c=>_qtd (c,_j9 h P c)) (fun p=>by simp) ((_s h).filter fun c=>!has ch c)
   rw [this,map_map]; rfl
  have hll:(_s h).length <= 100000:=by have:=_xr h; omega
  have e:_jd h P ch seats=((_s h).filter fun c=>!has ch c).map fun c=>(c,_j9 h P c):=by unfold _jd; rw [if_neg c1]
  rw [e];simp [_vr,_qt4,_qt2,ini,_K5,c1,_qug,lk,hz,_zv,mkD,hll,hc,hd,_V9,-map_map]
theorem _Vl {h:List _qud} {P:List Rat} {ch:List Int} {seats:Int} {o:Int × Rat} (ho:o∈_jd h P ch seats):o.1∈_s h/\o.1 ∉ ch/\o.2=_j9 h P o.1/\(ch.length:Int) < seats:=by
 unfold _jd at ho;split at ho
 ·simp at ho
 ·obtain ⟨c,hc,rfl⟩:=Ah.mp ho
  obtain ⟨h1,h2⟩:=Ay.mp hc;refine ⟨h1,fun hm=>?_,rfl,by omega⟩;rw [_vw.mpr hm] at h2;simp at h2
theorem _qet (h:List _qud) (k:okW h) (P:List Rat) (hl:P.length=h.length) {t:Nat} (hs:_zc t P) (ht:t <= 19) (c:Int) (hc:c∈_s h):_X [_F h,_qs P,_qtd (c,_j9 h P c)]=some (_qs (_Q h P (c,_j9 h P c))):=by
 have hh:=k.len;have l1:=_v6 h c (by omega);rw [_K8] at l1;have hf:=_Qq (_qu4 h [c]);have en:_qbn (P.map frD)=(Ar P.length).map fun (i:Nat)=>D.tup [.int (i:Int),frD (pAt P i)]:=by
  rw [_Kp];apply ext_getElem
  ·simp
  ·intro i h1 h2
   simp at h1;simp [pAt,h1]
 have hwb:=_qez k hl hs ht hc;have hc2:_v0 (_qto [(geN 0),(geN 1)]) qT (oE (fIf (qV (f2 dIn (_qtq 0) (_qtq 2))) (_qtr (_k (fC (.int 0)) (_k (fC (.int 1)) _qu6))) (_q1 2 _J0 (_k (_qtq 1) (_k (f2 dIx (_qtq 3) (fC (.int 1))) _qu6))))) (_qbn (P.map frD)) [none,none,some (plD (_qu4 h [c])),some (_qtd (c,_j9 h P c))]=some ((Ar P.length).map fun i=>O.sh (frD (if _qtm (_qu4 h [c]) i=true then 0 else pAt P i + _j9 h P c))):=by
  rw [en]
  have:=_B (inj:=fun i:Nat=>D.tup [.int (i:Int),frD (pAt P i)]) (g:=_qto [(geN 0),(geN 1)]) (c:=qT) (e:=(oE (fIf (qV (f2 dIn (_qtq 0) (_qtq 2))) (_qtr (_k (fC (.int 0)) (_k (fC (.int 1)) _qu6))) (_q1 2 _J0 (_k (_qtq 1) (_k (f2 dIx (_qtq 3) (fC (.int 1))) _qu6)))))) (fun ρ=>∃ d d',ρ=[d,d',some (plD (_qu4 h [c])),some (_qtd (c,_j9 h P c))]) (fun _=>true) (fun i=>O.sh (frD (if _qtm (_qu4 h [c]) i=true then 0 else pAt P i + _j9 h P c))) (Ar P.length) [none,none,some (plD (_qu4 h [c])),some (_qtd (c,_j9 h P c))] ⟨_,_,rfl⟩ (by
   rintro i hi ρ ⟨d,d',rfl⟩;have hi':=A0.mp hi;have hpb:=(hs.bd (by omega) (_x8 hi')).mono (show 1800 <= 2000 by decide) (show 1700 <= 2000 by decide);have pl:=_qof hpb hwb;refine ⟨[some (.int (i:Int)),some (frD (pAt P i)),some (plD (_qu4 h [c])),some (_qtd (c,_j9 h P c))],rfl,⟨_,_,rfl⟩,rfl,fun _=>?_⟩;cases hi2:_qtm (_qu4 h [c]) i with
   | true =>
    simp [plD,_qmi,hi2,_qug];rfl
   | false=>simp [plD,_qmi,hi2,off1,pl])
  rwa [Av.mpr (by simp)] at this
 have hd:oDs ((Ar P.length).map fun i=>O.sh (frD (if _qtm (_qu4 h [c]) i=true then 0 else pAt P i + _j9 h P c)))=some ((_Q h P (c,_j9 h P c)).map frD):=by
  have:=_zu (f:=fun i:Nat=>O.sh (frD (if _qtm (_qu4 h [c]) i=true then 0 else pAt P i + _j9 h P c))) (g:=fun i=>frD (if _qtm (_qu4 h [c]) i=true then 0 else pAt P i + _j9 h P c)) (fun p=>by simp) (Ar P.length)
  rw [this,_Q,map_map]; rfl
 have hll:P.length <= 100000:=by omega
 generalize _j9 h P c=x at *;simp [_X,_qt4,_qt2,ini,_jm,off0,l1,hf,_qug,_qak,mkD,hll,hc2,hd];rfl
def _qt5 (r:Int × Rat × List Rat):D:=.tup [.int r.1,frD r.2.1,_qs r.2.2]
def _xe (l:List (Int × Rat × List Rat)):D:=.lst (l.map _qt5)
theorem _qfq (o:Option (Int × Rat)):_qtv (_qtb o) .non=some (.bl o.isSome):=by cases o <;> rfl
theorem _qaj (h:List _qud) (kh:okH h) (k:okW h) (P:List Rat) (hl:P.length=h.length) {t:Nat} (hs:_zc t P) (ht:t <= 19) (ch:List Int) (seats:Int):_vr [_F h,_qs P,_y ch,.int seats]=some (_V9 (_jd h P ch seats))/\_xp [_V9 (_jd h P ch seats)]=some (_qtb (_O (_jd h P ch seats))) :=
 ⟨_qgj h kh k P hl hs ht ch seats,_qb0 _ fun o ho=>by
  obtain ⟨w1,_,w2,_⟩:=_Vl ho;rw [w2];exact _qez k hl hs ht w1⟩
theorem _J7 (h:List _qud) (kh:okH h) (k:okW h) (c2:Option O) (seats:Int) (h6:seats <= 6):∀ (n:Nat) (P:List Rat) (ch:List Int) (rows:List (Int × Rat × List Rat)) (t:Nat),P.length=h.length->_zc t P->t + n <= 19->seats <= (ch.length:Int) + n->ch.length <= 100->rows.length + n <= 100 ->
  ∃ ρ',_z4 (qV (f2 _qtv (_qtq 6) (fC .non))) _Jg [some (.sh (_F h)),some (.sh (_qs P)),c2,some (.sh (.int seats)),some (ow (ch.map .int)),some (ow (rows.map _qt5)),some (.sh (_qtb (_O (_jd h P ch seats))))]=some (.nx ρ')/\∃ a1 a4 a6,ρ'=[some (.sh (_F h)),a1,c2,some (.sh (.int seats)),a4,some (ow ((rows++_Kl h seats n P ch).map _qt5)),a6]
 | 0,P,ch,rows,t,hl,hs,ht,hn,hch,hr=>by
  have e0:_jd h P ch seats=[]:=by unfold _jd; rw [if_pos (by omega)]
  rw [e0];refine ⟨_,_jb (by simp [_O,_qtb]; rfl),some (.sh (_qs P)),some (ow (ch.map .int)),some (.sh (_qtb (_O []))),?_⟩;simp only [_Kl,append_nil]
 | n + 1,P,ch,rows,t,hl,hs,ht,hn,hch,hr=>by
  cases ho:_O (_jd h P ch seats) with
  | none =>
   refine ⟨_,_jb (by simp [_qtb]; rfl),some (.sh (_qs P)),some (ow (ch.map .int)),some (.sh (_qtb none)),?_⟩;simp only [_Kl,ho,append_nil]
  | some o =>
   obtain ⟨w1,w2,w3,w4⟩:=_Vl (_jt ho);have eo:o=(o.1,_j9 h P o.1):=by rw [<- w3]
   have bh:=_qet h k P hl hs (by omega) o.1 w1;rw [<- eo] at bh;have hs':=_Va k hs hl w1;rw [<- eo] at hs';have hl':(_Q h P o).length=h.length:=by rw [_qcf]; exact hl
   have w5:(ch.length:Int) < 6:=by omega
   obtain ⟨f1,f2'⟩:=_qaj h kh k (_Q h P o) hl' hs' (by omega) (ch++[o.1]) seats;obtain ⟨ρ',e1,e2⟩:=_J7 h kh k c2 seats h6 n (_Q h P o) (ch++[o.1]) (rows++[(o.1,o.2,_Q h P o)]) (t + 1) hl' hs' (by omega) (by simp; omega) (by simp; omega) (by simp; omega);refine ⟨ρ',_vp (ρ2:=[some (.sh (_F h)),some (.sh (_qs (_Q h P o))),c2,some (.sh (.int seats)),some (ow ((ch++[o.1]).map .int)),some (ow ((rows++[(o.1,o.2,_Q h P o)]).map _qt5)),some (.sh (_qtb (_O (_jd h (_Q h P o) (ch++[o.1]) seats))))]) ?_ ?_ e1,?_⟩
   ·have:=_qfq (some o)
    simp [this]
   ·have g1:gApp (.sh (_qt5 (o.1,o.2,_Q h P o))) (ow (rows.map _qt5))=some (ow (rows.map _qt5++[_qt5 (o.1,o.2,_Q h P o)])):=_qbi (by simp [_qug]; omega)
    have g2:gApp (.sh (.int o.1)) (ow (ch.map .int))=some (ow (ch.map .int++[.int o.1])):=_qbi (by simp [_qug]; omega);have er:D.tup [.int o.1,frD o.2,_qs (_Q h P o)]=_qt5 (o.1,o.2,_Q h P o):=rfl;have ir:imm (_qt5 (o.1,o.2,_Q h P o))=false:=by simp [_qt5]
    have ec:D.lst ((ch++[o.1]).map .int)=_y (ch++[o.1]):=rfl;have ec':D.lst (ch.map D.int++[D.int o.1])=_y (ch++[o.1]):=by simp [_y]
    have io:=_Kk (_O (_jd h (_Q h P o) (ch++[o.1]) seats));have oe:_qtb (some o)=_qtd o:=rfl;generalize _Q h P o=Q at *;generalize _jd h Q (ch++[o.1]) seats=ws at *;simp [_Jg,oe,bh,off0,off1,_qug,er,ir,g1,g2,ec',f1,f2',io]
   ·obtain ⟨a1,a4,a6,e3⟩:=e2
    refine ⟨a1,a4,a6,?_⟩;rw [e3];simp only [_Kl,ho,If,J1]
theorem _qir (h:List _qud) (kh:okH h) (k:okW h) (P:List Rat) (hl:P.length=h.length) {t:Nat} (hs:_zc t P) (ht:t <= 12) (mem:List Int) (hm:mem.length <= 6) (seats:Int) (h6:seats <= 6):_J1 [_F h,_qs P,_y mem,.int seats]=some (_xe (_Kl h seats 6 P mem)):=by
 obtain ⟨f1,f2'⟩:=_qaj h kh k P hl hs (by omega) mem seats;obtain ⟨ρ',e1,a1,a4,a6,e2⟩:=_J7 h kh k (some (.sh (_y mem))) seats h6 6 P mem [] t hl hs (by omega) (by omega) (by omega) (by simp);have ec:D.lst (mem.map .int)=_y mem:=rfl;have io:=_Kk (_O (_jd h P mem seats));have er:∀ l:List (Int × Rat × List Rat),D.lst (l.map _qt5)=_xe l:=fun _=>rfl;have ir:∀ l:List (Int × Rat × List Rat),imm (_xe l)=false:=fun _=>by simp [_xe]
 simp only [map_nil,Ju] at e1 e2;generalize _jd h P mem seats=ws at *;simp [_J1,_qt4,_qt2,ini,_qcl,_qug,ec,f1,f2',io,e1,e2,er]
def lkB (h:List _qud) (i:Nat) (c:Int):Bool:=atB (fun p:_qud=>_xq p.2 [c]) h[i]?
theorem _qnk (h:List _qud) (c:Int):_qu4 h [c]=(Ar h.length).filter fun i=>lkB h i c:=rfl
theorem _qmj {h:List _qud} {c:Int} {i:Nat} (hi:i < h.length):_qtm (_qu4 h [c]) i=lkB h i c:=by
 rw [A5,_kz,_qnk,Ay];simp [hi]
theorem _Zn {l:List (Int × Rat)} {o:Int × Rat} (h:_O l=some o):∀ q∈l,o.2 <= q.2:=by
 have key:∀ (l:List (Int × Rat)) (f:Option (Int × Rat)) (o:Int × Rat),l.foldl _K f=some o->(∀ q∈l,o.2 <= q.2)/\∀ a,f=some a->o.2 <= a.2:=by
  intro l
  induction l with
  | nil=>intro f o h; exact ⟨by simp,fun a e=>by rw [List.foldl_nil] at h; rw [h] at e; cases e; exact Mf⟩
  | cons b l ih =>
   intro f o h;obtain ⟨h1,h2⟩:=ih _ _ h;cases f with
   | none =>
    have:=h2 b rfl
    exact ⟨fun q hq=>by
     rcases Al.mp hq with rfl | hq
     ·exact this
     ·exact h1 q hq,fun a e=>by cases e⟩
   | some a =>
    simp only [_K] at h2;split at h2
    ·rename_i hlt
     have:=h2 b rfl
     exact ⟨fun q hq=>by
      rcases Al.mp hq with rfl | hq
      ·exact this
      ·exact h1 q hq,fun a' e=>by cases e; grind⟩
    ·rename_i hlt
     have:=h2 a rfl
     exact ⟨fun q hq=>by
      rcases Al.mp hq with rfl | hq
      ·grind
      ·exact h1 q hq,fun a' e=>by cases e; exact this⟩
 exact (key l none o h).1
theorem _Wl {l:List (Int × Rat)} (h:_O l=none):l=[]:=by
 cases l with
 | nil=>rfl
 | cons a l =>
  exfalso;have key:∀ (l:List (Int × Rat)) (b:Int × Rat),l.foldl _K (some b) ≠ none:=by
   intro l
   induction l with
   | nil=>intro b; simp
   | cons c l ih =>
    intro b;rw [List.foldl_cons];simp only [_K];split
    ·exact ih c
    ·exact ih b
  exact key l a h
def optQ:Option Rat->D
 | none=>.non
 | some q=>frD q
def _qt9 (h:List _qud) (P:List Rat) (c:Int):List Rat:=(_qu4 h [c]).map (pAt P)
def plI (h:List _qud) (c:Int):List Int:=(_qu4 h [c]).map fun (i:Nat)=>(i:Int)
def _qty (h:List _qud) (P:List Rat) (c:Int):Nat:=cb (_qt9 h P c)
def psR (h:List _qud) (P:List Rat) (c:Int):List (Int × Int):=_ki (((_qt9 h P c).map (_qsu (_qty h P c))).zip (plI h c))
def wOf (h:List _qud) (q:Int × Int):Int × Int:=(q.1,wAt h q.2.toNat)
def rateQ (h:List _qud) (P:List Rat) (c N:Int):Option (Int × Int):=_qh6 ((psR h P c).map (wOf h)) (N * (_qty h P c:Nat)) (wG h (_qu4 h [c]))
def _vq (h:List _qud) (P:List Rat) (c N:Int):Option Rat:=(rateQ h P c N).map fun r=>mkRat r.1 (r.2.toNat * _qty h P c)
theorem _Vy (h:List _qud) (k:okW h) (x1 x2 x3 x4 x6:Option O) (b:Nat) (hb0:0 < b) (hb:b < 2 ^ 1700) (R0:Int) (hR:R0 < 2 ^ 3700):∀ (ps:List (Int × Int)) (_qt6 W:Int) (x9 x10:Option O),
  (∀ q∈ps,0 <= q.1/\Sz 3600 q.1/\∃ i:Nat,i < h.length/\q.2=(i:Int))->W=_qsy (ps.map (wOf h))->W <= 2 ^ 76->0 < _qt6->_qt6 <= R0 ->
  match _qh6 (ps.map (wOf h)) _qt6 W with
  | none=>∃ ρ',_qtp (gTp [(gN 9),(gN 10)]) _zl (ps.map pairD) [some (.sh (_F h)),x1,x2,x3,x4,some (.sh (.int (b:Int))),x6,some (.sh (.int _qt6)),some (.sh (.int W)),x9,x10]=some (.nx ρ')
  | some r=>∃ ρ',_qtp (gTp [(gN 9),(gN 10)]) _zl (ps.map pairD) [some (.sh (_F h)),x1,x2,x3,x4,some (.sh (.int (b:Int))),x6,some (.sh (.int _qt6)),some (.sh (.int W)),x9,x10]=some (.rt (.sh (frD (mkRat r.1 (r.2.toNat * b)))) ρ')
 | [],_qt6,W,x9,x10,_,_,_,_,_=>⟨_,rfl⟩
 | q :: ps,_qt6,W,x9,x10,hq,hW,hW76,hp,hrest=>by
  obtain ⟨q0,qs,i,hi,qi⟩:=hq q (by simp);have hl:∀ q∈ps,0 <= q.1/\Sz 3600 q.1/\∃ i:Nat,i < h.length/\q.2=(i:Int):=fun q hm=>hq q (by simp [hm]);have wq:wOf h q=(q.1,wAt h i):=by simp [wOf,qi]
  have w1:=k.at1 hi;have w2:=k.atlt i;have hn:0 <= _qsy (ps.map (wOf h)):=_z7 fun r hr=>by
   obtain ⟨p,hp,rfl⟩:=Ah.mp hr;obtain ⟨_,_,j,hj,pj⟩:=hl p hp
   have:=k.at1 hj
   simp only [wOf,pj,A9]; exact this
  have hW':W - wAt h i=_qsy (ps.map (wOf h)):=by
   rw [hW]; simp only [map_cons,_qsy,sum_cons,wq]; omega
  have zW:Sz 80 W:=by show W.natAbs < 2 ^ 80; omega
  have zb:Sz 1700 (b:Int):=by show (b:Int).natAbs < 2 ^ 1700; rw [Bb]; exact hb
  have zw:Sz 80 (wAt h i):=by show (wAt h i).natAbs < 2 ^ 80; omega
  have m1:=_qw (zW.big (by decide)) (qs.big (by decide));have m2:=_qw (zW.big (by decide)) (zb.big (by decide));have m3:=_qw (zw.big (by decide)) (qs.big (by decide));have hx:dIx (_F h) (.int q.2)=some (_x3 h[i]):=by rw [qi]; exact _qb7 hi
  have hp0:dIx (_x3 h[i]) (.int 0)=some (.int (wAt h i)):=by rw [_qem]; unfold wAt; rw [_xc hi]
  have hg:∀ y9 y10:Option O,gTp [(gN 9),(gN 10)] (pairD q) [some (.sh (_F h)),x1,x2,x3,x4,some (.sh (.int (b:Int))),x6,some (.sh (.int _qt6)),some (.sh (.int W)),y9,y10]=some [some (.sh (_F h)),x1,x2,x3,x4,some (.sh (.int (b:Int))),x6,some (.sh (.int _qt6)),some (.sh (.int W)),some (.sh (.int q.1)),some (.sh (.int q.2))]:=fun _ _=>rfl;rw [map_cons,map_cons];unfold _qh6;rw [wq];dsimp only
  by_cases hr:_qt6 <= W * q.1
  ·rw [if_pos hr]
   have Wp:0 < W:=by omega
   obtain ⟨V,hV⟩:∃ V:Nat,W=(V:Int):=⟨W.toNat,by omega⟩;have hs:=_Qg _qt6 (W * b) (Go Wp (by omega)) (show _ < 2 ^ 8000 from lt_of_lt_of_le (show _qt6.natAbs < 2 ^ 3700 by omega) (pow_le_pow_right (by decide) (by decide))) ((zW.mul zb).mono (by decide));have ec:W * (b:Int)=((W.toNat * b:Nat):Int):=by rw [hV]; simp
   rw [ec,nf_mk (mul_ne_zero (by omega) (by omega)),<- ec] at hs;have hb1:∃ ρ',_zl [some (.sh (_F h)),x1,x2,x3,x4,some (.sh (.int (b:Int))),x6,some (.sh (.int _qt6)),some (.sh (.int W)),some (.sh (.int q.1)),some (.sh (.int q.2))]=some (.rt (.sh (frD (mkRat _qt6 (W.toNat * b)))) ρ'):=by
    generalize frD (mkRat _qt6 (W.toNat * b))=R at hs;generalize W * q.1=Z at *;generalize W * (b:Int)=Y at *;simp [_zl,m1,m2,hr,hs]
   obtain ⟨ρ',e⟩:=hb1;exact ⟨ρ',_qiw (hg x9 x10) e⟩
  ·rw [if_neg hr]
   have hlt:=_Y2 (w:=wAt h i) hr;have hge:0 <= (W - wAt h i) * q.1:=Fs (by omega) q0;have hwt:0 <= wAt h i * q.1:=Fs (by omega) q0;have hb1:_zl [some (.sh (_F h)),x1,x2,x3,x4,some (.sh (.int (b:Int))),x6,some (.sh (.int _qt6)),some (.sh (.int W)),some (.sh (.int q.1)),some (.sh (.int q.2))]=some (.nx [some (.sh (_F h)),x1,x2,x3,x4,some (.sh (.int (b:Int))),x6,some (.sh (.int (_qt6 - wAt h i * q.1))),some (.sh (.int (W - wAt h i))),some (.sh (.int q.1)),some (.sh (.int q.2))]):=by
    generalize W * q.1=Z at *;generalize wAt h i * q.1=Y at *;simp [_zl,m1,m3,hr,hx,hp0]
   have ih:=_Vy h k x1 x2 x3 x4 x6 b hb0 hb R0 hR ps (_qt6 - wAt h i * q.1) (W - wAt h i) (some (.sh (.int q.1))) (some (.sh (.int q.2))) hl hW' (by omega) (by omega) (by omega);rw [_qg6 (hg x9 x10) (.inl hb1)];exact ih
theorem _Y7 {h:List _qud} {P:List Rat} (hl:P.length=h.length) {c:Int} {q:Rat} (hq:q∈_qt9 h P c):q∈P:=by
 obtain ⟨i,hi,rfl⟩:=Ah.mp hq;exact _x8 (by have:=_qk h [c] i hi; omega)
theorem _wt {b:Nat} {q:Rat} (h:0 <= q):0 <= _qsu b q:=by
 unfold _qsu;have h1:0 <= q.num:=Rat.num_nonneg.mpr h;exact Fs h1 (Int.natCast_nonneg _)
theorem _Kc (h:List _qud) (c:Int):(plI h c).Nodup:=by
 unfold plI;have hn:(_qu4 h [c]).Nodup:=List.Nodup.sublist filter_sublist Iu;exact List.pairwise_map.mpr (hn.imp fun {a b} hab e=>hab (by omega))
theorem _Qc:∀ {xs ys:List Int},ys.Nodup->(xs.zip ys).Nodup
 | [],_,_=>by simp
 | _ :: _,[],_=>by simp
 | x :: xs,y :: ys,h=>by
  rw [nodup_cons] at h;rw [Hn,nodup_cons];refine ⟨fun m=>h.1 (of_mem_zip m).2,_Qc h.2⟩
theorem _qky {h:List _qud} {P:List Rat} {c:Int} {q:Int × Int} (hq:q∈psR h P c):∃ i∈_qu4 h [c],q=(_qsu (_qty h P c) (pAt P i),(i:Int)):=by
 have hm:=(_js _).mem_iff.mp hq;have e:((_qt9 h P c).map (_qsu (_qty h P c))).zip (plI h c)=(_qu4 h [c]).map fun i=>(_qsu (_qty h P c) (pAt P i),((i:Nat):Int)):=by
  unfold _qt9 plI;rw [map_map,List.zip_map',];rfl
 rw [e] at hm;obtain ⟨i,hi,rfl⟩:=Ah.mp hm;exact ⟨i,hi,rfl⟩
theorem _qk3 (h:List _qud) (P:List Rat) (c:Int):((_qt9 h P c).map (_qsu (_qty h P c))).zip (plI h c)=(_qu4 h [c]).map fun i=>(_qsu (_qty h P c) (pAt P i),((i:Nat):Int)):=by
 unfold _qt9 plI;rw [map_map,List.zip_map'];rfl
theorem _qhb (h:List _qud) (P:List Rat) (c:Int):(psR h P c).Perm ((_qu4 h [c]).map fun i=>(_qsu (_qty h P c) (pAt P i),((i:Nat):Int))):=by
 have:=_js (((_qt9 h P c).map (_qsu (_qty h P c))).zip (plI h c))
 rw [_qk3] at this;unfold psR;rw [_qk3];exact this
theorem _Kg (h:List _qud) (P:List Rat) (c:Int):((psR h P c).map (wOf h)).Perm ((_qu4 h [c]).map fun i=>(_qsu (_qty h P c) (pAt P i),wAt h i)):=by
 have:=(_qhb h P c).map (wOf h)
 rw [map_map] at this;have e:((wOf h) ∘ fun (i:Nat)=>(_qsu (_qty h P c) (pAt P i),((i:Nat):Int)))=fun (i:Nat)=>(_qsu (_qty h P c) (pAt P i),wAt h i):=by
  funext i; simp [wOf,Ei]
 rw [e] at this;exact this
theorem _qea {l m:List Int} (h:l.Perm m):l.sum=m.sum:=by
 induction h with
 | nil=>rfl
 | cons x _ ih=>simp [ih]
 | swap x y l=>simp; omega
 | trans _ _ a b=>exact a.trans b
theorem _qf6 (h:List _qud) (P:List Rat) (c:Int):_qsy ((psR h P c).map (wOf h))=wG h (_qu4 h [c]):=by
 have:=(_Kg h P c).map (fun q=>q.2)
 have e:=_qea this;unfold _qsy;rw [e,map_map];rfl
theorem _qkv (h:List _qud) (k:okW h) (P:List Rat) (hl:P.length=h.length) {t:Nat} (hs:_zc t P) (ht:t <= 18) (c:Int) (hc:c∈_s h) (N:Int) (hN:0 < N/\N <= 2 ^ 76):_Zl [_F h,_qs P,.int c,.int N]=some (optQ (_vq h P c N)):=by
 have hh:h.length <= 100:=le_trans k.len (by decide);have lk:=_v6 h c hh;have hsub:_zc t (_qt9 h P c):=hs.sub fun q hq=>_Y7 hl hq;have hcb:=_qgb (_qt9 h P c) hsub (by omega);have hcbl:cb (_qt9 h P c) < 2 ^ 1700:=hsub.cb (by omega);have hcb0:=_qc4 (_qt9 h P c);have hlen:(_qu4 h [c]).length <= 16:=le_trans (_wg h [c]) k.len;have htp:=_qf3 (_qt9 h P c) hsub (by omega) (cb (_qt9 h P c)) hcbl (by simp [_qt9]; omega);have hwt:=_kd h (_qu4 h [c]) (_qk h [c]) (by omega);have hW:=(_qju k hlen).2;have hne:=_z1 hc;have hcomp:_v0 (geN 0) qT (oE (f2 dIx (_qtq 1) (_qtq 0))) ((_qu4 h [c]).map fun (i:Nat)=>D.int (i:Int)) [none,some (_qs P)]=some ((_qt9 h P c).map fun q=>O.sh (frD q)):=by
  have:=_B (inj:=fun (i:Nat)=>D.int (i:Int)) (g:=geN 0) (c:=qT) (e:=oE (f2 dIx (_qtq 1) (_qtq 0))) (fun ρ=>∃ d,ρ=[d,some (_qs P)]) (fun _=>true) (fun i=>O.sh (frD (pAt P i))) (_qu4 h [c]) [none,some (_qs P)] ⟨_,rfl⟩ (by
   rintro i hi ρ ⟨d,rfl⟩;have hil:i < P.length:=by have:=_qk h [c] i hi; omega
   have hx:dIx (_qs P) (.int (i:Int))=some (frD (pAt P i)):=by
    have:=_qn5 (ds:=P.map frD) (i:=i) (by simpa using hil)
    rw [_qs,this]; simp [pAt,hil]
   exact ⟨_,rfl,⟨_,rfl⟩,rfl,fun _=>by simp [hx]⟩)
  rw [Av.mpr (by simp)] at this;rw [this]; unfold _qt9; rw [map_map]; rfl
 have hds:oDs ((_qt9 h P c).map fun q=>O.sh (frD q))=some ((_qt9 h P c).map frD):=_zu (fun p=>by simp) _;have hfold:D.lst ((_qt9 h P c).map frD)=_qs (_qt9 h P c):=rfl;have hl1:(_qu4 h [c]).length <= 100000:=by omega
 have zN:Sz 80 N:=by show N.natAbs < 2 ^ 80; omega
 have zb:Sz 1700 ((cb (_qt9 h P c):Nat):Int):=by show ((cb (_qt9 h P c):Nat):Int).natAbs < 2 ^ 1700; rw [Bb]; exact hcbl
 have mN:=_qw (zN.big (by decide)) (zb.big (by decide));have hsz:_Qy [_y ((_qt9 h P c).map (_qsu (cb (_qt9 h P c)))),plD (_qu4 h [c])]=some ((psR h P c).map pairD):=by
  have e1:plD (_qu4 h [c])=_y (plI h c):=rfl;have h1:((_qt9 h P c).map (_qsu (cb (_qt9 h P c)))).length=(plI h c).length:=by simp [_qt9,plI]
  have h2:1 <= ((_qt9 h P c).map (_qsu (cb (_qt9 h P c)))).length:=by
   have:0 < (_qu4 h [c]).length:=G4.mpr hne
   simp [_qt9]; omega
  have h3:((_qt9 h P c).map (_qsu (cb (_qt9 h P c)))).length < 64:=by simp [_qt9]; omega
  have h4:(((_qt9 h P c).map (_qsu (cb (_qt9 h P c)))).zip (plI h c)).Nodup:=_Qc (_Kc h c);rw [e1];show ((_Wx (((_qt9 h P c).map (_qsu (cb (_qt9 h P c)))).map D.int)).bind fun ns=>(_Wx ((plI h c).map D.int)).bind fun ms=>if ns.length=ms.length/\1 <= ns.length/\ns.length < 64/\(ns.zip ms).Nodup then some ((_ki (ns.zip ms)).map pairD) else none)=_;rw [_v7,_v7];simp only [Option.bind_some];rw [if_pos ⟨h1,h2,h3,h4⟩];rfl
 have hmem:∀ q∈psR h P c,0 <= q.1/\Sz 3600 q.1/\∃ i:Nat,i < h.length/\q.2=(i:Int):=fun q hq=>by
  obtain ⟨i,hi,rfl⟩:=_qky hq;have hi':=_qk h [c] i hi;have hp:pAt P i∈P:=_x8 (by omega);obtain ⟨D,d1,d2,d3⟩:=id hs;exact ⟨_wt (d3 _ hp).2.1,hs.top (by omega) hp hcbl,i,hi',rfl⟩
 have hR0:N * ((cb (_qt9 h P c):Nat):Int) < 2 ^ 3700:=by
  have z:Sz 1780 (N * ((cb (_qt9 h P c):Nat):Int)):=(zN.mul zb);have z':(N * ((cb (_qt9 h P c):Nat):Int)).natAbs < 2 ^ 3700:=z.mono (by decide);have h2:N * ((cb (_qt9 h P c):Nat):Int) <= ((N * ((cb (_qt9 h P c):Nat):Int)).natAbs:Int):=Int.le_natAbs;have h3:(((N * ((cb (_qt9 h P c):Nat):Int)).natAbs:Nat):Int) < ((2 ^ 3700:Nat):Int):=by exact_mod_cast z'
  have h4:((2 ^ 3700:Nat):Int)=2 ^ 3700:=by norm_cast
  omega
 have loop:=_Vy h k (some (.sh (_qs P))) (some (.sh (.int c))) (some (.sh (.int N))) (some (.sh (plD (_qu4 h [c])))) (some (.sh (_y ((_qt9 h P c).map (_qsu (cb (_qt9 h P c))))))) (cb (_qt9 h P c)) hcb0 hcbl (N * ((cb (_qt9 h P c):Nat):Int)) hR0 (psR h P c) (N * ((cb (_qt9 h P c):Nat):Int)) (wG h (_qu4 h [c])) none none hmem (_qf6 h P c).symm hW (Go hN.1 (by omega)) (Kk _);have hagr:(agr h [c]).map D.int=(_qu4 h [c]).map fun (i:Nat)=>D.int (i:Int):=_K8 h [c];rw [hagr] at lk;have z1:oD (ow ((_qu4 h [c]).map fun (i:Nat)=>D.int (i:Int)))=some (plD (_qu4 h [c])):=by rw [oD_ow,_Qq]
 have z2:fzc (some (ow ((_qu4 h [c]).map fun (i:Nat)=>D.int (i:Int))))=some (.sh (plD (_qu4 h [c]))):=by rw [_qpm,_Qq]
 have im1:_qtl ((_qu4 h [c]).map fun (i:Nat)=>D.int (i:Int))=true:=_qbe.mpr fun x hx=>by obtain ⟨i,_,rfl⟩:=Ah.mp hx; simp
 have z3:_Jl (plD (_qu4 h [c]))=some ((_qu4 h [c]).map fun (i:Nat)=>D.int (i:Int)):=_qog _;have zi:oD (ow ((psR h P c).map pairD))=some (.lst ((psR h P c).map pairD)):=oD_ow;unfold _vq rateQ _qty;cases hq:_qh6 ((psR h P c).map (wOf h)) (N * ((cb (_qt9 h P c):Nat):Int)) (wG h (_qu4 h [c])) with
 | none =>
  rw [hq] at loop;obtain ⟨ρ',e⟩:=loop;simp [_Zl,_qt4,_qt2,ini,_qev,lk,z1,z2,z3,im1,_zv,mkD,hl1,_qug,hcomp,hds,hfold,hcb,htp,mN,hwt,hsz,_qu3,e,optQ,-map_map]
 | some r =>
  rw [hq] at loop;obtain ⟨ρ',e⟩:=loop;simp [_Zl,_qt4,_qt2,ini,_qev,lk,z1,z2,z3,im1,_zv,mkD,hl1,_qug,hcomp,hds,hfold,hcb,htp,mN,hwt,hsz,_qu3,e,optQ,-map_map]
theorem _qd8 {l m:List Rat} (h:l.Perm m):l.sum=m.sum:=by
 induction h with
 | nil=>rfl
 | cons x _ ih=>simp [ih]
 | swap x y l=>simp only [sum_cons]; grind
 | trans _ _ a b=>exact a.trans b
theorem _Y0 {α:Type} (f:α->Rat) (b:Rat):∀ l:List α,(l.map fun a=>f a * b).sum=(l.map f).sum * b
 | []=>by simp
 | a :: l=>by rw [map_cons,map_cons,sum_cons,sum_cons,_Y0 f b l]; grind
section
variable {h:List _qud} (k:okW h) {P:List Rat} (hl:P.length=h.length) {t:Nat} (hs:_zc t P) (ht:t <= 18) {c:Int} (hc:c∈_s h) {N:Int} (hN:0 < N)
include k hl hs ht hc hN
theorem lR_ok:(∀ q∈(psR h P c).map (wOf h),0 <= q.1/\1 <= q.2)/\((psR h P c).map (wOf h)).Pairwise (fun a b=>a.1 <= b.1):=by
 constructor
 ·intro q hq
  have:=(_Kg h P c).mem_iff.mp hq
  obtain ⟨i,hi,rfl⟩:=Ah.mp this;have hi':=_qk h [c] i hi;obtain ⟨D,d1,d2,d3⟩:=id hs;exact ⟨_wt (d3 _ (_x8 (by omega))).2.1,k.at1 hi'⟩
 ·have:=_vd _ (_Qc (xs:=(_qt9 h P c).map (_qsu (_qty h P c))) (_Kc h c))
  rw [pairwise_map];refine List.Pairwise.imp (fun {a b} hab=>?_) this;rw [_Qx] at hab;show a.1 <= b.1;omega
theorem _qka {i:Nat} (hi:i∈_qu4 h [c]):((_qsu (_qty h P c) (pAt P i):Int):Rat)=pAt P i * (_qty h P c:Rat) :=
 _qf4 (_qn9 (Ah.mpr ⟨i,hi,rfl⟩))
theorem _qnd:(0:Rat) < (_qty h P c:Rat):=by exact_mod_cast _qc4 (_qt9 h P c)
theorem _qde {r:Rat} (e:_vq h P c N=some r):pays (_qu4 h [c]) (fun i=>(wAt h i:Rat)) (pAt P) r=(N:Rat)/\(∃ i∈_qu4 h [c],r <= pAt P i)/\0 < r/\∃ V:Nat,0 < V/\V <= 2 ^ 76/\_que (V * _qty h P c) r:=by
 unfold _vq at e;cases hq:rateQ h P c N with
 | none=>rw [hq] at e; cases e
 | some z =>
  obtain ⟨ρ,V⟩:=z;rw [hq] at e;have e:mkRat ρ (V.toNat * _qty h P c)=r:=Option.some.inj e;have b0:=_qnd k hl hs ht hc hN;have bn:0 < _qty h P c:=_qc4 (_qt9 h P c);have hb:0 < N * ((_qty h P c:Nat):Int):=Go hN (by exact_mod_cast bn);obtain ⟨ok1,ok2⟩:=lR_ok k hl hs ht hc hN;obtain ⟨r1,r2,r3,r4,r5,r6⟩:=_Js _ _ _ 0 ρ V ok1 ok2 (fun q hm=>(ok1 q hm).1) (_qf6 h P c).symm hb (by rw [Int.mul_zero]; omega) hq;have hW:=(_qju k (g:=_qu4 h [c]) (le_trans (_wg h [c]) k.len)).2;obtain ⟨W,hVW⟩:∃ W:Nat,V=(W:Int):=⟨V.toNat,by omega⟩;subst hVW;rw [A9] at e;have wp:(0:Rat) < (W:Rat):=by exact_mod_cast (by omega:0 < W)
  have er:r * ((W * _qty h P c:Nat):Rat)=(ρ:Rat):=by
   rw [<- e,Rat.mkRat_eq_div]
   have:((W * _qty h P c:Nat):Rat) ≠ 0:=by
    have:(0:Rat) < ((W * _qty h P c:Nat):Rat):=by exact_mod_cast mul_pos (by omega) bn
    grind
   exact C6 this
  have ex:(r * (_qty h P c:Rat)) * ((W:Int):Rat)=(ρ:Rat):=by
   rw [<- er]; push_cast; grind
  obtain ⟨c1,q,c2,c3⟩:=r6 _ ex;refine ⟨?_,?_,?_,W,by omega,?_,ρ,er⟩
  ·have h2:capS ((psR h P c).map (wOf h)) (r * (_qty h P c:Rat))=pays (_qu4 h [c]) (fun i=>(wAt h i:Rat)) (pAt P) r * (_qty h P c:Rat):=by
    unfold capS;rw [_qd8 ((_Kg h P c).map fun q=>(q.2:Rat) * min (q.1:Rat) (r * (_qty h P c:Rat))),map_map];unfold pays _Xp;rw [<- _Y0];congr 1;apply map_congr_left;intro i hi
    have:=_qka k hl hs ht hc hN hi
    simp only [Ei];rw [this];have hm:min (pAt P i * (_qty h P c:Rat)) (r * (_qty h P c:Rat))=min (pAt P i) r * (_qty h P c:Rat):=by
     by_cases hle:pAt P i <= r
     ·have:=Cl hle (Fu b0)
      grind
     ·have hle':r <= pAt P i:=by grind
      have:=Cl hle' (Fu b0)
      grind
    rw [hm]; grind
   rw [h2] at c1;have h4:((N * ((_qty h P c:Nat):Int):Int):Rat)=(N:Rat) * (_qty h P c:Rat):=by push_cast; rfl
   rw [h4] at c1;have hne:(_qty h P c:Rat) ≠ 0:=by grind
   have:=congrArg (fun z=>z / (_qty h P c:Rat)) c1
   rw [Lj hne,Lj hne] at this;exact this
  ·have:=(_Kg h P c).mem_iff.mp c2
   obtain ⟨i,hi,rfl⟩:=Ah.mp this;refine ⟨i,hi,?_⟩;have ht':=_qka k hl hs ht hc hN hi;simp only at c3;rw [ht'] at c3;exact Ey c3 b0
  ·have:(0:Rat) < r * ((W * _qty h P c:Nat):Rat):=by rw [er]; exact_mod_cast r1
   have hp:(0:Rat) < ((W * _qty h P c:Nat):Rat):=by exact_mod_cast mul_pos (by omega) bn
   by_cases h:0 < r
   ·exact h
   ·exfalso
    have:=Cl (Rat.not_lt.mp h) (Fu hp)
    grind
  ·have:((W:Nat):Int) <= 2 ^ 76:=by omega
   exact_mod_cast this
end
def _jx (h:List _qud) (P:List Rat) (c:Int) (r:Rat):List Rat:=(Ar P.length).map fun i=>if lkB h i c=true then pAt P i - min (pAt P i) r else pAt P i
theorem fm_eq (f:Int->Option Rat) (g:Int->D) (hg:∀ c r,f c=some r->g c=_qtd (c,r)):∀ l:List Int,((l.filter fun c=>(f c).isSome).map fun c=>O.sh (g c))=(l.filterMap fun c=>(f c).map fun r=>(c,r)).map fun o=>O.sh (_qtd o)
 | []=>rfl
 | c :: l=>by
  cases hq:f c with
  | none =>
   rw [filter_cons_of_neg (by simp [hq]),List.filterMap_cons_none (by simp [hq])];exact fm_eq f g hg l
  | some r =>
   rw [filter_cons_of_pos (by simp [hq]),List.filterMap_cons_some (b:=(c,r)) (by simp [hq]),map_cons,map_cons,fm_eq f g hg l,hg c r hq]
theorem _qa5 (h:List _qud) (P:List Rat) (c:Int) (r:Rat):(_jx h P c r).length=P.length:=by simp [_jx]
theorem _qcg {p r:Rat} (hp:Bd 2000 2000 p) (hr:Bd 2000 2000 r):_S [frD p,frD r]=some (frD (p - min p r)):=by
 have bl:=_qge hp hr;have mi:=_qlx hp hr
 by_cases h:p < r
 ·have e:p - min p r=0:=by grind
  rw [e];rw [decide_eq_true h] at bl;have z:frD 0=.tup [.int 0,.int 1]:=rfl;simp [_S,_qt4,_qt2,ini,_q4,bl,_qug,z]
 ·have e:p - min p r=p - r:=by grind
  rw [e];rw [decide_eq_false h] at bl;simp [_S,_qt4,_qt2,ini,_q4,bl,mi]
theorem _qgp (P:List Rat) (i:Nat) (q:Rat) (hi:i < P.length):gSetI (i:Int) (.sh (frD q)) (ow (P.map frD))=some (ow ((P.set i q).map frD)):=by
 have:ixP (P.map frD).length (i:Int)=some i:=by
  unfold ixP;rw [if_pos (by omega)]
  simp; omega
 simp [gSetI,ow] at this ⊢;simp [this,List.map_set]
def pd (P:List Rat) (r:Rat) (g:List Nat):List Rat:=(Ar P.length).map fun i=>if _qtm g i=true then pAt P i - min (pAt P i) r else pAt P i
theorem _ql6 (P:List Rat) (r:Rat) (g:List Nat) (i:Nat) (hi:i < P.length):pd P r (g++[i])=(pd P r g).set i (pAt P i - min (pAt P i) r):=by
 unfold pd;apply ext_getElem
 ·simp
 ·intro j h1 h2
  simp at h1;simp only [getElem_map,List.getElem_range,List.getElem_set]
  by_cases e:i=j
  ·subst e
   have:_qtm (g++[i]) i=true:=_kz.mpr (by simp)
   simp [this]
  ·have:_qtm (g++[i]) j=_qtm g j:=by
    rw [A5,_kz,_kz];simp [B4 e]
   simp [e,this]
theorem _ql9 (h:List _qud) (k:okW h) (P:List Rat) (hl:P.length=h.length) {t:Nat} (hs:_zc t P) (ht:t <= 18) (c:Int) (r:Rat) (hr:Bd 2000 2000 r):_qat [_F h,_qs P,.int c,frD r]=some (_qs (_jx h P c r)):=by
 have hh:h.length <= 100:=le_trans k.len (by decide);have lk:=_v6 h c hh;rw [_K8] at lk;have z0:pd P r []=P:=by
  unfold pd;apply ext_getElem
  ·simp
  ·intro i h1 h2; simp [_qtm,pAt,h2]
 obtain ⟨ρ',e,x5,rfl⟩:=_Q3 (inj:=fun (i:Nat)=>D.int (i:Int)) (g:=gN 5) (b:=_Vc) (fun pre ρ=>∃ x5:Option O,ρ=[some (.sh (_F h)),some (.sh (_qs P)),some (.sh (.int c)),some (.sh (frD r)),some (ow ((pd P r pre).map frD)),x5]) (_qu4 h [c])
  [some (.sh (_F h)),some (.sh (_qs P)),some (.sh (.int c)),some (.sh (frD r)),some (ow (P.map frD)),none] ⟨none,by rw [z0]⟩ (by
   rintro pre i post ρ e ⟨x5,rfl⟩;have hi:i < P.length:=by rw [hl]; exact _qk h [c] i (by rw [e]; simp)
   have hb:=(hs.bd (by omega) (_x8 hi)).mono (show 1800 <= 2000 by decide) (show 1700 <= 2000 by decide);have h1:=_qcg hb hr;have hx:dIx (_qs P) (.int (i:Int))=some (frD (pAt P i)):=by
    have:=_qn5 (ds:=P.map frD) (i:=i) (by simpa using hi)
    rw [_qs,this]; simp [pAt,hi]
   have hset:=_qgp (pd P r pre) i (pAt P i - min (pAt P i) r) (by simp [pd]; exact hi);rw [_ql6 P r pre i hi];generalize pAt P i - min (pAt P i) r=q at *;simp [Goes,_Vc,bPut,hx,h1,pNil,atO,hset])
 have ef:pd P r (_qu4 h [c])=_jx h P c r:=by
  unfold pd _jx;apply map_congr_left;intro i hi;have hi':i < h.length:=by rw [<- hl]; exact A0.mp hi
  rw [_qmj hi']
 rw [ef] at e;have z3:_Jl (D.lst ((_qu4 h [c]).map fun (i:Nat)=>D.int (i:Int)))=some ((_qu4 h [c]).map fun (i:Nat)=>D.int (i:Int)):=rfl;have zl:_qg1 [_qs P]=some (P.map frD):=rfl;have fi:∀ Q:List Rat,D.lst (Q.map frD)=_qs Q:=fun _=>rfl;have im:∀ Q:List Rat,_qtl (Q.map frD)=true:=fun Q=>_qbe.mpr fun x hx=>by obtain ⟨i,_,rfl⟩:=Ah.mp hx; simp
 simp [_qat,_qt4,_qt2,ini,_qjo,zl,im,lk,_qu3,e,fi]
def _D (h:List _qud) (P:List Rat) (ch:List Int):List (Int × Rat):=((_s h).filter fun c=>!has ch c).filterMap fun c=>(_vq h P c (_qsq h)).map fun r=>(c,r)
theorem _zt {h:List _qud} {P:List Rat} {ch:List Int} {o:Int × Rat} (ho:o∈_D h P ch):o.1∈_s h/\o.1 ∉ ch/\_vq h P o.1 (_qsq h)=some o.2:=by
 obtain ⟨c,hc,e⟩:=D0.mp ho;obtain ⟨h1,h2⟩:=Ay.mp hc;cases hr:_vq h P c (_qsq h) with
 | none=>rw [hr] at e; cases e
 | some r =>
  rw [hr] at e;have e:(c,r)=o:=Option.some.inj e;subst e;refine ⟨h1,fun hm=>?_,hr⟩;rw [_vw.mpr hm] at h2;simp at h2
theorem _v5 {h:List _qud} {P:List Rat} {ch:List Int} {c:Int} {r:Rat} (h1:c∈_s h) (h2:c ∉ ch) (h3:_vq h P c (_qsq h)=some r):(c,r)∈_D h P ch:=by
 refine D0.mpr ⟨c,Ay.mpr ⟨h1,?_⟩,by rw [h3]; rfl⟩;cases hh:has ch c with
 | true=>exact absurd (_vw.mp hh) h2
 | false=>rfl
def _zq (h:List _qud) (P:List Rat) (c:Int):D:=.tup [.int c,optQ (_vq h P c (_qsq h))]
theorem _Qd {h:List _qud} (k:okW h) (hne:h ≠ []):0 < _qsq h:=by
 rw [_qf0]
 have:=_W3 k (g:=Ar h.length) (by simp; exact hne) (fun i hi=>A0.mp hi)
 omega
theorem _Qw {h:List _qud} {c:Int} (hc:c∈_s h):h ≠ []:=by
 rintro rfl
 have:=(Ay.mp hc).2
 simp at this
theorem _qdw (h:List _qud) (kh:okH h) (k:okW h) (P:List Rat) (hl:P.length=h.length) {t:Nat} (hs:_zc t P) (ht:t <= 18) (rows:List (Int × Rat × List Rat)) (hr:rows.length <= 1000):_xo [_F h,_qs P,_xe rows]=some (_V9 (_D h P (rows.map (·.1)))):=by
 have hh:h.length <= 100:=le_trans k.len (by decide);have lk:=_qfz h kh hh;have hz:oD (ow ((_s h).map D.int))=some (_y (_s h)):=by simp [_y]
 have hw:=_kc h hh;have hc1:_v0 (geN 0) qT (oE (f2 dIx (_qtq 0) (fC (.int 0)))) (rows.map _qt5) [none]=some ((rows.map (·.1)).map fun c=>O.sh (.int c)):=by
  have:=_B (inj:=_qt5) (g:=geN 0) (c:=qT) (e:=oE (f2 dIx (_qtq 0) (fC (.int 0)))) (fun ρ=>∃ d,ρ=[d]) (fun _=>true) (fun r=>O.sh (.int r.1)) rows [none] ⟨_,rfl⟩ (by
   rintro r _ ρ ⟨d,rfl⟩;have x0:dIx (_qt5 r) (.int 0)=some (.int r.1):=_qbw;exact ⟨_,rfl,⟨_,rfl⟩,rfl,fun _=>by simp [x0]⟩)
  rw [Av.mpr (by simp)] at this;rw [this,map_map]; rfl
 have ho1:O.lst ((rows.map (·.1)).map fun c=>O.sh (.int c))=ow ((rows.map (·.1)).map .int):=by rw [ow,map_map,map_map,map_map]; rfl
 generalize hch:rows.map (·.1)=ch at *;have hc2:_v0 (geN 0) (qV (f2 _Xc (_qtq 0) (_qtq 4))) (oE (_qtr (_k (_qtq 0) (_k (_q1 4 _Zl (_k (_qtq 1) (_k (_qtq 2) (_k (_qtq 0) (_k (_qtq 3) _qu6))))) _qu6)))) ((_s h).map D.int) [none,some (_F h),some (_qs P),some (.int (_qsq h)),some (_y ch)]=some (((_s h).filter fun c=>!has ch c).map fun c=>O.sh (_zq h P c)) :=
  _B (inj:=D.int) (fun ρ=>∃ d,ρ=[d,some (_F h),some (_qs P),some (.int (_qsq h)),some (_y ch)]) (fun c=>!has ch c) (fun c=>O.sh (_zq h P c)) (_s h) _ ⟨_,rfl⟩ (by
   rintro c hc ρ ⟨d,rfl⟩;have w:=_qkv h k P hl hs ht c hc (_qsq h) ⟨_Qd k (_Qw hc),(_W4 k).2⟩;exact ⟨_,rfl,⟨_,rfl⟩,by simp,fun _=>by simp [w,_qug,_zq]⟩)
 have hd2:oDs (((_s h).filter fun c=>!has ch c).map fun c=>O.sh (_zq h P c))=some (((_s h).filter fun c=>!has ch c).map (_zq h P)):=_zu (fun p=>by simp) _;have hll:(_s h).length <= 6:=_xr h;have hfl:((_s h).filter fun c=>!has ch c).length <= 6:=le_trans (length_filter_le _ _) hll;have hoff:∀ l:List Int,_v0 (geN 0) (qV (f2 _qtv (f2 dIx (_qtq 0) (fC (.int 1))) (fC .non))) (oE (_qtq 0)) (l.map (_zq h P)) [none]=some (((l.filterMap fun c=>(_vq h P c (_qsq h)).map fun r=>(c,r))).map fun o=>O.sh (_qtd o)):=by
  intro l
  have:=_B (inj:=_zq h P) (g:=geN 0) (c:=qV (f2 _qtv (f2 dIx (_qtq 0) (fC (.int 1))) (fC .non))) (e:=oE (_qtq 0)) (fun ρ=>∃ d,ρ=[d]) (fun c=>(_vq h P c (_qsq h)).isSome) (fun c=>O.sh (_zq h P c)) l [none] ⟨_,rfl⟩ (by
   rintro c _ ρ ⟨d,rfl⟩;have x1:dIx (_zq h P c) (.int 1)=some (optQ (_vq h P c (_qsq h))):=_qjd;refine ⟨_,rfl,⟨_,rfl⟩,?_,fun _=>by simp⟩;cases hq:_vq h P c (_qsq h) with
   | none =>
    rw [hq] at x1;have i0:_qtv (optQ none) .non=some (.bl false):=rfl;simp [x1,i0]
   | some r =>
    rw [hq] at x1;have i0:_qtv (optQ (some r)) .non=some (.bl true):=rfl;simp [x1,i0])
  rw [this];congr 1;exact fm_eq (fun c=>_vq h P c (_qsq h)) (_zq h P) (fun c r hq=>by unfold _zq; rw [hq]; rfl) l
 have hd3:∀ l:List (Int × Rat),oDs (l.map fun o=>O.sh (_qtd o))=some (l.map _qtd):=fun l=>_zu (fun p=>by simp) l;have hr':rows.length <= 100000:=by omega
 have hfl':((_s h).filter fun c=>!has ch c).length <= 100000:=by omega
 have hll':(_s h).length <= 100000:=by omega
 have zr:_Jl (_xe rows)=some (rows.map _qt5):=rfl;have zi:∀ l:List Int,D.lst (l.map .int)=_y l:=fun _=>rfl;have q1:∀ l:List Int,oD (ow (l.map D.int))=some (_y l):=fun l=>_qbc l;have rim:∀ c,imm (_zq h P c)=true:=fun c=>by
  unfold _zq;cases _vq h P c (_qsq h) <;> simp [optQ]
 have im2:_qtc (((_s h).filter fun c=>!has ch c).map fun c=>O.sh (_zq h P c))=true:=_qlp (fun c=>by simp [rim]) _;have hof:_D h P ch=((_s h).filter fun c=>!has ch c).filterMap fun c=>(_vq h P c (_qsq h)).map fun r=>(c,r):=rfl;have hcf:=hoff ((_s h).filter fun c=>!has ch c);rw [<- hof] at hcf;have hd4:=hd3 (_D h P ch);generalize ((_s h).filter fun c=>!has ch c)=fl at *;generalize _D h P ch=ofs at *;simp [_xo,_qt4,_qt2,ini,_Vd,_zv,mkD,zr,hr',_qug,hc1,ho1,hw,lk,hz,hll',hc2,im2,hd2,hfl',hcf,hd4,q1,_V9,-map_map]
section
variable {h:List _qud} (k:okW h) {P:List Rat} (hl:P.length=h.length) {t:Nat} (hs:_zc t P) (ht:t <= 18) {c:Int} (hc:c∈_s h) {N:Int} (hN:0 < N) {r:Rat} (e:_vq h P c N=some r)
include k hl hs ht hc hN e
theorem _Vx:∃ D:Nat,0 < D/\D < 2 ^ (80 * (t + 1) + 1)/\_que D r/\(∀ q∈P,_que D q/\0 <= q/\q <= ((t * 2 ^ 80:Nat):Rat))/\0 < r/\r <= ((t * 2 ^ 80:Nat):Rat):=by
 obtain ⟨_,⟨i,hi,hri⟩,hr0,V,v0,v1,vo⟩:=_qde k hl hs ht hc hN e;obtain ⟨D,d1,d2,d3⟩:=id hs;have hbD:_qty h P c ∣ D:=_qc5 fun q hq=>(d3 q (_Y7 hl hq)).1.den;refine ⟨V * D,mul_pos v0 d1,?_,vo.dvd (Nat.mul_dvd_mul_left V hbD),fun q hq=>⟨(d3 q hq).1.dvd ⟨V,L0 _ _⟩,(d3 q hq).2⟩,hr0,?_⟩
 ·have:V * D < 2 ^ 77 * 2 ^ (80 * t + 1):=Nat.mul_lt_mul'' (lt_of_le_of_lt v1 (by decide)) d2
  rw [<- pow_add] at this;exact lt_of_lt_of_le this (pow_le_pow_right (by decide) (by omega))
 ·have hm:pAt P i∈P:=_x8 (by have:=_qk h [c] i hi; omega)
  exact Hb hri (d3 _ hm).2.2
theorem _qff:Bd 2000 2000 r:=by
 obtain ⟨D,d1,d2,d3,_,r0,r1⟩:=_Vx k hl hs ht hc hN e;have hle:((t * 2 ^ 80:Nat):Rat) <= (((t + 1) * 2 ^ 80:Nat):Rat):=by exact_mod_cast Ex _ (le_succ t)
 have hz:_zc (t + 1) [r]:=⟨D,d1,d2,fun q hq=>by
  rw [D9.mp hq];exact ⟨d3,Fu r0,Hb r1 hle⟩⟩
 exact (hz.bd (by omega) (by simp)).mono (by decide) (by decide)
theorem _Jx:_zc (t + 1) (_jx h P c r):=by
 obtain ⟨D,d1,d2,d3,d4,r0,r1⟩:=_Vx k hl hs ht hc hN e;have hle:((t * 2 ^ 80:Nat):Rat) <= (((t + 1) * 2 ^ 80:Nat):Rat):=by exact_mod_cast Ex _ (le_succ t)
 refine ⟨D,d1,d2,fun q hq=>?_⟩;obtain ⟨i,hi,rfl⟩:=Ah.mp hq;have hi':=A0.mp hi;obtain ⟨o1,o2,o3⟩:=d4 _ (_x8 hi');split
 ·refine ⟨o1.sub (o1.mn d3),?_,?_⟩ <;> grind
 ·exact ⟨o1,o2,Hb o3 hle⟩
end
def _t (h:List _qud):Nat->List Rat->List Int->List (Int × Rat × List Rat)
 | 0,_,_=>[]
 | n + 1,P,ch=>match _O (_D h P ch) with
  | none=>[]
  | some o=>(o.1,o.2,_jx h P o.1 o.2) :: _t h n (_jx h P o.1 o.2) (ch++[o.1])
theorem _Ka (h:List _qud) (kh:okH h) (k:okW h) (P:List Rat) (hl:P.length=h.length) {t:Nat} (hs:_zc t P) (ht:t <= 18) (rows:List (Int × Rat × List Rat)) (hr:rows.length <= 1000):_xo [_F h,_qs P,_xe rows]=some (_V9 (_D h P (rows.map (·.1))))/\_xp [_V9 (_D h P (rows.map (·.1)))]=some (_qtb (_O (_D h P (rows.map (·.1))))) :=
 ⟨_qdw h kh k P hl hs ht rows hr,_qb0 _ fun o ho=>by
  obtain ⟨w1,_,w2⟩:=_zt ho;exact _qff k hl hs ht w1 (_Qd k (_Qw w1)) w2⟩
def _Kf (h:List _qud) (ch:List Int):List Int:=(_s h).filter fun c=>!has ch c
theorem _qaz {h:List _qud} {ch:List Int} {c:Int} (h1:c∈_s h) (h2:c ∉ ch):(_Kf h (ch++[c])).length < (_Kf h ch).length:=by
 have hs:(_Kf h (ch++[c]))=(_Kf h ch).filter fun d=>!(d == c):=by
  unfold _Kf;rw [Ho];apply Ik;intro d _;rw [A5];simp [has];grind
 rw [hs];have hm:c∈_Kf h ch:=Ay.mpr ⟨h1,by
  cases hh:has ch c with
  | true=>exact absurd (_vw.mp hh) h2
  | false=>rfl⟩
 exact List.length_filter_lt_length_iff_exists.mpr ⟨c,hm,by simp⟩
theorem _w2 {h:List _qud} {P:List Rat} {ch:List Int} (hz:(_Kf h ch).length=0):_D h P ch=[]:=by
 have:_Kf h ch=[]:=Ca.mp hz
 unfold _D;unfold _Kf at this;rw [this]; rfl
theorem _ww (h:List _qud) (kh:okH h) (k:okW h) (seats:Option O):∀ (n:Nat) (P:List Rat) (rows:List (Int × Rat × List Rat)) (t:Nat),P.length=h.length->_zc t P->t + n <= 18->(_Kf h (rows.map (·.1))).length <= n->rows.length + n <= 100 ->
  ∃ ρ',_z4 (qV (f2 _qtv (_qtq 4) (fC .non))) _k9 [some (.sh (_F h)),seats,some (.sh (_qs P)),some (ow (rows.map _qt5)),some (.sh (_qtb (_O (_D h P (rows.map (·.1))))))]=some (.nx ρ')/\∃ a2 a4,ρ'=[some (.sh (_F h)),seats,a2,some (ow ((rows++_t h n P (rows.map (·.1))).map _qt5)),a4]
 | 0,P,rows,t,hl,hs,ht,hn,hr=>by
  rw [_w2 (by omega)];refine ⟨_,_jb (by simp [_O,_qtb]; rfl),some (.sh (_qs P)),some (.sh (_qtb (_O []))),?_⟩;simp only [_t,append_nil]
 | n + 1,P,rows,t,hl,hs,ht,hn,hr=>by
  cases ho:_O (_D h P (rows.map (·.1))) with
  | none =>
   refine ⟨_,_jb (by simp [_qtb]; rfl),some (.sh (_qs P)),some (.sh (_qtb none)),?_⟩;simp only [_t,ho,append_nil]
  | some o =>
   obtain ⟨w1,w2,w3⟩:=_zt (_jt ho);have hN:=_Qd k (_Qw w1);have hb:=_qff k hl hs (by omega) w1 hN w3;have pa:=_ql9 h k P hl hs (by omega) o.1 o.2 hb;have hs':=_Jx k hl hs (by omega) w1 hN w3;have hl':(_jx h P o.1 o.2).length=h.length:=by rw [_qa5]; exact hl
   have hm:(rows++[(o.1,o.2,_jx h P o.1 o.2)]).map (·.1)=rows.map (·.1)++[o.1]:=by simp
   have lt:=_qaz w1 w2;obtain ⟨f1,f2'⟩:=_Ka h kh k (_jx h P o.1 o.2) hl' hs' (by omega) (rows++[(o.1,o.2,_jx h P o.1 o.2)]) (by simp; omega);obtain ⟨ρ',e1,e2⟩:=_ww h kh k seats n (_jx h P o.1 o.2) (rows++[(o.1,o.2,_jx h P o.1 o.2)]) (t + 1) hl' hs' (by omega) (by rw [hm]; omega) (by simp; omega);rw [hm] at f1 f2' e1 e2;refine ⟨ρ',_vp (ρ2:=[some (.sh (_F h)),seats,some (.sh (_qs (_jx h P o.1 o.2))),some (ow ((rows++[(o.1,o.2,_jx h P o.1 o.2)]).map _qt5)),some (.sh (_qtb (_O (_D h (_jx h P o.1 o.2) (rows.map (·.1)++[o.1])))))]) ?_ ?_ e1,?_⟩
   ·have:=_qfq (some o)
    simp [this]
   ·have g1:gApp (.sh (_qt5 (o.1,o.2,_jx h P o.1 o.2))) (ow (rows.map _qt5))=some (ow (rows.map _qt5++[_qt5 (o.1,o.2,_jx h P o.1 o.2)])):=_qbi (by simp [_qug]; omega)
    have er:D.tup [.int o.1,frD o.2,_qs (_jx h P o.1 o.2)]=_qt5 (o.1,o.2,_jx h P o.1 o.2):=rfl;have ir:imm (_qt5 (o.1,o.2,_jx h P o.1 o.2))=false:=by simp [_qt5]
    have io:=_Kk (_O (_D h (_jx h P o.1 o.2) (rows.map (·.1)++[o.1])));have oe:_qtb (some o)=_qtd o:=rfl;have ef:D.lst (rows.map _qt5++[_qt5 (o.1,o.2,_jx h P o.1 o.2)])=_xe (rows++[(o.1,o.2,_jx h P o.1 o.2)]):=by simp [_xe]
    generalize _jx h P o.1 o.2=Q at *;generalize _D h Q (rows.map (·.1)++[o.1])=ws at *;simp [_k9,oe,pa,off0,off1,_qug,er,ir,g1,ef,f1,f2',io]
   ·obtain ⟨a2,a4,e3⟩:=e2
    refine ⟨a2,a4,?_⟩;rw [e3];simp only [_t,ho,If,J1]
def _qb (h:List _qud) (seats:Int):List Rat:=C2 h.length (seats:Rat)
theorem _Qa (h:List _qud) {seats:Int} (h0:0 <= seats) (h6:seats <= 6):_zc 1 (_qb h seats):=⟨1,by decide,by decide,fun q hq=>by
 rw [List.eq_of_mem_replicate hq];refine ⟨_vf 1 seats,by exact_mod_cast h0,?_⟩;have h1:(seats:Rat) <= ((6:Nat):Rat):=by exact_mod_cast h6
 have h2:((6:Nat):Rat) <= ((1 * 2 ^ 80:Nat):Rat):=by
  obtain ⟨x,hx⟩:∃ x:Nat,1 * 2 ^ 80=x:=⟨_,rfl⟩
  have:6 <= x:=by rw [<- hx]; decide
  rw [hx]
  exact_mod_cast this
 exact Hb h1 h2⟩
theorem _qdb (h:List _qud) (kh:okH h) (k:okW h) (seats:Int) (h0:0 <= seats) (h6:seats <= 6):_vg [_F h,.int seats]=some (_xe (_t h 6 (_qb h seats) [])):=by
 have hs:=_Qa h h0 h6;have hl:(_qb h seats).length=h.length:=by simp [_qb]
 have hll:=_xr h;have hlc:(_Kf h []).length <= 6:=le_trans (length_filter_le _ _) hll;obtain ⟨f1,f2'⟩:=_Ka h kh k (_qb h seats) hl hs (by omega) [] (by simp);obtain ⟨ρ',e1,a2,a4,rfl⟩:=_ww h kh k (some (.sh (.int seats))) 6 (_qb h seats) [] 1 hl hs (by omega) (by simpa using hlc) (by simp);have hfp:_w [_F h,.int seats]=some (_qs (_qb h seats)):=by
  have fr:frD (seats:Rat)=.tup [.int seats,.int 1]:=by simp [frD]
  have hc:_v0 (geN 0) qT (oE (_qtr (_k (_qtq 1) (_k (fC (.int 1)) _qu6)))) (h.map _x3) [none,some (.int seats)]=some (h.map fun _=>O.sh (frD (seats:Rat))):=by
   have:=_B (inj:=_x3) (g:=geN 0) (c:=qT) (e:=oE (_qtr (_k (_qtq 1) (_k (fC (.int 1)) _qu6)))) (fun ρ=>∃ d,ρ=[d,some (.int seats)]) (fun _=>true) (fun _=>O.sh (frD (seats:Rat))) h [none,some (.int seats)] ⟨_,rfl⟩ (by
    rintro p _ ρ ⟨d,rfl⟩;exact ⟨_,rfl,⟨_,rfl⟩,rfl,fun _=>by simp [_qug,fr]⟩)
   rwa [Av.mpr (by simp)] at this
  have hd:oDs (h.map fun _=>O.sh (frD (seats:Rat)))=some ((_qb h seats).map frD):=by
   rw [_zu (g:=fun _=>frD (seats:Rat)) (fun _=>by simp) h];simp [_qb,List.map_const']
  have hh':h.length <= 100000:=by have:=k.len; omega
  simp [_w,_qt4,_qt2,ini,_q5,_zv,mkD,hh',_qug,hc,hd];rfl
 have io:=_Kk (_O (_D h (_qb h seats) []));have er:∀ l:List (Int × Rat × List Rat),D.lst (l.map _qt5)=_xe l:=fun _=>rfl;simp only [map_nil,Ju] at e1 f1 f2';generalize _t h 6 (_qb h seats) []=R at *;generalize _D h (_qb h seats) []=ws at *;have f1':_xo [_F h,_qs (_qb h seats),.lst []]=some (_V9 ws):=f1;simp [_vg,_qt4,_qt2,ini,_Vb,_qug,hfp,f1',f2',io,e1];exact er R
abbrev _qua:=Int × Rat × List Rat
def _qta:List Rat->List _qua->Nat->List Rat
 | P,_,0=>P
 | _,row :: R,t + 1=>_qta row.2.2 R t
 | _,[],_ + 1=>[]
theorem _Qp (P:List Rat) (R:List _qua):_qta P R 0=P:=by cases R <;> rfl
theorem _V0:∀ (P:List Rat) (R:List _qua) (t:Nat) (row:_qua),R[t]?=some row->_qta P R (t + 1)=row.2.2
 | _,[],_,_,e=>by simp at e
 | P,r :: R,0,row,e=>by
  have e:r=row:=by simpa using e
  subst e;show _qta r.2.2 R 0=r.2.2;cases R <;> rfl
 | P,r :: R,t + 1,row,e=>_V0 r.2.2 R t row (by simpa using e)
structure RowOk (h:List _qud) (ch:List Int) (P:List Rat) (row:_qua):Prop where
 liked:row.1∈_s h
 new:row.1 ∉ ch
 rate:_vq h P row.1 (_qsq h)=some row.2.1
 least:∀ d r',d∈_s h->d ∉ ch->_vq h P d (_qsq h)=some r'->row.2.1 <= r'
 paid:row.2.2=_jx h P row.1 row.2.1
 first:∀ d r',d∈_s h->d ∉ ch->d < row.1->_vq h P d (_qsq h)=some r'->row.2.1 < r'
structure PurOk (h:List _qud) (t:Nat) (P:List Rat):Prop where
 len:P.length=h.length
 size:_zc t P
theorem _k0:∀ (l:List (Int × Rat)) (a o:Int × Rat),(∀ q∈l,a.1 < q.1)->l.Pairwise (fun a b=>a.1 < b.1)->l.foldl _K (some a)=some o->(a=o \/ a.1 < o.1/\o.2 < a.2)/\∀ q∈l,q.1 < o.1->o.2 < q.2
 | [],a,o,_,_,e=>by
  have e:a=o:=by simpa using e
  exact ⟨.inl e,by simp⟩
 | b :: l,a,o,h1,h2,e=>by
  rw [List.foldl_cons] at e;rw [pairwise_cons] at h2;simp only [_K] at e;have hab:=h1 b (by simp)
  by_cases hlt:b.2 < a.2
  ·rw [if_pos hlt] at e
   obtain ⟨i1,i2⟩:=_k0 l b o h2.1 h2.2 e;refine ⟨.inr ?_,fun q hq hqo=>?_⟩
   ·rcases i1 with z | ⟨z1,z2⟩
    ·rw [<- z]; exact ⟨hab,hlt⟩
    ·exact ⟨by omega,by grind⟩
   ·rcases Al.mp hq with z | hq
    ·subst z
     rcases i1 with y | ⟨y1,y2⟩
     ·rw [y] at hqo; omega
     ·exact y2
    ·exact i2 q hq hqo
  ·rw [if_neg hlt] at e
   obtain ⟨i1,i2⟩:=_k0 l a o (fun q hq=>h1 q (by simp [hq])) h2.2 e;refine ⟨i1,fun q hq hqo=>?_⟩;rcases Al.mp hq with z | hq
   ·subst z
    rcases i1 with y | ⟨y1,y2⟩
    ·rw [<- y] at hqo; omega
    ·grind
   ·exact i2 q hq hqo
theorem _Zo {l:List (Int × Rat)} {o:Int × Rat} (hs:l.Pairwise (fun a b=>a.1 < b.1)) (e:_O l=some o):∀ q∈l,q.1 < o.1->o.2 < q.2:=by
 cases l with
 | nil=>intro q hq; simp at hq
 | cons a l =>
  rw [pairwise_cons] at hs;obtain ⟨i1,i2⟩:=_k0 l a o hs.1 hs.2 e;intro q hq hqo;rcases Al.mp hq with z | hq
  ·subst z
   rcases i1 with y | ⟨y1,y2⟩
   ·rw [y] at hqo; omega
   ·exact y2
  ·exact i2 q hq hqo
theorem _Wh (h:List _qud) (P:List Rat) (ch:List Int):(_D h P ch).Pairwise (fun a b=>a.1 < b.1):=by
 unfold _D;have hr:((_s h).filter fun c=>!has ch c).Pairwise (· < ·):=List.Pairwise.sublist (List.filter_sublist.trans (_qay h)) _Vt;refine List.Pairwise.filterMap _ (fun a b hab x hx y hy=>?_) hr;cases ha:_vq h P a (_qsq h) with
 | none=>rw [ha] at hx; cases hx
 | some r=>cases hb:_vq h P b (_qsq h) with
  | none=>rw [hb] at hy; cases hy
  | some r' =>
   rw [ha] at hx; rw [hb] at hy;have hx:(a,r)=x:=by simpa using hx
   have hy:(b,r')=y:=by simpa using hy
   subst hx hy;exact hab
theorem _qkk {h:List _qud} (k:okW h) {t:Nat} {P:List Rat} (pk:PurOk h t P) (ht:t <= 18) {ch:List Int} {o:Int × Rat} (ho:_O (_D h P ch)=some o):RowOk h ch P (o.1,o.2,_jx h P o.1 o.2)/\PurOk h (t + 1) (_jx h P o.1 o.2):=by
 obtain ⟨w1,w2,w3⟩:=_zt (_jt ho);have hN:=_Qd k (_Qw w1);refine ⟨⟨w1,w2,w3,fun d r' h1 h2 h3=>_Zn ho (d,r') (_v5 h1 h2 h3),rfl,fun d r' h1 h2 h4 h3=>_Zo (_Wh h P ch) ho (d,r') (_v5 h1 h2 h3) h4⟩,⟨by rw [_qa5]; exact pk.len,_Jx k pk.len pk.size ht w1 hN w3⟩⟩
theorem _wv {h:List _qud} (k:okW h):∀ (n:Nat) (P:List Rat) (ch:List Int) (t0:Nat),PurOk h t0 P->t0 + n <= 18->(_Kf h ch).length <= n ->
  (∀ t row,(_t h n P ch)[t]?=some row->PurOk h (t0 + t) (_qta P (_t h n P ch) t)/\RowOk h (ch++((_t h n P ch).take t).map (·.1)) (_qta P (_t h n P ch) t) row) /\
  PurOk h (t0 + (_t h n P ch).length) (_qta P (_t h n P ch) (_t h n P ch).length)/\(∀ d∈_s h,d ∉ ch++(_t h n P ch).map (·.1)->_vq h (_qta P (_t h n P ch) (_t h n P ch).length) d (_qsq h)=none)
 | 0,P,ch,t0,pk,ht,hn=>by
  refine ⟨fun t row e=>by simp [_t] at e,pk,fun d h1 h2=>?_⟩
  have:=_w2 (P:=P) (show (_Kf h ch).length=0 by omega)
  cases hq:_vq h P d (_qsq h) with
  | none=>exact hq
  | some r =>
   have:=_v5 h1 (by simpa [_t] using h2) hq
   rw [‹_D h P ch=[]›] at this; cases this
 | n + 1,P,ch,t0,pk,ht,hn=>by
  cases ho:_O (_D h P ch) with
  | none =>
   have e:_t h (n + 1) P ch=[]:=by simp only [_t,ho]
   rw [e];refine ⟨fun t row e=>by simp at e,pk,fun d h1 h2=>?_⟩;cases hq:_vq h P d (_qsq h) with
   | none=>exact hq
   | some r =>
    have:=_v5 h1 (by simpa using h2) hq
    rw [_Wl ho] at this; cases this
  | some o =>
   have e:_t h (n + 1) P ch=(o.1,o.2,_jx h P o.1 o.2) :: _t h n (_jx h P o.1 o.2) (ch++[o.1]):=by simp only [_t,ho]
   rw [e];obtain ⟨s1,s2⟩:=_qkk k pk (by omega) ho;have lt:=_qaz s1.liked s1.new;obtain ⟨i1,i2,i3⟩:=_wv k n (_jx h P o.1 o.2) (ch++[o.1]) (t0 + 1) s2 (by omega) (by simp only at lt; omega);refine ⟨fun t row et=>?_,?_,fun d h1 h2=>?_⟩
   ·cases t with
    | zero =>
     have er:(o.1,o.2,_jx h P o.1 o.2)=row:=by simpa using et
     subst er;exact ⟨by rw [_Qp]; exact pk,by rw [_Qp]; simpa using s1⟩
    | succ t =>
     obtain ⟨j1,j2⟩:=i1 t row (by simpa using et);refine ⟨?_,?_⟩
     ·have:t0 + (t + 1)=t0 + 1 + t:=by omega
      rw [this]; exact j1
     ·have ee:ch++(((o.1,o.2,_jx h P o.1 o.2) :: _t h n (_jx h P o.1 o.2) (ch++[o.1])).take (t + 1)).map (·.1)=(ch++[o.1])++((_t h n (_jx h P o.1 o.2) (ch++[o.1])).take t).map (·.1):=by simp
      rw [ee]; exact j2
   ·have:t0 + ((o.1,o.2,_jx h P o.1 o.2) :: _t h n (_jx h P o.1 o.2) (ch++[o.1])).length=t0 + 1 + (_t h n (_jx h P o.1 o.2) (ch++[o.1])).length:=by simp; omega
    rw [this];exact i2
   ·exact i3 d h1 (by simpa using h2)
theorem _qgc (R:List (Int × Rat × List Rat)) (hl:R.length <= 1000):_G [_xe R]=some (_y (R.map (·.1))):=by
 have hc:_v0 (geN 0) qT (oE (f2 dIx (_qtq 0) (fC (.int 0)))) (R.map _qt5) [none]=some (R.map fun r=>O.sh (.int r.1)):=by
  have:=_B (inj:=_qt5) (g:=geN 0) (c:=qT) (e:=oE (f2 dIx (_qtq 0) (fC (.int 0)))) (fun ρ=>∃ d,ρ=[d]) (fun _=>true) (fun r=>O.sh (.int r.1)) R [none] ⟨_,rfl⟩ (by
   rintro r _ ρ ⟨d,rfl⟩
   have:dIx (_qt5 r) (.int 0)=some (.int r.1):=_qbw
   exact ⟨_,rfl,⟨_,rfl⟩,rfl,fun _=>by simp [this]⟩)
  rwa [Av.mpr (by simp)] at this
 have hd:oDs (R.map fun r=>O.sh (.int r.1))=some ((R.map (·.1)).map .int):=by
  have:=_zu (f:=fun r:Int × Rat × List Rat=>O.sh (.int r.1)) (g:=fun r=>D.int r.1) (fun p=>by simp) R
  rw [this,map_map]; rfl
 have lg:_Jl (_xe R)=some (R.map _qt5):=rfl;have hl':R.length <= 100000:=by omega
 simp [_G,_qt4,_qt2,ini,_jo,_zv,mkD,lg,hl',_qug,hc,hd,_qed,-map_map]
theorem _qd9 (R:List _qua):shp 20 (_xe R)=true:=by
 unfold _xe;rw [_qfd];refine _Xq.mpr fun d hd=>?_;obtain ⟨r,_,rfl⟩:=Ah.mp hd
 have:_qt0 17 (r.2.2.map frD)=true:=_Xq.mpr fun d hd=>by
  obtain ⟨q,_,rfl⟩:=Ah.mp hd;simp [frD]
 simp [_qt5,frD,_qs,this]
theorem _qda (R:List _qua):dEq (_xe R) (.lst [])=some (.bl (decide (R=[]))):=by
 have e:eqD (_xe R) (.lst [])=decide (R=[]):=by cases R <;> simp [_xe,eqD,_qtt]
 simp [dEq,_qd9,e]
theorem _qig (P:List Rat) (R:List _qua) (hR:R ≠ []):dIx (_xe R) (.int (-1))=some (_qt5 (R.getLast hR))/\_qta P R R.length=(R.getLast hR).2.2:=by
 have hl:0 < R.length:=G4.mpr hR;have hg:R[R.length - 1]?=some (R.getLast hR):=by rw [List.getLast_eq_getElem,getElem?_eq_getElem]
 refine ⟨?_,?_⟩
 ·have hi:ixP R.length (-1)=some (R.length - 1):=by
   unfold ixP;rw [if_neg (by omega),if_pos (by omega)];congr 1; omega
  simp only [dIx,_xe,atP,length_map,hi,Option.bind_some,getElem?_map,hg,Option.map_some]
 ·have:=_V0 P R (R.length - 1) _ hg
  rwa [show R.length - 1 + 1=R.length by omega] at this
theorem _qix (h:List _qud) (hh:h.length <= 100) (seats:Int):_w [_F h,.int seats]=some (_qs (_qb h seats)):=by
 have fr:frD (seats:Rat)=.tup [.int seats,.int 1]:=by simp [frD]
 have hc:_v0 (geN 0) qT (oE (_qtr (_k (_qtq 1) (_k (fC (.int 1)) _qu6)))) (h.map _x3) [none,some (.int seats)]=some (h.map fun _=>O.sh (frD (seats:Rat))):=by
  have:=_B (inj:=_x3) (g:=geN 0) (c:=qT) (e:=oE (_qtr (_k (_qtq 1) (_k (fC (.int 1)) _qu6)))) (fun ρ=>∃ d,ρ=[d,some (.int seats)]) (fun _=>true) (fun _=>O.sh (frD (seats:Rat))) h [none,some (.int seats)] ⟨_,rfl⟩ (by
   rintro p _ ρ ⟨d,rfl⟩;exact ⟨_,rfl,⟨_,rfl⟩,rfl,fun _=>by simp [_qug,fr]⟩)
  rwa [Av.mpr (by simp)] at this
 have hd:oDs (h.map fun _=>O.sh (frD (seats:Rat)))=some ((_qb h seats).map frD):=by
  rw [_zu (g:=fun _=>frD (seats:Rat)) (fun _=>by simp) h];simp [_qb,List.map_const']
 have hh':h.length <= 100000:=by omega
 simp [_w,_qt4,_qt2,ini,_q5,_zv,mkD,hh',_qug,hc,hd];rfl
theorem _qm4 (h:List _qud) (hh:h.length <= 100) (seats:Int) (R:List _qua):_qe [_F h,.int seats,_xe R]=some (_qs (_qta (_qb h seats) R R.length)):=by
 have en:=_qda R;have f:=_qix h hh seats
 by_cases hR:R=[]
 ·rw [decide_eq_true hR] at en
  have ep:_qta (_qb h seats) R R.length=_qb h seats:=by rw [hR]; exact _Qp _ _
  rw [ep];simp [_qe,_qt4,_qt2,ini,_ji,en,f,_qug]
 ·rw [decide_eq_false hR] at en
  obtain ⟨l1,l2⟩:=_qig (_qb h seats) R hR;have x2:dIx (_qt5 (R.getLast hR)) (.int 2)=some (_qs (R.getLast hR).2.2):=rfl;rw [l2];generalize R.getLast hR=last at *;simp [_qe,_qt4,_qt2,ini,_ji,en,l1,x2,_qug]
@[irreducible] def _p (h:List _qud) (seats:Int):List _qua:=_t h 6 (_qb h seats) []
@[irreducible] def _qy (h:List _qud) (seats:Int):List _qua:=_Kl h seats 6 (_qta (_qb h seats) (_p h seats) (_p h seats).length) (_Jk ((_p h seats).map (·.1)))
@[irreducible] def _Z8 (h:List _qud) (seats:Int):List Int:=_Jk ((_p h seats).map (·.1)++(_qy h seats).map (·.1))
theorem _xu (h:List _qud) (seats:Int):_p h seats=_t h 6 (_qb h seats) []:=by unfold _p; rfl
theorem _ka (h:List _qud) (seats:Int):_qy h seats=_Kl h seats 6 (_qta (_qb h seats) (_p h seats) (_p h seats).length) (_Jk ((_p h seats).map (·.1))):=by unfold _qy; rfl
theorem _qes (h:List _qud) (seats:Int):_Z8 h seats=_Jk ((_p h seats).map (·.1)++(_qy h seats).map (·.1)):=by unfold _Z8; rfl
theorem _Ym {l:List Int} (hl:l.length < 64):_qjy [_y l]=some ((_Jk l).map .int):=by
 simp only [_qjy,_y,_v7,Option.bind_some,hl,if_true]
theorem _qd3 (l:List Int):(_Jk l).length=l.length:=(_zr l).length_eq
theorem _Zu {h:List _qud} {seats:Int}:∀ (n:Nat) (P:List Rat) (ch:List Int),(_Kl h seats n P ch).length <= n
 | 0,P,ch=>by simp [_Kl]
 | n + 1,P,ch=>by
  cases ho:_O (_jd h P ch seats) with
  | none=>simp only [_Kl,ho]; simp
  | some o =>
   have:=_Zu (h:=h) (seats:=seats) n (_Q h P o) (ch++[o.1])
   simp only [_Kl,ho,length_cons];omega
theorem _km {h:List _qud}:∀ (n:Nat) (P:List Rat) (ch:List Int),(_t h n P ch).length <= n
 | 0,P,ch=>by simp [_t]
 | n + 1,P,ch=>by
  cases ho:_O (_D h P ch) with
  | none=>simp only [_t,ho]; simp
  | some o =>
   have:=_km (h:=h) n (_jx h P o.1 o.2) (ch++[o.1])
   simp only [_t,ho,length_cons];omega
theorem _qc9 {h:List _qud} (k:okW h) (seats:Int) (hse:0 <= seats/\seats <= 6):PurOk h (1 + (_p h seats).length) (_qta (_qb h seats) (_p h seats) (_p h seats).length)/\(∀ d∈_s h,d ∉ (_p h seats).map (·.1)->_vq h (_qta (_qb h seats) (_p h seats) (_p h seats).length) d (_qsq h)=none):=by
 have pk0:PurOk h 1 (_qb h seats):=⟨by simp [_qb],_Qa h hse.1 hse.2⟩;have hlc:(_Kf h []).length <= 6:=le_trans (length_filter_le _ _) (_xr h);obtain ⟨r1,r2,r3⟩:=_wv k 6 (_qb h seats) [] 1 pk0 (by omega) hlc;rw [<- _xu] at r2 r3;exact ⟨r2,fun d h1 h2=>r3 d h1 (by rw [Ju]; exact h2)⟩
theorem _qcc (h:List _qud) (kh:okH h) (k:okW h) (seats:Int) (hse:0 <= seats/\seats <= 6):_w5 [_F h,.int seats]=some (.tup [_y (_Z8 h seats),_xe (_p h seats),_xe (_qy h seats)]):=by
 have ro:_vg [_F h,.int seats]=some (_xe (_p h seats)):=by rw [_xu]; exact _qdb h kh k seats hse.1 hse.2
 have l1:(_p h seats).length <= 6:=by rw [_xu]; exact _km 6 _ _
 have l2:(_qy h seats).length <= 6:=by rw [_ka]; exact _Zu 6 _ _
 have c1:=_qgc (_p h seats) (by omega);have c2:=_qgc (_qy h seats) (by omega);have hh:=k.len;have la:=_qm4 h (by omega) seats (_p h seats);obtain ⟨e1,_⟩:=_qc9 k seats hse;have h12:1 + (_p h seats).length <= 12:=by omega
 have hs6:(_Jk ((_p h seats).map (·.1))).length <= 6:=by rw [_qd3,length_map]; exact l1
 have gr:=_qir h kh k (_qta (_qb h seats) (_p h seats) (_p h seats).length) e1.len e1.size h12 (_Jk ((_p h seats).map (·.1))) hs6 seats hse.2;rw [<- _ka] at gr;have s1:=_Ym (l:=(_p h seats).map (·.1)) (by simp; omega);have s2:=_Ym (l:=(_p h seats).map (·.1)++(_qy h seats).map (·.1)) (by simp; omega);have eB:_Jk ((_p h seats).map (·.1)++(_qy h seats).map (·.1))=_Z8 h seats:=(_qes h seats).symm;rw [eB] at s2;have hcat:dCat (_y ((_p h seats).map (·.1))) (_y ((_qy h seats).map (·.1)))=some (((_p h seats).map (·.1)++(_qy h seats).map (·.1)).map .int):=by
  have:((_p h seats).map (·.1)).length + ((_qy h seats).map (·.1)).length <= 100000:=by simp; omega
  simp only [dCat,_y,length_map,_qug] at this ⊢;rw [if_pos this,map_append]
 generalize _qta (_qb h seats) (_p h seats) (_p h seats).length=P at *;generalize _p h seats=B at *;generalize _qy h seats=A at *;generalize _Z8 h seats=M at *;have z1:∀ l:List Int,oD (ow (l.map .int))=some (_y l):=fun l=>_qbc l;generalize hCB:B.map (·.1)++A.map (·.1)=CB at *;generalize B.map (·.1)=CA at *;generalize A.map (·.1)=CC at *;generalize _Jk CA=SA at *;have im1:imm (_y CA)=false:=by simp [_y]
 have im2:imm (_xe B)=false:=by simp [_xe]
 have im3:imm (_xe A)=false:=by simp [_xe]
 simp [_w5,_qt4,_qt2,ini,_qcm,ro,c1,c2,la,gr,s1,s2,hcat,z1,im1,im2,im3,_qug]
def _qtg (names:List Str) (k:Int):Str:=names.getD k.toNat ⟨#[]⟩
def nmD (names:List Str) (s:List Int):D:=.lst (s.map fun k=>.str (_qtg names k))
def nmsD (names:List Str):D:=.lst (names.map D.str)
def Below (n:Nat) (s:List Int):Prop:=∀ k∈s,0 <= k/\k < (n:Int)
theorem _qmb {names:List Str} {k:Int} (h0:0 <= k) (h1:k < (names.length:Int)):dIx (nmsD names) (.int k)=some (.str (_qtg names k)):=by
 obtain ⟨i,rfl⟩:=Dy h0;have hi:i < names.length:=by omega
 have:dIx (nmsD names) (.int (i:Int))=some (.str names[i]):=by
  have:=_qn5 (ds:=names.map .str) (i:=i) (by simpa using hi)
  rw [nmsD,this]; simp
 rw [this];unfold _qtg;simp [hi]
def OkS (names:List Str):Prop:=∀ x∈names,∀ n,shp n (.str x)=true
theorem _qou {names:List Str} (h:OkS names) (k:Int) (n:Nat):shp n (.str (_qtg names k))=true:=by
 unfold _qtg
 by_cases hk:k.toNat < names.length
 ·rw [_xc hk]; exact h _ (getElem_mem hk) n
 ·rw [show names.getD k.toNat ⟨#[]⟩=⟨#[]⟩ by simp; rw [Jx (by omega)]; rfl]
  simp [shp]
theorem _Yn {α:Type} {f:α->D} {n:Nat}:∀ {l:List α},(∀ a∈l,shp n (f a)=true)->_qt0 n (l.map f)=true
 | [],_=>rfl
 | a :: l,h=>by
  rw [map_cons,_qt0,h a (by simp),_Yn fun b hb=>h b (mem_cons_of_mem _ hb)]; rfl
theorem _qkn {names:List Str} (h:OkS names) (s:List Int) (n:Nat):shp (n + 1) (nmD names s)=true:=_Yn fun k _=>_qou h k n
def bsR (h:List _qud) (seats:Int):List Int:=(_p h seats).map (·.1)++(_qy h seats).map (·.1)
theorem _Vv {h:List _qud}:∀ (n:Nat) (P:List Rat) (ch:List Int),∀ r∈_t h n P ch,r.1∈_s h
 | 0,_,_,r,hr=>by cases hr
 | n + 1,P,ch,r,hr=>by
  unfold _t at hr;cases e:_O (_D h P ch) with
  | none=>rw [e] at hr; cases hr
  | some o =>
   rw [e] at hr;rcases Al.mp hr with rfl | hr
   ·exact (_zt (_jt e)).1
   ·exact _Vv n _ _ r hr
theorem _qg4 {h:List _qud} {seats:Int}:∀ (n:Nat) (P:List Rat) (ch:List Int),∀ r∈_Kl h seats n P ch,r.1∈_s h
 | 0,_,_,r,hr=>by cases hr
 | n + 1,P,ch,r,hr=>by
  unfold _Kl at hr;cases e:_O (_jd h P ch seats) with
  | none=>rw [e] at hr; cases hr
  | some o =>
   rw [e] at hr;rcases Al.mp hr with rfl | hr
   ·have:=_jt e
    unfold _jd at this;split at this
    ·cases this
    ·obtain ⟨c,hc,rfl⟩:=Ah.mp this
     exact (Ay.mp hc).1
   ·exact _qg4 n _ _ r hr
theorem bs_in {h:List _qud} {seats:Int}:∀ c∈bsR h seats,c∈_s h:=by
 intro c hc;rcases Dd.mp hc with hc | hc
 ·obtain ⟨r,hr,rfl⟩:=Ah.mp hc
  rw [_xu] at hr;exact _Vv _ _ _ r hr
 ·obtain ⟨r,hr,rfl⟩:=Ah.mp hc
  rw [_ka] at hr;exact _qg4 _ _ _ r hr
theorem _qc8 {n:Nat} {h:List _qud} {seats:Int} (hb:∀ p∈h,Below n p.2):Below n (bsR h seats):=by
 intro k hk
 have:=(Ay.mp (bs_in k hk)).2
 obtain ⟨p,hp,e⟩:=List.any_eq_true.mp this;exact hb p hp k (_vw.mp e)
theorem _qjk (h:List _qud) (seats:Int):(_p h seats).length <= 6/\(_qy h seats).length <= 6:=⟨by rw [_xu]; exact _km 6 _ _,by rw [_ka]; exact _Zu 6 _ _⟩
theorem _qg8 {names:List Str} {R:List (Int × Rat × List Rat)} (hb:∀ r∈R,0 <= r.1/\r.1 < (names.length:Int)):_v0 (geN 0) qT (oE (f2 dIx (_qtq 1) (f2 dIx (_qtq 0) (fC (.int 0))))) (R.map _qt5) [none,some (nmsD names)]=some (R.map fun r=>O.sh (.str (_qtg names r.1))):=by
 have:=_B (inj:=_qt5) (g:=geN 0) (c:=qT) (e:=oE (f2 dIx (_qtq 1) (f2 dIx (_qtq 0) (fC (.int 0))))) (fun ρ=>∃ d,ρ=[d,some (nmsD names)]) (fun _=>true) (fun r=>O.sh (.str (_qtg names r.1))) R [none,some (nmsD names)] ⟨_,rfl⟩ (by
  rintro r hr ρ ⟨d,rfl⟩;have h0:dIx (_qt5 r) (.int 0)=some (.int r.1):=_qbw;have hx:=_qmb (hb r hr).1 (hb r hr).2;exact ⟨_,rfl,⟨_,rfl⟩,rfl,fun _=>by simp [h0,hx]⟩)
 rwa [Av.mpr (by simp)] at this
theorem _qpr {h:List _qud} (kh:okH h) (k:okW h) (seats:Int) (hse:0 <= seats/\seats <= 6) {names:List Str} (hb:∀ p∈h,Below names.length p.2):_zz [_F h,.int seats,nmsD names]=some (nmD names (bsR h seats)):=by
 have be:=_qcc h kh k seats hse;obtain ⟨l1,l2⟩:=_qjk h seats;have bb:=_qc8 (seats:=seats) hb;have c1:=_qg8 (names:=names) (R:=_p h seats) fun r hr=>bb r.1 (Es _ (Ah.mpr ⟨r,hr,rfl⟩));have c2:=_qg8 (names:=names) (R:=_qy h seats) fun r hr=>bb r.1 (mem_append_right _ (Ah.mpr ⟨r,hr,rfl⟩));have od:∀ R:List (Int × Rat × List Rat),oDs (R.map fun r=>O.sh (.str (_qtg names r.1)))=some (R.map fun r=>D.str (_qtg names r.1)):=fun R=>_zu (f:=fun r:Int × Rat × List Rat=>O.sh (.str (_qtg names r.1))) (g:=fun r=>D.str (_qtg names r.1)) (fun p=>by simp) R;have e:nmD names (bsR h seats)=.lst ((_p h seats).map (fun r=>D.str (_qtg names r.1))++(_qy h seats).map fun r=>D.str (_qtg names r.1)):=by
  unfold nmD bsR;rw [map_append,map_map,map_map]; rfl
 rw [e];have g1:_Jl (_xe (_p h seats))=some ((_p h seats).map _qt5):=rfl;have g2:_Jl (_xe (_qy h seats))=some ((_qy h seats).map _qt5):=rfl;have t1:dIx (.tup [_y (_Z8 h seats),_xe (_p h seats),_xe (_qy h seats)]) (.int 1)=some (_xe (_p h seats)):=rfl;have t2:dIx (.tup [_y (_Z8 h seats),_xe (_p h seats),_xe (_qy h seats)]) (.int 2)=some (_xe (_qy h seats)):=rfl;have l1':(_p h seats).length <= 100000:=by omega
 have l2':(_qy h seats).length <= 100000:=by omega
 have l3:(_p h seats).length + (_qy h seats).length <= 100000:=by omega
 simp [_zz,_qt4,_qt2,ini,_wa,be,t1,t2,_zv,mkD,g1,g2,l1',l2',l3,_qug,c1,c2,od,dCat,-map_map]
theorem law_true (ns:List Int) (h:ns.length <= 63):_qjx [.lst (ns.map .int)]=some (.bl true):=_qe3 ns h
end L_k62
set_option maxHeartbeats 1000000
namespace L_k62
open PySem PySem.Spec PyProof.Rows L2 DL
def top (i:Nat):Stmt:=PySem.Challenge.pw_pursebench_k62_benches_by_names.main.body.getD i (.Pass ⟨0,0,0,0⟩)
abbrev _j0:Stmt:=top 35
abbrev _Yz:Stmt:=top 22
abbrev _Yw:Stmt:=top 25
abbrev _z9:Stmt:=top 2
abbrev _zf:Stmt:=top 8
abbrev _X0:Stmt:=top 7
abbrev _Xy:Stmt:=top 6
abbrev _Qm:Stmt:=top 18
abbrev _jk:Stmt:=top 23
abbrev _vb:Stmt:=top 24
abbrev _va:Stmt:=top 3
abbrev _Yt:Stmt:=top 19
abbrev _qgw:Stmt:=top 32
abbrev _Yv:Stmt:=top 5
abbrev _Xx:Stmt:=top 37
abbrev _Yu:Stmt:=top 21
abbrev _jz:Stmt:=top 34
abbrev _qgy:Stmt:=top 33
abbrev _Xw:Stmt:=top 36
abbrev _jl:Stmt:=top 41
abbrev _Ql:Stmt:=top 4
abbrev _qgu:Stmt:=top 27
abbrev _Ys:Stmt:=top 29
abbrev _qgx:Stmt:=top 20
abbrev _jj:Stmt:=top 30
abbrev _Yx:Stmt:=top 28
abbrev _xj:Stmt:=top 40
abbrev _Yy:Stmt:=top 39
abbrev _vc:Stmt:=top 48
abbrev _kl:Stmt:=top 51
abbrev _qgz:Stmt:=top 53
structure Txt (mg:Str->Option Value):Prop where
 z_abs:mg "abs"=none
 z_all:mg "all"=none
 z_enumerate:mg "enumerate"=none
 z_len:mg "len"=none
 z_list:mg "list"=none
 z_set:mg "set"=none
 z_sorted:mg "sorted"=none
 z_sum:mg "sum"=none
 z_zip:mg "zip"=none
section
variable {P:Ak} {w:World} {K:Frag} {mg:Str->Option Value} {base:Heap}
theorem _wl:FnScope ["heap","seats"] ["heap","seats"] (_f _j0):=fsc
theorem _wn {f:Addr} {fd:Am} (F:Fun K "first_purses" "first_purses" _j0 f fd) (T:Txt mg) :FnOk P w K mg base CX0 1 f fd ["heap","seats"] (spD K 2 _w) :=
 FnOk.d (fnO F _wl (k:=0) (n:=2) (m:=2) (b:=_q5) rfl rfl fun cdv A outer s H E hr =>
  (_o (_H (DO.m _ (_W (cl:=_) (N':=["pile","seats"]) (js:=[none,some 1]) (by o_reads) (by exact (_J (_g 0 (pv 0)))) (fun _ _ _ q=>_E q) (by exact fun _ _ _ _ _=>(_A 0 (pgc 0))) (by exact fun _ _ _ _ _=>_qr) (by exact fun _ _ _ _ _=>(DE.o (_Q9 (_b (_g 1 (pv 1)) (_b _r _l))))))))))
theorem _qgt:FnScope ["one","other"] ["one","other"] (_f _Yz):=fsc
theorem _qhy {f:Addr} {fd:Am} (F:Fun K "below" "below" _Yz f fd) (T:Txt mg) :FnOk P w K mg base CX0 1 f fd ["one","other"] (spD K 2 _vt) :=
 FnOk.d (fnO F _qgt (k:=0) (n:=2) (m:=2) (b:=_qcn) rfl rfl fun cdv A outer s H E hr =>
  (_o (_H (DE.m _ (_qmy _qle _qhl (_xd _N _M (_qv (_g 0 (pv 0)) _r (fun _ _=>rfl)) (_qv (_g 1 (pv 1)) _r (fun _ _=>rfl))) (_xd _N _M (_qv (_g 1 (pv 1)) _r (fun _ _=>rfl)) (_qv (_g 0 (pv 0)) _r (fun _ _=>rfl))) (_qg _))))))
theorem _Qi:FnScope ["offers","found","offer"] ["offers"] (_f _Yw):=fsc
theorem _qhv {f:Addr} {fd:Am} (F:Fun K "least" "least" _Yw f fd) (T:Txt mg) (G_below:Fn P w K mg base 1 "below" ["one","other"] (spD K 2 _vt)):FnOk P w K mg base CX0 2 f fd ["offers"] (spD K 1 _xp) :=
 FnOk.d (fnO F _Qi (k:=1) (n:=1) (m:=3) (b:=_qck) rfl rfl fun cdv A outer s H E hr =>
  (_h (_C 1 (_q (i:=1) _Qi.nd rfl (.inl rfl) (DE.m _ _Wp)))
   (_h (_qbo Be rfl (_g 0 (pv 0)) (_vz 2 (_q0 (i:=2) _Qi.nd rfl (.inl rfl))) (_o (_qcs (DW.dt (dw_or (_x6 _qor _qol (_g 1 (pv 1)) _Wp (_qg _)) (_qpq (_qj2 (_jv G_below (hm hr) rfl (_b (_qv (_g 2 (pv 2)) _r (fun _ _=>rfl)) (_b (_qv (_g 1 (pv 1)) _r (fun _ _=>rfl)) _l))))))) (_o (_C 1 (_q (i:=1) _Qi.nd rfl (.inl rfl) (DE.m _ (_g 2 (pv 2)))))) _zb)))
   (_o (_H (DE.m _ (_g 1 (pv 1))))))))
theorem _Xr:FnScope ["heap"] ["heap"] (_f _z9):=fsc
theorem _Ze {f:Addr} {fd:Am} (F:Fun K "weight_of" "weight_of" _z9 f fd) (T:Txt mg) :FnOk P w K mg base CX0 1 f fd ["heap"] (spD K 1 _qn) :=
 FnOk.d (fnO F _Xr (k:=0) (n:=1) (m:=1) (b:=_vl) rfl rfl fun cdv A outer s H E hr =>
  (_o (_H (DE.m _ (_j5 (_Jc rfl) _Ja rfl T.z_sum _qjj (_b (DO.de (_W (cl:=_) (N':=["weight","marks"]) (js:=[none,none]) (by o_reads) (by exact (_J (_g 0 (pv 0)))) (fun _ _ _ q=>_E q) (by exact fun _ _ _ _ _=>(_Kr rfl (_jh (_A 0 (pgc 0)) (_jh (_A 1 (pgc 1)) _Q8)))) (by exact fun _ _ _ _ _=>_qr) (by exact fun _ _ _ _ _=>(DE.o (_g 0 (pv 0)))))) _l))))))
theorem _Jo:FnScope ["pile","some"] ["pile","some"] (_f _zf):=fsc
theorem _Jy {f:Addr} {fd:Am} (F:Fun K "likes_each" "likes_each" _zf f fd) (T:Txt mg) :FnOk P w K mg base CX0 1 f fd ["pile","some"] (spD K 2 _qa) :=
 FnOk.d (fnO F _Jo (k:=0) (n:=2) (m:=2) (b:=_zm) rfl rfl fun cdv A outer s H E hr =>
  (_o (_H (DE.m _ (_j5 (_K0 rfl) _qep rfl T.z_all _qnb (_b (DO.de (_W (cl:=_) (N':=["candidate","pile"]) (js:=[none,some 0]) (by o_reads) (by exact (_J (_g 1 (pv 1)))) (fun _ _ _ q=>_E q) (by exact fun _ _ _ _ _=>(_A 0 (pgc 0))) (by exact fun _ _ _ _ _=>_qr) (by exact fun _ _ _ _ _=>(DE.o (_qmy (_qac (_qg3 hr)) _qlb (_g 0 (pv 0)) (_qv (_g 1 (pv 1)) _r (fun _ _=>rfl)) (by rfl)))))) _l))))))
theorem _qd7:FnScope ["heap","some"] ["heap","some"] (_f _X0):=fsc
theorem _qdv {f:Addr} {fd:Am} (F:Fun K "agreed" "agreed" _X0 f fd) (T:Txt mg) (G_likes_each:Fn P w K mg base 1 "likes_each" ["pile","some"] (spD K 2 _qa)):FnOk P w K mg base CX0 2 f fd ["heap","some"] (spO K 2 _kv) :=
 fnO F _qd7 (k:=1) (n:=2) (m:=2) (b:=_Vf) rfl rfl fun cdv A outer s H E hr =>
  (_o (_H (DO.m _ (_W (cl:=_) (N':=["place","pile","some"]) (js:=[none,none,some 1]) (by o_reads) (by exact (_qa1 rfl T.z_enumerate (_g 0 (pv 0)))) (fun _ _ _ q=>_Ku q) (by exact fun _ _ _ _ _=>(_Kr rfl (_jh (_A 0 (pgc 0)) (_jh (_A 1 (pgc 1)) _Q8)))) (by exact fun _ _ _ _ _=>(_Q7 (_qj2 (_jv G_likes_each (hm hr) rfl (_b (_g 1 (pv 1)) (_b (_g 2 (pv 2)) _l)))))) (by exact fun _ _ _ _ _=>(DE.o (_g 0 (pv 0))))))))
theorem _qd6:FnScope ["heap","candidate"] ["heap","candidate"] (_f _Xy):=fsc
theorem _qdt {f:Addr} {fd:Am} (F:Fun K "likers" "likers" _Xy f fd) (T:Txt mg) (G_agreed:Fn P w K mg base 2 "agreed" ["heap","some"] (spO K 2 _kv)):FnOk P w K mg base CX0 3 f fd ["heap","candidate"] (spO K 2 _q8) :=
 fnO F _qd6 (k:=2) (n:=2) (m:=2) (b:=_Ve) rfl rfl fun cdv A outer s H E hr =>
  (_o (_H (DO.m _ (_qja G_agreed (hm hr) rfl (_b (_g 0 (pv 0)) (_b (DO.de (_Z1 (_b (_g 1 (pv 1)) _l))) _l))))))
theorem _jq:FnScope ["one","other","greater","rest","remainder"] ["one","other"] (_f _Qm):=fsc
theorem _qag {f:Addr} {fd:Am} (F:Fun K "divisor" "divisor" _Qm f fd) (T:Txt mg) :FnOk P w K mg base CX0 1 f fd ["one","other"] (spD K 2 _j3) :=
 FnOk.d (fnO F _jq (k:=0) (n:=2) (m:=5) (b:=_Jh) rfl rfl fun cdv A outer s H E hr =>
  (_h (_C 2 (_q (i:=2) _jq.nd rfl (.inl rfl) (DE.m _ (_j5 _qc7 _Kz rfl T.z_abs _qnc (_b (_g 0 (pv 0)) _l)))))
   (_h (_C 3 (_q (i:=3) _jq.nd rfl (.inl rfl) (DE.m _ (_j5 _qc7 _Kz rfl T.z_abs _qnc (_b (_g 1 (pv 1)) _l)))))
   (_h (_Zy Be (_x6 (_qdq hr.units) _qoj (_g 3 (pv 3)) _r (_qg _)) (_h (_C 4 (_q (i:=4) _jq.nd rfl (.inl rfl) (DE.m _ (_xd _qaa _qa8 (_g 2 (pv 2)) (_g 3 (pv 3))))))
   (_h (_C 2 (_q (i:=2) _jq.nd rfl (.inl rfl) (DE.m _ (_g 3 (pv 3)))))
   (_o (_C 3 (_q (i:=3) _jq.nd rfl (.inl rfl) (DE.m _ (_g 4 (pv 4)))))))))
   (_o (_H (DE.m _ (_g 2 (pv 2)))))))))
theorem _L:FnScope ["fractions","bottom","top","own"] ["fractions"] (_f _jk):=fsc
theorem _kt {f:Addr} {fd:Am} (F:Fun K "common_bottom" "common_bottom" _jk f fd) (T:Txt mg) (G_divisor:Fn P w K mg base 1 "divisor" ["one","other"] (spD K 2 _j3)):FnOk P w K mg base CX0 2 f fd ["fractions"] (spD K 1 _z) :=
 FnOk.d (fnO F _L (k:=1) (n:=1) (m:=4) (b:=_jn) rfl rfl fun cdv A outer s H E hr =>
  (_h (_C 1 (_q (i:=1) _L.nd rfl (.inl rfl) (DE.m _ _r)))
   (_h (_qbo Be rfl (_g 0 (pv 0)) (_qjc rfl (_vj (_vz 2 (_q0 (i:=2) _L.nd rfl (.inl rfl))) (_vj (_vz 3 (_q0 (i:=3) _L.nd rfl (.inl rfl))) _qbt))) (_o (_C 1 (_q (i:=1) _L.nd rfl (.inl rfl) (DE.m _ (_xd _N _M (_g 1 (pv 1)) (_xd _V7 _V4 (_g 3 (pv 3)) (_jv G_divisor (hm hr) rfl (_b (_g 1 (pv 1)) (_b (_g 3 (pv 3)) _l))))))))))
   (_o (_H (DE.m _ (_g 1 (pv 1))))))))
theorem _Xt:FnScope ["bottom","fractions"] ["bottom","fractions"] (_f _vb):=fsc
theorem _Zg {f:Addr} {fd:Am} (F:Fun K "tops_over" "tops_over" _vb f fd) (T:Txt mg) :FnOk P w K mg base CX0 1 f fd ["bottom","fractions"] (spD K 2 _qp) :=
 FnOk.d (fnO F _Xt (k:=0) (n:=2) (m:=2) (b:=_vn) rfl rfl fun cdv A outer s H E hr =>
  (_o (_H (DO.m _ (_W (cl:=_) (N':=["top","own","bottom"]) (js:=[none,none,some 0]) (by o_reads) (by exact (_J (_g 1 (pv 1)))) (fun _ _ _ q=>_E q) (by exact fun _ _ _ _ _=>(_Kr rfl (_jh (_A 0 (pgc 0)) (_jh (_A 1 (pgc 1)) _Q8)))) (by exact fun _ _ _ _ _=>_qr) (by exact fun _ _ _ _ _=>(DE.o (_xd _N _M (_g 0 (pv 0)) (_xd _V7 _V4 (_g 2 (pv 2)) (_g 1 (pv 1)))))))))))
theorem _Xs:FnScope ["heap","places"] ["heap","places"] (_f _va):=fsc
theorem _Zf {f:Addr} {fd:Am} (F:Fun K "weight_at" "weight_at" _va f fd) (T:Txt mg) :FnOk P w K mg base CX0 1 f fd ["heap","places"] (spD K 2 _qo) :=
 FnOk.d (fnO F _Xs (k:=0) (n:=2) (m:=2) (b:=_vm) rfl rfl fun cdv A outer s H E hr =>
  (_o (_H (DE.m _ (_j5 (_Jc rfl) _Ja rfl T.z_sum _qjj (_b (DO.de (_W (cl:=_) (N':=["place","heap"]) (js:=[none,some 0]) (by o_reads) (by exact (_J (_g 1 (pv 1)))) (fun _ _ _ q=>_E q) (by exact fun _ _ _ _ _=>(_A 0 (pgc 0))) (by exact fun _ _ _ _ _=>_qr) (by exact fun _ _ _ _ _=>(DE.o (_qv (_qv (_g 1 (pv 1)) (_g 0 (pv 0)) (fun _ _=>rfl)) _r (fun _ _=>rfl)))))) _l))))))
theorem _Xu:FnScope ["top","bottom","common"] ["top","bottom"] (_f _Yt):=fsc
theorem _qhr {f:Addr} {fd:Am} (F:Fun K "share" "share" _Yt f fd) (T:Txt mg) (G_divisor:Fn P w K mg base 1 "divisor" ["one","other"] (spD K 2 _j3)):FnOk P w K mg base CX0 2 f fd ["top","bottom"] (spD K 2 _xn) :=
 FnOk.d (fnO F _Xu (k:=1) (n:=2) (m:=3) (b:=_qch) rfl rfl fun cdv A outer s H E hr =>
  (_h (_qcs (_x6 (_qho hr.units) _qhm (_g 1 (pv 1)) _r (_qg _)) (_o _qj5) _zb)
   (_h (_C 2 (_q (i:=2) _Xu.nd rfl (.inl rfl) (DE.m _ (_jv G_divisor (hm hr) rfl (_b (_g 0 (pv 0)) (_b (_g 1 (pv 1)) _l))))))
   (_h (_qcs (_x6 _qle _qhl (_g 1 (pv 1)) _r (_qg _)) (_o (_C 2 (_q (i:=2) _Xu.nd rfl (.inl rfl) (DE.m _ (de_un _qk6 _qf2 (_g 2 (pv 2))))))) _zb)
   (_o (_H (DE.m _ (_Q9 (_b (_xd _V7 _V4 (_g 0 (pv 0)) (_g 2 (pv 2))) (_b (_xd _V7 _V4 (_g 1 (pv 1)) (_g 2 (pv 2))) _l))))))))))
theorem _x7:FnScope ["heap","purses","candidate","price","places","bottom","tops","rest","weight","top","place"] ["heap","purses","candidate","price"] (_f _qgw):=fsc
theorem _qlh {f:Addr} {fd:Am} (F:Fun K "rate" "rate" _qgw f fd) (T:Txt mg) (G_likers:Fn P w K mg base 3 "likers" ["heap","candidate"] (spO K 2 _q8)) (G_common_bottom:Fn P w K mg base 2 "common_bottom" ["fractions"] (spD K 1 _z)) (G_tops_over:Fn P w K mg base 1 "tops_over" ["bottom","fractions"] (spD K 2 _qp)) (G_weight_at:Fn P w K mg base 1 "weight_at" ["heap","places"] (spD K 2 _qo)) (G_share:Fn P w K mg base 2 "share" ["top","bottom"] (spD K 2 _xn)):FnOk P w K mg base CX0 4 f fd ["heap","purses","candidate","price"] (spD K 4 _Zl) :=
 FnOk.d (fnO F _x7 (k:=3) (n:=4) (m:=11) (b:=_qev) rfl rfl fun cdv A outer s H E hr =>
  (_h (_C 4 (_q (i:=4) _x7.nd rfl (.inl rfl) (DO.m _ (_qja G_likers (hm hr) rfl (_b (_g 0 (pv 0)) (_b (_g 2 (pv 2)) _l))))))
   (_h (_C 5 (_q (i:=5) _x7.nd rfl (.inl rfl) (DE.m _ (_jv G_common_bottom (hm hr) rfl (_b (DO.de (_W (cl:=_) (N':=["place","purses"]) (js:=[none,some 1]) (by o_reads) (by exact (_J (_g 4 (pv 4)))) (fun _ _ _ q=>_E q) (by exact fun _ _ _ _ _=>(_A 0 (pgc 0))) (by exact fun _ _ _ _ _=>_qr) (by exact fun _ _ _ _ _=>(DE.o (_qv (_g 1 (pv 1)) (_g 0 (pv 0)) (fun _ _=>rfl)))))) _l)))))
   (_h (_C 6 (_q (i:=6) _x7.nd rfl (.inl rfl) (DE.m _ (_jv G_tops_over (hm hr) rfl (_b (_g 5 (pv 5)) (_b (DO.de (_W (cl:=_) (N':=["place","purses"]) (js:=[none,some 1]) (by o_reads) (by exact (_J (_g 4 (pv 4)))) (fun _ _ _ q=>_E q) (by exact fun _ _ _ _ _=>(_A 0 (pgc 0))) (by exact fun _ _ _ _ _=>_qr) (by exact fun _ _ _ _ _=>(DE.o (_qv (_g 1 (pv 1)) (_g 0 (pv 0)) (fun _ _=>rfl)))))) _l))))))
   (_h (_C 7 (_q (i:=7) _x7.nd rfl (.inl rfl) (DE.m _ (_xd _N _M (_g 3 (pv 3)) (_g 5 (pv 5))))))
   (_h (_C 8 (_q (i:=8) _x7.nd rfl (.inl rfl) (DE.m _ (_jv G_weight_at (hm hr) rfl (_b (_g 0 (pv 0)) (_b (_g 4 (pv 4)) _l))))))
   (_h (_qbo Be rfl (DO.de (_Zz rfl rfl rfl T.z_sorted T.z_zip (_b (_g 6 (pv 6)) (_b (_g 4 (pv 4)) _l)))) (_qjc rfl (_vj (_vz 9 (_q0 (i:=9) _x7.nd rfl (.inl rfl))) (_vj (_vz 10 (_q0 (i:=10) _x7.nd rfl (.inl rfl))) _qbt))) (_h (_qcs (_x6 op_le _qla (_g 7 (pv 7)) (_xd _N _M (_g 8 (pv 8)) (_g 9 (pv 9))) (_qg _)) (_o (_H (DE.m _ (_jv G_share (hm hr) rfl (_b (_g 7 (pv 7)) (_b (_xd _N _M (_g 8 (pv 8)) (_g 5 (pv 5))) _l)))))) _zb)
   (_h (_C 7 (_q (i:=7) _x7.nd rfl (.inl rfl) (DE.m _ (_xd _Zd _V2 (_g 7 (pv 7)) (_xd _N _M (_qv (_qv (_g 0 (pv 0)) (_g 10 (pv 10)) (fun _ _=>rfl)) _r (fun _ _=>rfl)) (_g 9 (pv 9)))))))
   (_o (_C 8 (_q (i:=8) _x7.nd rfl (.inl rfl) (DE.m _ (_xd _Zd _V2 (_g 8 (pv 8)) (_qv (_qv (_g 0 (pv 0)) (_g 10 (pv 10)) (fun _ _=>rfl)) _r (fun _ _=>rfl))))))))))
   (_o (_H (DE.m _ _Wp))))))))))
theorem _Qh:FnScope ["heap","found","weight","marks"] ["heap"] (_f _Yv):=fsc
theorem _qhu {f:Addr} {fd:Am} (F:Fun K "liked" "liked" _Yv f fd) (T:Txt mg) :FnOk P w K mg base CX0 1 f fd ["heap"] (spO K 1 _vs) :=
 fnO F _Qh (k:=0) (n:=1) (m:=4) (b:=_qcj) rfl rfl fun cdv A outer s H E hr =>
  (_h (_C 1 (_q (i:=1) _Qh.nd rfl (.inl rfl) (DO.m _ (_Z1 _l))))
   (_h (_qbo Be rfl (_g 0 (pv 0)) (_qjc rfl (_vj (_vz 2 (_q0 (i:=2) _Qh.nd rfl (.inl rfl))) (_vj (_vz 3 (_q0 (i:=3) _Qh.nd rfl (.inl rfl))) _qbt))) (_o (_qpt (i:=1) (_qz (_qfn Br PySem.F.slot_list_extend PySem.F.type_list_extend _qap (_Xb (pv 1)) (_d (_g 3 (pv 3)) _n))))))
   (_o (_H (DO.m _ (_Z0 rfl rfl rfl T.z_sorted T.z_set (_g 1 (pv 1))))))))
theorem _v3:FnScope ["heap","purses","rows","chosen","price","rated"] ["heap","purses","rows"] (_f _Xx):=fsc
theorem _qds {f:Addr} {fd:Am} (F:Fun K "offers" "offers" _Xx f fd) (T:Txt mg) (G_weight_of:Fn P w K mg base 1 "weight_of" ["heap"] (spD K 1 _qn)) (G_rate:Fn P w K mg base 4 "rate" ["heap","purses","candidate","price"] (spD K 4 _Zl)) (G_liked:Fn P w K mg base 1 "liked" ["heap"] (spO K 1 _vs)):FnOk P w K mg base CX0 5 f fd ["heap","purses","rows"] (spD K 3 _xo) :=
 FnOk.d (fnO F _v3 (k:=4) (n:=3) (m:=6) (b:=_Vd) rfl rfl fun cdv A outer s H E hr =>
  (_h (_C 3 (_q (i:=3) _v3.nd rfl (.inr rfl) (DO.m _ (_W (cl:=_) (N':=["row"]) (js:=[none]) (by o_reads) (by exact (_J (_g 2 (pv 2)))) (fun _ _ _ q=>_E q) (by exact fun _ _ _ _ _=>(_A 0 (pgc 0))) (by exact fun _ _ _ _ _=>_qr) (by exact fun _ _ _ _ _=>(DE.o (_qv (_g 0 (pv 0)) _r (fun _ _=>rfl))))))))
   (_h (_C 4 (_q (i:=4) _v3.nd rfl (.inr rfl) (DE.m _ (_jv G_weight_of (hm hr) rfl (_b (_g 0 (pv 0)) _l)))))
   (_h (_qj6 (i:=5) (cl:=_) (N':=["candidate","heap","purses","price","chosen"]) (js:=[none,some 0,some 1,some 4,some 3]) (by o_reads) (by exact (_J (DO.de (_qja G_liked (hm hr) rfl (_b (_g 0 (pv 0)) _l))))) (fun _ _ _ q=>_E q) (by exact fun _ _ _ _ _=>(_A 0 (pgc 0))) (by exact fun _ _ _ _ _=>(_Q7 (_x6 (_V6 (_qg3 hr)) _V3 (_g 0 (pv 0)) (_g 4 (pv 4)) (by rfl)))) (by exact fun _ _ _ _ _=>(DE.o (_Q9 (_b (_g 0 (pv 0)) (_b (_jv G_rate (hm hr) rfl (_b (_g 1 (pv 1)) (_b (_g 2 (pv 2)) (_b (_g 0 (pv 0)) (_b (_g 3 (pv 3)) _l))))) _l))))) _v3.nd rfl rfl rfl)
   (_o (_H (DO.m _ (_W (cl:=_) (N':=["offer"]) (js:=[none]) (by o_reads) (by exact (_J (_g 5 (pv 5)))) (fun _ _ _ q=>_E q) (by exact fun _ _ _ _ _=>(_A 0 (pgc 0))) (by exact fun _ _ _ _ _=>(_Q7 (_x6 _qab _qa9 (_qv (_g 0 (pv 0)) _r (fun _ _=>rfl)) _Wp (_qg _)))) (by exact fun _ _ _ _ _=>(DE.o (_g 0 (pv 0))))))))))))
theorem _qgs:FnScope ["one","other"] ["one","other"] (_f _Yu):=fsc
theorem _qht {f:Addr} {fd:Am} (F:Fun K "minus" "minus" _Yu f fd) (T:Txt mg) (G_share:Fn P w K mg base 2 "share" ["top","bottom"] (spD K 2 _xn)):FnOk P w K mg base CX0 3 f fd ["one","other"] (spD K 2 _w4) :=
 FnOk.d (fnO F _qgs (k:=2) (n:=2) (m:=2) (b:=_qci) rfl rfl fun cdv A outer s H E hr =>
  (_o (_H (DE.m _ (_jv G_share (hm hr) rfl (_b (_xd _Zd _V2 (_xd _N _M (_qv (_g 0 (pv 0)) _r (fun _ _=>rfl)) (_qv (_g 1 (pv 1)) _r (fun _ _=>rfl))) (_xd _N _M (_qv (_g 1 (pv 1)) _r (fun _ _=>rfl)) (_qv (_g 0 (pv 0)) _r (fun _ _=>rfl)))) (_b (_xd _N _M (_qv (_g 0 (pv 0)) _r (fun _ _=>rfl)) (_qv (_g 1 (pv 1)) _r (fun _ _=>rfl))) _l)))))))
theorem _wj:FnScope ["purse","due"] ["purse","due"] (_f _jz):=fsc
theorem _wm {f:Addr} {fd:Am} (F:Fun K "purse_behind" "purse_behind" _jz f fd) (T:Txt mg) (G_below:Fn P w K mg base 1 "below" ["one","other"] (spD K 2 _vt)) (G_minus:Fn P w K mg base 3 "minus" ["one","other"] (spD K 2 _w4)):FnOk P w K mg base CX0 4 f fd ["purse","due"] (spD K 2 _S) :=
 FnOk.d (fnO F _wj (k:=3) (n:=2) (m:=2) (b:=_q4) rfl rfl fun cdv A outer s H E hr =>
  (_h (_qcs (_qj2 (_jv G_below (hm hr) rfl (_b (_g 0 (pv 0)) (_b (_g 1 (pv 1)) _l)))) (_o (_H (DE.m _ (_Q9 (_b _r (_b _r _l)))))) _zb)
   (_o (_H (DE.m _ (_jv G_minus (hm hr) rfl (_b (_g 0 (pv 0)) (_b (_g 1 (pv 1)) _l))))))))
theorem _Yr:FnScope ["heap","purses","candidate","due","behind","place"] ["heap","purses","candidate","due"] (_f _qgy):=fsc
theorem _qlj {f:Addr} {fd:Am} (F:Fun K "paid" "paid" _qgy f fd) (T:Txt mg) (G_purse_behind:Fn P w K mg base 4 "purse_behind" ["purse","due"] (spD K 2 _S)) (G_likers:Fn P w K mg base 3 "likers" ["heap","candidate"] (spO K 2 _q8)):FnOk P w K mg base CX0 5 f fd ["heap","purses","candidate","due"] (spD K 4 _qat) :=
 FnOk.d (fnO F _Yr (k:=4) (n:=4) (m:=6) (b:=_qjo) rfl rfl fun cdv A outer s H E hr =>
  (_h (_C 4 (_q (i:=4) _Yr.nd rfl (.inl rfl) (DO.m _ (_Kq _j6 _Xe rfl T.z_list _k7 (_b (_g 1 (pv 1)) _l)))))
   (_h (_qbo Be rfl (DO.de (_qja G_likers (hm hr) rfl (_b (_g 0 (pv 0)) (_b (_g 2 (pv 2)) _l)))) (_vz 5 (_q0 (i:=5) _Yr.nd rfl (.inl rfl))) (_o (_qps (i:=4) (_qoe (DE.m _ (_jv G_purse_behind (hm hr) rfl (_b (_qv (_g 1 (pv 1)) (_g 5 (pv 5)) (fun _ _=>rfl)) (_b (_g 3 (pv 3)) _l)))) (_qoh (_Xb (pv 4)) (_g 5 (pv 5)) _qgq)))))
   (_o (_H (DE.m _ (_g 4 (pv 4))))))))
theorem _xw:FnScope ["heap","seats","purses","rows","offer"] ["heap","seats"] (_f _Xw):=fsc
theorem _qdr {f:Addr} {fd:Am} (F:Fun K "rounds" "rounds" _Xw f fd) (T:Txt mg) (G_first_purses:Fn P w K mg base 1 "first_purses" ["heap","seats"] (spD K 2 _w)) (G_least:Fn P w K mg base 2 "least" ["offers"] (spD K 1 _xp)) (G_offers:Fn P w K mg base 5 "offers" ["heap","purses","rows"] (spD K 3 _xo)) (G_paid:Fn P w K mg base 5 "paid" ["heap","purses","candidate","due"] (spD K 4 _qat)):FnOk P w K mg base CX0 6 f fd ["heap","seats"] (spD K 2 _vg) :=
 FnOk.d (fnO F _xw (k:=5) (n:=2) (m:=5) (b:=_Vb) rfl rfl fun cdv A outer s H E hr =>
  (_h (_C 2 (_q (i:=2) _xw.nd rfl (.inl rfl) (DE.m _ (_jv G_first_purses (hm hr) rfl (_b (_g 0 (pv 0)) (_b (_g 1 (pv 1)) _l))))))
   (_h (_C 3 (_q (i:=3) _xw.nd rfl (.inl rfl) (DO.m _ (_Z1 _l))))
   (_h (_C 4 (_q (i:=4) _xw.nd rfl (.inl rfl) (DE.m _ (_jv G_least (hm hr) rfl (_b (_jv G_offers (hm hr) rfl (_b (_g 0 (pv 0)) (_b (_g 2 (pv 2)) (_b (_g 3 (pv 3)) _l)))) _l)))))
   (_h (_Zy Be (_x6 _qab _qa9 (_g 4 (pv 4)) _Wp (_qg _)) (_h (_C 2 (_q (i:=2) _xw.nd rfl (.inl rfl) (DE.m _ (_jv G_paid (hm hr) rfl (_b (_g 0 (pv 0)) (_b (_g 2 (pv 2)) (_b (_qv (_g 4 (pv 4)) _r (fun _ _=>rfl)) (_b (_qv (_g 4 (pv 4)) _r (fun _ _=>rfl)) _l))))))))
   (_h (_qj7 (i:=3) (_qz (_qfn Br B0 B3 _j2 (_Xb (pv 3)) (_d (DE.m _ (_Q9 (_b (_qv (_g 4 (pv 4)) _r (fun _ _=>rfl)) (_b (_qv (_g 4 (pv 4)) _r (fun _ _=>rfl)) (_b (_g 2 (pv 2)) _l))))) _n))))
   (_o (_C 4 (_q (i:=4) _xw.nd rfl (.inl rfl) (DE.m _ (_jv G_least (hm hr) rfl (_b (_jv G_offers (hm hr) rfl (_b (_g 0 (pv 0)) (_b (_g 2 (pv 2)) (_b (_g 3 (pv 3)) _l)))) _l)))))))))
   (_o (_H (DE.m _ (_g 3 (pv 3))))))))))
theorem _kk:FnScope ["rows"] ["rows"] (_f _jl):=fsc
theorem _ku {f:Addr} {fd:Am} (F:Fun K "candidates_of" "candidates_of" _jl f fd) (T:Txt mg) :FnOk P w K mg base CX0 1 f fd ["rows"] (spD K 1 _G) :=
 FnOk.d (fnO F _kk (k:=0) (n:=1) (m:=1) (b:=_jo) rfl rfl fun cdv A outer s H E hr =>
  (_o (_H (DO.m _ (_W (cl:=_) (N':=["row"]) (js:=[none]) (by o_reads) (by exact (_J (_g 0 (pv 0)))) (fun _ _ _ q=>_E q) (by exact fun _ _ _ _ _=>(_A 0 (pgc 0))) (by exact fun _ _ _ _ _=>_qr) (by exact fun _ _ _ _ _=>(DE.o (_qv (_g 0 (pv 0)) _r (fun _ _=>rfl)))))))))
theorem _Yq:FnScope ["heap","amounts","places"] ["heap","amounts","places"] (_f _Ql):=fsc
theorem _qae {f:Addr} {fd:Am} (F:Fun K "weighed" "weighed" _Ql f fd) (T:Txt mg) :FnOk P w K mg base CX0 1 f fd ["heap","amounts","places"] (spD K 3 _zy) :=
 FnOk.d (fnO F _Yq (k:=0) (n:=3) (m:=3) (b:=_Je) rfl rfl fun cdv A outer s H E hr =>
  (_o (_H (DE.m _ (_j5 (_Jc rfl) _Ja rfl T.z_sum _qjj (_b (DO.de (_W (cl:=_) (N':=["place","amounts","heap"]) (js:=[none,some 1,some 0]) (by o_reads) (by exact (_J (_g 2 (pv 2)))) (fun _ _ _ q=>_E q) (by exact fun _ _ _ _ _=>(_A 0 (pgc 0))) (by exact fun _ _ _ _ _=>_qr) (by exact fun _ _ _ _ _=>(DE.o (_xd _N _M (_qv (_qv (_g 2 (pv 2)) (_g 0 (pv 0)) (fun _ _=>rfl)) _r (fun _ _=>rfl)) (_qv (_g 1 (pv 1)) (_g 0 (pv 0)) (fun _ _=>rfl))))))) _l))))))
theorem _Vu:FnScope ["heap","purses","candidate","places","bottom","missing"] ["heap","purses","candidate"] (_f _qgu):=fsc
theorem _qlf {f:Addr} {fd:Am} (F:Fun K "wait" "wait" _qgu f fd) (T:Txt mg) (G_likers:Fn P w K mg base 3 "likers" ["heap","candidate"] (spO K 2 _q8)) (G_common_bottom:Fn P w K mg base 2 "common_bottom" ["fractions"] (spD K 1 _z)) (G_weight_of:Fn P w K mg base 1 "weight_of" ["heap"] (spD K 1 _qn)) (G_weighed:Fn P w K mg base 1 "weighed" ["heap","amounts","places"] (spD K 3 _zy)) (G_tops_over:Fn P w K mg base 1 "tops_over" ["bottom","fractions"] (spD K 2 _qp)) (G_share:Fn P w K mg base 2 "share" ["top","bottom"] (spD K 2 _xn)) (G_weight_at:Fn P w K mg base 1 "weight_at" ["heap","places"] (spD K 2 _qo)):FnOk P w K mg base CX0 4 f fd ["heap","purses","candidate"] (spD K 3 _Zk) :=
 FnOk.d (fnO F _Vu (k:=3) (n:=3) (m:=6) (b:=_qeu) rfl rfl fun cdv A outer s H E hr =>
  (_h (_C 3 (_q (i:=3) _Vu.nd rfl (.inl rfl) (DO.m _ (_qja G_likers (hm hr) rfl (_b (_g 0 (pv 0)) (_b (_g 2 (pv 2)) _l))))))
   (_h (_C 4 (_q (i:=4) _Vu.nd rfl (.inl rfl) (DE.m _ (_jv G_common_bottom (hm hr) rfl (_b (_g 1 (pv 1)) _l)))))
   (_h (_C 5 (_q (i:=5) _Vu.nd rfl (.inl rfl) (DE.m _ (_xd _Zd _V2 (_xd _N _M (_jv G_weight_of (hm hr) rfl (_b (_g 0 (pv 0)) _l)) (_g 4 (pv 4))) (_jv G_weighed (hm hr) rfl (_b (_g 0 (pv 0)) (_b (_jv G_tops_over (hm hr) rfl (_b (_g 4 (pv 4)) (_b (_g 1 (pv 1)) _l))) (_b (_g 3 (pv 3)) _l))))))))
   (_h (_qcs (_x6 op_le _qla (_g 5 (pv 5)) _r (_qg _)) (_o (_H (DE.m _ (_Q9 (_b _r (_b _r _l)))))) _zb)
   (_o (_H (DE.m _ (_jv G_share (hm hr) rfl (_b (_g 5 (pv 5)) (_b (_xd _N _M (_jv G_weight_at (hm hr) rfl (_b (_g 0 (pv 0)) (_b (_g 3 (pv 3)) _l))) (_g 4 (pv 4))) _l)))))))))))
theorem _qgr:FnScope ["heap","purses","chosen","seats"] ["heap","purses","chosen","seats"] (_f _Ys):=fsc
theorem _qhp {f:Addr} {fd:Am} (F:Fun K "waits" "waits" _Ys f fd) (T:Txt mg) (G_wait:Fn P w K mg base 4 "wait" ["heap","purses","candidate"] (spD K 3 _Zk)) (G_liked:Fn P w K mg base 1 "liked" ["heap"] (spO K 1 _vs)):FnOk P w K mg base CX0 5 f fd ["heap","purses","chosen","seats"] (spD K 4 _vr) :=
 FnOk.d (fnO F _qgr (k:=4) (n:=4) (m:=4) (b:=_K5) rfl rfl fun cdv A outer s H E hr =>
  (_h (_qcs (_x6 op_ge _qom (_j5 _qc _Jb rfl T.z_len _wr (_b (_g 2 (pv 2)) _l)) (_g 3 (pv 3)) (_qg _)) (_o (_H (DO.m _ (_Z1 _l)))) _zb)
   (_o (_H (DO.m _ (_W (cl:=_) (N':=["candidate","heap","purses","chosen"]) (js:=[none,some 0,some 1,some 2]) (by o_reads) (by exact (_J (DO.de (_qja G_liked (hm hr) rfl (_b (_g 0 (pv 0)) _l))))) (fun _ _ _ q=>_E q) (by exact fun _ _ _ _ _=>(_A 0 (pgc 0))) (by exact fun _ _ _ _ _=>(_Q7 (_x6 (_V6 (_qg3 hr)) _V3 (_g 0 (pv 0)) (_g 3 (pv 3)) (by rfl)))) (by exact fun _ _ _ _ _=>(DE.o (_Q9 (_b (_g 0 (pv 0)) (_b (_jv G_wait (hm hr) rfl (_b (_g 1 (pv 1)) (_b (_g 2 (pv 2)) (_b (_g 0 (pv 0)) _l)))) _l)))))))))))
theorem _qkp:FnScope ["one","other"] ["one","other"] (_f _qgx):=fsc
theorem _qli {f:Addr} {fd:Am} (F:Fun K "plus" "plus" _qgx f fd) (T:Txt mg) (G_share:Fn P w K mg base 2 "share" ["top","bottom"] (spD K 2 _xn)):FnOk P w K mg base CX0 3 f fd ["one","other"] (spD K 2 _J0) :=
 FnOk.d (fnO F _qkp (k:=2) (n:=2) (m:=2) (b:=_qjn) rfl rfl fun cdv A outer s H E hr =>
  (_o (_H (DE.m _ (_jv G_share (hm hr) rfl (_b (_xd _V8 _V5 (_xd _N _M (_qv (_g 0 (pv 0)) _r (fun _ _=>rfl)) (_qv (_g 1 (pv 1)) _r (fun _ _=>rfl))) (_xd _N _M (_qv (_g 1 (pv 1)) _r (fun _ _=>rfl)) (_qv (_g 0 (pv 0)) _r (fun _ _=>rfl)))) (_b (_xd _N _M (_qv (_g 0 (pv 0)) _r (fun _ _=>rfl)) (_qv (_g 1 (pv 1)) _r (fun _ _=>rfl))) _l)))))))
theorem _xh:FnScope ["heap","purses","offer","places"] ["heap","purses","offer"] (_f _jj):=fsc
theorem _ks {f:Addr} {fd:Am} (F:Fun K "purses_behind" "purses_behind" _jj f fd) (T:Txt mg) (G_likers:Fn P w K mg base 3 "likers" ["heap","candidate"] (spO K 2 _q8)) (G_plus:Fn P w K mg base 3 "plus" ["one","other"] (spD K 2 _J0)):FnOk P w K mg base CX0 4 f fd ["heap","purses","offer"] (spD K 3 _X) :=
 FnOk.d (fnO F _xh (k:=3) (n:=3) (m:=4) (b:=_jm) rfl rfl fun cdv A outer s H E hr =>
  (_h (_C 3 (_q (i:=3) _xh.nd rfl (.inr rfl) (DO.m _ (_qja G_likers (hm hr) rfl (_b (_g 0 (pv 0)) (_b (_qv (_g 2 (pv 2)) _r (fun _ _=>rfl)) _l))))))
   (_o (_H (DO.m _ (_W (cl:=_) (N':=["place","purse","places","offer"]) (js:=[none,none,some 3,some 2]) (by o_reads) (by exact (_qa1 rfl T.z_enumerate (_g 1 (pv 1)))) (fun _ _ _ q=>_Ku q) (by exact fun _ _ _ _ _=>(_Kr rfl (_jh (_A 0 (pgc 0)) (_jh (_A 1 (pgc 1)) _Q8)))) (by exact fun _ _ _ _ _=>_qr) (by exact fun _ _ _ _ _=>(DE.o (de_if (_x6 (_qac (_qg3 hr)) _qlb (_g 0 (pv 0)) (_g 2 (pv 2)) (by rfl)) (_Q9 (_b _r (_b _r _l))) (_jv G_plus (hm hr) rfl (_b (_g 1 (pv 1)) (_b (_qv (_g 3 (pv 3)) _r (fun _ _=>rfl)) _l))))))))))))
theorem _z8:FnScope ["heap","purses","members","seats","chosen","rows","offer"] ["heap","purses","members","seats"] (_f _Yx):=fsc
theorem _qhw {f:Addr} {fd:Am} (F:Fun K "grown" "grown" _Yx f fd) (T:Txt mg) (G_least:Fn P w K mg base 2 "least" ["offers"] (spD K 1 _xp)) (G_waits:Fn P w K mg base 5 "waits" ["heap","purses","chosen","seats"] (spD K 4 _vr)) (G_purses_behind:Fn P w K mg base 4 "purses_behind" ["heap","purses","offer"] (spD K 3 _X)):FnOk P w K mg base CX0 6 f fd ["heap","purses","members","seats"] (spD K 4 _J1) :=
 FnOk.d (fnO F _z8 (k:=5) (n:=4) (m:=7) (b:=_qcl) rfl rfl fun cdv A outer s H E hr =>
  (_h (_C 4 (_q (i:=4) _z8.nd rfl (.inl rfl) (DO.m _ (_Kq _j6 _Xe rfl T.z_list _k7 (_b (_g 2 (pv 2)) _l)))))
   (_h (_C 5 (_q (i:=5) _z8.nd rfl (.inl rfl) (DO.m _ (_Z1 _l))))
   (_h (_C 6 (_q (i:=6) _z8.nd rfl (.inl rfl) (DE.m _ (_jv G_least (hm hr) rfl (_b (_jv G_waits (hm hr) rfl (_b (_g 0 (pv 0)) (_b (_g 1 (pv 1)) (_b (_g 4 (pv 4)) (_b (_g 3 (pv 3)) _l))))) _l)))))
   (_h (_Zy Be (_x6 _qab _qa9 (_g 6 (pv 6)) _Wp (_qg _)) (_h (_C 1 (_q (i:=1) _z8.nd rfl (.inl rfl) (DE.m _ (_jv G_purses_behind (hm hr) rfl (_b (_g 0 (pv 0)) (_b (_g 1 (pv 1)) (_b (_g 6 (pv 6)) _l)))))))
   (_h (_qj7 (i:=5) (_qz (_qfn Br B0 B3 _j2 (_Xb (pv 5)) (_d (DE.m _ (_Q9 (_b (_qv (_g 6 (pv 6)) _r (fun _ _=>rfl)) (_b (_qv (_g 6 (pv 6)) _r (fun _ _=>rfl)) (_b (_g 1 (pv 1)) _l))))) _n))))
   (_h (_qj7 (i:=4) (_qz (_qfn Br B0 B3 _j2 (_Xb (pv 4)) (_d (DE.m _ (_qv (_g 6 (pv 6)) _r (fun _ _=>rfl))) _n))))
   (_o (_C 6 (_q (i:=6) _z8.nd rfl (.inl rfl) (DE.m _ (_jv G_least (hm hr) rfl (_b (_jv G_waits (hm hr) rfl (_b (_g 0 (pv 0)) (_b (_g 1 (pv 1)) (_b (_g 4 (pv 4)) (_b (_g 3 (pv 3)) _l))))) _l))))))))))
   (_o (_H (DE.m _ (_g 5 (pv 5))))))))))
theorem _Qj:FnScope ["heap","seats","rows"] ["heap","seats","rows"] (_f _xj):=fsc
theorem _Qv {f:Addr} {fd:Am} (F:Fun K "last_purses" "last_purses" _xj f fd) (T:Txt mg) (G_first_purses:Fn P w K mg base 1 "first_purses" ["heap","seats"] (spD K 2 _w)):FnOk P w K mg base CX0 2 f fd ["heap","seats","rows"] (spD K 3 _qe) :=
 FnOk.d (fnO F _Qj (k:=1) (n:=3) (m:=3) (b:=_ji) rfl rfl fun cdv A outer s H E hr =>
  (_h (_qcs (_x6 (_qho hr.units) _qhm (_g 2 (pv 2)) (DO.de (_Z1 _l)) (_qg _)) (_o (_H (DE.m _ (_jv G_first_purses (hm hr) rfl (_b (_g 0 (pv 0)) (_b (_g 1 (pv 1)) _l)))))) _zb)
   (_o (_H (DE.m _ (_qv (_qv (_g 2 (pv 2)) (de_un _qk6 _qf2 _r) (fun _ _=>rfl)) _r (fun _ _=>rfl)))))))
theorem _Qk:FnScope ["heap","seats","bought","chosen","added"] ["heap","seats"] (_f _Yy):=fsc
theorem _qhx {f:Addr} {fd:Am} (F:Fun K "bench" "bench" _Yy f fd) (T:Txt mg) (G_rounds:Fn P w K mg base 6 "rounds" ["heap","seats"] (spD K 2 _vg)) (G_candidates_of:Fn P w K mg base 1 "candidates_of" ["rows"] (spD K 1 _G)) (G_grown:Fn P w K mg base 6 "grown" ["heap","purses","members","seats"] (spD K 4 _J1)) (G_last_purses:Fn P w K mg base 2 "last_purses" ["heap","seats","rows"] (spD K 3 _qe)):FnOk P w K mg base CX0 7 f fd ["heap","seats"] (spD K 2 _w5) :=
 FnOk.d (fnO F _Qk (k:=6) (n:=2) (m:=5) (b:=_qcm) rfl rfl fun cdv A outer s H E hr =>
  (_h (_C 2 (_q (i:=2) _Qk.nd rfl (.inl rfl) (DE.m _ (_jv G_rounds (hm hr) rfl (_b (_g 0 (pv 0)) (_b (_g 1 (pv 1)) _l))))))
   (_h (_C 3 (_q (i:=3) _Qk.nd rfl (.inl rfl) (DE.m _ (_jv G_candidates_of (hm hr) rfl (_b (_g 2 (pv 2)) _l)))))
   (_h (_C 4 (_q (i:=4) _Qk.nd rfl (.inl rfl) (DE.m _ (_jv G_grown (hm hr) rfl (_b (_g 0 (pv 0)) (_b (_jv G_last_purses (hm hr) rfl (_b (_g 0 (pv 0)) (_b (_g 1 (pv 1)) (_b (_g 2 (pv 2)) _l)))) (_b (DO.de (_qbr _k6 _k5 rfl T.z_sorted _j7 (_b (_g 3 (pv 3)) _l))) (_b (_g 1 (pv 1)) _l))))))))
   (_o (_H (DO.m _ (_qms (_Z2 (_qbr _k6 _k5 rfl T.z_sorted _j7 (_b (DO.de (do_op _qad _qfr (_g 3 (pv 3)) (_jv G_candidates_of (hm hr) rfl (_b (_g 4 (pv 4)) _l)))) _l)) (_Z2 (DE.o (_g 2 (pv 2))) (_Z2 (DE.o (_g 4 (pv 4))) _qn0)))))))))))
theorem _Xv:FnScope ["script","k"] ["script","k"] (_f _vc):=fsc
theorem _Zh {f:Addr} {fd:Am} (F:Fun K "_law_cell" "_law_cell" _vc f fd) (T:Txt mg) :FnOk P w K mg base CX0 1 f fd ["script","k"] (spD K 2 _T) :=
 FnOk.d (fnO F _Xv (k:=0) (n:=2) (m:=2) (b:=_jw) rfl rfl fun cdv A outer s H E hr =>
  (_h (_qcs (_x6 _qle _qhl (_g 1 (pv 1)) (_j5 _qc _Jb rfl T.z_len _wr (_b (_g 0 (pv 0)) _l)) (_qg _)) (_o (_H (DE.m _ (_qv (_g 0 (pv 0)) (_g 1 (pv 1)) (fun _ _=>rfl))))) _zb)
   (_h (_qcs (_x6 (_qho hr.units) _qhm (_g 0 (pv 0)) (DO.de (_Z1 _l)) (_qg _)) (_o (_H (DE.m _ (_xd _V8 _V5 (_xd _N _M (_xd _N _M (_g 1 (pv 1)) (_g 1 (pv 1))) _r) (_xd _N _M _r (_g 1 (pv 1))))))) _zb)
   (_o (_H (DE.m _ (_xd _qaa _qa8 (_xd _N _M (_xd _V8 _V5 (_xd _V8 _V5 (_qv (_g 0 (pv 0)) (_xd _qaa _qa8 (_g 1 (pv 1)) (_j5 _qc _Jb rfl T.z_len _wr (_b (_g 0 (pv 0)) _l))) (fun _ _=>rfl)) (_xd _N _M (_xd _N _M (_g 1 (pv 1)) (_g 1 (pv 1))) _r)) _r) _r) _r)))))))
theorem _wu:FnScope ["heap","seats","names","found"] ["heap","seats","names"] (_f _kl):=fsc
theorem _Wg {f:Addr} {fd:Am} (F:Fun K "_law_due" "_law_due" _kl f fd) (T:Txt mg) (G_bench:Fn P w K mg base 7 "bench" ["heap","seats"] (spD K 2 _w5)):FnOk P w K mg base CX0 8 f fd ["heap","seats","names"] (spD K 3 _zz) :=
 FnOk.d (fnO F _wu (k:=7) (n:=3) (m:=4) (b:=_wa) rfl rfl fun cdv A outer s H E hr =>
  (_h (_C 3 (_q (i:=3) _wu.nd rfl (.inl rfl) (DE.m _ (_jv G_bench (hm hr) rfl (_b (_g 0 (pv 0)) (_b (_g 1 (pv 1)) _l))))))
   (_o (_H (DO.m _ (do_op _qad _qfr (DO.de (_W (cl:=_) (N':=["row","names"]) (js:=[none,some 2]) (by o_reads) (by exact (_J (_qv (_g 3 (pv 3)) _r (fun _ _=>rfl)))) (fun _ _ _ q=>_E q) (by exact fun _ _ _ _ _=>(_A 0 (pgc 0))) (by exact fun _ _ _ _ _=>_qr) (by exact fun _ _ _ _ _=>(DE.o (_qv (_g 1 (pv 1)) (_qv (_g 0 (pv 0)) _r (fun _ _=>rfl)) (fun _ _=>rfl)))))) (DO.de (_W (cl:=_) (N':=["row","names"]) (js:=[none,some 2]) (by o_reads) (by exact (_J (_qv (_g 3 (pv 3)) _r (fun _ _=>rfl)))) (fun _ _ _ q=>_E q) (by exact fun _ _ _ _ _=>(_A 0 (pgc 0))) (by exact fun _ _ _ _ _=>_qr) (by exact fun _ _ _ _ _=>(DE.o (_qv (_g 1 (pv 1)) (_qv (_g 0 (pv 0)) _r (fun _ _=>rfl)) (fun _ _=>rfl))))))))))))
end
abbrev _zg:Stmt:=top 49
def _qf9 (K:Frag):Sp:=fun vs H Q _=>∃ (F:Hp) (a:Addr) (ns:List Int) (at_ many:Nat),vs=[.ref a,.int (at_:Int),.int (many:Int)]/\_qu9 F H/\SqE K F a (ns.map V.int)/\ns.length <= 63/\at_ + many <= 900/\many <= 12 /\
 ∀ (l:Addr) (H':Hp) (names:List Str),_qu9 H H'->H l=none->H' l=some (.lst (names.map V.str))->names.length=many->names.Nodup->(∀ x∈names,_qi x)->Q (.ref l) H'
section
variable {P:Ak} {w:World} {K:Frag} {mg:Str->Option Value} {base:Heap}
theorem _u:FnScope ["script","at","many","letters","names","k","rest","size","name","j"] ["script","at","many"] (_f _zg):=fsc
theorem _Jz {f:Addr} {fd:Am} (F:Fun K "_law_names" "_law_names" _zg f fd) (T:Txt mg) (zr:mg "range"=none) (G:Fn P w K mg base 1 "_law_cell" ["script","k"] (spD K 2 _T)):FnOk P w K mg base CX0 2 f fd ["script","at","many"] (_qf9 K):=by
 obtain ⟨fc,fdc,okc,mc,kc,bc⟩:=G;refine F.ok _u (k:=1) (fun vs H Q E h=>by obtain ⟨_,_,_,_,_,rfl,_⟩:=h; rfl) fun cdv A outer s H vs Q E hr h=>⟨_,_j (_q (i:=3) _u.nd rfl (.inl rfl) _qhe) (_j (_q (i:=4) _u.nd rfl (.inl rfl) (_Wf _n)) (_j
  (_X4 Be rfl (_v4 rfl zr (_d (pv 2) _n)) (_q0 (i:=5) _u.nd rfl (.inl rfl))
   (_j (_q (i:=6) _u.nd rfl (.inl rfl) (_q6 okc (hm hr) rfl mc kc bc .nil _zs (_d (pv 0) (_d (_q3 _x5 (pv 1) (pv 5)) _n))))
   (_j (_q (i:=7) _u.nd rfl (.inl rfl) (_q3 _x5 _m (_q3 _x4 (pv 6) _m)))
   (_j (_q (i:=8) _u.nd rfl (.inl rfl) _qhe)
   (_j (_X4 Be rfl (_v4 rfl zr (_d (pv 7) _n)) (_q0 (i:=9) _u.nd rfl (.inl rfl))
    (_j (_q (i:=6) _u.nd rfl (.inl rfl) (_q3 _kq (pv 6) _m))
    (_v (_q (i:=8) _u.nd rfl (.inl rfl) (_q3 _kr (pv 8) (_Za _qii (pv 3) (_q3 _x4 (pv 6) _m) (fun _ _=>rfl)))))))
   (_j (_Y8 Be (_qd (_qac (_qg3 hr)) (pv 8) (pv 4) (by rfl))
    (_v (_q (i:=8) _u.nd rfl (.inl rfl) (_q3 _kr (_Za _qii (pv 3) (_q3 _x4 (_q3 _x5 (_qfn PySem.F.plainAttrs_str PySem.F.slot_str_index PySem.F.type_str_index _qi3 (pv 3) (_d (_Za _qii (pv 8) _m (fun _ _=>rfl)) _n)) _m) _m) (fun _ _=>rfl)) (_qhf _qkl (pv 8) (_qkz _m) _ql0)))))
   (_v (_qz (_qfn Br B0 B3 _j2 (pv 4) (_d (pv 8) _n))))))))))
  (_v (_v1 (pv 4))))),?_⟩
 obtain ⟨F0,a,ns,at_,many,rfl,sm,ha,hn,h9,hm,k⟩:=h;refine ⟨by show 0 <= Aj; decide,fun l hl=>?_⟩;refine ⟨_,rfl,(many:Int),rfl,by omega,by omega,_v8 (n:=((many:Nat):Int).toNat) (fun i σ' H'=>∃ c5 c6 c7 c8 c9 names,σ'=[some (.ref a),some (.int (at_:Int)),some (.int (many:Int)),some (.str _xb),some (.ref l),c5,c6,c7,c8,c9]/\_qu9 H H'/\H' l=some (.lst (names.map V.str))/\names.length=i/\names.Nodup/\∀ x∈names,_qi x)
  ⟨none,none,none,none,none,[],rfl,_i hl,_a,rfl,nodup_nil,by simp⟩ (fun i σ' H' hi hI=>?_) fun σ' H' hI=>?_⟩
 ·obtain ⟨c5,c6,c7,c8,c9,names,rfl,s1,hl1,hnl,hnd,hok⟩:=hI
  have hi':i < many:=by simpa using hi
  have ce:=_qc3 ns (at_ + i) (by omega);rw [show (((at_ + i:Nat):Nat):Int)=(at_:Int) + (0 + (i:Int)) by omega] at ce;refine ⟨_,rfl,_,rfl,_,rfl,_,_,rfl,rfl,F0,[MB._y ns,.int ((at_:Int) + (0 + (i:Int)))],_,sm.trans s1,.cons (.lst ha (_R ns)) (.cons (.int _) .nil),rfl,ce,fun v F' H2 e2 r2=>?_⟩;cases r2;generalize cellOf ns (at_ + i)=c;have s2:=s1.trans e2.hh;have hl2:=e2.hh _ _ hl1;clear e2 hl1 s1;refine ⟨_,rfl,_,_,rfl,rfl,(by show (0:Int) < 8; decide),_,_,rfl,rfl,?_⟩;have b0:=Bt c (b:=8) (by decide);have b1:=Bk c (b:=8) (by decide);dsimp only;generalize hsz:1 + c % 8=size;refine ⟨_,rfl,size,rfl,by omega,by omega,_v8 (n:=size.toNat) (fun j σ3 H3=>∃ (r:Int) (x:Str) (c9:Option V),σ3=[some (.ref a),some (.int (at_:Int)),some (.int (many:Int)),some (.str _xb),some (.ref l),some (.int (0 + (i:Int))),some (.int r),some (.int size),some (.str x),c9]/\H3=H2/\x.length=j/\∀ d∈x.cps.toList,97 <= d/\d < 123)
   ⟨c,"",c9,rfl,rfl,rfl,fun d hd=>by rw [show (Cu "").cps.toList=[] by decide +kernel] at hd; cases hd⟩ (fun j σ3 H3 hj hI=>?_) fun σ3 H3 hI=>?_⟩
  ·obtain ⟨r,x,c9,rfl,rfl,hx,hxl⟩:=hI
   have q0:=Bt (r / 8) (b:=26) (by decide);have q1:=Bk (r / 8) (b:=26) (by decide);refine ⟨_,rfl,_,_,rfl,rfl,⟨by decide,by decide⟩,?_⟩;refine ⟨_,rfl,_,rfl,_,rfl,_,_,rfl,rfl,(by show (0:Int) < 26; decide),_xb,_,_,rfl,rfl,_w6,_wc q0 q1,_,_,rfl,rfl,?_,?_⟩
   ·show x.length + 1 <= Aj
    rw [Ao]; omega
   ·refine ⟨_,_,_,rfl,rfl,?_,fun d hd=>?_⟩
    ·rw [str_len,_qf7,length_append,<- str_len,hx]; rfl
    ·rw [_qf7] at hd
     rcases Dd.mp hd with hd | hd
     ·exact hxl d hd
     ·simp at hd; omega
  ·obtain ⟨r,x,c9,rfl,rfl,hx,hxl⟩:=hI
   have hx0:_qi x:=⟨by omega,by omega,hxl⟩;clear hxl;obtain ⟨m0,_,hm0⟩:=_qjt hx0 names (by omega);refine ⟨fun m σ4 H4=>∃ y,σ4=[some (.ref a),some (.int (at_:Int)),some (.int (many:Int)),some (.str _xb),some (.ref l),some (.int (0 + (i:Int))),some (.int r),some (.int size),some (.str y),c9]/\H4=H3/\_qi y/\adv m y ∉ names,⟨m0,x,rfl,rfl,hx0,hm0⟩,?_⟩;rintro m σ4 H4 ⟨y,rfl,rfl,hy,hadv⟩;refine ⟨_,rfl,_,rfl,H4,.str y,names.map D.str,false,_qu9.refl _,.str y,.lst (.inl (.inl hl2)) (_q2 names),_ze hy 20,_xg hok 19,_,rfl,?_⟩;simp only [Aw,if_false];rw [_v9]
   by_cases hin:y∈names
   ·rw [decide_eq_true hin,if_pos rfl]
    have hm1:1 <= m:=by
     rcases Nat.eq_zero_or_pos m with e | e
     ·subst e; rw [_qjs hy] at hadv; exact absurd hin hadv
     ·exact e
    refine ⟨fun σ5 H5=>∃ z,σ5=[some (.ref a),some (.int (at_:Int)),some (.int (many:Int)),some (.str _xb),some (.ref l),some (.int (0 + (i:Int))),some (.int r),some (.int size),some (.str z),c9]/\H5=H4/\_qi z/\adv (m - 1) z ∉ names,fun σ5 H5 hz=>⟨m - 1,by omega,hz⟩,?_⟩;obtain ⟨c,t,ec,h1,h2,ey⟩:=_zw hy;obtain ⟨_qt6,ho⟩:=_J3 (c - 97) (by omega);rw [show 97 + (c - 97)=c by omega] at ho;have at0:atI y.cps.toList (0:Int)=some c:=by rw [ec]; exact _K7 (j:=0) rfl
    have hyl:y.length <= Aj:=by rw [Ao]; have:=hy.2.1; omega
    have q0:=Bt (((c - 97:Nat):Int) + 1) (b:=26) (by decide);have q1:=Bk (((c - 97:Nat):Int) + 1) (b:=26) (by decide);refine ⟨_,rfl,_,rfl,rfl,_,rfl,y,_,c,rfl,rfl,hyl,at0,_xb,⟨#[c]⟩,c - 97,_qt6,rfl,rfl,ho,_,_,rfl,rfl,_,_,rfl,rfl,(by show (0:Int) < 26; decide),_xb,_,_,rfl,rfl,_w6,_wc q0 q1,_,rfl,_,rfl,y,rfl,rfl,rfl,hy.1,hyl,_,_,rfl,rfl,?_,?_⟩
    ·show 1 + (y.cps.toList.drop 1).toArray.size <= Aj
     rw [Ao]
     have:=hy.2.1
     rw [str_len] at this;simp at this ⊢;omega
    ·have e5:((⟨#[97 + ((((c - 97:Nat):Int) + 1) % 26).toNat]⟩:Str)++(⟨(y.cps.toList.drop 1).toArray⟩:Str))=adv 1 y:=by
      rw [_qna,_Xj ec,ec];congr 3
     refine ⟨_,?_,rfl,_qqa hy 1,?_⟩
     ·rw [e5]; rfl
     ·rw [_qnm hy,show 1 + (m - 1)=m by omega]; exact hadv
   ·rw [decide_eq_false hin,if_neg (by simp)]
    refine ⟨_,rfl,.inl ⟨rfl,_,SqL.of hl2⟩,_,rfl,l,_,_,rfl,rfl,hl2,?_,?_⟩
    ·rw [length_map,Ao]; omega
    ·refine ⟨_,_,_,_,_,names++[y],rfl,fun b u hb=>?_,?_,by simp [hnl],?_,fun z hz=>?_⟩
     ·rw [_e (_c hb hl)]; exact s2 _ _ hb
     ·rw [_a,map_append]; rfl
     ·exact Ih.mpr ⟨hnd,by simp,fun p hp q hq=>by simp at hq; subst hq; rintro rfl; exact hin hp⟩
     ·rcases Dd.mp hz with hz | hz
      ·exact hok z hz
      ·simp at hz; subst hz; exact hy
 ·obtain ⟨c5,c6,c7,c8,c9,names,rfl,s1,hl1,hnl,hnd,hok⟩:=hI
  exact ⟨_,rfl,k l H' names s1 hl hl1 (by simpa using hnl) hnd hok⟩
end
abbrev _qgv:Stmt:=top 9
abbrev sInit:Stmt:=_za (top 46) 0
abbrev _qh0:Stmt:=_za (top 46) 1
abbrev sCast:Stmt:=_za (top 46) 2
abbrev sLift:Stmt:=_za (top 46) 3
abbrev sLay:Stmt:=_za (top 46) 4
abbrev sHeap:Stmt:=_za (top 46) 5
abbrev _qh1:Stmt:=_za (top 46) 6
abbrev _qh2:Stmt:=_za (top 46) 7
abbrev _X1:Stmt:=_za (top 46) 10
abbrev sNums:Stmt:=_za (top 46) 9
theorem sb:¬ (("standing":Str)="ballots"):=by decide +kernel
def flds (l d:Addr):List (Str × V):=_qt8 "ballots" (.ref d) (_qt8 "standing" (.ref l) [])
theorem _k1 (l d:Addr):(flds l d).lookup ("standing":Str)=some (.ref l):=by
 unfold flds;rw [_qq,if_neg sb,_qq,if_pos rfl]
theorem _vx (l d:Addr):(flds l d).lookup ("ballots":Str)=some (.ref d):=by
 unfold flds;rw [_qq,if_pos rfl]
theorem _jf {l d:Addr} {m:Str} (h1:¬ m="ballots":=by decide +kernel) (h2:¬ m="standing":=by decide +kernel):(flds l d).lookup m=none:=by
 unfold flds;rw [_qq,if_neg h1,_qq,if_neg h2];rfl
abbrev _quf:=List (List Int × Int)
def kd (kv:_quf):List (List Key × V):=kv.map fun p=>(p.1.map Sum.inl,.int p.2)
def look (kv:_quf) (k:List Int):Option Int:=(kv.find? fun p=>decide (p.1=k)).map (·.2)
def put (kv:_quf) (k:List Int) (v:Int):_quf:=if (look kv k).isSome=true then kv.map fun p=>if p.1=k then (p.1,v) else p else kv++[(k,v)]
def drop (kv:_quf) (k:List Int):_quf:=kv.filter fun p=>decide (p.1 ≠ k)
theorem _xa (kv:_quf) (k:List Int):_qsr (kd kv) (k.map Sum.inl)=(look kv k).map V.int:=by
 unfold _qsr kd look;rw [List.find?_map]
 have:((fun x:List Key × V=>decide (x.1=k.map Sum.inl)) ∘ fun p:List Int × Int=>(p.1.map Sum.inl,V.int p.2))=fun p=>decide (p.1=k):=by
  funext p
  simp only [Ei]
  by_cases e:p.1=k
  ·simp [e]
  ·simp [e]; exact fun z=>e (_J6 z)
 rw [this];cases kv.find? fun p=>decide (p.1=k) <;> rfl
theorem _qg9 (kv:_quf) (k:List Int):_qct (kd kv) (k.map Sum.inl)=kd (drop kv k):=by
 unfold _qct kd drop;rw [filter_map];congr 1;apply Ik;intro p _;simp only [Ei]
 by_cases e:p.1=k
 ·simp [e]
 ·simp [e]; exact fun z=>e (_J6 z)
theorem _Y6 (kv:_quf) (k:List Int) (v:Int):_qt7 (kd kv) (k.map Sum.inl) (.int v)=kd (put kv k v):=by
 have any:((kd kv).any fun x=>decide (x.1=k.map Sum.inl))=(look kv k).isSome:=by
  rw [_xf,_xa];cases look kv k <;> rfl
 unfold _qt7 put;rw [any]
 by_cases h:(look kv k).isSome=true
 ·rw [if_pos h,if_pos h]
  unfold kd;rw [map_map,map_map];apply map_congr_left;intro p _;simp only [Ei]
  by_cases e:p.1=k
  ·simp [e]
  ·rw [if_neg e,if_neg fun z=>e (_J6 z)]
 ·rw [if_neg h,if_neg h]
  unfold kd;rw [map_append];rfl
theorem kd_len (kv:_quf):(kd kv).length=kv.length:=by simp [kd]
theorem _qbp (kv:_quf) (k:List Int) (v:Int):drop (put kv k v) k=drop kv k:=by
 unfold put drop;split
 ·rw [filter_map]
  have:((fun p:List Int × Int=>decide (p.1 ≠ k)) ∘ fun p=>if p.1=k then (p.1,v) else p)=fun p=>decide (p.1 ≠ k):=by
   funext p
   simp only [Ei];split <;> rfl
  rw [this];refine (map_congr_left (g:=id) fun p hp=>?_).trans (by simp)
  have:=(Ay.mp hp).2
  simp at this;simp [this]
 ·simp
structure HallAt (C:Addr) (H:Hp) (p l d:Addr) (names:List Str) (kv:_quf):Prop where
 ob:∃ dx,H p=some (.ins C dx (flds l d))
 st:H l=some (.lst (names.map V.str))
 ba:H d=some (.dT (kd kv))
theorem HallAt.keep {C:Addr} {H H':Hp} {p l d:Addr} {names:List Str} {kv:_quf} (h:HallAt C H p l d names kv) (s:_qu9 H H'):HallAt C H' p l d names kv:=by
 obtain ⟨⟨dx,h1⟩,h2,h3⟩:=h;exact ⟨⟨dx,s _ _ h1⟩,s _ _ h2,s _ _ h3⟩
structure Hx (K:Frag) (mg:Str->Option Value) (C:Addr):Prop where
 cl:Cls K C
 nS:_Xk K C "standing"
 nB:_Xk K C "ballots"
 mgC:mg "Hall"=some (.ref C)
 m6:∃ t,mg "MOST_STANDING"=some (.int 6 t)
 m12:∃ t,mg "MOST_PILES"=some (.int 12 t)
 m18:∃ t,mg "MOST_BALLOTS"=some (.int 1000000000000000000 t)
 zr:mg "range"=none
 zlen:mg "len"=none
 zlist:mg "list"=none
 ztuple:mg "tuple"=none
 zsorted:mg "sorted"=none
 zmax:mg "max"=none
 zmin:mg "min"=none
 zall:mg "all"=none
 zenum:mg "enumerate"=none
 zisi:mg "isinstance"=none
def spInit (C:Addr):Sp:=fun vs H Q _=>∃ (p dx:Addr),vs=[.ref p]/\H p=some (.ins C dx [])/\∀ (l d:Addr) (H':Hp),H l=none->H d=none->HallAt C H' p l d [] []->(∀ b o,H b=some o->b ≠ p->H' b=some o)->Q .non H'
def _qf8 (C:Addr):Sp:=fun vs H Q _=>∃ (p l d:Addr) (names:List Str) (kv:_quf) (x:Str),vs=[.ref p,.str x]/\HallAt C H p l d names kv/\names.length < 6/\x ∉ names/\_qi x/\(∀ y∈names,_qi y)/\Q .non (upd H l (.lst ((names++[x]).map V.str)))
def _Yj (C:Addr):Sp:=fun vs H Q _=>∃ (p l d:Addr) (names:List Str) (kv:_quf),vs=[.ref p]/\HallAt C H p l d names kv/\∀ n,H n=none->Q (.ref n) (upd H n (.lst (names.map V.str)))
def spLay (C:Addr):Sp:=fun vs H Q _=>∃ (p l d b:Addr) (names:List Str) (kv:_quf) (k:List Int) (v:Int),vs=[.ref p,.ref b,.int v]/\HallAt C H p l d names kv/\kv.length <= 12/\H b=some (.tup (k.map V.int)) /\
 Q .non (upd H d (.dT (kd (if v=0 then drop kv k else put kv k v))))
section
variable {P:Ak} {w:World} {K:Frag} {mg:Str->Option Value} {base:Heap} {C:Addr}
theorem scI:FnScope ["self"] ["self"] (_f sInit):=fsc
theorem _qlm {f:Addr} {fd:Am} (F:Fun K "__init__" "Hall.__init__" sInit f fd) (T:Hx K mg C):FnOk P w K mg base CX0 1 f fd ["self"] (spInit C):=by
 refine F.ok scI (fun vs H Q E h=>?_) (fun cdv A outer s H vs Q E hr h=>?_)
 ·obtain ⟨p,dx,rfl,_⟩:=h
  rfl
 ·obtain ⟨p,dx,rfl,hp,k⟩:=h
  refine ⟨_,_j (_qkx (pv 0) (_Wf _n) rfl) (_v (_qkx (pv 0) _Qu rfl)),?_⟩;refine ⟨by show 0 <= Aj; decide,fun l hl=>?_⟩;have npl:p ≠ l:=_c hp hl;refine ⟨_,rfl,p,C,dx,[],rfl,(by rw [_e npl]; exact hp),T.cl,T.nS,(by show 0 < 1000; decide),?_⟩;intro d hd;have npd:p ≠ d:=by rintro rfl; rw [_a] at hd; cases hd
  have nld:l ≠ d:=by rintro rfl; rw [_e npl.symm,_a] at hd; cases hd
  rw [_e npd.symm,_e nld.symm] at hd;refine ⟨_,rfl,p,C,dx,_,rfl,(by rw [_e npd,_a]),T.cl,T.nB,(by show 1 < 1000; decide),?_⟩;refine k l d _ hl hd ⟨⟨dx,_a⟩,by rw [_e npl.symm,_e nld,_e npl.symm,_a]; rfl,by rw [_e npd.symm,_a]; rfl⟩ fun b o e hb=>?_;rw [_e hb,_e (_c e hd),_e hb,_e (_c e hl)];exact e
theorem scS:FnScope ["self","name"] ["self","name"] (_f _qh0):=fsc
theorem _qhq {f:Addr} {fd:Am} (F:Fun K "stand" "Hall.stand" _qh0 f fd) (T:Hx K mg C):FnOk P w K mg base CX0 1 f fd ["self","name"] (_qf8 C):=by
 obtain ⟨t6,h6⟩:=T.m6;refine F.ok scS (k:=0) (fun vs H Q E h=>?_) (fun cdv A outer s H vs Q E hr h=>?_)
 ·obtain ⟨_,_,_,_,_,_,rfl,_⟩:=h
  rfl
 ·obtain ⟨p,l,d,names,kv,x,rfl,S,h6l,hin,hx,hok,k⟩:=h
  obtain ⟨⟨dx,h1⟩,h2,h3⟩:=id S;refine ⟨_,_j (_X3 (_qd (_qac (_qg3 hr)) (pv 1) (_ve (pv 0) rfl) (by rfl)) _wz _jr)
   (_j (_X3 (_qd op_ge (_V _qc rfl T.zlen _wr (_d (_ve (pv 0) rfl) _n)) (_qa3 (v:=.int 6) rfl h6 ⟨t6,rfl⟩) (_qg _)) _wz _jr)
   (_v (_qz (_qfn Br B0 B3 _j2 (_ve (pv 0) rfl) (_d (pv 1) _n))))),?_⟩
  refine ⟨_,rfl,_,rfl,p,C,dx,_,_,rfl,h1,T.cl,T.nS,_k1 _ _,H,.str x,names.map D.str,false,_qu9.refl _,.str x,.lst (.inl (.inl h2)) (_q2 names),_ze hx 20,_xg hok 19,_,rfl,?_⟩;simp only [Aw,if_false];rw [_v9,decide_eq_false hin];refine _qti ?_;refine ⟨_,rfl,p,C,dx,_,_,rfl,h1,T.cl,T.nS,_k1 _ _,l,_,rfl,.inl (SqL.of h2),_,_,rfl,rfl,_,rfl,?_⟩;rw [length_map,decide_eq_false (show ¬ (6:Int) <= (names.length:Int) by omega)];refine _qti ?_;refine ⟨_,rfl,p,C,dx,_,_,rfl,h1,T.cl,T.nS,_k1 _ _,.inl ⟨rfl,_,SqL.of h2⟩,_,rfl,l,_,_,rfl,rfl,h2,by rw [length_map,Ao]; omega,?_⟩;rw [map_append] at k;exact k
theorem scN:FnScope ["self"] ["self"] (_f _qh1):=fsc
theorem _qhs {f:Addr} {fd:Am} (F:Fun K "names" "Hall.names" _qh1 f fd) (T:Hx K mg C):FnOk P w K mg base CX0 1 f fd ["self"] (_Yj C):=by
 refine F.ok scN (fun vs H Q E h=>?_) (fun cdv A outer s H vs Q E hr h=>?_)
 ·obtain ⟨_,_,_,_,_,rfl,_⟩:=h
  rfl
 ·obtain ⟨p,l,d,names,kv,rfl,S,k⟩:=h
  obtain ⟨⟨dx,h1⟩,h2,h3⟩:=id S;refine ⟨_,_v (_v1 (_qh _j6 rfl T.zlist _k7 (_d (_ve (pv 0) rfl) _n))),?_⟩;exact ⟨_,rfl,p,C,dx,_,_,rfl,h1,T.cl,T.nS,_k1 _ _,l,_,rfl,.inl (SqL.of h2),fun n hn=>k n hn⟩
theorem scL:FnScope ["self","marks","many"] ["self","marks","many"] (_f sLay):=fsc
theorem _qos {f:Addr} {fd:Am} (F:Fun K "lay" "Hall.lay" sLay f fd) (T:Hx K mg C):FnOk P w K mg base CX0 1 f fd ["self","marks","many"] (spLay C):=by
 refine F.ok scL (fun vs H Q E h=>?_) (fun cdv A outer s H vs Q E hr h=>?_)
 ·obtain ⟨_,_,_,_,_,_,_,_,rfl,_⟩:=h
  rfl
 ·obtain ⟨p,l,d,b,names,kv,k,v,rfl,S,h12,hb,q⟩:=h
  obtain ⟨⟨dx,h1⟩,h2,h3⟩:=id S;have hb':H b=some (.tup ((k.map Sum.inl:List Key).map kV)):=by rw [_ju]; exact hb
  refine ⟨_,_v (_X3 (_qd _qjw (pv 2) _m (_qg _)) (_v (_qz (_qdm (_wp hr) (_ve (pv 0) rfl) (pv 1) _ql4 ⟨rfl,rfl,rfl,rfl⟩)))
   (_v (_Jt (_wp hr) (_ve (pv 0) rfl) (pv 1) (pv 2) rfl))),?_⟩
  refine ⟨_,rfl,rfl,_,rfl,?_⟩
  by_cases hv:v=0
  ·subst hv
   rw [if_pos rfl] at q;refine iteT ?_;refine ⟨_,rfl,p,C,dx,_,_,rfl,h1,T.cl,T.nB,_vx _ _,d,rfl,.inr ⟨_,.inl h3⟩,_,rfl,kd kv,k.map Sum.inl,b,h3,rfl,hb',fun v hv=>?_,fun hv=>?_⟩
   ·rw [_qg9]; exact q
   ·rw [_xa] at hv
    have:drop kv k=kv:=by
     unfold drop;rw [Av];intro p hp
     simp
     rintro rfl
     have:(kv.find? fun x=>decide (x.1=p.1)) ≠ none:=by
      rw [ne_eq,Hq];intro z;exact z p hp (by simp)
     cases e:kv.find? fun x=>decide (x.1=p.1) with
     | none=>exact this e
     | some y=>unfold look at hv; rw [e] at hv; cases hv
    rw [this] at q;have e2:upd H d (.dT (kd kv))=H:=by
     funext c
     by_cases hc:c=d
     ·subst hc; rw [_a,h3]
     ·rw [_e hc]
    rw [e2] at q;exact q
  ·rw [if_neg hv] at q
   rw [decide_eq_false (by simp [hv])];refine _qti ?_;refine ⟨_,rfl,_,rfl,p,C,dx,_,_,rfl,h1,T.cl,T.nB,_vx _ _,_,rfl,d,_,rfl,DPut.t (k:=k.map Sum.inl) h3 hb' (by rw [kd_len,Ao]; omega),?_⟩;rw [_Y6];exact q
end
def _qtf (st xs:List Str):List Int:=(st.zipIdx.filter fun p=>decide (p.1∈xs)).map fun p=>(p.2:Int)
theorem _qq9 (st xs:List Str):((xs.map fun y=>decide (y∈st)).all id)=decide (∀ y∈xs,y∈st):=by
 rw [A5]
 simp
def _qgn (C:Addr):Sp:=fun vs H Q _=>∃ (p l d z:Addr) (names:List Str) (kv:_quf) (xs:List Str),vs=[.ref p,.ref z]/\HallAt C H p l d names kv/\H z=some (.lst (xs.map V.str))/\names.length <= 6/\xs.length <= 9/\(∀ y∈names,_qi y)/\(∀ y∈xs,_qi y) /\
 (∀ y∈xs,y∈names)/\∀ r H',_qu9 H H'->H r=none->H' r=some (.lst ((_qtf names xs).map V.int))->Q (.ref r) H'
def strV:V->Str
 | .str x=>x
 | _=>""
section
variable {P:Ak} {w:World} {K:Frag} {mg:Str->Option Value} {base:Heap} {C:Addr}
theorem scM:FnScope ["self","names"] ["self","names"] (_f sNums):=fsc
theorem _qlk {f:Addr} {fd:Am} (F:Fun K "numbers_of" "Hall.numbers_of" sNums f fd) (T:Hx K mg C):FnOk P w K mg base CX0 1 f fd ["self","names"] (_qgn C):=by
 refine F.ok scM (k:=0) (fun vs H Q E h=>?_) (fun cdv A outer s H vs Q E hr h=>?_)
 ·obtain ⟨_,_,_,_,_,_,_,rfl,_⟩:=h
  rfl
 ·obtain ⟨p,l,d,z,names,kv,xs,rfl,S,hz,h6,h9,hok,hxs,hall,kq⟩:=h
  obtain ⟨⟨dx,h1⟩,h2,h3⟩:=id S;refine ⟨_,_j (_X3 (_qkw (_qh8 (_V (_K0 rfl) rfl T.zall _qnb (_d (_j1 (cl:=_) (N':=["name","self"]) (js:=[none,some 0]) (tc:=_wi) (te:=tOp (rInD K false) (_qsw 0) (tFld K (_qsw 1) "standing")) (by o_reads)
    (_J (pv 1)) (fun _ _ _ _ _=>pgc 0) pif0
    (fun _ _ _ _ _=>_qfm (_qfs rfl (_qg3 hr)) (pv 0) (_qfk rfl (pv 1) rfl) (by rfl))) _n)))) _wz _jr)
   (_v (_v1 (_j1 (cl:=_) (N':=["number","name","names"]) (js:=[none,none,some 1]) (g:=gTup K 2 (_qbh (_zj 0) (_qbh (_zj 1) gNil))) (tc:=tTest (tOp (rInD K false) (_qsw 1) (_qsw 2))) (te:=_qsw 0) (by o_reads)
    (_qa1 rfl T.zenum (_ve (pv 0) rfl)) (fun _ _ _ _ _=>_qfj rfl rfl (_xl (pgc 0) (_xl (pgc 1) _Ju)))
    (fun _ _ _ _ _=>.inr ⟨_,rfl,_qd (_qfs rfl (_qg3 hr)) (pv 1) (pv 2) (by rfl)⟩) (fun _ _ _ _ _=>pv 0)))),?_⟩
  refine ⟨_,rfl,z,rfl,⟨_,SqL.of hz⟩,_k4 (SqL.of hz) (by rw [length_map,Ao]; omega) (fun _=>true) (fun v=>.bl (decide (strV v∈names))) (fun σ=>∃ c,σ=[c,some (.ref p)]) ⟨none,rfl⟩ (fun i x σ' H' hx hS sm=>?_) fun r hr'=>?_⟩
  ·obtain ⟨c,rfl⟩:=hS
   obtain ⟨y,hy,rfl⟩:∃ y∈xs,x=V.str y:=by
    rw [getElem?_map] at hx;cases e:xs[i]? with
    | none=>rw [e] at hx; cases hx
    | some q=>rw [e] at hx; exact ⟨q,mem_of_getElem? e,(Option.some.inj hx).symm⟩
   refine ⟨⟨_,rfl⟩,fun R h=>h,fun R _ h=>?_⟩;refine ⟨_,rfl,_,rfl,p,C,dx,_,_,rfl,sm _ _ h1,T.cl,T.nS,_k1 _ _,H',.str y,names.map D.str,false,_qu9.refl _,.str y,.lst (.inl (.inl (sm _ _ h2))) (_q2 names),_ze (hxs y hy) 20,_xg hok 19,?_⟩;simp only [Aw,if_false];rw [_v9];exact h
  ·rw [Av.mpr (by simp),map_map]
   have sm1:_qu9 H (upd H r (.lst (xs.map ((fun v=>V.bl (decide (strV v∈names))) ∘ V.str)))):=_i hr';refine ⟨r,xs.map fun y=>decide (y∈names),rfl,?_,?_⟩
   ·rw [map_map]; exact SqL.of _a
   ·rw [_qq9]
    refine ⟨_,rfl,?_⟩;generalize upd H r (.lst (xs.map ((fun v=>V.bl (decide (strV v∈names))) ∘ V.str)))=H1 at sm1 ⊢;rw [decide_eq_true hall];refine _qti ?_;refine ⟨_,rfl,p,C,dx,_,_,rfl,sm1 _ _ h1,T.cl,T.nS,_k1 _ _,l,rfl,⟨_,SqL.of (sm1 _ _ h2)⟩,_qbz (SqL.of (sm1 _ _ h2)) (by rw [length_map,Ao]; omega) (fun _ v=>decide (strV v∈xs)) (fun i _=>.int (i:Int)) (fun σ=>∃ c c',σ=[c,c',some (.ref z)]) ⟨none,none,rfl⟩ (fun i x σ' H' hx hS sm=>?_) fun r2 H2 hr2 sm2 hl2=>?_⟩
    ·obtain ⟨c,c',rfl⟩:=hS
     obtain ⟨y,hy,rfl⟩:∃ y∈names,x=V.str y:=by
      rw [getElem?_map] at hx;cases e:names[i]? with
      | none=>rw [e] at hx; cases hx
      | some q=>rw [e] at hx; exact ⟨q,mem_of_getElem? e,(Option.some.inj hx).symm⟩
     refine ⟨⟨_,_,rfl⟩,fun R h=>?_,fun R _ h=>⟨_,rfl,h⟩⟩;refine ⟨_,rfl,_,rfl,H',.str y,xs.map D.str,false,_qu9.refl _,.str y,.lst (.inl (.inl (sm _ _ (sm1 _ _ hz)))) (_q2 xs),_ze (hok y hy) 20,_xg hxs 19,_,rfl,?_⟩;simp only [Aw,if_false];rw [_v9];exact h
    ·refine kq r2 H2 (sm1.trans sm2) (sm1.free hr2) ?_
     rw [hl2];congr 2;unfold _qtf;rw [List.zipIdx_map,filter_map,map_map,map_map];rfl
end
def lay (kv:_quf) (k:List Int) (v:Int):_quf:=if v=0 then drop kv k else put kv k v
def wt (kv:_quf) (k:List Int):Int:=(look kv k).getD 0
def _qgo (C:Addr):Sp:=fun vs H Q _=>∃ (p l d z:Addr) (names:List Str) (kv:_quf) (xs:List Str) (v:Int),vs=[.ref p,.int v,.ref z]/\HallAt C H p l d names kv/\H z=some (.lst (xs.map V.str))/\names.length <= 6/\xs.length <= 9/\kv.length <= 12/\(∀ y∈names,_qi y)/\(∀ y∈xs,_qi y)/\(∀ y∈xs,y∈names) /\
 ((look kv (_qtf names xs)).isSome=true \/ kv.length < 12)/\wt kv (_qtf names xs) + v <= 10 ^ 18/\∀ H',(∀ b o,H b=some o->b ≠ d->H' b=some o)->H' d=some (.dT (kd (lay kv (_qtf names xs) (wt kv (_qtf names xs) + v))))->Q .non H'
def spLift (C:Addr):Sp:=fun vs H Q _=>∃ (p l d z:Addr) (names:List Str) (kv:_quf) (xs:List Str) (v:Int),vs=[.ref p,.int v,.ref z]/\HallAt C H p l d names kv/\H z=some (.lst (xs.map V.str))/\names.length <= 6/\xs.length <= 9/\kv.length <= 12/\(∀ y∈names,_qi y)/\(∀ y∈xs,_qi y)/\(∀ y∈xs,y∈names) /\
 v <= wt kv (_qtf names xs)/\∀ H',(∀ b o,H b=some o->b ≠ d->H' b=some o)->H' d=some (.dT (kd (lay kv (_qtf names xs) (wt kv (_qtf names xs) - v))))->Q .non H'
def swap (kv:_quf):List (Int × List Int):=kv.map fun p=>(p.2,p.1)
def spHeap (K:Frag) (C:Addr):Sp:=fun vs H Q _=>∃ (p l d:Addr) (names:List Str) (kv:_quf),vs=[.ref p]/\HallAt C H p l d names kv/\kv.length < 60/\(∀ q∈kv,q.1.length < 60) /\
 ∀ v F' H' A,Own K F' H' v (.lst ((_Jm (swap kv)).map _qa0)) A->_qu9 F' H'->(∀ b,A b->F' b=none/\H b=none)->_qu9 H H'->Q v H'
section
variable {P:Ak} {w:World} {K:Frag} {mg:Str->Option Value} {base:Heap} {C:Addr}
theorem scC:FnScope ["self","many","names","marks","together"] ["self","many","names"] (_f sCast):=fsc
theorem _qlo {f fn fl:Addr} {fd fdn fdl:Am} (F:Fun K "cast" "Hall.cast" sCast f fd) (T:Hx K mg C) (GN:FnOk P w K mg base CX0 1 fn fdn ["self","names"] (_qgn C)) (bN:L2.Binds K fdn ["self","names"] []) (mN:Meth K C "numbers_of" fn)
  (GL:FnOk P w K mg base CX0 1 fl fdl ["self","marks","many"] (spLay C)) (bL:L2.Binds K fdl ["self","marks","many"] []) (mL:Meth K C "lay" fl):FnOk P w K mg base CX0 2 f fd ["self","many","names"] (_qgo C):=by
 obtain ⟨t12,h12⟩:=T.m12;obtain ⟨t18,h18⟩:=T.m18;refine F.ok scC (k:=1) (fun vs H Q E h=>?_) (fun cdv A outer s H vs Q E hr h=>?_)
 ·obtain ⟨_,_,_,_,_,_,_,_,rfl,_⟩:=h
  rfl
 ·obtain ⟨p,l,d,z,names,kv,xs,v,rfl,S,hz,h6,h9,hkv,hok,hxs,hin,hfull,hbig,kq⟩:=h
  obtain ⟨⟨dx,h1⟩,h2,h3⟩:=id S;refine ⟨_,_j (_q (i:=3) scC.nd rfl (.inl rfl) (_qh _qf rfl T.ztuple _vk (_d (_xm (pv 0) T.cl mN GN hr bN .nil _zs (_d (pv 2) _n)) _n)))
   (_j (_X3 (PW.pt (_qdh (_qh9 (_qdo (_wp hr) (pv 3) (_ve (pv 0) rfl))) (_Vz (_qd op_ge (_V _Jd rfl T.zlen _wr (_d (_ve (pv 0) rfl) _n)) (_qa3 (v:=.int 12) rfl h12 ⟨t12,rfl⟩) (_qg _))))) _wz _jr)
   (_j (_q (i:=4) scC.nd rfl (.inl rfl) (_q3 _x5 (_kp (_wp hr) (_ve (pv 0) rfl) (pv 3) _m ⟨rfl,rfl,rfl,rfl⟩) (pv 1)))
   (_j (_X3 (_qd op_gt (pv 4) (_qa3 (v:=.int 1000000000000000000) rfl h18 ⟨t18,rfl⟩) (_qg _)) _wz _jr)
   (_v (_qz (_xm (pv 0) T.cl mL GL hr bL .nil _zs (_d (pv 3) (_d (pv 4) _n)))))))),?_⟩
  refine ⟨_,rfl,p,dx,_,rfl,h1,_jf,_,rfl,p,l,d,z,names,kv,xs,rfl,S,hz,h6,h9,hok,hxs,hin,fun r H1 sm1 hr0 hr1'=>?_⟩;generalize hk:_qtf names xs=k at *;refine ⟨r,_,rfl,.inl ⟨SqL.of hr1',fun b hb=>?_⟩⟩;have sm2:_qu9 H (upd H1 b (.tup (k.map V.int))):=sm1.trans (_i hb);have hb2:(upd H1 b (.tup (k.map V.int))) b=some (.tup ((k.map Sum.inl:List Key).map kV)):=by rw [_a,_ju]
  have hb2':(upd H1 b (.tup (k.map V.int))) b=some (.tup (k.map V.int)):=_a;generalize upd H1 b (.tup (k.map V.int))=H2 at sm2 hb2 hb2' ⊢;have S2:=S.keep sm2;have g:_qui H2 d (.ref b) (_qsr (kd kv) (k.map Sum.inl)):=_qui.t S2.ba hb2;rw [_xa] at g;have big:(((look kv k).map V.int).getD (.int 0))=.int (wt kv k):=by unfold wt; cases look kv k <;> rfl
  refine ⟨_,rfl,_,rfl,p,C,dx,_,_,rfl,sm2 _ _ h1,T.cl,T.nB,_vx _ _,d,_,rfl,g,_,rfl,?_⟩;rw [show ((look kv k).map V.int).isSome=(look kv k).isSome by cases look kv k <;> rfl];have hb18:¬ (1000000000000000000:Int) < wt kv k + v:=fun h=>absurd (Int.lt_of_lt_of_le h hbig) (by decide)
  by_cases hs:(look kv k).isSome=true
  ·rw [hs]
   refine _qti ?_;refine _qti ?_;refine ⟨_,rfl,p,C,dx,_,_,rfl,sm2 _ _ h1,T.cl,T.nB,_vx _ _,d,rfl,.inr ⟨_,.inl S2.ba⟩,_,rfl,_,g,?_⟩;rw [big];refine ⟨_,rfl,_,_,rfl,rfl,?_⟩;refine ⟨_,rfl,_,_,rfl,rfl,_,rfl,?_⟩;rw [decide_eq_false hb18];refine _qti ?_;exact ⟨_,rfl,p,dx,_,rfl,sm2 _ _ h1,_jf,_,rfl,_,rfl,p,l,d,b,names,kv,k,_,rfl,S2,hkv,hb2',kq _ (fun c o hc hcd=>by rw [_e hcd]; exact sm2 _ _ hc) _a⟩
  ·have hs':(look kv k).isSome=false:=by simpa using hs
   rw [hs'];refine iteT ?_;refine ⟨_,rfl,p,C,dx,_,_,rfl,sm2 _ _ h1,T.cl,T.nB,_vx _ _,d,_,rfl,S2.ba,_,_,rfl,rfl,_,rfl,?_⟩;have hl12:¬ (12:Int) <= ((kd kv).length:Int):=by rw [kd_len]; have:=hfull.resolve_left hs; omega
   rw [decide_eq_false hl12];refine _qti ?_;refine ⟨_,rfl,p,C,dx,_,_,rfl,sm2 _ _ h1,T.cl,T.nB,_vx _ _,d,rfl,.inr ⟨_,.inl S2.ba⟩,_,rfl,_,g,?_⟩;rw [big];refine ⟨_,rfl,_,_,rfl,rfl,?_⟩;refine ⟨_,rfl,_,_,rfl,rfl,_,rfl,?_⟩;rw [decide_eq_false hb18];refine _qti ?_;exact ⟨_,rfl,p,dx,_,rfl,sm2 _ _ h1,_jf,_,rfl,_,rfl,p,l,d,b,names,kv,k,_,rfl,S2,hkv,hb2',kq _ (fun c o hc hcd=>by rw [_e hcd]; exact sm2 _ _ hc) _a⟩
theorem scF:FnScope ["self","many","names","marks","lying"] ["self","many","names"] (_f sLift):=fsc
theorem _qll {f fn fl:Addr} {fd fdn fdl:Am} (F:Fun K "lift" "Hall.lift" sLift f fd) (T:Hx K mg C) (GN:FnOk P w K mg base CX0 1 fn fdn ["self","names"] (_qgn C)) (bN:L2.Binds K fdn ["self","names"] []) (mN:Meth K C "numbers_of" fn)
  (GL:FnOk P w K mg base CX0 1 fl fdl ["self","marks","many"] (spLay C)) (bL:L2.Binds K fdl ["self","marks","many"] []) (mL:Meth K C "lay" fl):FnOk P w K mg base CX0 2 f fd ["self","many","names"] (spLift C):=by
 refine F.ok scF (k:=1) (fun vs H Q E h=>?_) (fun cdv A outer s H vs Q E hr h=>?_)
 ·obtain ⟨_,_,_,_,_,_,_,_,rfl,_⟩:=h
  rfl
 ·obtain ⟨p,l,d,z,names,kv,xs,v,rfl,S,hz,h6,h9,hkv,hok,hxs,hin,hv,kq⟩:=h
  obtain ⟨⟨dx,h1⟩,h2,h3⟩:=id S;refine ⟨_,_j (_q (i:=3) scF.nd rfl (.inl rfl) (_qh _qf rfl T.ztuple _vk (_d (_xm (pv 0) T.cl mN GN hr bN .nil _zs (_d (pv 2) _n)) _n)))
   (_j (_q (i:=4) scF.nd rfl (.inl rfl) (_kp (_wp hr) (_ve (pv 0) rfl) (pv 3) _m ⟨rfl,rfl,rfl,rfl⟩))
   (_j (_X3 (_qd _qle (pv 4) (pv 1) (_qg _)) _wz _jr)
   (_v (_qz (_xm (pv 0) T.cl mL GL hr bL .nil _zs (_d (pv 3) (_d (_q3 _Zd (pv 4) (pv 1)) _n))))))),?_⟩
  refine ⟨_,rfl,p,dx,_,rfl,h1,_jf,_,rfl,p,l,d,z,names,kv,xs,rfl,S,hz,h6,h9,hok,hxs,hin,fun r H1 sm1 hr0 hr1'=>?_⟩;generalize hk:_qtf names xs=k at *;refine ⟨r,_,rfl,.inl ⟨SqL.of hr1',fun b hb=>?_⟩⟩;have sm2:_qu9 H (upd H1 b (.tup (k.map V.int))):=sm1.trans (_i hb);have hb2:(upd H1 b (.tup (k.map V.int))) b=some (.tup ((k.map Sum.inl:List Key).map kV)):=by rw [_a,_ju]
  have hb2':(upd H1 b (.tup (k.map V.int))) b=some (.tup (k.map V.int)):=_a;generalize upd H1 b (.tup (k.map V.int))=H2 at sm2 hb2 hb2' ⊢;have S2:=S.keep sm2;have g:_qui H2 d (.ref b) (_qsr (kd kv) (k.map Sum.inl)):=_qui.t S2.ba hb2;rw [_xa] at g;have big:(((look kv k).map V.int).getD (.int 0))=.int (wt kv k):=by unfold wt; cases look kv k <;> rfl
  refine ⟨_,rfl,p,C,dx,_,_,rfl,sm2 _ _ h1,T.cl,T.nB,_vx _ _,d,rfl,.inr ⟨_,.inl S2.ba⟩,_,rfl,_,g,?_⟩;rw [big];refine ⟨_,rfl,_,rfl,_,_,rfl,rfl,_,rfl,?_⟩;rw [decide_eq_false (show ¬ wt kv k < v by omega)];refine _qti ?_;exact ⟨_,rfl,p,dx,_,rfl,sm2 _ _ h1,_jf,_,rfl,_,rfl,_,rfl,_,_,rfl,rfl,p,l,d,b,names,kv,k,_,rfl,S2,hkv,hb2',kq _ (fun c o hc hcd=>by rw [_e hcd]; exact sm2 _ _ hc) _a⟩
end
section
variable {P:Ak} {w:World} {K:Frag} {mg:Str->Option Value} {base:Heap} {C:Addr}
theorem _Jn:FnScope ["heap","weights","weight","marks","key"] ["heap"] (_f _qgv):=fsc
theorem _qlg {f:Addr} {fd:Am} (F:Fun K "tidy" "tidy" _qgv f fd) (T:Hx K mg C):FnOk P w K mg base CX0 2 f fd ["heap"] (spO K 1 _qkb) :=
 F.ok _Jn (k:=1) (fun vs H Q E h=>by obtain ⟨F,ds,d,_,r,hl,_⟩:=h; rw [r.length,hl]; rfl) fun cdv A outer s H vs Q E hr h=>⟨_,_j (_q (i:=1) _Jn.nd rfl (.inr rfl) _Qu) (_j
  (_X4 Be rfl (_J (pv 0)) (_qdl rfl (_xl (_q0 (i:=2) _Jn.nd rfl (.inl rfl)) (_xl (_q0 (i:=3) _Jn.nd rfl (.inl rfl)) _Ju)))
   (_j (_q (i:=4) _Jn.nd rfl (.inl rfl) (_qh _qf rfl T.ztuple _vk (_d (pv 3) _n)))
   (_v (_Jt (_wp hr) (pv 1) (pv 4) (_q3 _x5 (_kp (_wp hr) (pv 1) (pv 4) _m ⟨rfl,rfl,rfl,rfl⟩) (pv 2)) rfl))))
  (_v (_v1 (_j1 (cl:=_) (N':=["key","weights"]) (js:=[none,some 1]) (tc:=_wi) (te:=tTup (_z6 (_qjv (_qsw 1) (_qsw 0)) (_z6 (tCB (rLOf K) (_z6 (_qsw 0) _qsx)) _qsx))) (by o_reads)
   (_J (_V (_zk hr.units rfl) rfl T.zsorted _j7 (_d (pv 1) _n)))
   (fun _ _ _ _ _=>pgc 0)
   pif0
   (fun _ _ _ _ _=>_We (_d (_Jv (_wp hr) (pv 1) (pv 0) (fun _ _=>rfl)) (_d (_qh (_Z5 rfl) rfl T.zlist _k7 (_d (pv 0) _n)) _n))))))),by
  obtain ⟨F0,ds,o,sm,r,hl,hg,k⟩:=h;exact _Yc sm r hl hg k⟩
theorem scH:FnScope ["self"] ["self"] (_f sHeap):=fsc
theorem _Wn (kv:_quf):_qk1 (.lst (kv.map DL.pkvD))=some (swap kv):=by
 have one:∀ p:List Int × Int,_qm9 (DL.pkvD p)=some (p.2,p.1):=by
  intro p
  have:∀ l:List Int,(l.map D.int).mapM kInt=some l:=by
   intro l
   induction l with
   | nil=>rfl
   | cons a l ih=>rw [map_cons,mapM_cons,ih]; rfl
  simp [_qm9,DL.pkvD,_qma,this]
 unfold _qk1 swap
 induction kv with
 | nil=>rfl
 | cons p kv ih =>
  simp only [map_cons,mapM_cons,one] at ih ⊢;rw [ih]; rfl
theorem _Yd {kv:_quf} (h:kv.length < 60) (hm:∀ q∈kv,q.1.length < 60):_qkb [.lst (kv.map DL.pkvD)]=some (.lst ((_Jm (swap kv)).map _qa0)):=by
 unfold _qkb;dsimp only;rw [_Wn];simp only [Option.bind_some];rw [if_pos];refine ⟨by simpa [swap] using h,?_⟩;rw [F9];intro p hp;obtain ⟨q,hq,rfl⟩:=Ah.mp hp;exact decide_eq_true (hm q hq)
theorem _qln {f:Addr} {fd:Am} (F:Fun K "heap" "Hall.heap" sHeap f fd) (T:Hx K mg C) (G:Fn P w K mg base 2 "tidy" ["heap"] (spO K 1 _qkb)):FnOk P w K mg base CX0 3 f fd ["self"] (spHeap K C):=by
 obtain ⟨ft,fdt,okt,mt,kt,bt⟩:=G;refine F.ok scH (k:=2) (fun vs H Q E h=>?_) (fun cdv A outer s H vs Q E hr h=>?_)
 ·obtain ⟨_,_,_,_,_,rfl,_⟩:=h
  rfl
 ·obtain ⟨p,l,d,names,kv,rfl,S,h60,hm60,k⟩:=h
  obtain ⟨⟨dx,h1⟩,h2,h3⟩:=id S;refine ⟨_,_v (_v1 (_q6 okt hr rfl mt kt bt .nil _zs (_d (_ql3 (_j1 (cl:=_) (N':=["marks","many"]) (js:=[none,none]) (g:=gTup K 2 (_qbh (_zj 0) (_qbh (_zj 1) gNil))) (tc:=_wi) (te:=tTup (_z6 (_qsw 1) (_z6 (tCB (rLOf K) (_z6 (_qsw 0) _qsx)) _qsx))) (by o_reads)
   (_qdk (_ve (pv 0) rfl)) (fun _ _ _ _ _=>_qfj rfl rfl (_xl (pgc 0) (_xl (pgc 1) _Ju)))
   pif0 (fun _ _ _ _ _=>_We (_d (pv 1) (_d (_qh (_Z5 rfl) rfl T.zlist _k7 (_d (pv 0) _n)) _n))))) _n))),?_⟩
  refine ⟨_,rfl,p,C,dx,_,_,rfl,h1,T.cl,T.nB,_vx _ _,d,kd kv,rfl,h3,fun o=>?_⟩;have sd:∀ b u,H b=some u->b ≠ d->(upd H d (.frz o (.dT (kd kv)))) b=some u:=fun b u hb hbd=>by rw [_e hbd]; exact hb
  have fd:(upd H d (.frz o (.dT (kd kv)))) d=some (.frz o (.dT (kd kv))):=_a;generalize hH1:upd H d (.frz o (.dT (kd kv)))=H1 at sd fd;refine _Wq (kv:=kv) fd (by rw [Ao]; omega) ⟨none,none,rfl⟩ fun n H2 F2 hn sm2 hd2 sF2 Fd Fl hts=>?_;obtain ⟨ts,hts1,hts2⟩:=hts;refine ⟨d,o,.dT (kd kv),hd2,fun o' u' z=>?_,?_⟩
  ·have z':H d=some (.frz o' u'):=z
   rw [h3] at z'; cases z'
  ·have ndn:n ≠ d:=by rintro rfl; rw [fd] at hn; cases hn
   have sF3:_qu9 F2 (upd H2 d (.dT (kd kv))):=fun b u hb=>by rw [_e (_c hb Fd)]; exact sF2 _ _ hb
   have smH:_qu9 H (upd H2 d (.dT (kd kv))):=fun b u hb=>by
    by_cases hbd:b=d
    ·subst hbd; rw [_a,<- h3,hb]
    ·rw [_e hbd]; exact sm2 _ _ (sd _ _ hb hbd)
   refine ⟨_,[.lst (kv.map DL.pkvD)],_,_qu9.refl _,.cons (.lst (.inl (.inl (by rw [_e ndn]; exact hts1))) ((_xk sF3).2 hts2)) .nil,rfl,_Yd h60 hm60,fun v F' H3 A e ow hA=>?_⟩;exact k v F' H3 A ow e.fh (fun b hb=>⟨(hA b hb).1,smH.free (hA b hb).2⟩) (smH.trans e.hh)
end
def hp (kv:_quf):List MB._qud:=(_jc (kv.map (·.1))).map fun k=>(wt kv k,k)
theorem _qiq (kv:_quf):MB._F (hp kv)=.lst ((_jc (kv.map (·.1))).map fun k=>DL.pkvD (k,wt kv k)):=by
 unfold hp MB._F;rw [map_map]; rfl
theorem _xz {kv:_quf} {k:List Int} (h:k∈kv.map (·.1)):look kv k=some (wt kv k):=by
 unfold wt;cases e:look kv k with
 | some y=>rfl
 | none =>
  exfalso;unfold look at e;cases e2:kv.find? fun p=>decide (p.1=k) with
  | some y=>rw [e2] at e; cases e
  | none =>
   obtain ⟨p,hp,rfl⟩:=Ah.mp h
   have:=Hq.mp e2 p hp
   simp at this
theorem _qk4:∀ {kv:_quf},(kv.map (·.1)).Nodup->∀ m,wtK (swap kv) m=wt kv m
 | [],_,m=>rfl
 | p :: kv,hn,m=>by
  rw [map_cons,nodup_cons] at hn;have ih:=_qk4 hn.2 m
  by_cases e:p.1=m
  ·have z:wt kv m=0:=by
    unfold wt look
    have:(kv.find? fun p=>decide (p.1=m))=none:=by
     rw [Hq];intro q hq
     simp
     intro e2;exact hn.1 (by rw [e,<- e2]; exact Ah.mpr ⟨q,hq,rfl⟩)
    rw [this]; rfl
   have h1:wt (p :: kv) m=p.2:=by unfold wt look; rw [List.find?_cons_of_pos (by simpa using e)]; rfl
   rw [h1];unfold wtK swap at ih ⊢;rw [map_cons,filter_cons_of_pos (by simpa using e),map_cons,sum_cons,ih,z];omega
  ·have h1:wt (p :: kv) m=wt kv m:=by unfold wt look; rw [List.find?_cons_of_neg (by simpa using e)]
   rw [h1,<- ih];unfold wtK swap;rw [map_cons,filter_cons_of_neg (by simpa using e)]
theorem _Ye {kv:_quf} (hn:(kv.map (·.1)).Nodup):oD (.lst ((_Jm (swap kv)).map _qa0))=some (MB._F (hp kv)):=by
 have e:(swap kv).map (fun p=>p.2)=kv.map (·.1):=by unfold swap; rw [map_map]; rfl
 have e2:_Jm (swap kv)=hp kv:=by
  unfold _Jm hp;rw [e];apply map_congr_left;intro m _;rw [_qk4 hn]
 rw [e2];have ow:∀ l:List Int,oDs (l.map (O.sh ∘ D.int))=some (l.map D.int):=by
  intro l
  induction l with
  | nil=>rfl
  | cons a l ih=>simp [oDs,oD,ih]
 have one:∀ l:List MB._qud,oDs (l.map _qa0)=some (l.map MB._x3):=by
  intro l
  induction l with
  | nil=>rfl
  | cons a l ih =>
   have h1:oD (_qa0 a)=some (MB._x3 a):=by
    simp [_qa0,MB._x3,MB._y,oD,oDs,DL.ow,ow]
   simp only [map_cons,oDs];rw [h1];refine Eq.trans (congrArg (fun z=>(some (MB._x3 a)).bind fun d=>z.map (d :: ·)) ih) ?_;rfl
 unfold MB._F;simp only [oD];rw [one];rfl
structure Good (names:List Str) (kv:_quf):Prop where
 len:names.length <= 6
 ok:∀ y∈names,_qi y
 nd:names.Nodup
 l12:kv.length <= 12
 kn:(kv.map (·.1)).Nodup
 sub:∀ q∈kv,q.1.Sublist ((Ar names.length).map fun (i:Nat)=>(i:Int))
theorem _qkm {n:Nat} (h:n <= 6):((Ar n).map fun (i:Nat)=>(i:Int)).Sublist MB.six:=by
 have:MB.six=(Ar 6).map fun (i:Nat)=>(i:Int):=by decide
 rw [this];exact E3 _ (Lk.mpr h)
theorem Good.okH {names:List Str} {kv:_quf} (g:Good names kv):MB.okH (hp kv):=by
 intro p hp;obtain ⟨k,hk,rfl⟩:=Ah.mp hp;obtain ⟨q,hq,rfl⟩:=Ah.mp (MT.mem_keys.mp hk);exact (g.sub q hq).trans (_qkm g.len)
theorem Good.hlen {names:List Str} {kv:_quf} (g:Good names kv):(hp kv).length <= 12:=by
 have:=MT.keys_len (kv.map (·.1))
 rw [length_map] at this
 have:=g.l12
 unfold hp;rw [length_map];omega
theorem Good.below {names:List Str} {kv:_quf} (g:Good names kv):∀ p∈hp kv,Below names.length p.2:=by
 intro p hp k hk;obtain ⟨m,hm,rfl⟩:=Ah.mp hp;obtain ⟨q,hq,rfl⟩:=Ah.mp (MT.mem_keys.mp hm);obtain ⟨i,hi,rfl⟩:=Ah.mp ((g.sub q hq).subset hk)
 have:=A0.mp hi
 omega
theorem Good.kl {names:List Str} {kv:_quf} (g:Good names kv):∀ q∈kv,q.1.length < 60:=fun q hq=>by
 have:=(g.sub q hq).length_le
 have:=g.len
 simp at *;omega
def _Vr (K:Frag) (C:Addr):Sp:=fun vs H Q _=>∃ (p l d z:Addr) (names:List Str) (kv:_quf) (s:List Int),vs=[.ref p,.ref z]/\HallAt C H p l d names kv/\SqL K H z (s.map V.int)/\Below names.length s/\s.length <= 100 /\
 ∀ r,H r=none->Q (.ref r) (upd H r (.lst ((s.map fun k=>_qtg names k).map V.str)))
def intV:V->Int
 | .int i=>i
 | _=>0
theorem _qmc {X:Cx} {K:Frag} (h:X.K=K):IxR X (rIxL K):=by subst h; exact _J5
theorem ix_tK {X:Cx} {K:Frag} (h:X.K=K):IxR X (rIxT K):=by subst h; exact _qe8
theorem nm_at {names:List Str} {k:Int} (h0:0 <= k) (h1:k < (names.length:Int)):atI (names.map V.str) k=some (.str (_qtg names k)):=by
 obtain ⟨i,rfl⟩:=Dy h0;have hi:i < names.length:=by omega
 refine _K7 ?_;unfold _qtg;simp [hi]
section
variable {P:Ak} {w:World} {K:Frag} {mg:Str->Option Value} {base:Heap} {C:Addr}
theorem scO:FnScope ["self","numbers"] ["self","numbers"] (_f _X1):=fsc
theorem _qaf {f:Addr} {fd:Am} (F:Fun K "names_of" "Hall.names_of" _X1 f fd) (T:Hx K mg C):FnOk P w K mg base CX0 1 f fd ["self","numbers"] (_Vr K C):=by
 refine F.ok scO (k:=0) (fun vs H Q E h=>?_) (fun cdv A outer s H vs Q E hr h=>?_)
 ·obtain ⟨_,_,_,_,_,_,_,rfl,_⟩:=h
  rfl
 ·obtain ⟨p,l,d,z,names,kv,s,rfl,S,hz,hb,h100,k⟩:=h
  obtain ⟨⟨dx,h1⟩,h2,h3⟩:=id S;refine ⟨_,_v (_v1 (_j1 (cl:=_) (N':=["number","self"]) (js:=[none,some 0]) (tc:=_wi) (te:=tOp (rIxL K) (tFld K (_qsw 1) "standing") (_qsw 0)) (by o_reads)
    (_J (pv 1)) (fun _ _ _ _ _=>pgc 0) pif0
    (fun _ _ _ _ _=>_Za (_qmc rfl) (_qfk rfl (pv 1) rfl) (pv 0) (fun _ _=>rfl)))),?_⟩
  refine ⟨_,rfl,z,rfl,⟨_,hz⟩,_k4 hz (by rw [length_map,Ao]; omega) (fun _=>true) (fun v=>.str (_qtg names (intV v))) (fun σ=>∃ c,σ=[c,some (.ref p)]) ⟨none,rfl⟩ (fun i x σ' H' hx hS sm=>?_) fun r hr'=>?_⟩
  ·obtain ⟨c,rfl⟩:=hS
   obtain ⟨y,hy,rfl⟩:∃ y∈s,x=V.int y:=by
    rw [getElem?_map] at hx;cases e:s[i]? with
    | none=>rw [e] at hx; cases hx
    | some q=>rw [e] at hx; exact ⟨q,mem_of_getElem? e,(Option.some.inj hx).symm⟩
   exact ⟨⟨_,rfl⟩,fun R h=>h,fun R _ h=>⟨_,rfl,p,C,dx,_,_,rfl,sm _ _ h1,T.cl,T.nS,_k1 _ _,_,rfl,l,_,y,_,rfl,rfl,SqL.of (sm _ _ h2),nm_at (hb y hy).1 (hb y hy).2,h⟩⟩
  ·rw [Av.mpr (by simp),map_map]
   have:=k r hr'
   rw [map_map] at this;exact this
end
theorem _qhz (st xs:List Str):(_qtf st xs).Sublist ((Ar st.length).map fun (i:Nat)=>(i:Int)):=by
 have e:st.zipIdx.map (fun p=>p.2)=Ar st.length:=by simp [List.zipIdx_map_snd,List.range_eq_range']
 rw [<- e,map_map];exact E3 (fun p:Str × Nat=>(p.2:Int)) filter_sublist
theorem _qmg {st:List Str} {y:Str} (h:y∈st):∃ hi:idxS st y < st.length,st[idxS st y]=y:=by
 have hi:idxS st y < st.length:=List.findIdx_lt_length_of_exists ⟨y,h,by simp⟩;refine ⟨hi,?_⟩
 have:=List.findIdx_getElem (p:=fun x=>decide (x=y)) (xs:=st) (w:=hi)
 exact of_decide_eq_true this
theorem _qmf {st:List Str} (hn:st.Nodup) {i:Nat} (hi:i < st.length):idxS st st[i]=i:=by
 obtain ⟨h1,h2⟩:=_qmg (st:=st) (y:=st[i]) (getElem_mem hi);apply E5;intro ne;rcases Nat.lt_or_gt_of_ne ne with lt | lt
 ·exact (Bu.mp hn _ _ h1 hi lt) h2
 ·exact (Bu.mp hn _ _ hi h1 lt) h2.symm
theorem _qi5 {st xs:List Str} {a:Int}:a∈_qtf st xs ↔ ∃ (i:Nat) (hi:i < st.length),st[i]∈xs/\a=(i:Int):=by
 unfold _qtf;rw [Ah];constructor
 ·rintro ⟨⟨y,i⟩,hp,rfl⟩
  obtain ⟨h1,h2⟩:=Ay.mp hp
  have:=G0.mp h1
  simp at this;obtain ⟨hi,rfl⟩:=Ai.mp this;exact ⟨i,hi,by simpa using h2,rfl⟩
 ·rintro ⟨i,hi,hx,rfl⟩
  refine ⟨(st[i],i),Ay.mpr ⟨G0.mpr (by simp [hi]),by simpa using hx⟩,rfl⟩
theorem _qm8 (kv:_quf):kd kv=dkv (kv.map fun p=>(p.1,V.int p.2)):=by unfold kd dkv; rw [map_map]; rfl
theorem _Y9 {X:Cx} {elt target iter:Expr} {ifs:List Expr} {scope:Scope} {pos:Pos} {cl:List (Str × Addr)} {N':List Str} {js:List (Option Nat)} {wi:TI} {g:TG} {tc:TT} {te:TE} {i:Nat} {y:Str} {py spos:Pos} (hN:X.N.Nodup) (hi':X.N[i]?=some y) (hy:X.env.scope.names.lookup y=some .local)
  (hsw:Hc (.ListComp elt [⟨target,iter,ifs,0⟩] scope pos) (some (.Name y py)) spos.line X.env=pure true) (k:CompOk X scope cl N' js) (hi:PI X target iter wi)
  (hg:∀ C s₀ H₀ ex pn,PG (_P X N' scope cl C s₀ H₀ ex pn) target g) (ht:∀ C s₀ H₀ ex pn,PIfs (_P X N' scope cl C s₀ H₀ ex pn) ifs tc) (he:∀ C s₀ H₀ ex pn,PE (_P X N' scope cl C s₀ H₀ ex pn) elt te) (hs:∀ x,Cd iter X.env x=pure x:=by intro _; rfl) :
  PS X (.Assign [.Name y py] (.ListComp elt [⟨target,iter,ifs,0⟩] scope pos) spos) (tAsg (_qd0 wi g tc te js) (_zj i)) :=
 _qfi hN hi' hy hsw k.calm hi (_x2 k.clo) k.free k.hcl k.hhas k.cell k.kind k.names hg ht he hs
def _qss (n:Nat):List Int:=(Ar n).map fun (i:Nat)=>(i:Int)
structure Lot (names:List Str) (B:Int) (kv:_quf):Prop where
 kn:(kv.map (·.1)).Nodup
 sub:∀ q∈kv,q.1.Sublist (_qss names.length)
 wts:∀ q∈kv,1 <= q.2/\q.2 <= B
 cnt:(drop kv []).length <= 6
theorem _qej {kv:_quf} {k:List Int} (h:k ∉ kv.map (·.1)):drop kv k=kv:=by
 unfold drop;rw [Av];intro p hp
 simp
 rintro rfl;exact h (Ah.mpr ⟨p,hp,rfl⟩)
theorem _k2:∀ {kv:_quf} (k:List Int),(kv.map (·.1)).Nodup->kv.length <= (drop kv k).length + 1
 | [],k,_=>by simp
 | p :: kv,k,h=>by
  rw [map_cons,nodup_cons] at h
  by_cases e:p.1=k
  ·have e1:drop (p :: kv) k=drop kv k:=by unfold drop; rw [filter_cons_of_neg (by simp [e])]
   rw [e1,_qej (by rw [<- e]; exact h.1)]
   simp
  ·have e1:drop (p :: kv) k=p :: drop kv k:=by unfold drop; rw [filter_cons_of_pos (by simp [e])]
   have:=_k2 k h.2
   rw [e1,length_cons,length_cons];omega
theorem Lot.good {names:List Str} {B:Int} {kv:_quf} (g:Lot names B kv) (h6:names.length <= 6) (ok:∀ y∈names,_qi y) (nd:names.Nodup):Good names kv :=
 ⟨h6,ok,nd,by have:=_k2 [] g.kn; have:=g.cnt; omega,g.kn,g.sub⟩
theorem Lot.mono {names:List Str} {B B':Int} {kv:_quf} (g:Lot names B kv) (h:B <= B'):Lot names B' kv :=
 ⟨g.kn,g.sub,fun q hq=>⟨(g.wts q hq).1,Fi (g.wts q hq).2 h⟩,g.cnt⟩
theorem _Zp (kv:_quf) (k:List Int) (v:Int):(put kv k v).map (·.1)=if (look kv k).isSome=true then kv.map (·.1) else kv.map (·.1)++[k]:=by
 unfold put;split
 ·rw [map_map]
  apply map_congr_left;intro p _;simp only [Ei];split <;> rfl
 ·rw [map_append]; rfl
theorem _qls {kv:_quf} {k:List Int} (h:¬ (look kv k).isSome=true):k ∉ kv.map (·.1):=fun z=>h (by rw [_xz z]; rfl)
theorem _qfv {kv:_quf} {k:List Int} {v:Int} {q:List Int × Int} (h:q∈put kv k v):q=(k,v) \/ q∈kv:=by
 unfold put at h;split at h
 ·obtain ⟨p,hp,rfl⟩:=Ah.mp h
  split
  ·rename_i e; rw [e]; exact .inl rfl
  ·exact .inr hp
 ·rcases Dd.mp h with h | h
  ·exact .inr h
  ·exact .inl (D9.mp h)
theorem _qh7 (kv:_quf) (k:List Int) (v:Int):(put kv k v).length=if (look kv k).isSome=true then kv.length else kv.length + 1:=by
 have:=congrArg List.length (_Zp kv k v)
 rw [length_map] at this;rw [this];split <;> simp
theorem _qfy {names:List Str} {B:Int} {kv:_quf} (g:Lot names B kv) {k:List Int} {v:Int} (hk:k.Sublist (_qss names.length)) (hv:1 <= v/\v <= B) (hc:(drop (put kv k v) []).length <= 6):Lot names B (put kv k v):=by
 refine ⟨?_,fun q hq=>?_,fun q hq=>?_,hc⟩
 ·rw [_Zp]
  split
  ·exact g.kn
  ·rename_i hs
   exact Ih.mpr ⟨g.kn,by simp,fun a ha b hb=>by simp at hb; subst hb; rintro rfl; exact _qls hs ha⟩
 ·rcases _qfv hq with rfl | hq
  ·exact hk
  ·exact g.sub q hq
 ·rcases _qfv hq with rfl | hq
  ·exact hv
  ·exact g.wts q hq
theorem _qi7 {names:List Str} {B:Int} {kv:_quf} (g:Lot names B kv) (k:List Int):Lot names B (drop kv k):=by
 refine ⟨(E3 _ filter_sublist).nodup g.kn,fun q hq=>g.sub q (Ay.mp hq).1,fun q hq=>g.wts q (Ay.mp hq).1,?_⟩;have e:drop (drop kv k) []=drop (drop kv []) k:=by
  unfold drop;rw [Ho,Ho];apply Ik;intro p _;exact Bool.and_comm _ _
 rw [e];exact le_trans (length_filter_le _ _) g.cnt
theorem _qaw {kv:_quf} {k:List Int} {v:Int} (h:look kv k=some v):(k,v)∈kv:=by
 unfold look at h;cases e:kv.find? fun p=>decide (p.1=k) with
 | none=>rw [e] at h; cases h
 | some q =>
  rw [e] at h;cases h;have h1:=List.mem_of_find?_eq_some e;have h2:=List.find?_some e;simp at h2;rw [<- h2];exact h1
theorem Lot.wt {names:List Str} {B:Int} {kv:_quf} (g:Lot names B kv) (h0:0 <= B) (k:List Int):0 <= wt kv k/\wt kv k <= B:=by
 unfold L_k62.wt;cases e:look kv k with
 | none=>exact ⟨Kk _,h0⟩
 | some v=>have:=g.wts _ (_qaw e); exact ⟨by show 0 <= v; omega,this.2⟩
theorem Lot.wt1 {names:List Str} {B:Int} {kv:_quf} (g:Lot names B kv) {k:List Int} (h:(look kv k).isSome=true):1 <= L_k62.wt kv k:=by
 unfold L_k62.wt;cases e:look kv k with
 | none=>rw [e] at h; cases h
 | some v=>exact (g.wts _ (_qaw e)).1
theorem _Xn {n:Nat} {k:Int} (h:k∈_qss n):0 <= k/\k < (n:Int):=by
 obtain ⟨i,hi,rfl⟩:=Ah.mp h
 have:=A0.mp hi
 omega
theorem _qf1 (n:Nat):(_qss n).Pairwise (· < ·):=by
 unfold _qss;rw [pairwise_map];exact Fk.imp fun h=>by omega
theorem _qlr (st xs:List Str):(_qtf st xs).Pairwise (· < ·):=(_qf1 st.length).sublist (_qhz st xs)
theorem _Zi {names:List Str} {i:Nat} (hi:i < names.length):_qtg names (i:Int)=names[i]:=by
 unfold _qtg;simp [hi]
theorem _Wi {names:List Str} {k:List Int} (hk:k.Sublist (_qss names.length)):∀ y∈k.map fun j=>_qtg names j,y∈names:=by
 intro y hy;obtain ⟨j,hj,rfl⟩:=Ah.mp hy;obtain ⟨i,hi,rfl⟩:=Ah.mp (hk.subset hj);rw [_Zi (A0.mp hi)];exact getElem_mem _
theorem _qal {names:List Str} (nd:names.Nodup) {k:List Int} (hk:k.Sublist (_qss names.length)):_qtf names (k.map fun j=>_qtg names j)=k:=by
 refine _x1 (_qlr _ _) ((_qf1 _).sublist hk) fun x=>?_;rw [_qi5];constructor
 ·rintro ⟨i,hi,hx,rfl⟩
  obtain ⟨j,hj,e⟩:=Ah.mp hx;obtain ⟨i',hi',rfl⟩:=Ah.mp (hk.subset hj);have h':=A0.mp hi';rw [_Zi h'] at e
  have:i'=i:=by
   rw [<- _qmf nd h',<- _qmf nd hi,e]
  rw [<- this]; exact hj
 ·intro hx
  obtain ⟨i,hi,rfl⟩:=Ah.mp (hk.subset hx);have h':=A0.mp hi;exact ⟨i,h',Ah.mpr ⟨_,hx,_Zi h'⟩,rfl⟩
abbrev _Xz:Stmt:=top 50
def pows6:List Int:=[1,2,4,8,16,32]
theorem _qhd:∀ i:Nat,i < 6->atI (pows6.map V.int) (i:Int)=some (.int (2 ^ i)):=by decide +kernel
theorem _qhc:∀ i:Nat,i < 6->(0:Int) < 2 ^ i/\(2:Int) ^ i < 1073741824:=by decide +kernel
theorem _Vn (n:Nat):_qss (n + 1)=_qss n++[(n:Int)]:=by
 unfold _qss;rw [List.range_succ,map_append]; rfl
theorem _qgk {m n:Nat} (h:m <= n):(_qss m).Sublist (_qss n):=E3 _ (Lk.mpr h)
structure Fil (C:Addr) (H0:Hp) (p l d n lo:Addr) (names:List Str) (H:Hp) (kv:_quf) (B:Int):Prop where
 keep:∀ b o,H0 b=some o->b ≠ l->b ≠ d->H b=some o
 hall:HallAt C H p l d names kv
 hlo:H lo=some (.dT (kd kv))
 hn:H n=some (.lst (names.map V.str))
 lot:Lot names B kv
 nd:lo ≠ d
 l0:H0 lo=none
theorem Fil.keepS {C:Addr} {H0 H H':Hp} {p l d n lo:Addr} {names:List Str} {kv:_quf} {B:Int} (f:Fil C H0 p l d n lo names H kv B) (s:_qu9 H H'):Fil C H0 p l d n lo names H' kv B :=
 ⟨fun b o h1 h2 h3=>s _ _ (f.keep b o h1 h2 h3),f.hall.keep s,s _ _ f.hlo,s _ _ f.hn,f.lot,f.nd,f.l0⟩
theorem _Km {C:Addr} {H0 H H7 H8:Hp} {p l d n lo:Addr} {names:List Str} {kv kv':_quf} {B B':Int} (f:Fil C H0 p l d n lo names H kv B) (kp:∀ b o,H b=some o->b ≠ d->H7 b=some o) (hd:H7 d=some (.dT (kd kv'))) (s:_qu9 H7 H8) (lot:Lot names B' kv') :
  Fil C H0 p l d n lo names (upd H8 lo (.dT (kd kv'))) kv' B':=by
 obtain ⟨dx,h1⟩:=f.hall.ob;have k2:∀ b o,H b=some o->b ≠ d->b ≠ lo->(upd H8 lo (.dT (kd kv'))) b=some o:=fun b o hb h1 h2=>by rw [_e h2]; exact s _ _ (kp _ _ hb h1)
 refine ⟨fun b o hb h1 h2=>k2 _ _ (f.keep b o hb h1 h2) h2 (_c hb f.l0),⟨⟨dx,?_⟩,?_,?_⟩,_a,?_,lot,f.nd,f.l0⟩
 ·exact k2 _ _ h1 (_zh h1 f.hall.ba nofun) (_zh h1 f.hlo nofun)
 ·exact k2 _ _ f.hall.st (_zh f.hall.st f.hall.ba nofun) (_zh f.hall.st f.hlo nofun)
 ·rw [_e f.nd.symm]; exact s _ _ hd
 ·exact k2 _ _ f.hn (_zh f.hn f.hall.ba nofun) (_zh f.hn f.hlo nofun)
theorem _qb2 {kv:_quf} {k:List Int} {v:Int} (h:1 <= v):lay kv k v=put kv k v:=by unfold lay; rw [if_neg (by omega)]
theorem lims3 {r:Int} (h0:0 <= r) (h:r < 3):∃ w:Int,atI [V.int 4,V.int 4,V.int (10 ^ (9:Int).toNat)] r=some (.int w)/\1 <= w/\w <= 1000000000:=by
 obtain ⟨i,rfl⟩:=Dy h0
 have:i=0 \/ i=1 \/ i=2:=by omega
 rcases this with rfl | rfl | rfl
 ·exact ⟨4,rfl,by decide,by decide⟩
 ·exact ⟨4,rfl,by decide,by decide⟩
 ·exact ⟨1000000000,rfl,by decide,by decide⟩
def lims6:List Int:=[6,6,6,6,5,4]
theorem _qia:∀ i:Nat,i < 6->∃ w,atI (lims6.map V.int) (i:Int)=some (.int w)/\w <= 6:=fun i hi=>by
 have:i=0 \/ i=1 \/ i=2 \/ i=3 \/ i=4 \/ i=5:=by omega
 rcases this with rfl | rfl | rfl | rfl | rfl | rfl
 ·exact ⟨6,rfl,by decide⟩
 ·exact ⟨6,rfl,by decide⟩
 ·exact ⟨6,rfl,by decide⟩
 ·exact ⟨6,rfl,by decide⟩
 ·exact ⟨5,rfl,by decide⟩
 ·exact ⟨4,rfl,by decide⟩
theorem _qkj (names:List Str) (ks:List Int):((ks.map V.int).filter fun _=>true).map (fun v=>V.str (_qtg names (intV v)))=(ks.map fun j=>_qtg names j).map V.str:=by
 rw [Av.mpr (by simp),map_map,map_map]; rfl
def _Yk (K:Frag) (C:Addr):Sp:=fun vs H Q _=>∃ (F:Hp) (p l d a n:Addr) (ns:List Int) (names:List Str),vs=[.ref p,.ref a,.ref n]/\HallAt C H p l d [] []/\_qu9 F H/\SqE K F a (ns.map V.int)/\ns.length <= 63/\F l=none/\F d=none/\H n=some (.lst (names.map V.str))/\n ≠ l/\1 <= names.length/\names.length <= 6/\names.Nodup/\(∀ y∈names,_qi y) /\
 ∀ lo H' kv,H lo=none->Fil C H p l d n lo names H' kv 51000000000->Q (.ref lo) H'
def Tf (C:Addr) (H0:Hp) (p a l d n:Addr) (names:List Str):TS:=fun D σ H=>∃ (lo r:Addr) (ks:List Int) (kv:_quf) (mv B:Int) (c4 c5 c6:Option V),σ=[some (.ref p),some (.ref a),some (.ref n),some (.ref lo),c4,c5,c6,some (.ref r),some (.int mv)]/\Fil C H0 p l d n lo names H kv B/\H r=some (.lst (ks.map V.int))/\ks.Sublist (_qss names.length)/\(1 <= mv/\mv <= 1000000000)/\(0 <= B/\B <= 51000000000)/\kv.length <= 6/\((look kv ks).isSome=true \/ kv.length < 6) /\
 ∀ H' kv',Fil C H0 p l d n lo names H' kv' (B + 1000000000)->kv'.length <= 6->D.nx σ H'
section
variable {P:Ak} {w:World} {K:Frag} {mg:Str->Option Value} {base:Heap} {C:Addr}
theorem _jy:FnScope ["hall","script","names","lots","name","k","cell","marks","many"] ["hall","script","names"] (_f _Xz):=fsc
theorem _qdu {f fS fC:Addr} {fd fdS fdC:Am} (F:Fun K "_law_filled" "_law_filled" _Xz f fd) (T:Hx K mg C) (Gc:Fn P w K mg base 1 "_law_cell" ["script","k"] (spD K 2 _T)) (GS:FnOk P w K mg base CX0 1 fS fdS ["self","name"] (_qf8 C)) (bS:L2.Binds K fdS ["self","name"] []) (mS:Meth K C "stand" fS)
  (GC:FnOk P w K mg base CX0 2 fC fdC ["self","many","names"] (_qgo C)) (bC:L2.Binds K fdC ["self","many","names"] []) (mC:Meth K C "cast" fC):FnOk P w K mg base CX0 3 f fd ["hall","script","names"] (_Yk K C):=by
 obtain ⟨fc,fdc,okc,mc,kc,bc⟩:=Gc;refine F.ok _jy (k:=2) (fun vs H Q E h=>?_) (fun cdv A outer s H vs Q E hr h=>?_)
 ·obtain ⟨_,_,_,_,_,_,_,_,rfl,_⟩:=h
  rfl
 ·obtain ⟨F0,p,l,d,a,n,ns,names,rfl,S,sm0,ha,h63,Fl,Fd,hn,nnl,h1n,h6,nd,hok,k⟩:=h
  have hr1:Room 1 _:=hm hr;refine ⟨_,_j (_q (i:=3) _jy.nd rfl (.inl rfl) _Qu)
   (_j (_X4 Be rfl (_J (pv 2)) (_q0 (i:=4) _jy.nd rfl (.inl rfl)) (_v (_qz (_xm (pv 0) T.cl mS GS hr1 bS .nil _zs (_d (pv 4) _n)))))
   (_j (_X4 Be rfl (_qdj rfl T.zr (_d _m (_d (_V (_qer rfl) rfl T.zmax _qq3 (_d _m (_d (_V (_qeq rfl) rfl T.zmin _qq2 (_d (_V _qc rfl T.zlen _wr (_d (pv 1) _n)) (_d _m _n))) _n))) _n))) (_q0 (i:=5) _jy.nd rfl (.inl rfl))
    (_j (_q (i:=6) _jy.nd rfl (.inr rfl) (_q3 _x4 (_q3 _qop (_q6 okc hr1 rfl mc kc bc .nil _zs (_d (pv 1) (_d (pv 5) _n))) _m) _m))
    (_j (_Y9 (i:=7) _jy.nd rfl rfl rfl (cl:=_) (N':=["j","cell"]) (js:=[none,some 6]) (by o_reads)
     (_v4 rfl T.zr (_d (_V _qc rfl T.zlen _wr (_d (pv 2) _n)) _n))
     (fun _ _ _ _ _=>pgc 0)
     (fun _ _ _ _ _=>.inr ⟨_,rfl,_qd _qjw (_q3 _x4 (_q3 _kq (pv 1) (_Za (_qmc (K:=K) rfl) (_Wf (_d _m (_d _m (_d _m (_d _m (_d _m (_d _m _n))))))) (pv 0) (fun _ _=>rfl))) _m) _m (_qg _)⟩)
     (fun _ _ _ _ _=>pv 0))
    (_j (_q (i:=8) _jy.nd rfl (.inl rfl) (_q3 _x5 _m (_q3 _x4 (_q3 _kq (pv 6) _m) (_Za _J5 (_Wf (_d _m (_d _m (_d (_q3 _qlc _m _m) _n)))) (_q3 _x4 (_q3 _kq (pv 6) _m) _m) (fun _ _=>rfl)))))
    (_v (_X3 (PW.pt (pw_or (_qh9 (_ql7 (_wp hr) (_qh _qf rfl T.ztuple _vk (_d (pv 7) _n)) (pv 3))) (_qdg (_qd _qle (_V _Jd rfl T.zlen _wr (_d (pv 3) _n)) (_Za _J5 (_Wf (_d _m (_d _m (_d _m (_d _m (_d _m (_d _m _n))))))) (_q3 _Zd (_V _qc rfl T.zlen _wr (_d (pv 2) _n)) _m) (fun _ _=>rfl)) (_qg _)))))
     (PSs.imp (t':=Tf C H p a l d n names) (_j (_qz (_xm (pv 0) T.cl mC GC hr bC .nil _zs (_d (pv 8) (_d (_j1 (cl:=_) (N':=["j","names"]) (js:=[none,some 2]) (tc:=_wi) (te:=tOp (rIxL K) (_qsw 1) (_qsw 0)) (by o_reads)
      (_J (pv 7)) (fun _ _ _ _ _=>pgc 0) pif0 (fun _ _ _ _ _=>_Za (_qmc rfl) (pv 1) (pv 0) (fun _ _=>rfl))) _n))))
     (_v (_Jt (_wp hr) (pv 3) (_qh _qf rfl T.ztuple _vk (_d (pv 7) _n)) (_q3 _x5 (_kp (_wp hr) (pv 3) (_qh _qf rfl T.ztuple _vk (_d (pv 7) _n)) _m ⟨rfl,rfl,rfl,rfl⟩) (pv 8)) rfl))) ?_) _jr))))))
   (_v (_v1 (pv 3))))),?_⟩
  ·rintro Dn σ H6 ⟨lo,r,ks,kv,mv,B,c4,c5,c6,rfl,f6,hr6,hks,hmv,hB,hl6,hf,q⟩
   obtain ⟨dx,h1⟩:=f6.hall.ob;have hkl:ks.length <= 6:=by have:=hks.length_le; simp [_qss] at this; omega
   have big:(((look kv ks).map V.int).getD (.int 0))=.int (wt kv ks):=by unfold wt; cases look kv ks <;> rfl
   have wtb:=f6.lot.wt hB.1 ks;have pl:(put kv ks (wt kv ks + mv)).length <= 6:=by
    rw [_qh7];rcases hf with h | h
    ·rw [if_pos h]; exact hl6
    ·split <;> omega
   refine ⟨_,rfl,p,dx,_,rfl,h1,_jf,_,rfl,_,rfl,r,rfl,⟨_,SqL.of hr6⟩,_k4 (SqL.of hr6) (by rw [length_map,Ao]; omega) (fun _=>true) (fun v=>.str (_qtg names (intV v))) (fun σ=>∃ c,σ=[c,some (.ref n)]) ⟨none,rfl⟩ (fun i2 x σ3 H3 hx hS sm=>?_) fun z hz=>?_⟩
   ·obtain ⟨c0,rfl⟩:=hS
    rw [getElem?_map] at hx;obtain ⟨y,hy,rfl⟩:=D7.mp hx;have hy':=_Xn (hks.subset (mem_of_getElem? hy));exact ⟨⟨_,rfl⟩,fun R h=>h,fun R _ h=>⟨_,rfl,_,rfl,n,_,y,_,rfl,rfl,SqL.of (sm _ _ f6.hn),nm_at hy'.1 hy'.2,h⟩⟩
   ·rw [_qkj]
    have smz:_qu9 H6 (upd H6 z (.lst ((ks.map fun j=>_qtg names j).map V.str))):=_i hz;have hz7:(upd H6 z (.lst ((ks.map fun j=>_qtg names j).map V.str))) z=some (.lst ((ks.map fun j=>_qtg names j).map V.str)):=_a;generalize upd H6 z (.lst ((ks.map fun j=>_qtg names j).map V.str))=H7 at smz hz7 ⊢;have f7:=f6.keepS smz;refine ⟨p,l,d,z,names,kv,ks.map fun j=>_qtg names j,mv,rfl,f7.hall,hz7,h6,by rw [length_map]; omega,by omega,hok,fun y hy=>hok y (_Wi hks y hy),_Wi hks,?_⟩;rw [_qal nd hks];refine ⟨hf.imp id (fun h=>by omega),by omega,fun H8 kp8 hd8=>?_⟩;have hr8:=kp8 _ _ (smz _ _ hr6) (_zh (smz _ _ hr6) f7.hall.ba nofun);have hlo8:=kp8 _ _ f7.hlo f7.nd;refine ⟨_,rfl,lo,rfl,.inr ⟨_,.inl hlo8⟩,_,rfl,r,_,rfl,.inl ⟨SqL.of hr8,fun b2 hb2=>?_⟩⟩;have sm9:_qu9 H8 (upd H8 b2 (.tup (ks.map V.int))):=_i hb2;have hb9:(upd H8 b2 (.tup (ks.map V.int))) b2=some (.tup ((ks.map Sum.inl:List Key).map kV)):=by rw [_a,_ju]
    generalize upd H8 b2 (.tup (ks.map V.int))=H9 at sm9 hb9 ⊢;have g9:_qui H9 lo (.ref b2) (_qsr (kd kv) (ks.map Sum.inl)):=_qui.t (sm9 _ _ hlo8) hb9;rw [_xa] at g9;refine ⟨_,g9,?_⟩;rw [big];refine ⟨_,rfl,_,_,rfl,rfl,_,rfl,_,rfl,r,_,rfl,.inl ⟨SqL.of (sm9 _ _ hr8),fun b3 hb3=>?_⟩⟩;have sm10:_qu9 H9 (upd H9 b3 (.tup (ks.map V.int))):=_i hb3;have hb10:(upd H9 b3 (.tup (ks.map V.int))) b3=some (.tup ((ks.map Sum.inl:List Key).map kV)):=by rw [_a,_ju]
    generalize upd H9 b3 (.tup (ks.map V.int))=H10 at sm10 hb10 ⊢;refine ⟨lo,_,rfl,DPut.t (k:=ks.map Sum.inl) (sm10 _ _ (sm9 _ _ hlo8)) hb10 (by rw [kd_len,Ao]; omega),?_⟩;rw [_Y6];rw [_qb2 (by omega)] at hd8;exact q _ _ (_Km f7 kp8 hd8 (sm9.trans sm10) (_qfy (f6.lot.mono (by omega)) hks (by omega) (le_trans (length_filter_le _ _) pl))) pl
  ·intro lo hlo
   have sm1:_qu9 H (upd H lo (.dT [])):=_i hlo;have lo1:(upd H lo (.dT [])) lo=some (.dT (kd [])):=_a;have nld:lo ≠ d:=(_c S.ba hlo).symm;have nll:lo ≠ l:=(_c S.st hlo).symm;generalize upd H lo (.dT [])=H1 at sm1 lo1 ⊢;have S1:=S.keep sm1;have hn1:=sm1 _ _ hn;refine ⟨_,rfl,n,rfl,⟨_,SqL.of hn1⟩,_qbj (K:=K) (a:=n) (xs:=names.map V.str) (fun i σ' H'=>(∃ c4,σ'=[some (.ref p),some (.ref a),some (.ref n),some (.ref lo),c4,none,none,none,none])/\HallAt C H' p l d (names.take i) []/\∀ b o,H1 b=some o->b ≠ l->H' b=some o)
    ⟨⟨_,rfl⟩,by rw [List.take_zero]; exact S1,fun b o h _=>h⟩ (fun i σ' H' hi hI=>SqL.of (hI.2.2 _ _ hn1 nnl)) (fun i x σ' H' hx hI=>?_) fun σ' H' hI=>?_⟩
   ·obtain ⟨⟨c4,rfl⟩,S2,kp⟩:=hI
    rw [getElem?_map] at hx;obtain ⟨x,hx',rfl⟩:=D7.mp hx;obtain ⟨hi,rfl⟩:=Ai.mp hx';obtain ⟨⟨dx,h1⟩,h2,h3⟩:=id S2;have hnot:names[i] ∉ names.take i:=fun hm=>by
     obtain ⟨j,hj,e⟩:=getElem_of_mem hm;rw [List.getElem_take] at e;have hj':j < i:=by rw [length_take] at hj; omega
     exact Bu.mp nd j i (by omega) hi hj' e
    refine ⟨_,rfl,p,dx,_,rfl,h1,_jf,_,rfl,p,l,d,names.take i,[],names[i],rfl,S2,by rw [length_take]; omega,hnot,hok _ (getElem_mem hi),fun y hy=>hok y (List.mem_of_mem_take hy),⟨_,rfl⟩,?_,fun b o hb hbl=>?_⟩
    ·rw [take_succ_eq_append_getElem hi]
     exact ⟨⟨dx,by rw [_e (_zh h1 h2 nofun)]; exact h1⟩,_a,by rw [_e (_zh h3 h2 nofun)]; exact h3⟩
    ·rw [_e hbl]; exact kp b o hb hbl
   ·obtain ⟨⟨c4,rfl⟩,S2,kp⟩:=hI
    rw [length_map,take_length] at S2;have fil0:Fil C H p l d n lo names H' [] (((0:Nat):Int) * 1000000000):=⟨fun b o h hbl _=>kp b o (sm1 _ _ h) hbl,S2,kp _ _ lo1 nll,kp _ _ hn1 nnl,⟨by simp,by simp,by simp,by simp [drop]⟩,nld,hlo⟩;clear S2 kp S1 hn1 lo1 sm1;have sF:∀ {H2:Hp} {kv:_quf} {B:Int},Fil C H p l d n lo names H2 kv B->_qu9 _ H2:=fun f b o hb=>f.keep b o (sm0 _ _ hb) (_c hb Fl) (_c hb Fd);have hj:∀ j:Int,j=(if (if (63:Int) < ((ns.map V.int).length:Int) then (63:Int) else ((ns.map V.int).length:Int)) > 18 then (if (63:Int) < ((ns.map V.int).length:Int) then (63:Int) else ((ns.map V.int).length:Int)) else 18)->18 <= j/\j <= 63:=by
     intro j e;rw [length_map] at e;split at e <;> split at e <;> omega
    refine ⟨_,rfl,a,_,rfl,.inl (_qt1 (sF fil0) ha).l,_,_,rfl,_,_,rfl,_,_,rfl,⟨by decide,by decide,by have:=hj _ rfl; omega,by have:=hj _ rfl; omega⟩,
     _v8 (fun i σ' H'=>∃ c5 c6 c7 c8 kv,σ'=[some (.ref p),some (.ref a),some (.ref n),some (.ref lo),c4,c5,c6,c7,c8]/\Fil C H p l d n lo names H' kv (i * 1000000000)/\kv.length <= 6)
      ⟨_,_,_,_,[],rfl,fil0,by simp⟩ (fun i σ' H' hi hI=>?_) fun σ' H' hI=>?_⟩
    ·obtain ⟨c5,c6,c7,c8,kv,rfl,f,hl6⟩:=hI
     have hi51:i < 51:=by have:=hj _ rfl; omega
     have ce:=_qc3 ns (12 + i) (by omega);rw [show (((12 + i:Nat):Nat):Int)=12 + (i:Int) by omega] at ce;refine ⟨_,rfl,_,rfl,F0,[MB._y ns,.int (12 + (i:Int))],_,sF f,.cons (.lst ha (_R ns)) (.cons (.int _) .nil),rfl,ce,fun v F' H2 e2 r2=>?_⟩;cases r2;generalize cellOf ns (12 + i)=c0;refine ⟨_,_,rfl,rfl,.inr ⟨by decide,by decide⟩,_,_,rfl,rfl,(by show (0:Int) < 2147483647; decide),?_⟩;dsimp only;generalize c0 * 48271 % 2147483647=c;have f2:=f.keepS e2.hh;clear ce hi hj sF e2 fil0;refine ⟨_,rfl,n,_,rfl,.inl (SqL.of f2.hn),_,rfl,by rw [length_map]; omega,by rw [length_map]; omega,fun r hr'=>?_⟩;refine ⟨fun i2 m σ3 H3=>m=names.length - i2/\i2 <= names.length/\(∃ c0,σ3=[c0,some (.int c)])/\_qu9 H2 H3/\∃ ks,H3 r=some (.lst ((ks:List Int).map V.int))/\ks.Sublist (_qss i2),⟨_,rfl,zero_le _,⟨none,rfl⟩,_i hr',[],_a,List.nil_sublist _⟩,?_⟩;rintro i2 m σ3 H3 ⟨rfl,hi2,⟨c0,rfl⟩,sm3,ks,hr3,hsub⟩;have hkl:ks.length <= 6:=by have:=hsub.length_le; simp [_qss] at this; omega
     by_cases hlt:i2 < names.length
     ·refine .inr ⟨by show i2 < ((names.map V.str).length:Int).toNat; rw [length_map]; omega,fun x H4 yl=>?_⟩
      obtain ⟨e1,rfl⟩:=yl;rw [e1];have e0:(0:Int) + (i2:Int)=(i2:Int):=by omega
      rw [e0];refine ⟨_,rfl,by show 6 <= Aj; decide,fun q hq=>⟨_,rfl,q,_,_,_,rfl,rfl,SqL.of _a,_qhd i2 (by omega),_,_,rfl,rfl,_qhc i2 (by omega),_,_,rfl,rfl,(by show (0:Int) < 2; decide),rfl,_,rfl,?_⟩⟩;have sq:_qu9 H3 (upd H3 q (.lst (pows6.map V.int))):=_i hq;have sm2:=sm3.trans sq;have hy2:=sq _ _ hr3;refine ite2 (fun _=>?_) fun _=>?_
      ·refine ⟨_,rfl,_,hy2,by rw [length_map,Ao]; omega,_,(by omega:names.length - (i2 + 1) < names.length - i2),rfl,hlt,⟨_,rfl⟩,fun b o hb=>?_,ks++[(i2:Int)],by rw [_a,map_append]; rfl,?_⟩
       ·rw [_e (_c hb hr')]; exact sm2 _ _ hb
       ·rw [_Vn]; exact hsub.append (List.Sublist.refl _)
      ·refine ⟨_,(by omega:names.length - (i2 + 1) < names.length - i2),rfl,hlt,⟨_,rfl⟩,sm2,ks,hy2,?_⟩
       rw [_Vn]; exact hsub.trans (List.sublist_append_left _ _)
     ·refine .inl ⟨by show ((names.map V.str).length:Int).toNat <= i2; rw [length_map]; omega,?_⟩
      have hks:ks.Sublist (_qss names.length):=hsub.trans (_qgk hi2);clear hsub hlt hi2;have f3:=f2.keepS sm3;obtain ⟨w3,hw,w0,w1⟩:=lims3 (Bt (c / 256) (b:=3) (by decide)) (Bk (c / 256) (b:=3) (by decide));refine ⟨_,rfl,_,_,rfl,rfl,⟨by decide,by decide⟩,_,_,rfl,rfl,⟨by decide,by decide,by decide⟩,by show 3 <= Aj; decide,fun q hq=>⟨_,rfl,_,_,rfl,rfl,⟨by decide,by decide⟩,_,_,rfl,rfl,(by show (0:Int) < 3; decide),q,_,_,_,rfl,rfl,SqL.of _a,hw,_,_,rfl,rfl,(by show (0:Int) < w3; omega),_,_,rfl,rfl,?_⟩⟩;have sm4:_qu9 H3 (upd H3 q (.lst [V.int 4,V.int 4,V.int (10 ^ (9:Int).toNat)])):=_i hq;generalize upd H3 q (.lst [V.int 4,V.int 4,V.int (10 ^ (9:Int).toNat)])=H4 at sm4 ⊢;have hr4:=sm4 _ _ hr3;have f4:=f3.keepS sm4;have mv0:=Bt (c / 64) (b:=w3) (by omega);have mv1:=Bk (c / 64) (b:=w3) (by omega);dsimp only;generalize hmv:1 + c / 64 % w3=mv;clear hw hq hr' hr3 sm3 sm4 f2 f3;refine ⟨_,rfl,r,_,rfl,.inl ⟨SqL.of hr4,fun b hb=>?_⟩⟩;have sm5:_qu9 H4 (upd H4 b (.tup (ks.map V.int))):=_i hb;have hb5:(upd H4 b (.tup (ks.map V.int))) b=some (.tup ((ks.map Sum.inl:List Key).map kV)):=by rw [_a,_ju]
      generalize upd H4 b (.tup (ks.map V.int))=H5 at sm5 hb5 ⊢;have f5:=f4.keepS sm5;have hr5:=sm5 _ _ hr4;have g5:_qui H5 lo (.ref b) (_qsr (kd kv) (ks.map Sum.inl)):=_qui.t f5.hlo hb5;rw [_xa] at g5;refine ⟨_,rfl,lo,_,rfl,g5,_,rfl,?_⟩;rw [show ((look kv ks).map V.int).isSome=(look kv ks).isSome by cases look kv ks <;> rfl];have e51:((i + 1:Nat):Int) * 1000000000=(i:Int) * 1000000000 + 1000000000:=by omega
      clear f4 g5
      by_cases hs:(look kv ks).isSome=true
      ·rw [hs]
       refine iteT ?_;refine iteT ?_;exact ⟨lo,r,ks,kv,mv,_,_,_,_,rfl,f5,hr5,hks,by omega,by omega,hl6,.inl hs,fun H' kv' f' l'=>⟨_,_,_,_,kv',rfl,by rw [e51]; exact f',l'⟩⟩
      ·rw [show (look kv ks).isSome=false by simpa using hs]
       refine _qti ?_;obtain ⟨w6,hw6,w6b⟩:=_qia (names.length - 1) (by omega);refine ⟨_,rfl,lo,_,rfl,f5.hlo,by show 6 <= Aj; decide,fun q hq=>⟨_,rfl,n,_,rfl,.inl (SqL.of ((_i hq) _ _ f5.hn)),_,_,rfl,rfl,q,_,_,_,rfl,rfl,SqL.of _a,(by rw [length_map,show (names.length:Int) - 1=((names.length - 1:Nat):Int) by omega]; exact hw6),_,_,rfl,rfl,_,rfl,?_⟩⟩;have sm6:_qu9 H5 (upd H5 q (.lst [V.int 6,V.int 6,V.int 6,V.int 6,V.int 5,V.int 4])):=_i hq;have f6:=f5.keepS sm6;have hr6:=sm6 _ _ hr5;generalize upd H5 q (.lst [V.int 6,V.int 6,V.int 6,V.int 6,V.int 5,V.int 4])=H6 at sm6 f6 hr6 ⊢;rw [kd_len];refine ite2 (fun hd=>?_) fun _=>?_
       ·have hl:kv.length < 6:=by have:=of_decide_eq_true hd; omega
        exact ⟨lo,r,ks,kv,mv,_,_,_,_,rfl,f6,hr6,hks,by omega,by omega,hl6,.inr hl,fun H' kv' f' l'=>⟨_,_,_,_,kv',rfl,by rw [e51]; exact f',l'⟩⟩
       ·exact ⟨_,_,_,_,kv,rfl,⟨f6.keep,f6.hall,f6.hlo,f6.hn,f6.lot.mono (by omega),f6.nd,f6.l0⟩,hl6⟩
    ·obtain ⟨c5,c6,c7,c8,kv,rfl,f,_⟩:=hI
     refine ⟨_,rfl,k lo _ kv hlo ⟨f.keep,f.hall,f.hlo,f.hn,f.lot.mono ?_,f.nd,f.l0⟩⟩
     have:=hj _ rfl
     omega
end
abbrev _Qn:Stmt:=top 52
theorem _Kv {K:Frag} {z:Addr} {xs:List V} {j:Nat} {te:TE} {js:List (Option Nat)} {σ:L2.St} {H:Hp} {Q:Addr->Hp->Prop} (hz:SqT K H z xs) (hlen:xs.length < Aj) (e:V->V) (S:L2.St->Prop) (hS:S (mkS js σ))
  (step:∀ (x:V) (σ':L2.St) (H':Hp),x∈xs->S σ'->_qu9 H H'->S (σ'.set j (some x))/\(∀ R:VK,R (e x) H'->te (σ'.set j (some x)) H' R))
  (k:∀ l,H l=none->Q l (upd H l (.lst (xs.map e)))) :
  ∀ l,H l=none->∃ W:Nat->Nat->L2.St->Hp->Prop,(∃ m,W 0 m (mkS js σ) (upd H l (.lst [])))/\∀ i m σ H,W i m σ H ->
   ((Itt K z).stop i H/\Q l H) \/ ((Itt K z).go i H/\∀ x H',(Itt K z).yld i H x H'->_zj j x σ H' fun σ2 H2=>_wi σ2 H2 fun b H3 =>
     if b=true then te σ2 H3 fun y H4=>∃ acc,H4 l=some (.lst acc)/\acc.length < Aj/\∃ m',m' < m/\W (i + 1) m' σ2 (upd H4 l (.lst (acc++[y]))) else ∃ m',m' < m/\W (i + 1) m' σ2 H3):=by
 intro l hl;refine ⟨fun i m σ' H'=>m=xs.length - i/\i <= xs.length/\S σ'/\H'=upd H l (.lst ((xs.take i).map e)),⟨_,rfl,zero_le _,hS,by simp⟩,?_⟩;rintro i m σ' H' ⟨rfl,hi,hs,rfl⟩;have sm:_qu9 H (upd H l (.lst ((xs.take i).map e))):=_i hl
 by_cases hlt:i < xs.length
 ·refine .inr ⟨⟨xs,xs[i],seqT sm hz,by simp [hlt]⟩,fun x H2 y=>?_⟩
  obtain ⟨rfl,y⟩:=y;have hx:=y xs (seqT sm hz);rw [getElem?_eq_getElem hlt] at hx;obtain rfl:=(Option.some.inj hx).symm;obtain ⟨s1,s3⟩:=step xs[i] σ' _ (getElem_mem hlt) hs sm;dsimp only [_wi,_zj];rw [if_pos rfl];refine s3 _ ⟨_,_a,by rw [length_map,length_take]; omega,_,(by omega:xs.length - (i + 1) < xs.length - i),rfl,hlt,s1,?_⟩;rw [take_succ_eq_append_getElem hlt,map_append]
  funext b
  by_cases hb:b=l
  ·subst hb; rw [_a,_a]; rfl
  ·rw [_e hb,_e hb,_e hb]
 ·have e1:i=xs.length:=by omega
  subst e1;refine .inl ⟨⟨xs,seqT sm hz,le_refl _⟩,?_⟩;rw [take_length];exact k l hl
theorem _Yf (names:List Str) (ks:List Int):(ks.map V.int).map (fun v=>V.str (_qtg names (intV v)))=(ks.map fun j=>_qtg names j).map V.str:=by
 rw [map_map,map_map]; rfl
theorem _W7 {H:Hp} {a:Addr} {o o':HO}:upd (upd H a o) a o'=upd H a o':=by
 funext b
 by_cases hb:b=a
 ·subst hb; rw [_a,_a]
 ·rw [_e hb,_e hb,_e hb]
theorem _qi8 (kv:_quf) (k:List Int) (v:Int):look (put kv k v) k=some v:=by
 have:=_W5 (kd kv) (k.map Sum.inl) (k.map Sum.inl) (.int v)
 rw [if_pos rfl,_Y6,_xa] at this;cases e:look (put kv k v) k with
 | none=>rw [e] at this; cases this
 | some y=>rw [e] at this; cases this; rfl
theorem _Xa (kv:_quf):(drop kv []).length=((kv.map (·.1)).filter fun k=>decide (k ≠ [])).length:=by
 unfold drop;rw [filter_map,length_map]; rfl
theorem _qdi {kv:_quf} {k:List Int} (v:Int) (h:k=[] \/ (look kv k).isSome=true):(drop (put kv k v) []).length=(drop kv []).length:=by
 rcases h with rfl | h
 ·rw [_qbp]
 ·rw [_Xa,_Xa,_Zp,if_pos h]
theorem _qau {names:List Str} {B B':Int} {kv:_quf} (g:Lot names B kv) (hb:B <= B') {k:List Int} {v:Int} (hk:k.Sublist (_qss names.length)) (hv:1 <= v/\v <= B') (h:k=[] \/ (look kv k).isSome=true):Lot names B' (put kv k v) :=
 _qfy (g.mono hb) hk hv (by rw [_qdi v h]; exact g.cnt)
theorem _qm7 {kv:_quf} (h:(kv.map (·.1)).Nodup):(_jc (kv.map (·.1))).length=kv.length:=by
 have h1:=MT.keys_len (kv.map (·.1));have h2:=MB._q7 h fun x hx=>MT.mem_keys.mpr hx;rw [length_map] at h1 h2;omega
def Tl (C:Addr) (H0:Hp) (p l d n lo:Addr) (names:List Str) (kv:_quf) (B c:Int):TS:=fun D σ H=>∃ (b:Addr) (k:List Int) (c5:Option V),σ=[some (.ref p),some (.ref lo),some (.ref n),some (.int c),some (.ref b),c5]/\Fil C H0 p l d n lo names H kv B/\H b=some (.tup (k.map V.int))/\k.Sublist (_qss names.length)/\(k=[] \/ (look kv k).isSome=true) /\
 ∀ σ' H' kv',Fil C H0 p l d n lo names H' kv' (B + 10000000000)->(∀ b o,H b=some o->b ≠ d->b ≠ lo->H' b=some o)->D.nx σ' H'
def _Vs (C:Addr):Sp:=fun vs H Q _=>∃ (H0:Hp) (p l d n lo:Addr) (names:List Str) (kv:_quf) (B c:Int),vs=[.ref p,.ref lo,.ref n,.int c]/\Fil C H0 p l d n lo names H kv B/\0 <= B/\B <= 1000000000000/\names.length <= 6/\names.Nodup/\(∀ y∈names,_qi y) /\
 ∀ H' kv',Fil C H0 p l d n lo names H' kv' (B + 10000000000)->(∀ b o,H b=some o->b ≠ d->b ≠ lo->H' b=some o)->Q .non H'
section
variable {P:Ak} {w:World} {K:Frag} {mg:Str->Option Value} {base:Heap} {C:Addr}
theorem _xi:FnScope ["hall","lots","names","cell","marks","many"] ["hall","lots","names","cell"] (_f _Qn):=fsc
theorem _qah {f fF fC:Addr} {fd fdF fdC:Am} (F:Fun K "_law_changed" "_law_changed" _Qn f fd) (T:Hx K mg C) (GF:FnOk P w K mg base CX0 2 fF fdF ["self","many","names"] (spLift C)) (bF:L2.Binds K fdF ["self","many","names"] []) (mF:Meth K C "lift" fF)
  (GC:FnOk P w K mg base CX0 2 fC fdC ["self","many","names"] (_qgo C)) (bC:L2.Binds K fdC ["self","many","names"] []) (mC:Meth K C "cast" fC):FnOk P w K mg base CX0 3 f fd ["hall","lots","names","cell"] (_Vs C):=by
 refine F.ok _xi (k:=2) (fun vs H Q E h=>?_) (fun cdv A outer s H vs Q E hr h=>?_)
 ·obtain ⟨_,_,_,_,_,_,_,_,_,_,rfl,_⟩:=h
  rfl
 ·obtain ⟨H0,p,l,d,n,lo,names,kv,B,c,rfl,f0,hB0,hB1,h6,nd,hok,k⟩:=h
  refine ⟨_,_j (_q (i:=4) _xi.nd rfl (.inl rfl) (_We _n))
   (_j (_X3 (PW.pt (_qdh (_qd (_qoo (lt_of_le_of_lt (le_succ _) (_wp hr))) (pv 1) _Qu (_qg _)) (_Vz (_qd op_gt (_q3 _x4 (pv 3) _m) _m (_qg _)))))
    (_v (_q (i:=4) _xi.nd rfl (.inl rfl) (_Za _J5 (_V (_zk hr.units rfl) rfl T.zsorted _j7 (_d (pv 1) _n)) (_q3 _x4 (_q3 _kq (pv 3) _m) (_V _Jd rfl T.zlen _wr (_d (pv 1) _n))) (fun _ _=>rfl)))) _jr)
   (PSs.imp (t':=Tl C H0 p l d n lo names kv B c) (_v (_X3 (PW.pt (_qdh (_qd _qjw (_q3 _x4 (pv 3) _m) _m (_qg _)) (_Vz (_qh9 (_ql7 (_wp hr) (pv 4) (pv 1))))))
    (_j (_q (i:=5) _xi.nd rfl (.inl rfl) (_q3 _x5 _m (_q3 _x4 (_q3 _kq (pv 3) _m) (_Jv (_wp hr) (pv 1) (pv 4) (fun _ _=>rfl)))))
    (_j (_qz (_xm (pv 0) T.cl mF GF hr bF .nil _zs (_d (pv 5) (_d (_j1 (cl:=_) (N':=["j","names"]) (js:=[none,some 2]) (tc:=_wi) (te:=tOp (rIxL K) (_qsw 1) (_qsw 0)) (by o_reads)
      (_ql2 (pv 4)) (fun _ _ _ _ _=>pgc 0) pif0 (fun _ _ _ _ _=>_Za (_qmc rfl) (pv 1) (pv 0) (fun _ _=>rfl))) _n))))
    (_j (_Jt (_wp hr) (pv 1) (pv 4) (_q3 _Zd (_Jv (_wp hr) (pv 1) (pv 4) (fun _ _=>rfl)) (pv 5)) rfl)
    (_v (_X3 (_qd _qjw (_Jv (_wp hr) (pv 1) (pv 4) (fun _ _=>rfl)) _m (_qg _)) (_v (_qz (_qdn (_wp hr) (pv 1) (pv 4) ⟨rfl,rfl,rfl,rfl⟩))) _jr)))))
    (PSs.imp (t':=Tl C H0 p l d n lo names kv B c) (_j (_q (i:=5) _xi.nd rfl (.inl rfl) (_q3 _x5 _m (_q3 _x4 (_q3 _kq (pv 3) _m) (_q3 _qlc _m _m))))
    (_j (_qz (_xm (pv 0) T.cl mC GC hr bC .nil _zs (_d (pv 5) (_d (_j1 (cl:=_) (N':=["j","names"]) (js:=[none,some 2]) (tc:=_wi) (te:=tOp (rIxL K) (_qsw 1) (_qsw 0)) (by o_reads)
      (_ql2 (pv 4)) (fun _ _ _ _ _=>pgc 0) pif0 (fun _ _ _ _ _=>_Za (_qmc rfl) (pv 1) (pv 0) (fun _ _=>rfl))) _n))))
    (_v (_Jt (_wp hr) (pv 1) (pv 4) (_q3 _x5 (_kp (_wp hr) (pv 1) (pv 4) _m ⟨rfl,rfl,rfl,rfl⟩) (pv 5)) rfl)))) ?_))) ?_)),?_⟩
  ·rintro D σ H1 ⟨b,ks,c5,rfl,f,hb,hks,hin,q⟩
   obtain ⟨dx,h1⟩:=f.hall.ob;have hkl:ks.length <= 6:=by have:=hks.length_le; simp [_qss] at this; omega
   have wtb:=f.lot.wt hB0 ks;have l7:kv.length <= 7:=by have:=_k2 [] f.lot.kn; have:=f.lot.cnt; omega
   refine ⟨_,rfl,_,_,rfl,rfl,⟨by decide,by decide⟩,_,_,rfl,rfl,⟨by decide,by decide,by decide⟩,_,_,rfl,rfl,(by show (0:Int) < 10 ^ (10:Int).toNat; decide +kernel),_,_,rfl,rfl,?_⟩;dsimp only;rw [show (10:Int) ^ (10:Int).toNat=10000000000 by decide +kernel];have mv0:=Bt (c / 18) (b:=10000000000) (by decide);have mv1:=Bk (c / 18) (b:=10000000000) (by decide);generalize hmv:1 + c / 18 % 10000000000=mv;refine ⟨_,rfl,p,dx,_,rfl,h1,_jf,_,rfl,_,rfl,b,rfl,⟨_,.inl (.inl hb)⟩,_Kv (xs:=ks.map V.int) (.inl (.inl hb)) (by rw [length_map,Ao]; omega) (fun v=>.str (_qtg names (intV v))) (fun σ=>∃ c,σ=[c,some (.ref n)]) ⟨none,rfl⟩ (fun x σ' H' hx hS sm=>?_) fun z hz=>?_⟩
   ·obtain ⟨c0,rfl⟩:=hS
    obtain ⟨y,hy,rfl⟩:=Ah.mp hx;have hy':=_Xn (hks.subset hy);exact ⟨⟨_,rfl⟩,fun R h=>⟨_,rfl,_,rfl,n,_,y,_,rfl,rfl,SqL.of (sm _ _ f.hn),nm_at hy'.1 hy'.2,h⟩⟩
   ·rw [_Yf]
    have smz:_qu9 H1 (upd H1 z (.lst ((ks.map fun j=>_qtg names j).map V.str))):=_i hz;have hz7:(upd H1 z (.lst ((ks.map fun j=>_qtg names j).map V.str))) z=some (.lst ((ks.map fun j=>_qtg names j).map V.str)):=_a;generalize upd H1 z (.lst ((ks.map fun j=>_qtg names j).map V.str))=H7 at smz hz7 ⊢;have f7:=f.keepS smz;refine ⟨p,l,d,z,names,kv,ks.map fun j=>_qtg names j,mv,rfl,f7.hall,hz7,h6,by rw [length_map]; omega,by omega,hok,fun y hy=>hok y (_Wi hks y hy),_Wi hks,?_⟩;rw [_qal nd hks];refine ⟨by exact .inr (by omega),by omega,fun H8 kp8 hd8=>?_⟩;have hb8:=kp8 _ _ (smz _ _ hb) (_zh (smz _ _ hb) f7.hall.ba nofun);have hlo8:=kp8 _ _ f7.hlo f7.nd;have hb8':H8 b=some (.tup ((ks.map Sum.inl:List Key).map kV)):=by rw [_ju]; exact hb8
    have g8:_qui H8 lo (.ref b) (_qsr (kd kv) (ks.map Sum.inl)):=_qui.t hlo8 hb8';rw [_xa] at g8;have big:(((look kv ks).map V.int).getD (.int 0))=.int (wt kv ks):=by unfold wt; cases look kv ks <;> rfl
    refine ⟨_,rfl,lo,rfl,.inr ⟨_,.inl hlo8⟩,_,rfl,_,g8,?_⟩;rw [big];refine ⟨_,rfl,_,_,rfl,rfl,_,rfl,_,rfl,lo,_,rfl,DPut.t (k:=ks.map Sum.inl) hlo8 hb8' (by rw [kd_len,Ao]; omega),?_⟩;rw [_Y6];rw [_qb2 (by omega)] at hd8;exact q _ _ _ (_Km f7 kp8 hd8 (_qu9.refl _) (_qau f.lot (by omega) hks (by omega) hin)) fun b' o hb' h1' h2'=>by rw [_e h2']; exact kp8 _ _ (smz _ _ hb') h1'
  ·rintro D σ H1 ⟨b,ks,c5,rfl,f,hb,hks,hin,q⟩
   obtain ⟨dx,h1⟩:=f.hall.ob;have hkl:ks.length <= 6:=by have:=hks.length_le; simp [_qss] at this; omega
   have wtb:=f.lot.wt hB0 ks;have l7:kv.length <= 7:=by have:=_k2 [] f.lot.kn; have:=f.lot.cnt; omega
   refine ⟨_,rfl,_,_,rfl,rfl,(by show (0:Int) < 3; decide),rfl,_,rfl,?_⟩;refine ite2 (fun _=>?_) fun _=>_qti ⟨b,ks,c5,rfl,f,hb,hks,hin,q⟩;have hb':H1 b=some (.tup ((ks.map Sum.inl:List Key).map kV)):=by rw [_ju]; exact hb
   have g:_qui H1 lo (.ref b) (_qsr (kd kv) (ks.map Sum.inl)):=_qui.t f.hlo hb';rw [_xa] at g;refine ⟨_,rfl,_,rfl,lo,_,rfl,g,_,rfl,?_⟩;rw [show ((look kv ks).map V.int).isSome=(look kv ks).isSome by cases look kv ks <;> rfl]
   by_cases hs:(look kv ks).isSome=true
   ·rw [hs]
    refine iteT ?_;have ls:look kv ks=some (wt kv ks):=by unfold wt; cases e:look kv ks with | none=>rw [e] at hs; cases hs | some y=>rfl
    rw [ls] at g;have w1:=f.lot.wt1 hs;refine ⟨_,rfl,_,_,rfl,rfl,⟨by decide,by decide⟩,_,rfl,_,rfl,lo,_,rfl,g,_,_,rfl,rfl,(by show (0:Int) < wt kv ks; omega),_,_,rfl,rfl,?_⟩;dsimp only;have mv0:=Bt (c / 18) (b:=wt kv ks) (by omega);have mv1:=Bk (c / 18) (b:=wt kv ks) (by omega);generalize hmv:1 + c / 18 % wt kv ks=mv;refine ⟨_,rfl,p,dx,_,rfl,h1,_jf,_,rfl,_,rfl,b,rfl,⟨_,.inl (.inl hb)⟩,_Kv (xs:=ks.map V.int) (.inl (.inl hb)) (by rw [length_map,Ao]; omega) (fun v=>.str (_qtg names (intV v))) (fun σ=>∃ c,σ=[c,some (.ref n)]) ⟨none,rfl⟩ (fun x σ' H' hx hS sm=>?_) fun z hz=>?_⟩
    ·obtain ⟨c0,rfl⟩:=hS
     obtain ⟨y,hy,rfl⟩:=Ah.mp hx;have hy':=_Xn (hks.subset hy);exact ⟨⟨_,rfl⟩,fun R h=>⟨_,rfl,_,rfl,n,_,y,_,rfl,rfl,SqL.of (sm _ _ f.hn),nm_at hy'.1 hy'.2,h⟩⟩
    ·rw [_Yf]
     have smz:_qu9 H1 (upd H1 z (.lst ((ks.map fun j=>_qtg names j).map V.str))):=_i hz;have hz7:(upd H1 z (.lst ((ks.map fun j=>_qtg names j).map V.str))) z=some (.lst ((ks.map fun j=>_qtg names j).map V.str)):=_a;generalize upd H1 z (.lst ((ks.map fun j=>_qtg names j).map V.str))=H7 at smz hz7 ⊢;have f7:=f.keepS smz;refine ⟨p,l,d,z,names,kv,ks.map fun j=>_qtg names j,mv,rfl,f7.hall,hz7,h6,by rw [length_map]; omega,by omega,hok,fun y hy=>hok y (_Wi hks y hy),_Wi hks,?_⟩;rw [_qal nd hks];refine ⟨by omega,fun H8 kp8 hd8=>?_⟩;have hb8:=kp8 _ _ (smz _ _ hb) (_zh (smz _ _ hb) f7.hall.ba nofun);have hlo8:=kp8 _ _ f7.hlo f7.nd;have hb8':H8 b=some (.tup ((ks.map Sum.inl:List Key).map kV)):=by rw [_ju]; exact hb8
     have g8:_qui H8 lo (.ref b) (_qsr (kd kv) (ks.map Sum.inl)):=_qui.t hlo8 hb8';rw [_xa] at g8;rw [ls] at g8;refine ⟨_,rfl,_,rfl,lo,_,rfl,g8,_,rfl,_,_,rfl,rfl,_,rfl,_,rfl,lo,_,rfl,DPut.t (k:=ks.map Sum.inl) hlo8 hb8' (by rw [kd_len,Ao]; omega),?_⟩;rw [_Y6];have nbl:b ≠ lo:=_zh hb8 hlo8 nofun;generalize hW:wt kv ks - mv=W' at hd8 ⊢;have hl9:(upd H8 lo (.dT (kd (put kv ks W')))) lo=some (.dT (kd (put kv ks W'))):=_a;have hb9:(upd H8 lo (.dT (kd (put kv ks W')))) b=some (.tup ((ks.map Sum.inl:List Key).map kV)):=by rw [_e nbl]; exact hb8'
     have lp:_qsr (kd (put kv ks W')) (ks.map Sum.inl)=some (.int W'):=by rw [_xa,_qi8]; rfl
     have g9:_qui (upd H8 lo (.dT (kd (put kv ks W')))) lo (.ref b) (some (.int W')):=by rw [<- lp]; exact _qui.t hl9 hb9
     have kpf:∀ (o':HO) (b':Addr) (o:HO),H1 b'=some o->b' ≠ d->b' ≠ lo->(upd H8 lo o') b'=some o:=fun o' b' o hb' h1' h2'=>by rw [_e h2']; exact kp8 _ _ (smz _ _ hb') h1'
     refine ⟨_,rfl,_,rfl,lo,_,rfl,g9,rfl,_,rfl,?_⟩
     by_cases h0:W'=0
     ·rw [decide_eq_true (by rw [h0])]
      refine iteT ?_;refine ⟨_,rfl,lo,rfl,.inr ⟨_,.inl hl9⟩,_,rfl,_,ks.map Sum.inl,_,b,hl9,rfl,hb9,lp,?_⟩;rw [_qg9,_qbp,_W7];have e:lay kv ks W'=drop kv ks:=by unfold lay; rw [if_pos h0]
      rw [e] at hd8;exact q _ _ _ (_Km f7 kp8 hd8 (_qu9.refl _) ((_qi7 f.lot ks).mono (by omega))) (kpf _)
     ·rw [decide_eq_false (by simp [h0])]
      refine _qti ?_;rw [_qb2 (by omega)] at hd8;exact q _ _ _ (_Km f7 kp8 hd8 (_qu9.refl _) (_qau f.lot (by omega) hks (by omega) (.inr hs))) (kpf _)
   ·rw [show (look kv ks).isSome=false by simpa using hs]
    exact _qti ⟨b,ks,c5,rfl,f,hb,hks,hin,q⟩
  ·refine ⟨by show 0 <= Aj; decide,fun b hb=>?_⟩
   have sm1:_qu9 H (upd H b (.tup [])):=_i hb;have hb1:(upd H b (.tup [])) b=some (.tup (([]:List Int).map V.int)):=_a;generalize upd H b (.tup [])=H1 at sm1 hb1 ⊢;refine ⟨_,rfl,fun e he=>⟨lo,e,_,rfl,rfl,(_i he) _ _ (sm1 _ _ f0.hlo),_a,_,rfl,?_⟩⟩;have sm2:_qu9 H1 (upd H1 e (.dT [])):=_i he;generalize upd H1 e (.dT [])=H2 at sm2 ⊢;have s2:=sm1.trans sm2;have f2:=f0.keepS s2;have plain:Tl C H0 p l d n lo names kv B c { nx:=fun _ H=>Q .non H,rt:=Q } [some (.ref p),some (.ref lo),some (.ref n),some (.int c),some (.ref b),none] H2 :=
    ⟨b,[],none,rfl,f2,sm2 _ _ hb1,List.nil_sublist _,.inl rfl,fun σ' H' kv' f' kp'=>k H' kv' f' fun b o hb=>kp' b o (s2 _ _ hb)⟩
   refine ite2 (fun hne=>?_) fun _=>_qti plain;refine ⟨_,rfl,_,_,rfl,rfl,(by show (0:Int) < 3; decide),_,_,rfl,rfl,_,rfl,?_⟩;refine ite2 (fun _=>?_) fun _=>plain;have hne':0 < kv.length:=by
    rw [kd_len] at hne
    have:¬ kv.length=0:=by simpa using hne
    omega
   have hl':H2 lo=some (.dT (dkv (kv.map fun p=>(p.1,V.int p.2)))):=by rw [<- _qm8]; exact f2.hlo
   have ek:(kv.map fun p=>(p.1,V.int p.2)).map (·.1)=kv.map (·.1):=by rw [map_map]; rfl
   have l7:kv.length <= 7:=by have:=_k2 [] f0.lot.kn; have:=f0.lot.cnt; omega
   refine ⟨_,rfl,lo,_,rfl,hl',by rw [length_map]; omega,fun m bs hm hlen hbs=>?_⟩;rw [ek] at hlen hbs;have sm3:_qu9 H2 (upd H2 m (.lst (bs.map V.ref))):=_i hm;have hm3:(upd H2 m (.lst (bs.map V.ref))) m=some (.lst (bs.map V.ref)):=_a;generalize upd H2 m (.lst (bs.map V.ref))=H3 at sm3 hm3 ⊢;have f3:=f2.keepS sm3;have kl:=_qm7 f0.lot.kn;have i0:=Bt (c / 3) (b:=((kd kv).length:Int)) (by rw [kd_len]; omega);have i1:=Bk (c / 3) (b:=((kd kv).length:Int)) (by rw [kd_len]; omega);obtain ⟨j,hj⟩:=Dy i0;have i2:j < bs.length:=by rw [kd_len] at i0 i1 hj; omega
   have at3:atI (bs.map V.ref) (c / 3 % ((kd kv).length:Int))=some (.ref bs[j]):=by
    rw [hj];refine _K7 ?_;rw [getElem?_map,getElem?_eq_getElem i2]; rfl
   refine ⟨_,rfl,_,_,rfl,rfl,⟨by decide,by decide⟩,_,rfl,lo,_,rfl,f3.hlo,_,_,rfl,rfl,(by show (0:Int) < ((kd kv).length:Int); rw [kd_len]; omega),m,_,_,_,rfl,rfl,SqL.of hm3,at3,?_⟩;have hkm:(_jc (kv.map (·.1))).getD j []∈kv.map (·.1):=by
    rw [show (_jc (kv.map (·.1))).getD j []=(_jc (kv.map (·.1)))[j]'(by omega) by simp [getD_eq_getElem?_getD,show j < (_jc (kv.map (·.1))).length by omega]];exact MT.mem_keys.mp (getElem_mem _)
   refine ⟨bs[j],(_jc (kv.map (·.1))).getD j [],none,rfl,f3,sm3 _ _ (hbs j i2),?_,.inr (by rw [_xz hkm]; rfl),fun σ' H' kv' f' kp'=>k H' kv' f' fun b o hb=>kp' b o (sm3 _ _ (s2 _ _ hb))⟩;obtain ⟨q,hq,e⟩:=Ah.mp hkm;rw [<- e];exact f0.lot.sub q hq
end
theorem _qjg {K:Frag} {z:Addr} {xs ys:List V} {j:Nat} {te:TE} {js:List (Option Nat)} {σ:L2.St} {H:Hp} {Q:Addr->Hp->Prop} (hz:SqL K H z xs) (hy:ys.length=xs.length) (hlen:xs.length < Aj) (S:L2.St->Prop) (hS:S (mkS js σ))
  (step:∀ (i:Nat) (x y:V) (σ':L2.St) (H':Hp),xs[i]?=some x->ys[i]?=some y->S σ'->_qu9 H H'->S (σ'.set j (some x))/\(∀ R:VK,R y H'->te (σ'.set j (some x)) H' R))
  (k:∀ l,H l=none->Q l (upd H l (.lst ys))) :
  ∀ l,H l=none->∃ W:Nat->Nat->L2.St->Hp->Prop,(∃ m,W 0 m (mkS js σ) (upd H l (.lst [])))/\∀ i m σ H,W i m σ H ->
   ((Itl K z).stop i H/\Q l H) \/ ((Itl K z).go i H/\∀ x H',(Itl K z).yld i H x H'->_zj j x σ H' fun σ2 H2=>_wi σ2 H2 fun b H3 =>
     if b=true then te σ2 H3 fun y H4=>∃ acc,H4 l=some (.lst acc)/\acc.length < Aj/\∃ m',m' < m/\W (i + 1) m' σ2 (upd H4 l (.lst (acc++[y]))) else ∃ m',m' < m/\W (i + 1) m' σ2 H3):=by
 intro l hl;refine ⟨fun i m σ' H'=>m=xs.length - i/\i <= xs.length/\S σ'/\H'=upd H l (.lst (ys.take i)),⟨_,rfl,zero_le _,hS,by simp⟩,?_⟩;rintro i m σ' H' ⟨rfl,hi,hs,rfl⟩;have sm:_qu9 H (upd H l (.lst (ys.take i))):=_i hl
 by_cases hlt:i < xs.length
 ·have hlt':i < ys.length:=by omega
  refine .inr ⟨⟨xs,xs[i],sm.seq hz,by simp [hlt]⟩,fun x H2 y=>?_⟩;obtain ⟨rfl,y⟩:=y;obtain ⟨s1,s3⟩:=step i x ys[i] σ' _ (y xs (sm.seq hz)) (getElem?_eq_getElem hlt') hs sm;dsimp only [_wi,_zj];rw [if_pos rfl];refine s3 _ ⟨_,_a,by rw [length_take]; omega,_,(by omega:xs.length - (i + 1) < xs.length - i),rfl,hlt,s1,?_⟩;rw [take_succ_eq_append_getElem hlt',_W7]
 ·have e1:i=xs.length:=by omega
  subst e1;refine .inl ⟨⟨xs,sm.seq hz,le_refl _⟩,?_⟩;rw [<- hy,take_length];exact k l hl
theorem _qkq {K:Frag} {F:Hp}:∀ {R:List _qua} {vs:List V},Reps K F vs (R.map _qt5)->∀ {i:Nat} {x:V},vs[i]?=some x->∃ t ws r,x=.ref t/\R[i]?=some r/\SqT K F t (.int r.1 :: ws)
 | [],_,h,i,x,e=>by cases h; cases e
 | r :: R,_,h,i,x,e=>by
  cases h with
  | cons h1 h2 =>
   cases i with
   | succ i=>exact _qkq h2 (by simpa using e)
   | zero =>
    cases h1 with
    | tup hT q =>
     cases q with
     | cons a q =>
      cases a;cases e;exact ⟨_,_,r,rfl,rfl,hT⟩
def _Xg (h:List MB._qud) (seats:Int) (names:List Str):List Str:=(bsR h seats).map fun k=>_qtg names k
def _qfa (K:Frag) (C:Addr):Sp:=fun vs H Q _=>∃ (p l d:Addr) (names:List Str) (kv:_quf) (seats:Int),vs=[.ref p,.int seats]/\HallAt C H p l d names kv/\Good names kv/\okW (hp kv)/\(0 <= seats/\seats <= 6) /\
 ∀ r H',_qu9 H H'->H r=none->H' r=some (.lst ((_Xg (hp kv) seats names).map V.str))->Q (.ref r) H'
section
variable {P:Ak} {w:World} {K:Frag} {mg:Str->Option Value} {base:Heap} {C:Addr}
theorem scB:FnScope ["self","seats","told"] ["self","seats"] (_f _qh2):=fsc
theorem _qai {f fH fO:Addr} {fd fdH fdO:Am} (F:Fun K "bench_of" "Hall.bench_of" _qh2 f fd) (T:Hx K mg C)
  (GH:FnOk P w K mg base CX0 3 fH fdH ["self"] (spHeap K C)) (bH:L2.Binds K fdH ["self"] []) (mH:Meth K C "heap" fH) (GO:FnOk P w K mg base CX0 1 fO fdO ["self","numbers"] (_Vr K C)) (bO:L2.Binds K fdO ["self","numbers"] []) (mO:Meth K C "names_of" fO)
  (Gb:Fn P w K mg base 7 "bench" ["heap","seats"] (spD K 2 _w5)):FnOk P w K mg base CX0 8 f fd ["self","seats"] (_qfa K C):=by
 obtain ⟨fb,fdb,okb,mb,kb,bb⟩:=Gb;refine F.ok scB (k:=7) (fun vs H Q E h=>?_) (fun cdv A outer s H vs Q E hr h=>?_)
 ·obtain ⟨_,_,_,_,_,_,rfl,_⟩:=h
  rfl
 ·obtain ⟨p,l,d,names,kv,seats,rfl,S,g,okw,hse,k⟩:=h
  obtain ⟨⟨dx,h1⟩,h2,h3⟩:=id S;have hr1:Room 1 _:=hm hr;have hr3:Room 3 _:=hm hr;refine ⟨_,_j (_q (i:=2) scB.nd rfl (.inl rfl) (_q6 okb hr rfl mb kb bb .nil _zs (_d (_qa2 (pv 0) T.cl mH GH hr3 bH .nil _zs) (_d (pv 1) _n))))
   (_v (_v1 (_xm (pv 0) T.cl mO GO hr1 bO .nil _zs (_d (_j1 (cl:=_) (N':=["row"]) (js:=[none]) (tc:=_wi) (te:=tOp (rIxT K) (_qsw 0) (tC (.int 0))) (by o_reads)
    (_J (_q3 _qad (_Za _qe8 (pv 2) _m (fun _ _=>rfl)) (_Za _qe8 (pv 2) _m (fun _ _=>rfl)))) (fun _ _ _ _ _=>pgc 0) pif0
    (fun _ _ _ _ _=>_Za (ix_tK rfl) (pv 0) _m (fun _ _=>rfl))) _n)))),?_⟩
  refine ⟨_,rfl,p,dx,_,rfl,h1,_jf,p,l,d,names,kv,rfl,S,by have:=g.l12; omega,g.kl,fun v2 F2 H2 A2 ow2 sF2 hA2 sm2=>?_⟩;have rf:=ow2.rep sF2 (_Ye g.kn) (fun _ _=>rfl);clear ow2 sF2 hA2;refine ⟨_,rfl,H2,[MB._F (hp kv),.int seats],_,_qu9.refl _,.cons rf (.cons (.int _) .nil),rfl,_qcc (hp kv) g.okH okw seats hse,fun v3 F3 H3 e3 r3=>?_⟩;have s3:=sm2.trans e3.hh;have bel:=_qc8 (seats:=seats) g.below;obtain ⟨l1,l2⟩:=_qjk (hp kv) seats;unfold _Xg bsR at k;unfold bsR at bel;generalize _p (hp kv) seats=R1 at *;generalize _qy (hp kv) seats=R2 at *;cases r3 with
  | @tup a vs _ hT rr =>
  cases rr with
  | cons ra rr =>
  cases rr with
  | cons rb rr =>
  cases rr with
  | cons rc rr =>
  cases rr;clear ra;cases rb with
  | @lst z1 vs1 _ hq1 rr1 =>
  cases rc with
  | @lst z2 vs2 _ hq2 rr2 =>
  have rows:=rr1.append rr2;rw [<- map_append] at rows bel;rw [<- map_append] at k;have lv:(vs1++vs2).length=(R1++R2).length:=by have:=rows.length; simpa using this
  have hT3:=seqT e3.fh hT;have l12:(R1++R2).length <= 12:=by rw [length_append]; omega
  clear hT;refine ⟨_,rfl,p,dx,_,rfl,s3 _ _ h1,_jf,_,rfl,a,_,_,_,rfl,rfl,hT3,rfl,_,rfl,a,_,_,_,rfl,rfl,hT3,rfl,z1,z2,_,_,rfl,rfl,_qt1 e3.fh hq1,_qt1 e3.fh hq2,by rw [<- length_append,lv,Ao]; omega,fun q hq=>?_⟩;have sm4:_qu9 H3 (upd H3 q (.lst (vs1++vs2))):=_i hq;have hq4:(upd H3 q (.lst (vs1++vs2))) q=some (.lst (vs1++vs2)):=_a;generalize upd H3 q (.lst (vs1++vs2))=H4 at sm4 hq4 ⊢;have s4:=s3.trans sm4;refine ⟨q,rfl,⟨_,SqL.of hq4⟩,_qjg (ys:=((R1++R2).map (·.1)).map V.int) (SqL.of hq4) (by rw [length_map,length_map]; exact lv.symm) (by rw [lv,Ao]; omega) (fun σ=>∃ c,σ=[c]) ⟨none,rfl⟩ (fun i x y σ' H' hx hy hS sm=>?_) fun z hz=>?_⟩
  ·obtain ⟨c,rfl⟩:=hS
   obtain ⟨t,ws,r,rfl,hr',hTr⟩:=_qkq rows hx;rw [getElem?_map,getElem?_map,hr'] at hy;cases hy;exact ⟨⟨_,rfl⟩,fun R h=>⟨_,rfl,t,_,_,_,rfl,rfl,seqT (e3.fh.trans (sm4.trans sm)) hTr,_K7 (j:=0) rfl,h⟩⟩
  ·have smz:_qu9 H4 (upd H4 z (.lst (((R1++R2).map (·.1)).map V.int))):=_i hz
   have hz5:(upd H4 z (.lst (((R1++R2).map (·.1)).map V.int))) z=some (.lst (((R1++R2).map (·.1)).map V.int)):=_a;generalize upd H4 z (.lst (((R1++R2).map (·.1)).map V.int))=H5 at smz hz5 ⊢;have s5:=s4.trans smz;exact ⟨p,l,d,z,names,kv,_,rfl,S.keep s5,SqL.of hz5,bel,by rw [length_map]; omega,fun r hr=>k r _ (s5.trans (_i hr)) (s5.free hr) _a⟩
end
theorem _qp6 {K:Frag} {F0:Hp} {vs:List V} {ds:List D} {dd:D} (r:Reps K F0 vs ds) (hl:ds.length=1) (hg:lawD ds=some dd):∃ (a:Addr) (ns:List Int),vs=[.ref a]/\SqE K F0 a (ns.map V.int)/\ns.length <= 63/\dd=.bl true:=by
 cases r with
 | nil=>cases hl
 | cons r1 r=>cases r with
  | cons _ _=>cases hl
  | nil =>
   obtain ⟨ns,hn,hg⟩:=bind_some hg;split at hg
   ·rename_i h63
    cases hg;have e:=_J4 hn;subst e;cases r1 with
    | lst hq rr =>
     refine ⟨_,ns,rfl,?_,h63,rfl⟩
     have:∀ {vs:List V} {ns:List Int},Reps K F0 vs (ns.map D.int)->vs=ns.map V.int:=by
      intro vs ns
      induction ns generalizing vs with
      | nil=>intro h; cases h; rfl
      | cons n ns ih =>
       intro h;cases h with
       | cons h t=>cases h; rw [ih t]; rfl
     rw [<- this rr];exact hq
   ·cases hg
theorem _qlt (h:List MB._qud) (seats:Int) (names:List Str):nmD names (bsR h seats)=.lst ((_Xg h seats names).map D.str):=by
 unfold nmD _Xg;rw [map_map]; rfl
theorem Lot.okW {names:List Str} {B:Int} {kv:_quf} (g:Lot names B kv) (hB0:0 <= B) (hB:B <= 1000000000000) (l12:(hp kv).length <= 12):okW (hp kv):=by
 refine ⟨fun p hp=>?_,fun p hp=>?_,by omega⟩
 ·obtain ⟨k,hk,rfl⟩:=Ah.mp hp
  exact g.wt1 (by rw [_xz (MT.mem_keys.mp hk)]; rfl)
 ·obtain ⟨k,hk,rfl⟩:=Ah.mp hp
  have:=(g.wt hB0 k).2
  show L_k62.wt kv k < 2 ^ 72;omega
theorem iteNe {d e:D} {A B:Prop} (h:eqD d e=true) (hB:B):if (if true=true then !eqD d e else eqD d e)=true then A else B:=by
 rw [h]; exact hB
def TL (C:Addr) (H0:Hp) (a p l d n lo:Addr) (names:List Str) (i:Nat):TS:=fun D σ H=>∃ (kv:_quf) (seats B:Int) (c6 c7 c8:Option V),σ=[some (.ref a),some (.ref n),some (.ref p),some (.ref lo),some (.int (0 + (i:Int))),some (.int seats),c6,c7,c8]/\Fil C H0 p l d n lo names H kv B/\(0 <= B/\B <= 900000000000)/\(0 <= seats/\seats <= 6) /\
 ∀ c4 c5 c6 c7 c8 H' kv',Fil C H0 p l d n lo names H' kv' (B + 10000000000)->D.nx [some (.ref a),some (.ref n),some (.ref p),some (.ref lo),c4,c5,c6,c7,c8] H'
def TK (K:Frag) (C:Addr) (a p l d n lo:Addr) (names:List Str):TT:=fun σ H Q=>∃ (kv:_quf) (seats i:Int) (vd:V) (c6 c8:Option V) (F:Hp),σ=[some (.ref a),some (.ref n),some (.ref p),some (.ref lo),some (.int i),some (.int seats),c6,some vd,c8]/\HallAt C H p l d names kv/\Good names kv/\okW (hp kv)/\(0 <= seats/\seats <= 6)/\_qu9 F H/\Rep K F vd (nmD names (bsR (hp kv) seats))/\∀ H',_qu9 H H'->Q false H'
section
variable {P:Ak} {w:World} {K:Frag} {mg:Str->Option Value} {base:Heap} {C:Addr}
theorem _wk:FnScope ["script","names","hall","lots","k","seats","heap","due","found"] ["script"] (_f _qgz):=fsc
set_option maxHeartbeats 8000000 in
theorem _qot {f fI fB fN:Addr} {fd fdI fdB fdN:Am} (F:Fun K "law" "law" _qgz f fd) (T:Hx K mg C) (Gn:Fn P w K mg base 2 "_law_names" ["script","at","many"] (_qf9 K)) (Gc:Fn P w K mg base 1 "_law_cell" ["script","k"] (spD K 2 _T))
  (Gf:Fn P w K mg base 3 "_law_filled" ["hall","script","names"] (_Yk K C)) (Gu:Fn P w K mg base 8 "_law_due" ["heap","seats","names"] (spD K 3 _zz)) (Gh:Fn P w K mg base 3 "_law_changed" ["hall","lots","names","cell"] (_Vs C))
  (M:Mk K C fI) (GI:FnOk P w K mg base CX0 1 fI fdI ["self"] (spInit C)) (bI:L2.Binds K fdI ["self"] []) (GB:FnOk P w K mg base CX0 8 fB fdB ["self","seats"] (_qfa K C)) (bB:L2.Binds K fdB ["self","seats"] []) (mB:Meth K C "bench_of" fB)
  (GN:FnOk P w K mg base CX0 1 fN fdN ["self"] (_Yj C)) (bN:L2.Binds K fdN ["self"] []) (mN:Meth K C "names" fN):FnOk P w K mg base CX0 12 f fd ["script"] (spD K 1 _qjx):=by
 obtain ⟨fn,fdn,okn,mn_,kn,bn⟩:=Gn;obtain ⟨fc,fdc,okc,mc,kc,bc⟩:=Gc;obtain ⟨ff,fdf,okf,mf,kf,bf⟩:=Gf;obtain ⟨fu,fdu,oku,mu,ku,bu⟩:=Gu;obtain ⟨fh,fdh,okh,mh,kh,bh⟩:=Gh;refine F.ok _wk (k:=11) (fun vs H Q E h=>by obtain ⟨F,ds,d,_,r,hl,_⟩:=h; rw [r.length,hl]; rfl) fun cdv A outer s H vs Q E hr h=>?_;have hr1:Room 1 _:=hm hr;have hr2:Room 2 _:=hm hr;have hr3:Room 3 _:=hm hr;have hr8:Room 8 _:=hm hr;obtain ⟨F0,ds,dd,sm0,r,hl,hg,k⟩:=h;obtain ⟨a,ns,rfl,ha,h63,rfl⟩:=_qp6 r hl hg;clear r hl hg;have ce:∀ (j:Nat),j <= 1000->_T [MB._y ns,.int (j:Int)]=some (.int (cellOf ns j)):=fun j hj=>_qc3 ns j hj;refine ⟨_,_j (_q (i:=1) _wk.nd rfl (.inl rfl) (_q6 okn hr2 rfl mn_ kn bn .nil _zs (_d (pv 0) (_d _m (_d (_q3 _x5 _m (_q3 _x4 (_q6 okc hr1 rfl mc kc bc .nil _zs (_d (pv 0) (_d _m _n))) _m)) _n)))))
  (_j (_q (i:=2) _wk.nd rfl (.inl rfl) (_qhg M GI hr2 rfl T.mgC bI .nil _zs))
  (_j (_q (i:=3) _wk.nd rfl (.inr rfl) (_q6 okf hr3 rfl mf kf bf .nil _zs (_d (pv 2) (_d (pv 0) (_d (pv 1) _n)))))
  (_j (_X4 Be rfl (_v4 rfl T.zr (_d _m _n)) (_q0 (i:=4) _wk.nd rfl (.inl rfl))
   (_j (_q (i:=5) _wk.nd rfl (.inl rfl) (_q3 _x5 _m (_q3 _x4 (_q6 okc hr1 rfl mc kc bc .nil _zs (_d (pv 0) (_d _m _n))) _m)))
   (_j (_X3 (_qd _qjw (_q3 _x4 (_q6 okc hr1 rfl mc kc bc .nil _zs (_d (pv 0) (_d _m _n))) _m) _m (_qg _)) (_v (_q (i:=5) _wk.nd rfl (.inl rfl) (_q3 _x5 _m (_q3 _x4 (_q3 _x5 (_q6 okc hr1 rfl mc kc bc .nil _zs (_d (pv 0) (_d _m _n))) (pv 4)) _m)))) _jr)
   (PSs.imp (t':=fun D σ H'=>∃ (H0:Hp) (p l d n lo:Addr) (names:List Str) (i:Nat),_qu9 F0 H'/\i <= 10/\names.length <= 6/\names.Nodup/\(∀ y∈names,_qi y)/\TL C H0 a p l d n lo names i D σ H')
   (_j (_Y9 (i:=6) _wk.nd rfl rfl rfl (cl:=_) (N':=["marks","lots"]) (js:=[none,some 3]) (tc:=_wi) (te:=tTup (_z6 (_qjv (_qsw 1) (_qsw 0)) (_z6 (tCB (rLOf K) (_z6 (_qsw 0) _qsx)) _qsx))) (by o_reads)
    (_J (_V (_zk hr.units rfl) rfl T.zsorted _j7 (_d (pv 3) _n)))
    (fun _ _ _ _ _=>pgc 0)
    pif0
    (fun _ _ _ _ _=>_We (_d (_Jv (_wp hr) (pv 1) (pv 0) (fun _ _=>rfl)) (_d (_qh (_Z5 rfl) rfl T.zlist _k7 (_d (pv 0) _n)) _n))))
   (_j (_q (i:=7) _wk.nd rfl (.inl rfl) (_q6 oku hr8 rfl mu ku bu .nil _zs (_d (pv 6) (_d (pv 5) (_d (pv 1) _n)))))
   (_j (_q (i:=8) _wk.nd rfl (.inl rfl) (_xm (pv 2) T.cl mB GB hr8 bB .nil _zs (_d (pv 5) _n)))
   (_j (_X3 (PW.pt (pw_or (_qkw (_qh8 (_V (_qji _qih) rfl T.zisi _Xf (_d (pv 8) (_d (_ql5 (v:=.ty "list") rfl T.zlist _k7 rfl) _n))))) (_qdg (_qd (_qdq hr.units) (pv 8) (pv 7) (_qg _))))) (_v (_v1 pe_bl)) _jr)
   (_j (_qz (_qfn Br B0 B3 _j2 (pv 8) (_d _qhe _n)))
   (_j (_X3 (PW.pt (pw_or (PT.imp (t':=fun σ H' Q=>∃ (p l d n lo:Addr) (names:List Str),(∀ y∈names,_qi y)/\TK K C a p l d n lo names σ H' Q) (PW.pt (_qdh (_qd _qjw (pv 4) _m (_qg _)) (_Vz (_qd (_qdq hr.units) (_xm (pv 2) T.cl mB GB hr8 bB .nil _zs (_d (pv 5) _n)) (pv 7) (_qg _))))) ?_) (_qdg (_qd (_qdq hr.units) (_qa2 (pv 2) T.cl mN GN hr1 bN .nil _zs) (pv 1) (_qg _))))) (_v (_v1 pe_bl)) _jr)
   (_v (_qz (_q6 okh hr3 rfl mh kh bh .nil _zs (_d (pv 2) (_d (pv 3) (_d (pv 1) (_d (_q6 okc hr1 rfl mc kc bc .nil _zs (_d (pv 0) (_d (_q3 _x5 _m (pv 4)) _n))) _n))))))))))))) ?_))))
  (_v (_v1 pe_bl))))),?_⟩
 ·rintro σ H' Q' ⟨p,l,d,n,lo,names,hok,kv,seats,i,vd,c6,c8,F1,rfl,S,g,okw,hse,sF1,rep,q⟩
  obtain ⟨dx,h1⟩:=S.ob;refine ⟨_,rfl,rfl,_,rfl,?_⟩;refine ite2 (fun _=>?_) fun _=>q _ (_qu9.refl _);refine ⟨_,rfl,p,dx,_,rfl,h1,_jf,_,rfl,p,l,d,names,kv,seats,rfl,S,g,okw,hse,fun r H2 sm2 hr2 h2=>?_⟩;have shn:shp 20 (nmD names (bsR (hp kv) seats))=true:=_qkn (fun x hx m=>_ze (hok x hx) m) _ 19;refine ⟨_,rfl,H2,nmD names (bsR (hp kv) seats),_,_qu9.refl _,by rw [_qlt]; exact .lst (.inl (.inl h2)) (_q2 _),(_xk (sF1.trans sm2)).1 rep,shn,shn,_,rfl,?_⟩;show Q' (!eqD _ _) H2;rw [_Q5 shn];exact q _ sm2
 ·rintro Dn σ H1 ⟨H0,p,l,d,n,lo,names,i,sF0,hi,h6,nd,hok,kv,seats,B,c6,c7,c8,rfl,f,hB,hse,q⟩
  obtain ⟨dx,h1⟩:=f.hall.ob;have g:=f.lot.good h6 hok nd;have okw:=f.lot.okW hB.1 (by omega) g.hlen;have shn:shp 20 (nmD names (bsR (hp kv) seats))=true:=_qkn (fun x hx m=>_ze (hok x hx) m) _ 19;have hl':H1 lo=some (.dT (dkv (kv.map fun p=>(p.1,V.int p.2)))):=by rw [<- _qm8]; exact f.hlo
  have ek:(kv.map fun p=>(p.1,V.int p.2)).map (·.1)=kv.map (·.1):=by rw [map_map]; rfl
  refine ⟨_,rfl,lo,_,rfl,hl',by rw [length_map]; have:=g.l12; omega,fun m bs hm hlen hbs=>?_⟩;rw [ek] at hlen hbs;have sm1:_qu9 H1 (upd H1 m (.lst (bs.map V.ref))):=_i hm;refine ⟨m,rfl,⟨_,SqL.of _a⟩,_qby (val:=fun k=>wt kv k) (kvs:=kd kv) _a hlen (fun j hj=>sm1 _ _ (hbs j hj)) (sm1 _ _ f.hlo) (fun k hk=>?_) (by have:=MT.keys_len (kv.map (·.1)); rw [length_map] at this; have:=g.l12; rw [Ao]; omega) ⟨none,rfl⟩ fun r2 H2 F2 hr2 sm2 sF Fl hts=>?_⟩
  ·rw [_xa,_xz (MT.mem_keys.mp hk)]; rfl
  obtain ⟨ts,ht1,ht2⟩:=hts;have rph:Rep K H2 (.ref r2) (MB._F (hp kv)):=by rw [_qiq]; exact .lst (.inl (.inl ht1)) ((_xk sF).2 ht2)
  have s2:=sm1.trans sm2;clear ht1 ht2 sF Fl sm1 sm2 hlen hbs hm ek hl';refine ⟨_,rfl,_,rfl,_,rfl,H2,[MB._F (hp kv),.int seats,nmsD names],_,_qu9.refl _,.cons rph (.cons (.int _) (.cons (.lst (.inl (.inl (s2 _ _ f.hn))) (_q2 _)) .nil)),rfl,_qpr g.okH okw seats hse g.below,fun vd F3 H3 e3 rd=>?_⟩;have s3:=s2.trans e3.hh;have f3:=f.keepS s3;refine ⟨_,rfl,p,dx,_,rfl,s3 _ _ h1,_jf,_,rfl,p,l,d,names,kv,seats,rfl,f3.hall,g,okw,hse,fun r H4 sm4 hr3 h4=>?_⟩;have rf4:Rep K H4 (.ref r) (nmD names (bsR (hp kv) seats)):=by rw [_qlt]; exact .lst (.inl (.inl h4)) (_q2 _)
  refine ⟨_,rfl,.ref r,_,H4,rfl,_qu9.refl _,rf4,_,rfl,_qti ?_⟩;refine ⟨_,rfl,_,rfl,H4,_,_,_qu9.refl _,rf4,(_xk (e3.fh.trans sm4)).1 rd,shn,shn,_,rfl,iteNe (_Q5 shn) ?_⟩;have bl:(_Xg (hp kv) seats names).length <= 12:=by
   have:=_qjk (hp kv) seats
   unfold _Xg bsR;rw [length_map,length_append,length_map,length_map];omega
  refine ⟨_,rfl,.inl ⟨rfl,_,SqL.of h4⟩,r,_,_,rfl,rfl,h4,by rw [length_map,Ao]; omega,?_⟩;have s35:_qu9 H3 (upd H4 r (.lst ((_Xg (hp kv) seats names).map V.str++[.str "more"]))):=fun b o hb=>by rw [_e (_c hb hr3)]; exact sm4 _ _ hb
  generalize upd H4 r (.lst ((_Xg (hp kv) seats names).map V.str++[.str "more"]))=H5 at s35 ⊢;have f5:=f3.keepS s35;refine ⟨p,l,d,n,lo,names,hok,kv,seats,_,vd,_,_,F3,rfl,f5.hall,g,okw,hse,e3.fh.trans s35,rd,fun H6 s6=>?_⟩;have f6:=f5.keepS s6;obtain ⟨dx6,h61⟩:=f6.hall.ob;refine _qti ?_;refine ⟨_,rfl,p,dx6,_,rfl,h61,_jf,p,l,d,names,kv,rfl,f6.hall,fun m7 hm7=>?_⟩;have s7:_qu9 H6 (upd H6 m7 (.lst (names.map V.str))):=_i hm7;have h77:(upd H6 m7 (.lst (names.map V.str))) m7=some (.lst (names.map V.str)):=_a;generalize upd H6 m7 (.lst (names.map V.str))=H7 at s7 h77 ⊢;have f7:=f6.keepS s7;have shy:shp 20 (.lst (names.map D.str))=true:=_xg hok 19;refine ⟨_,rfl,H7,.lst (names.map D.str),.lst (names.map D.str),_qu9.refl _,.lst (.inl (.inl h77)) (_q2 _),.lst (.inl (.inl f7.hn)) (_q2 _),shy,shy,_,rfl,iteNe (_Q5 shy) ?_⟩;have c7:=ce (7 + i) (by omega);rw [show (((7 + i:Nat):Nat):Int)=7 + (0 + (i:Int)) by omega] at c7;refine ⟨_,rfl,_,rfl,_,rfl,_,rfl,_,rfl,_,_,rfl,rfl,F0,[MB._y ns,.int (7 + (0 + (i:Int)))],_,sF0.trans (s3.trans (s35.trans (s6.trans s7))),.cons (.lst ha (_R ns)) (.cons (.int _) .nil),rfl,c7,fun v8 F8 H8 e8 r8=>?_⟩;cases r8;exact ⟨H0,p,l,d,n,lo,names,kv,B,_,rfl,f7.keepS e8.hh,hB.1,by omega,h6,nd,hok,fun H9 kv9 f9 _=>q _ _ _ _ _ H9 kv9 f9⟩
 ·refine ⟨_,rfl,_,rfl,F0,[MB._y ns,.int 4],_,sm0,.cons (.lst ha (_R ns)) (.cons (.int _) .nil),rfl,ce 4 (by omega),fun v1 F1 H1 e1 r1=>?_⟩
  cases r1;refine ⟨_,_,rfl,rfl,(by show (0:Int) < 6; decide),_,_,rfl,rfl,?_⟩;have c0:=Bt (cellOf ns 4) (b:=6) (by decide);have c1:=Bk (cellOf ns 4) (b:=6) (by decide);obtain ⟨m,hm⟩:∃ m:Nat,1 + cellOf ns 4 % 6=(m:Int):=⟨(1 + cellOf ns 4 % 6).toNat,by omega⟩;dsimp only;rw [hm];refine ⟨F0,a,ns,0,m,rfl,sm0.trans e1.hh,ha,h63,by omega,by omega,fun n H2 names s2 hn0 hn2 hnl hnd hnok=>?_⟩;have s02:=e1.hh.trans s2;intro p dx np ndx nep;refine ⟨p,dx,rfl,_a,fun l d H3 hl hd S3 kp3=>⟨rfl,?_⟩⟩;have sx:_qu9 H2 (upd (upd H2 dx (.own p)) p (.ins C dx [])):=fun b o e=>by
   rw [_e (_c e np),_e (_c e ndx)];exact e
  have s3:_qu9 H2 H3:=fun b o e=>kp3 b o (sx _ _ e) (_c e np);have l2:H2 l=none:=sx.free hl;have d2:H2 d=none:=sx.free hd;have s03:=s02.trans s3;clear sx kp3 hl hd np ndx nep;refine ⟨_,rfl,_,rfl,_,rfl,F0,p,l,d,a,n,ns,names,rfl,S3,sm0.trans s03,ha,h63,(sm0.trans s02).free l2,(sm0.trans s02).free d2,s3 _ _ hn2,_c hn2 l2,by omega,by omega,hnd,hnok,fun lo H4 kv0 hlo fil4=>?_⟩;have l0:H l=none:=s02.free l2;have d0:H d=none:=s02.free d2;have sF:∀ {H':Hp} {kv:_quf} {B:Int},Fil C H3 p l d n lo names H' kv B->_qu9 H H':=fun f b o hb=>f.keep b o (s03 _ _ hb) (_c hb l0) (_c hb d0);refine ⟨3,rfl,by decide,by decide,_v8 (n:=(3:Int).toNat) (fun i σ' H'=>∃ c4 c5 c6 c7 c8 kv,σ'=[some (.ref a),some (.ref n),some (.ref p),some (.ref lo),c4,c5,c6,c7,c8]/\Fil C H3 p l d n lo names H' kv (51000000000 + (i:Int) * 10000000000))
   ⟨_,_,_,_,_,kv0,rfl,by exact fil4⟩ (fun i σ' H' hi hI=>?_) fun σ' H' hI=>?_⟩
  ·obtain ⟨c4,c5,c6,c7,c8,kv,rfl,fl⟩:=hI
   have hi3:i < 3:=hi;have end_:∀ c4 c5 c6 c7 c8 H' kv',Fil C H3 p l d n lo names H' kv' (51000000000 + (i:Int) * 10000000000 + 10000000000)->∃ b4 b5 b6 b7 b8 kv,([some (.ref a),some (.ref n),some (.ref p),some (.ref lo),c4,c5,c6,c7,c8]:L2.St)=[some (.ref a),some (.ref n),some (.ref p),some (.ref lo),b4,b5,b6,b7,b8]/\Fil C H3 p l d n lo names H' kv (51000000000 + ((i + 1:Nat):Int) * 10000000000):=fun c4 c5 c6 c7 c8 H' kv' f'=>⟨_,_,_,_,_,kv',rfl,by rw [show (51000000000:Int) + ((i + 1:Nat):Int) * 10000000000=51000000000 + (i:Int) * 10000000000 + 10000000000 by omega]; exact f'⟩;refine ⟨_,rfl,F0,[MB._y ns,.int 5],_,sm0.trans (sF fl),.cons (.lst ha (_R ns)) (.cons (.int _) .nil),rfl,ce 5 (by omega),fun v5 F5 H5 e5 r5=>?_⟩;cases r5;refine ⟨_,_,rfl,rfl,(by show (0:Int) < 6; decide),_,_,rfl,rfl,?_⟩;have f5:=fl.keepS e5.hh;refine ⟨_,rfl,F0,[MB._y ns,.int 6],_,sm0.trans (sF f5),.cons (.lst ha (_R ns)) (.cons (.int _) .nil),rfl,ce 6 (by omega),fun v6 F6 H6 e6 r6=>?_⟩;cases r6;refine ⟨_,_,rfl,rfl,(by show (0:Int) < 2; decide),rfl,_,rfl,?_⟩;have f6:=f5.keepS e6.hh;refine ite2 (fun _=>?_) fun _=>?_
   ·refine ⟨_,rfl,F0,[MB._y ns,.int 5],_,sm0.trans (sF f6),.cons (.lst ha (_R ns)) (.cons (.int _) .nil),rfl,ce 5 (by omega),fun v7 F7 H7 e7 r7=>?_⟩
    cases r7;refine ⟨_,rfl,_,_,rfl,rfl,_,_,rfl,rfl,(by show (0:Int) < 6; decide),_,_,rfl,rfl,?_⟩;have f7:=f6.keepS e7.hh;have q0:=Bt (cellOf ns 5 + (0 + (i:Int))) (b:=6) (by decide);have q1:=Bk (cellOf ns 5 + (0 + (i:Int))) (b:=6) (by decide);exact ⟨H3,p,l,d,n,lo,names,i,sm0.trans (sF f7),by omega,by omega,hnd,hnok,kv,1 + (cellOf ns 5 + (0 + (i:Int))) % 6,_,_,_,_,rfl,f7,by omega,by omega,end_⟩
   ·have q0:=Bt (cellOf ns 5) (b:=6) (by decide)
    have q1:=Bk (cellOf ns 5) (b:=6) (by decide);exact ⟨H3,p,l,d,n,lo,names,i,sm0.trans (sF f6),by omega,by omega,hnd,hnok,kv,1 + cellOf ns 5 % 6,_,_,_,_,rfl,f6,by omega,by omega,end_⟩
  ·obtain ⟨c4,c5,c6,c7,c8,kv,rfl,fl⟩:=hI
   have smF:=sF fl;exact k (.bl true) F0 _ ⟨_qu9.refl _,sm0.trans smF,smF,fun _ _ h=>.inl h⟩ (.bl true)
end
def Dn (K:Frag) (x:Str) (st:Stmt):Prop:=∃ (f:Addr) (od an:Option Addr) (sl:Array (Option Value)) (oc kV dc pm cd ct:Value),nsIn K Aq x=some (some (.ref f))/\K.lookup f=some ⟨oc,od,.func (fnOf x x (_ja st) (_qu st) (_f st) .none kV dc pm an cd ct),sl⟩/\L5 K cd x=true/\Gr K (.ref f)=true
theorem dm {K:Frag} {x:Str} {st:Stmt} {f:Addr} {od an:Option Addr} {sl:Array (Option Value)} {oc kV dc pm cd ct:Value} (a:nsIn K Aq x=some (some (.ref f))) (l:K.lookup f=some ⟨oc,od,.func (fnOf x x (_ja st) (_qu st) (_f st) .none kV dc pm an cd ct),sl⟩) (c:L5 K cd x=true) (k:Gr K (.ref f)=true):Dn K x st:=⟨f,od,an,sl,oc,kV,dc,pm,cd,ct,a,l,c,k⟩
theorem dn {P:Ak} {w:World} {K:Frag} {mg:Str->Option Value} {base h:Heap} (X:K.In h) (G:h.Ns Aq mg) {x:Str} {st:Stmt} {k:Nat} {ps:List Str} {sp:Sp} (d:Dn K x st) (ok:∀ {f:Addr} {fd:Am},Fun K x x st f fd->FnOk P w K mg base CX0 k f fd ps sp) (b:∀ (kV doc pm:Value) (an:Option Addr) (cdv ct:Value) (us:List Value),us.length=ps.length->Hg (fnOf x x (_ja st) (_qu st) (_f st) .none kV doc pm an cdv ct) ⟨us,[]⟩=pure (ps.zip us)):Fn P w K mg base k x ps sp:=by
 obtain ⟨f,od,an,sl,oc,kV,dc,pm,cd,ct,a,l,c,kk⟩:=d;have F:=_qiu (st:=st) l c kk;exact ⟨_,_,ok F,mg_of X G a,kk,F.binds (ps:=ps) b⟩
theorem dn1 {P:Ak} {w:World} {K:Frag} {mg:Str->Option Value} {base h:Heap} (X:K.In h) (G:h.Ns Aq mg) {x p0:Str} {st:Stmt} {k:Nat} {sp:Sp} (d:Dn K x st) (ok:∀ {f:Addr} {fd:Am},Fun K x x st f fd->FnOk P w K mg base CX0 k f fd [p0] sp) (b:∀ (kV doc pm:Value) (an:Option Addr) (cdv ct:Value) a0,Hg (fnOf x x (_ja st) (_qu st) (_f st) .none kV doc pm an cdv ct) ⟨[a0],[]⟩=pure ([p0].zip [a0])):Fn P w K mg base k x [p0] sp :=
 dn X G d ok fun _ _ _ _ _ _ us hl=>by
  obtain ⟨a0,rfl⟩:=Cf.mp hl;exact b _ _ _ _ _ _ a0
theorem dn2 {P:Ak} {w:World} {K:Frag} {mg:Str->Option Value} {base h:Heap} (X:K.In h) (G:h.Ns Aq mg) {x p0 p1:Str} {st:Stmt} {k:Nat} {sp:Sp} (d:Dn K x st) (ok:∀ {f:Addr} {fd:Am},Fun K x x st f fd->FnOk P w K mg base CX0 k f fd [p0,p1] sp) (b:∀ (kV doc pm:Value) (an:Option Addr) (cdv ct:Value) a0 a1,Hg (fnOf x x (_ja st) (_qu st) (_f st) .none kV doc pm an cdv ct) ⟨[a0,a1],[]⟩=pure ([p0,p1].zip [a0,a1])):Fn P w K mg base k x [p0,p1] sp :=
 dn X G d ok fun _ _ _ _ _ _ us hl=>by
  cases us with
  | nil=>cases hl
  | cons a0 us =>
   obtain ⟨a1,rfl⟩:=Cf.mp (Nat.succ.inj hl);exact b _ _ _ _ _ _ a0 a1
theorem dn3 {P:Ak} {w:World} {K:Frag} {mg:Str->Option Value} {base h:Heap} (X:K.In h) (G:h.Ns Aq mg) {x p0 p1 p2:Str} {st:Stmt} {k:Nat} {sp:Sp} (d:Dn K x st) (ok:∀ {f:Addr} {fd:Am},Fun K x x st f fd->FnOk P w K mg base CX0 k f fd [p0,p1,p2] sp) (b:∀ (kV doc pm:Value) (an:Option Addr) (cdv ct:Value) a0 a1 a2,Hg (fnOf x x (_ja st) (_qu st) (_f st) .none kV doc pm an cdv ct) ⟨[a0,a1,a2],[]⟩=pure ([p0,p1,p2].zip [a0,a1,a2])):Fn P w K mg base k x [p0,p1,p2] sp :=
 dn X G d ok fun _ _ _ _ _ _ us hl=>by
  cases us with
  | nil=>cases hl
  | cons a0 us =>
   cases us with
   | nil=>cases hl
   | cons a1 us =>
    obtain ⟨a2,rfl⟩:=Cf.mp (Nat.succ.inj (Nat.succ.inj hl));exact b _ _ _ _ _ _ a0 a1 a2
theorem dn4 {P:Ak} {w:World} {K:Frag} {mg:Str->Option Value} {base h:Heap} (X:K.In h) (G:h.Ns Aq mg) {x p0 p1 p2 p3:Str} {st:Stmt} {k:Nat} {sp:Sp} (d:Dn K x st) (ok:∀ {f:Addr} {fd:Am},Fun K x x st f fd->FnOk P w K mg base CX0 k f fd [p0,p1,p2,p3] sp) (b:∀ (kV doc pm:Value) (an:Option Addr) (cdv ct:Value) a0 a1 a2 a3,Hg (fnOf x x (_ja st) (_qu st) (_f st) .none kV doc pm an cdv ct) ⟨[a0,a1,a2,a3],[]⟩=pure ([p0,p1,p2,p3].zip [a0,a1,a2,a3])):Fn P w K mg base k x [p0,p1,p2,p3] sp :=
 dn X G d ok fun _ _ _ _ _ _ us hl=>by
  cases us with
  | nil=>cases hl
  | cons a0 us =>
   cases us with
   | nil=>cases hl
   | cons a1 us =>
    cases us with
    | nil=>cases hl
    | cons a2 us =>
     obtain ⟨a3,rfl⟩:=Cf.mp (Nat.succ.inj (Nat.succ.inj (Nat.succ.inj hl)));exact b _ _ _ _ _ _ a0 a1 a2 a3
def Dx (K:Frag) (C:Addr) (x y:Str) (st:Stmt):Prop:=∃ (f:Addr) (od an:Option Addr) (sl:Array (Option Value)) (oc kV dc pm cd ct:Value),A7 K (.ref C) x=some (some (.ref f))/\G6 K (.ref f)=true/\K.lookup f=some ⟨oc,od,.func (fnOf x y (_ja st) (_qu st) (_f st) .none kV dc pm an cd ct),sl⟩/\L5 K cd y=true/\Gr K (.ref f)=true
theorem dx {K:Frag} {C:Addr} {x y:Str} {st:Stmt} {f:Addr} {od an:Option Addr} {sl:Array (Option Value)} {oc kV dc pm cd ct:Value} (a:A7 K (.ref C) x=some (some (.ref f))) (i:G6 K (.ref f)=true) (l:K.lookup f=some ⟨oc,od,.func (fnOf x y (_ja st) (_qu st) (_f st) .none kV dc pm an cd ct),sl⟩) (c:L5 K cd y=true) (k:Gr K (.ref f)=true):Dx K C x y st:=⟨f,od,an,sl,oc,kV,dc,pm,cd,ct,a,i,l,c,k⟩
theorem mx {P:Ak} {w:World} {K:Frag} {mg:Str->Option Value} {base:Heap} {C:Addr} {x y:Str} {st:Stmt} {k:Nat} {ps:List Str} {sp:Sp} (d:Dx K C x y st) (ok:∀ {f:Addr} {fd:Am},Fun K x y st f fd->FnOk P w K mg base CX0 k f fd ps sp) (b:∀ (kV doc pm:Value) (an:Option Addr) (cdv ct:Value) (us:List Value),us.length=ps.length->Hg (fnOf x y (_ja st) (_qu st) (_f st) .none kV doc pm an cdv ct) ⟨us,[]⟩=pure (ps.zip us)):∃ f fd,FnOk P w K mg base CX0 k f fd ps sp/\L2.Binds K fd ps []/\Meth K C x f:=by
 obtain ⟨f,od,an,sl,oc,kV,dc,pm,cd,ct,a,i,l,c,kk⟩:=d;have F:=_qiu (st:=st) l c kk;exact ⟨_,_,ok F,F.binds (ps:=ps) b,a,i,kk⟩
theorem len1 {p0:Str} {Q:List Value->Prop} (h:∀ a0,Q [a0]) (us:List Value) (hl:us.length=[p0].length):Q us:=by
 obtain ⟨a0,rfl⟩:=Cf.mp hl;exact h a0
theorem len2 {p0 p1:Str} {Q:List Value->Prop} (h:∀ a0 a1,Q [a0,a1]) (us:List Value) (hl:us.length=[p0,p1].length):Q us:=by
 cases us with
 | nil=>cases hl
 | cons a0 us=>exact len1 (p0:=p1) (Q:=fun us=>Q (a0 :: us)) (h a0) us (Nat.succ.inj hl)
theorem len3 {p0 p1 p2:Str} {Q:List Value->Prop} (h:∀ a0 a1 a2,Q [a0,a1,a2]) (us:List Value) (hl:us.length=[p0,p1,p2].length):Q us:=by
 cases us with
 | nil=>cases hl
 | cons a0 us=>exact len2 (p0:=p1) (p1:=p2) (Q:=fun us=>Q (a0 :: us)) (h a0) us (Nat.succ.inj hl)
theorem all_mk {l:Gv} {w:World} {K:Frag} {h:Heap} {mg:Str->Option Value} {fa C:Addr} {tk0 tk1 tk2:Tok} (X:K.In h) (G:h.Ns Aq mg) (hfa:mg "law"=some (.ref fa))
  (aC:nsIn K Aq "Hall"=some (some (.ref C)))
  (d0:Dn K "first_purses" _j0)
  (d1:Dn K "below" _Yz)
  (d2:Dn K "least" _Yw)
  (d3:Dn K "weight_of" _z9)
  (d4:Dn K "likes_each" _zf)
  (d5:Dn K "agreed" _X0)
  (d6:Dn K "likers" _Xy)
  (d7:Dn K "divisor" _Qm)
  (d8:Dn K "common_bottom" _jk)
  (d9:Dn K "tops_over" _vb)
  (d10:Dn K "weight_at" _va)
  (d11:Dn K "share" _Yt)
  (d12:Dn K "rate" _qgw)
  (d13:Dn K "liked" _Yv)
  (d14:Dn K "offers" _Xx)
  (d15:Dn K "minus" _Yu)
  (d16:Dn K "purse_behind" _jz)
  (d17:Dn K "paid" _qgy)
  (d18:Dn K "rounds" _Xw)
  (d19:Dn K "candidates_of" _jl)
  (d20:Dn K "weighed" _Ql)
  (d21:Dn K "wait" _qgu)
  (d22:Dn K "waits" _Ys)
  (d23:Dn K "plus" _qgx)
  (d24:Dn K "purses_behind" _jj)
  (d25:Dn K "grown" _Yx)
  (d26:Dn K "last_purses" _xj)
  (d27:Dn K "bench" _Yy)
  (d28:Dn K "_law_cell" _vc)
  (d29:Dn K "_law_due" _kl)
  (d30:Dn K "tidy" _qgv)
  (d31:Dn K "_law_names" _zg)
  (d32:Dn K "_law_filled" _Xz)
  (d33:Dn K "_law_changed" _Qn)
  (d34:Dn K "law" _qgz)
  (e0:Dx K C "__init__" "Hall.__init__" sInit)
  (e1:Dx K C "stand" "Hall.stand" _qh0)
  (e2:Dx K C "heap" "Hall.heap" sHeap)
  (e3:Dx K C "cast" "Hall.cast" sCast)
  (e4:Dx K C "lift" "Hall.lift" sLift)
  (e5:Dx K C "lay" "Hall.lay" sLay)
  (e6:Dx K C "numbers_of" "Hall.numbers_of" sNums)
  (e7:Dx K C "names_of" "Hall.names_of" _X1)
  (e8:Dx K C "names" "Hall.names" _qh1)
  (e9:Dx K C "bench_of" "Hall.bench_of" _qh2)
  (pg:E1 K C Str.empty=true)
  (hd:Fh K C=true)
  (po:Hy K C=true)
  (sa:A7 K (.ref C) "__setattr__"=some (some (.builtin "object.__setattr__")))
  (mk:Jm K C=true)
  (kc:Gr K (.ref C)=true)
  (nS:A7 K (.ref C) "standing"=some none)
  (nB:A7 K (.ref C) "ballots"=some none)
  (y0:nsIn K Aq "MOST_STANDING"=some (some (.int 6 tk0)))
  (y1:nsIn K Aq "MOST_PILES"=some (some (.int 12 tk1)))
  (y2:nsIn K Aq "MOST_BALLOTS"=some (some (.int 1000000000000000000 tk2)))
  (z0:nsIn K Aq "range"=some none)
  (z1:nsIn K Aq "len"=some none)
  (z2:nsIn K Aq "list"=some none)
  (z3:nsIn K Aq "tuple"=some none)
  (z4:nsIn K Aq "sorted"=some none)
  (z5:nsIn K Aq "max"=some none)
  (z6:nsIn K Aq "min"=some none)
  (z7:nsIn K Aq "all"=some none)
  (z8:nsIn K Aq "enumerate"=some none)
  (z9:nsIn K Aq "isinstance"=some none)
  (z10:nsIn K Aq "abs"=some none)
  (z11:nsIn K Aq "set"=some none)
  (z12:nsIn K Aq "sum"=some none)
  (z13:nsIn K Aq "zip"=some none) :
  ∃ fd:Am,(∀ (s:Shared) (v:Value),Ia s fd ⟨[v],[]⟩ [("script",v)])/\∀ base:Heap,K.In base->base.Ns Aq mg->FnOk l.prog w K mg base CX0 12 fa fd ["script"] (spD K 1 _qjx):=by
 obtain ⟨f,od,an,sl,oc,kV,dc,pm,cd,ct,a,l1,c,kk⟩:=d34;have e:=hfa.symm.trans (mg_of X G a);cases e;have T:Hx K mg C:=⟨⟨pg,hd,po,sa⟩,nS,nB,mg_of X G aC,⟨_,mg_of X G y0⟩,⟨_,mg_of X G y1⟩,⟨_,mg_of X G y2⟩,Bo X G z0,Bo X G z1,Bo X G z2,Bo X G z3,Bo X G z4,Bo X G z5,Bo X G z6,Bo X G z7,Bo X G z8,Bo X G z9⟩;have T1:Txt mg:=⟨Bo X G z10,Bo X G z7,Bo X G z8,Bo X G z1,Bo X G z2,Bo X G z11,Bo X G z4,Bo X G z12,Bo X G z13⟩;have F:=_qiu (st:=_qgz) l1 c kk;refine ⟨fnOf "law" "law" (_ja _qgz) (_qu _qgz) (_f _qgz) .none kV dc pm an cd ct,fun s v=>.of_eq rfl,fun base _ _=>?_⟩;have D1:=@dn1 l.prog w K mg base h X G;have D2:=@dn2 l.prog w K mg base h X G;have D3:=@dn3 l.prog w K mg base h X G;have D4:=@dn4 l.prog w K mg base h X G;have G_first_purses:=D2 d0 (fun F=>_wn F T1) fun _ _ _ _ _ _ _ _ =>rfl;have G_below:=D2 d1 (fun F=>_qhy F T1) fun _ _ _ _ _ _ _ _ =>rfl;have G_least:=D1 d2 (fun F=>_qhv F T1 G_below) fun _ _ _ _ _ _ _ =>rfl;have G_weight_of:=D1 d3 (fun F=>_Ze F T1) fun _ _ _ _ _ _ _ =>rfl;have G_likes_each:=D2 d4 (fun F=>_Jy F T1) fun _ _ _ _ _ _ _ _ =>rfl;have G_agreed:=D2 d5 (fun F=>_qdv F T1 G_likes_each) fun _ _ _ _ _ _ _ _ =>rfl;have G_likers:=D2 d6 (fun F=>_qdt F T1 G_agreed) fun _ _ _ _ _ _ _ _ =>rfl;have G_divisor:=D2 d7 (fun F=>_qag F T1) fun _ _ _ _ _ _ _ _ =>rfl;have G_common_bottom:=D1 d8 (fun F=>_kt F T1 G_divisor) fun _ _ _ _ _ _ _ =>rfl;have G_tops_over:=D2 d9 (fun F=>_Zg F T1) fun _ _ _ _ _ _ _ _ =>rfl;have G_weight_at:=D2 d10 (fun F=>_Zf F T1) fun _ _ _ _ _ _ _ _ =>rfl;have G_share:=D2 d11 (fun F=>_qhr F T1 G_divisor) fun _ _ _ _ _ _ _ _ =>rfl;have G_rate:=D4 d12 (fun F=>_qlh F T1 G_likers G_common_bottom G_tops_over G_weight_at G_share) fun _ _ _ _ _ _ _ _ _ _ =>rfl;have G_liked:=D1 d13 (fun F=>_qhu F T1) fun _ _ _ _ _ _ _ =>rfl;have G_offers:=D3 d14 (fun F=>_qds F T1 G_weight_of G_rate G_liked) fun _ _ _ _ _ _ _ _ _ =>rfl;have G_minus:=D2 d15 (fun F=>_qht F T1 G_share) fun _ _ _ _ _ _ _ _ =>rfl;have G_purse_behind:=D2 d16 (fun F=>_wm F T1 G_below G_minus) fun _ _ _ _ _ _ _ _ =>rfl;have G_paid:=D4 d17 (fun F=>_qlj F T1 G_purse_behind G_likers) fun _ _ _ _ _ _ _ _ _ _ =>rfl;have G_rounds:=D2 d18 (fun F=>_qdr F T1 G_first_purses G_least G_offers G_paid) fun _ _ _ _ _ _ _ _ =>rfl;have G_candidates_of:=D1 d19 (fun F=>_ku F T1) fun _ _ _ _ _ _ _ =>rfl;have G_weighed:=D3 d20 (fun F=>_qae F T1) fun _ _ _ _ _ _ _ _ _ =>rfl;have G_wait:=D3 d21 (fun F=>_qlf F T1 G_likers G_common_bottom G_weight_of G_weighed G_tops_over G_share G_weight_at) fun _ _ _ _ _ _ _ _ _ =>rfl;have G_waits:=D4 d22 (fun F=>_qhp F T1 G_wait G_liked) fun _ _ _ _ _ _ _ _ _ _ =>rfl;have G_plus:=D2 d23 (fun F=>_qli F T1 G_share) fun _ _ _ _ _ _ _ _ =>rfl;have G_purses_behind:=D3 d24 (fun F=>_ks F T1 G_likers G_plus) fun _ _ _ _ _ _ _ _ _ =>rfl;have G_grown:=D4 d25 (fun F=>_qhw F T1 G_least G_waits G_purses_behind) fun _ _ _ _ _ _ _ _ _ _ =>rfl;have G_last_purses:=D3 d26 (fun F=>_Qv F T1 G_first_purses) fun _ _ _ _ _ _ _ _ _ =>rfl;have G_bench:=D2 d27 (fun F=>_qhx F T1 G_rounds G_candidates_of G_grown G_last_purses) fun _ _ _ _ _ _ _ _ =>rfl;have G__law_cell:=D2 d28 (fun F=>_Zh F T1) fun _ _ _ _ _ _ _ _ =>rfl;have G__law_due:=D3 d29 (fun F=>_Wg F T1 G_bench) fun _ _ _ _ _ _ _ _ _ =>rfl;obtain ⟨_,_,oI,bI,mI⟩:=mx (P:=l.prog) (w:=w) (mg:=mg) (base:=base) e0 (fun F=>_qlm F T) (fun _ _ _ _ _ _=>len1 fun _=>rfl);obtain ⟨_,_,oS,bS,mS⟩:=mx (P:=l.prog) (w:=w) (mg:=mg) (base:=base) e1 (fun F=>_qhq F T) (fun _ _ _ _ _ _=>len2 fun _ _=>rfl);obtain ⟨_,_,oL,bL,mL⟩:=mx (P:=l.prog) (w:=w) (mg:=mg) (base:=base) e5 (fun F=>_qos F T) (fun _ _ _ _ _ _=>len3 fun _ _ _=>rfl);obtain ⟨_,_,oM,bM,mM⟩:=mx (P:=l.prog) (w:=w) (mg:=mg) (base:=base) e6 (fun F=>_qlk F T) (fun _ _ _ _ _ _=>len2 fun _ _=>rfl);obtain ⟨_,_,oO,bO,mO⟩:=mx (P:=l.prog) (w:=w) (mg:=mg) (base:=base) e7 (fun F=>_qaf F T) (fun _ _ _ _ _ _=>len2 fun _ _=>rfl);obtain ⟨_,_,oN,bN,mN⟩:=mx (P:=l.prog) (w:=w) (mg:=mg) (base:=base) e8 (fun F=>_qhs F T) (fun _ _ _ _ _ _=>len1 fun _=>rfl);obtain ⟨_,_,oC,bC,mC⟩:=mx (P:=l.prog) (w:=w) (mg:=mg) (base:=base) e3 (fun F=>_qlo F T oM bM mM oL bL mL) (fun _ _ _ _ _ _=>len3 fun _ _ _=>rfl);obtain ⟨_,_,oF,bF,mF⟩:=mx (P:=l.prog) (w:=w) (mg:=mg) (base:=base) e4 (fun F=>_qll F T oM bM mM oL bL mL) (fun _ _ _ _ _ _=>len3 fun _ _ _=>rfl);have Gt:=D1 d30 (fun F=>_qlg F T) fun _ _ _ _ _ _ _=>rfl;obtain ⟨_,_,oH,bH,mH⟩:=mx (P:=l.prog) (w:=w) (mg:=mg) (base:=base) e2 (fun F=>_qln F T Gt) (fun _ _ _ _ _ _=>len1 fun _=>rfl);obtain ⟨_,_,oB,bB,mB⟩:=mx (P:=l.prog) (w:=w) (mg:=mg) (base:=base) e9 (fun F=>_qai F T oH bH mH oO bO mO G_bench) (fun _ _ _ _ _ _=>len2 fun _ _=>rfl);have Gn:=D3 d31 (fun F=>_Jz F T1 T.zr G__law_cell) fun _ _ _ _ _ _ _ _ _=>rfl;have Gf:=D3 d32 (fun F=>_qdu F T G__law_cell oS bS mS oC bC mC) fun _ _ _ _ _ _ _ _ _=>rfl;have Gch:=D4 d33 (fun F=>_qah F T oF bF mF oC bC mC) fun _ _ _ _ _ _ _ _ _ _=>rfl;exact _qot F T Gn G__law_cell Gf G__law_due Gch ⟨mk,mI.at_,mI.fn,kc⟩ oI bI oB bB mB oN bN mN
theorem walk {l:Gv} {qq:Ak} {loose:List Str} {XP:(Str->Option Value)->Heap->Prop} {YP:World->Heap->Prop} {d:DefRec} {K:Params->Frag} (hlaw:∀ ns:List Int,ns.length <= 63->_qjx [.lst (ns.map .int)]=some (.bl true)) (hn:l.most=some 63) (hdf:d.params.defaults=[])
  (hY:∀ (w:World) (h:Heap),YP w h->(K w.params).In h)
  (F:∀ (w:World) (mg:Str->Option Value) (fa:Addr) (h:Heap),(K w.params).In h->h.Ns Aq mg->mg d.name=some (.ref fa) ->
   ∃ fd:Am,(∀ (s:Shared) (u:Value),Ia s fd ⟨[u],[]⟩ [("script",u)])/\∀ base:Heap,(K w.params).In base->base.Ns Aq mg->FnOk l.prog w (K w.params) mg base CX0 12 fa fd ["script"] (spD (K w.params) 1 _qjx)) :
  Kx qq loose XP YP l.row.toRowW d [] (fun f vs=>PySem.call f vs) :=
 DL._qey (n:=63) (k:=12) (x:="script") (CX:=fun _=>CX0) (sp:=fun w=>spD (K w.params) 1 _qjx) hn (by decide) hdf ⟨rfl,by decide,by decide⟩ hY F (fun _ _ a ns hl hS=>_qp5 (hlaw ns hl) hS) fun _ _ _ _ _ z=>z
end L_k62
namespace PySem.W.Fast
theorem tw6916679867941056880:True:=⟨⟩
theorem tw6721508023504807007:True:=⟨⟩
theorem tw8760890700246662687:True:=⟨⟩
theorem tw10708313874843926506:True:=⟨⟩
theorem tw16113642090677299834:True:=⟨⟩
theorem tw3524148160429691697:True:=⟨⟩
theorem tw15627593093689308368:True:=⟨⟩
theorem tw8220393611315455493:True:=⟨⟩
theorem tw5896938039599510047:True:=⟨⟩
theorem tw14698799234816260032:True:=⟨⟩
theorem tw8249404691207095120:True:=⟨⟩
theorem tw6621390098969521455:True:=⟨⟩
theorem tw13647951447588393054:True:=⟨⟩
theorem tw6609797256785127419:True:=⟨⟩
theorem tw5477529969740783113:True:=⟨⟩
theorem tw4761301660566863909:True:=⟨⟩
theorem tw280967464527562782:True:=⟨⟩
theorem tw13481972968803809187:True:=⟨⟩
theorem tw12919142511705826981:True:=⟨⟩
theorem tw11375478834444804197:True:=⟨⟩
theorem tw7167829678307765027:True:=⟨⟩
theorem tw5690993775769351233:True:=⟨⟩
theorem tw4798127954705525203:True:=⟨⟩
theorem tw9501969720354645089:True:=⟨⟩
theorem tw11445585239366487575:True:=⟨⟩
theorem tw60060727282289544:True:=⟨⟩
theorem tw805148931422925947:True:=⟨⟩
theorem tw3899770253685867583:True:=⟨⟩
theorem tw17192046314340432993:True:=⟨⟩
theorem tw9620812333888611320:True:=⟨⟩
theorem tw17719641320602081200:True:=⟨⟩
theorem tw10168951918832065866:True:=⟨⟩
theorem tw11500977632008458090:True:=⟨⟩
theorem tw6601068121375108257:True:=⟨⟩
theorem tw10454265530625427418:True:=⟨⟩
theorem tw12160926452290239090:True:=⟨⟩
theorem tw1358069368187085008:True:=⟨⟩
theorem tw5670802598263538903:True:=⟨⟩
theorem tw4554394536412695754:True:=⟨⟩
theorem tw15120888232216032482:True:=⟨⟩
end PySem.W.Fast
open PySem PySem.W PyProof.Rows
set_option maxRecDepth 100000 in
set_option maxHeartbeats 0 in
theorem PySem.Challenge.cw_pursebench_k62_benches_by_names_holds : PySem.Challenge.rw_pursebench_k62_benches_by_names.Holds := by
 w_on; o_law; k_head; (case hw=>w_witness2)
 k_fill
 refine L_k62.walk (l:=PySem.Challenge.rw_pursebench_k62_benches_by_names) L_k62.law_true rfl rfl (fun w h Y=>PySem.W.kIn_of Y) ?F
 case F =>
  intro w mg fa h KX G hmg
  refine' L_k62.all_mk KX G hmg ?_ ?_ ?_ ?_ ?_ ?_ ?_ ?_ ?_ ?_ ?_ ?_ ?_ ?_ ?_ ?_ ?_ ?_ ?_ ?_ ?_ ?_ ?_ ?_ ?_ ?_ ?_ ?_ ?_ ?_ ?_ ?_ ?_ ?_ ?_ ?_ ?_ ?_ ?_ ?_ ?_ ?_ ?_ ?_ ?_ ?_ ?_ ?_ ?_ ?_ ?_ ?_ ?_ ?_ ?_ ?_ ?_ ?_ ?_ ?_ ?_ ?_ ?_ ?_ ?_ ?_ ?_ ?_ ?_ ?_ ?_
  all_goals first | (refine' L_k62.dm ?a ?l ?c ?k; (case a=>k_is); (case l=>k_is); (case c=>k_is); (case k=>k_is)) | (refine' L_k62.dx ?a ?i ?l ?c ?k; (case a=>k_is); (case i=>k_is); (case l=>k_is); (case c=>k_is); (case k=>k_is)) | k_is | skip
