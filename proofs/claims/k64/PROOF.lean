import PyProof.Rows.All
import Wide.All
import OpenK.AllK
import Wide.FinOn
import PyProof.EqAt
import PyProof.EqKinds
import PyProof.TupleCall
import KE.KDictSum
import KE.KRevIter
import KE.KEqDict
import PySem.Str
import PySem.Challenge.RW_pursebench_k64_refused_and_then_done
set_option Elab.async false
set_option linter.all false
local macro_rules | `(tactic| o_shape)=>`(tactic| first | exact Or.inl rfl | exact Or.inr rfl)
local macro_rules | `(tactic| o_reads)=>`(tactic| exact ⟨rfl,rfl,by repeat' (first | exact True.intro | rfl | o_shape | refine ⟨?_,?_⟩),by decide,rfl,by decide⟩)
set_option bootstrap.genMatcherCode false
set_option genSizeOf false
set_option genSizeOfSpec false
open PySem renaming wpAny_bind→Ac, wpAny_pure→Ad, sizeLine→Ag, Program→Aj, FuncData→Ak, mainGlobals→Am, starEach→Ap, wpAny_ite_split→Ar, sizeLine_eq→Au, wpAny_call_entry→Ay, wpAny_holding→A5, wpAny_newObj_type→A6, bootBuiltins→A7, wpAny_mono→A9, codeAny_builtin→Bh, wpAny_callSpecial?_slot→Bi, assignEach→Bk, wpAny_dictEntries→Bl, compareOp→Bn, wpAny_setState_of→Br, sysModules→By, rawInt→Bz, wpAny_Call_Name_kw→B0, foldedSetIterable→B7, wpAny_setField→B8, wpAny_askSetting→Ce, wpAny_typeNameOfWhole_itemiter→Cj, intKind→Ck, codeAny_mono→Co, wpAny_typeNameOfWhole_keyiter→Cv, relabel→Cw, backTo→C2, behindInMarks→C5, plainId_quiet→C6, wpAny_fieldsOf→Dd, tupleKind_room_in1→Df, wpAny_passesOwn→Dp, wpAny_truthy_bool→Dq, binaryOp→Dr, codeAny→Ds, wpAny_field→Dv, mem_of_lookup→D5, wpAny_setEntries_of→D6, pyNext→D8, wpAny_rule→Eg, IsItemIter→Ej, wpAny_setField_rec→Ek, wpAny_dictEpoch→El, attributeBase→Em, wpAny_attempt→En, ExceptHandler→Ep, builtinLookup_eq_fast→Er, wpAny_pyIter_slot→Ew, sliceBounds→E2, firstArgMember→E5, wpAny_eqBool_int→E7, scanBound→E9, wpAny_isInstance→Fb, wpAny_execs_nil→Fm, tupleKind→Fu, wpAny_newTuple→Gf, wpAny_isOneOf_itemiter→Gi, wpAny_notOrdered_dict→Gp, codeAny_handlers_test→Gq, wpAny_load→Gs, IsPair→Gw, wpAny_newList→G0, codeAny_call_builtin→G5, letOwnedTupleGo→G9, typeLookup_type→Hd, wpAny_specialOf→He, wpAny_updateSeq→Hf, wpAny_handleBy_cons→Hm, callerA→Hq, swapsWith→Hw, bindArgs→Ia, wpAny_runValue→Ie, isSubtype_type→Ih, wpAny_missedRemoval_other→Io, wpAny_pyIter_list→Iq, BindsTo→Iu, keywordEach→Iv, slot_list_getitem→Iw, unsupported→I0, wpAny_Call_method→Ja, assign→Jc, wpAny_standAt→Jd, wpAny_getItem_list_slice→Jh, wpAny_comprehension_free→Ji, checkBuiltinCall→Jo, holding→Jv, setsByText→Jz, isInstance→J0, wpAny_nextOf_list_item→J3, wpAny_isTrue_Compare1→Kg, wpAny_isOneOf_keyiter→Kk, pyIter→Kn, subscripted→Ko, typeOf→Kq, ZipApart→Kr, relayAll→Kt, wpAny_of_eq→Ku, entryFor_alias→Kv, wpAny_letGo→Le, Keyword→Lh, slicePick→Li, valueAt→Ll, wpAny_handled→Lx, IsItemIterOut→Lz, builtinsNs→L7, Result→L8, typeLookup→Ma, typeIs_str→Md, closureFor→Mf, excMatches→Mp, backToKw→Mx, getItem→My, seqIndex_neg→Mz, wpAny_typeOf→M6, collect→M7, getMethod→Ng, cellsFrom→Nh, updateSeq→Nj, Fin→Nn, seqIndex_of→Np, wpAny_throw→Nq, loadIfAlive→Nt, standAt→Nu, newList→Nv, ElemsOf→Nw, GenState→Ny, isTrue→Nz, ReadsAll→N1, compEnvC→N2, entryFor→N3, newExc→N4, raiseNew→N5, setField→N7
open PySem.Heap renaming get?_push_of_some→Ae, lt_size→Af, get?_push_size→Ah, get?_update_other→Av, get?_update_self→Bc, size_push→Bu, size_update→Cg, get?_push_ne→Ey, FlyingW→Hu
open List renaming getElem?_eq_some_iff→Ai, mem_cons→Ao, range→Ax, mem_singleton→A0, mem_map→Bf, pairwise_iff_getElem→Bo, mem_range→Bt, length_eq_one_iff→B9, mem_take_iff_getElem→Cc, length_eq_zero_iff→Cy, mem_filter→C0, mem_filterMap→C9, getElem?_append_left→Di, drop_eq_getElem_cons→Dl, lookup→Dt, filter_eq_self→D7, replicate→D9, filter_cons_of_pos→Ec, take_of_length_le→Ef, getElem?_eq_none_iff→Fc, mem_append→Fk, nodup_cons→Fo, pairwise_cons→Fp, eraseIdx_cons_succ→Fw, pairwise_lt_range→Ga, all_eq_true→Gv, mem_zipIdx_iff_getElem?→Hi, replicate_succ→Hk, filter_sublist→Hn, idxOf_lt_length_of_mem→Hr, getElem?_append_right→Ib, length_eraseIdx_of_lt→Ig, perm_ext_iff_of_nodup→Ik, find?_eq_none→Il, ext_getElem?→Iy, getElem_take→Jb, getElem?_take_of_lt→Jf, getElem_map→Jq, of_mem_zip→Ka, getElem?_toArray→Ki, getElem?_eq_none→Kj, getElem?_of_mem→Ks, perm_cons_erase→Kw, mem_erase_of_ne→Ky, toList_toArray→Lp, length_reverse→Ls, getElem?_drop→Mh, getElem?_take→Mi, getElem_idxOf→Mo, filter_append→Mu
open Bool renaming false_ne_true→Al, false_eq_true→Aw, eq_iff_iff→Bg, and_eq_true→C8, and_eq_true_iff→Dw, or_eq_true→Kc, or_false→Lu
open PySem.W renaming kitOne→An, findIn→Aq, mroIn→As, mg_none_of→Bj, emptyDict→Bq, instObj→Cz, looks_mroIn→C1, clsIn→C7, typeIn→Dc, kas_asc→Du, excIn→Eo, looks_findIn→E1, plainGet→E8, kas_place→Fx, hasDictIn→Fz, specialIn→F6, kas_desc→G7, keepIn→Ha, OpenLaw→Hb, plainGet_of→Hj, isFn→Ho, lookIn→Hz, kas_sort→Ii, methodObj→Ip, plainOver→Ir, cellsFrom_some→Jw, takerIn→J7, makesIn→J8, takesIn→J9, methodCall_KW→Kh, looks_typeIn→Ld, kas_bin→Lj, hideAll_get→Lm, callWith_K0→Ln, WalkO→Lv, of_hideAll→L6, callWith_K→L9, tail_of_in→Mt, kas_descPart→Nc, codeIn→Ni, kas_tail3→Nl, kas_count→Nm, kas_rev→Nx
open False renaming elim→Az
open Int renaming toNat_natCast→A8, fmod_eq_emod_of_nonneg→Ez, emod_lt_of_pos→Fs, zero_add→F8, natAbs_mul→Gg, emod_nonneg→Hh, gcd→Ht, natAbs_natCast→Ij, eq_ofNat_of_zero_le→Jl, ediv_mul_cancel→Lr, natCast_nonneg→Me, sub_self→M0, le_of_lt→M3, ne_of_lt→M8
open PySem.PassesOwn renaming never→Ba
open PySem.Around renaming under_plainId→Bb, under→Mv
open PySem.Obj renaming mapSeq→Be, mapFields→Cp, data_mapFields→Ei, isFreed_of_fields→Gj, data_mapDictKeys→Lg
open PyProof.Rows renaming seqObj→Bm, callWith_type1→B5, firstMet→Dh, envOfC→F7, AllBare→Gx, listUpdate_at→G4, entry_proto_collect'→G6, lt_int→Hl, room_in_shaped→Ic, subscriptTail→Jg, entry_list_iadd'→Jp, subscriptTail_builtinR→Jx, size_push'→J1, sortedHeap→J2, entry_list_sort→Kd, get?_update_seq→Ke, slot_list_sort→Kz, args_list_sort→La, sortedHeap_old→Lb, seqEpoch_at→Lc, firstMet_succ→Lw, sortedHeap_at→Ly, Subscript_→Mb, plain_sorted→M9, entry_sorted→Na, args_sorted1→Nb, listItems_at→Nd, general'→Nf, kind_sorted→Nr, SortKind→N6
open PySem.F renaming plain_extend_loop→Bp, slot_dict_itemiterator_next→Bv, plain_list_iadd→B3, plainAttrs_list→B4, slot_list_append→Cq, type_list_append→Cu, slot_dict_keyiterator_next→Dg, called_set→Eh, plain_proto_collect→Ex, excBase_ValueError→E6, slot_dict_itemiterator_iter→Fi, plainAttrs_dict→Fy, slot_dict_get→Gm, slot_dict_items_iter→Hg, attrBase_ValueError→Hs, args_dict_get_3→Js, slot_dict_items→Ju, entry_dict_get→J4, slot_dict_iter→J5, slot_tuple_lt→Kf, slot_dict_pop→Kl, slot_dict_len→Km, entry_extend_loop→Lq
open Ne renaming symm→Bw
open PySem.Builtin.Dict_items renaming ownsTuple→Bx, pairFromOwner→Dz, ownedTupleIsFree→Fh, ownedTupleFields→Fj
open PySem.Builtin.List renaming listExtendWith→B6, listLengthHint→C4, listSameRef→D0, listTooLong→Ff
open PySem.Heap.SameBut renaming update→Ca
open PySem.Calls renaming spliced_cons→Cd, call_function_entry→Dk, callWith_builtin→Ed, spliced_nil→Et, evalArgs_plain→E3, Name_function_global→Hy
open PySem.W.Looks renaming ld→Ci
open PySem.Str renaming ofString→C3
open Array renaming perm_iff_toList_perm→De, getElem?_eq_getElem→Dj, getD_eq_getD_getElem?→Eu, map→Lk, forIn_toList→Mn
open Classical renaming byContradiction→Dm
open Nat renaming pow_le_pow_right→Dy, le_mul_of_pos_right→Jr, not_lt→Mg, pos_of_ne_zero→Ml
open PySem.SetTable renaming grown→Ea
open PySem.Heap.UpToSlots renaming of_keeps→Eb
open PySem.SeqAt renaming canLay_of_shaped→Ee
open PySem.Builtin.Dict renaming showsAll→Es, takeOut→Lf
open PySem.PyData renaming canLay0→E4, eqv→Gu, eqvAll→Gy, canLayAll0→Iz, depthAll→Kb
open PySem.Builtin.SmallTypes renaming nextOf→Fe, ownedTupleIsFree→Fg
open PyProof.Rows.F renaming plain_set_update_loop→Fv, entry_set_update_loop→Jn
open PySem.SetTable.below renaming go→F9
open Rat renaming normalize_eq_mkRat→Gh, mul_le_mul_of_nonneg_left→G8
open PySem.Shared renaming TypeIs→Gz
open PySem.Builtin.Str renaming strSliceIndices→Hv, occurrences→Jt
open PySem.SetTable.Slot renaming noConfusion→Im
open Option renaming isSome_iff_exists→Je, map_eq_some_iff→Jy, isNone_some→Mr, isNone_none→Ms
open List.Perm renaming eq_of_pairwise→Jj
open Function renaming comp→Jk
open PySem.Builtin.Int renaming intBits→Lo
open PySem.Heap.IsSliceOf renaming new→Mc
open PySem.Code renaming quiet_builtin→Mj, isFrame→Mw
open PySem.W.KasT renaming kasWp→Mm, bind→Nk
open PySem.W.KF renaming slot_gs→Mq
open Iff renaming rfl→M4
open PySem.pickOrder renaming go→M5
open List (any_cons any_eq_true append_nil cons_ne_nil drop_of_length_le ext_getElem filterMap_cons filter_cons_of_neg find?_cons forIn_cons getD_eq_getElem?_getD getElem?_eq_getElem getElem?_map getElem?_set_ne getElem?_set_self getElem_inj getElem_mem getElem_of_mem length_append length_cons length_filter_le length_map length_take mapM_cons map_append map_congr_left map_cons map_id map_map map_nil mem_append_left mem_append_right mem_cons mem_cons_of_mem mem_cons_self mem_map mem_of_getElem? nodup_cons nodup_nil not_mem_nil pairwise_cons pairwise_map size_toArray take_length take_succ_eq_append_getElem)
open Option (getD_none)
open Nat (le_of_ble_eq_true le_of_lt le_refl le_succ le_trans lt_irrefl lt_of_le_of_lt lt_of_lt_of_le lt_succ_of_lt lt_succ_self lt_trans mod_lt ne_of_gt ne_of_lt zero_le)
open Array (append_assoc getElem?_eq_none getElem?_toList length_toList)
open PySem.W (Frag codeIn fnOf keepIn mg_none_of mg_of nsIn)
set_option maxRecDepth 100000
namespace L2
open PySem PySem.Spec PyProof.Rows
abbrev Key:=Sum Int Str
def aqhq:Key->Value->Bool
 | .inl k,v=>Value.isInt k v
 | .inr x,v=>Value.isStrOf x v
def keyH (w:World):Key->Int
 | .inl k=>hashInt k
 | .inr x=>hashStr w x
theorem aT:∀ {k:Key} {v:Value},aqhq k v=true->(∃ i t,k=Sum.inl i/\v=Value.int i t) \/ (∃ x t,k=Sum.inr x/\v=Value.str x t)
 | .inl i,v,h=>by
  obtain ⟨t,e⟩:=Value.isInt_shape (k:=i) (v:=v) h;exact .inl ⟨i,t,rfl,e⟩
 | .inr x,v,h=>by
  obtain ⟨t,e⟩:=Value.isStrOf_shape (x:=x) (v:=v) h;exact .inr ⟨x,t,rfl,e⟩
theorem aqce (i:Int) (t:Tok):aqhq (.inl i) (.int i t)=true:=by simp [aqhq,Value.isInt]
theorem aqcd (x:Str) (t:Tok):aqhq (.inr x) (.str x t)=true:=by simp [aqhq,Value.isStrOf]
theorem aqn5 (a b:Int):decide ((Sum.inl a:Key)=Sum.inl b)=(a == b):=by
 by_cases e:a=b
 ·subst e; simp
 ·have h:¬ (Sum.inl a:Key)=Sum.inl b:=fun q=>e (Sum.inl.inj q)
  rw [decide_eq_false h];exact (beq_eq_false_iff_ne.mpr e).symm
theorem aqn2 (a b:Str):decide ((Sum.inr a:Key)=Sum.inr b)=decide (a=b):=by
 by_cases e:a=b
 ·subst e; simp
 ·have h:¬ (Sum.inr a:Key)=Sum.inr b:=fun q=>e (Sum.inr.inj q)
  rw [decide_eq_false h,decide_eq_false e]
theorem aqn4 (a:Int) (b:Str):decide ((Sum.inl a:Key)=Sum.inr b)=false:=decide_eq_false (fun q=>nomatch q)
theorem aqn3 (a:Str) (b:Int):decide ((Sum.inr a:Key)=Sum.inl b)=false:=decide_eq_false (fun q=>nomatch q)
def aqh (prog:Aj) (w:World):PySem.KeyKind prog w Key where
 is:=aqhq
 hash:=keyH w
 inj:=fun v a b ha hb=>by
  rcases aT ha with ⟨i,t,rfl,rfl⟩ | ⟨x,t,rfl,rfl⟩
  ·rcases aT hb with ⟨j,u,rfl,e⟩ | ⟨y,u,rfl,e⟩
   ·injection e with e1 _; rw [e1]
   ·exact nomatch e
  ·rcases aT hb with ⟨j,u,rfl,e⟩ | ⟨y,u,rfl,e⟩
   ·exact nomatch e
   ·injection e with e1 _; rw [e1]
 byValue:=fun k v h=>by
  rcases aT h with ⟨i,t,rfl,rfl⟩ | ⟨x,t,rfl,rfl⟩ <;> rfl
 pyHash:=fun hv h=>by
  rcases aT hv with ⟨i,t,rfl,rfl⟩ | ⟨x,t,rfl,rfl⟩
  ·exact wpAny_pyHash_int h
  ·exact wpAny_pyHash_str h
 eqBool:=fun hu hv h=>by
  rcases aT hu with ⟨i,t,rfl,rfl⟩ | ⟨x,t,rfl,rfl⟩
  ·rcases aT hv with ⟨j,u,rfl,rfl⟩ | ⟨y,u,rfl,rfl⟩
   ·rw [aqn5] at h; exact E7 h
   ·rw [aqn4] at h; exact SeqAt.EqAt.int_str i t y u _ _ _ _ h
  ·rcases aT hv with ⟨j,u,rfl,rfl⟩ | ⟨y,u,rfl,rfl⟩
   ·rw [aqn3] at h; exact SeqAt.EqAt.str_int x t j u _ _ _ _ h
   ·rw [aqn2] at h; exact wpAny_eqBool_str h
 «strs»:=fun k x t v h=>by
  rcases aT h with ⟨i,u,rfl,e⟩ | ⟨y,u,rfl,e⟩
  ·exact nomatch e
  ·injection e with e1 _
   subst e1;cases v <;> rfl
theorem aV8 (prog:Aj) (w:World) (i:Int) (t:Tok):(aqh prog w).is (.inl i) (.int i t)=true:=aqce i t
theorem aV7 (prog:Aj) (w:World) (x:Str) (t:Tok):(aqh prog w).is (.inr x) (.str x t)=true:=aqcd x t
inductive V where
 | non | bl (b:Bool) | int (i:Int) | str (x:Str) | byt (b:Array UInt8) | flt (b:UInt64) | ref (a:Addr) | ty (n:String)
 deriving DecidableEq
def aqs3:V->Value->Prop
 | .non,u=>u=Value.none
 | .bl b,u=>u=Value.bool b
 | .int i,u=>∃ t,u=Value.int i t
 | .str x,u=>∃ t,u=Value.str x t
 | .byt b,u=>∃ t,u=Value.bytes b t
 | .flt b,u=>∃ t,u=Value.float b t
 | .ref a,u=>u=Value.ref a
 | .ty n,u=>u=Value.type n
abbrev aqs0:List V->List Value->Prop:=Paired aqs3
theorem aqs0.length {xs:List V} {us:List Value} (r:aqs0 xs us):xs.length=us.length:=Paired.length r
theorem aqs0.get:∀ {xs:List V} {us:List Value} {i:Nat} {x:V},aqs0 xs us->xs[i]?=some x->∃ u,us[i]?=some u/\aqs3 x u
 | _,_,_,_,.nil,e=>by simp at e
 | _,_,0,_,.cons r _,e=>by simp at e; subst e; exact ⟨_,rfl,r⟩
 | _,_,i + 1,x,.cons _ t,e=>by
  obtain ⟨u,h1,h2⟩:=aqs0.get (i:=i) (x:=x) t (by simpa using e);exact ⟨u,by simpa using h1,h2⟩
theorem aqs0.set {x:V} {u:Value} (r:aqs3 x u):∀ {xs:List V} {us:List Value} (i:Nat),aqs0 xs us->aqs0 (xs.set i x) (us.set i u)
 | _,_,_,.nil=>.nil
 | _,_,0,.cons _ t=>.cons r t
 | _,_,i + 1,.cons q t=>.cons q (aqs0.set r i t)
theorem aqs0.append:∀ {xs ys:List V} {us ws:List Value},aqs0 xs us->aqs0 ys ws->aqs0 (xs++ys) (us++ws)
 | _,_,_,_,.nil,s=>s
 | _,_,_,_,.cons r t,s=>.cons r (aqs0.append t s)
theorem aqs0.take:∀ {xs:List V} {us:List Value} (n:Nat),aqs0 xs us->aqs0 (xs.take n) (us.take n)
 | _,_,0,_=>.nil
 | _,_,_ + 1,.nil=>.nil
 | _,_,n + 1,.cons r t=>.cons r (aqs0.take n t)
theorem aqs0.drop:∀ {xs:List V} {us:List Value} (n:Nat),aqs0 xs us->aqs0 (xs.drop n) (us.drop n)
 | _,_,0,r=>r
 | _,_,_ + 1,.nil=>.nil
 | _,_,n + 1,.cons _ t=>aqs0.drop n t
theorem aqs0.none_of:∀ {xs:List V} {us:List Value} {i:Nat},aqs0 xs us->xs[i]?=none->us[i]?=none:=fun {xs us i} r e=>by
 have h1:=r.length;have h2:xs.length <= i:=Fc.mp e;exact Fc.mpr (by omega)
def aqs4:Option V->Option Value->Prop
 | some v,some u=>aqs3 v u
 | none,none=>True
 | _,_=>False
def KV {κ:Type}:List (κ × V)->List (κ × Value)->Prop:=Paired fun (p:κ × V) (q:κ × Value)=>p.1=q.1/\aqs3 p.2 q.2
def kV:Key->V
 | .inl i=>.int i
 | .inr x=>.str x
inductive HO where
 | lst (xs:List V)
 | tup (xs:List V)
 | dK (kvs:List (Key × V)) | dT (kvs:List (List Key × V))
 | set (S:Int->Bool) (n:Nat)
 | ins (C dx:Addr) (fs:List (Str × V))
 | own (x:Addr)
 | xd (fs:List (Str × V))
 | met (f x:Addr)
 | rng (lo hi:Int)
 | frz (o:Obj) (u:HO)
 | tbl (ps:Array Value)
 | ext (φ:Heap->Prop)
abbrev Hp:=Addr->Option HO
def upd (H:Hp) (a:Addr) (o:HO):Hp:=fun b=>if b=a then some o else H b
theorem ac {H:Hp} {a:Addr} {o:HO}:upd H a o a=some o:=by unfold upd; rw [if_pos rfl]
theorem ah {H:Hp} {a b:Addr} {o:HO} (h:b ≠ a):upd H a o b=H b:=by unfold upd; rw [if_neg h]
theorem az1 {H:Hp} {a b:Addr} {o u:HO} (h:H a=some o) (h':H b=some u) (d:o ≠ u):a ≠ b:=by
 intro e; subst e; rw [h] at h'; exact d (Option.some.inj h')
theorem ae {H:Hp} {a b:Addr} {o:HO} (h:H a=some o) (h':H b=none):a ≠ b:=by
 intro e; subst e; rw [h] at h'; cases h'
section
variable (P:Aj) (w:World)
def axu (H:Hp) (h:Heap) (a:Addr):HO->Prop
 | .lst xs=>xs.length <= Ag/\∃ (its:List Value) (n:Nat),aqs0 xs its/\h.get? a=some { cls:=.type "list",data:=.seq its.toArray n }
 | .tup xs=>xs.length <= Ag/\∃ its:List Value,aqs0 xs its/\IsTup h a its.toArray
 | .dK kvs=>kvs.length <= Ag/\(a == By)=false/\∃ vs,KV kvs vs/\h.DictOf (aqh P w) a vs
 | .dT kvs=>kvs.length <= Ag/\(a == By)=false/\∃ xs:List (List Key × Addr × Value),
   Paired (fun (p:List Key × V) (q:List Key × Addr × Value)=>p.1=q.1/\H q.2.1=some (.tup (p.1.map kV))/\aqs3 p.2 q.2.2) kvs xs /\
   ∃ o es ep,h.get? a=some o/\o.ExactDict/\o.data=.dict es ep/\es.toList=xs.map (entryOfKey (Fu (aqh P w)))/\(xs.map (·.1)).Nodup
 | .set S n=>h.SetOf (Ck P w) a S n
 | .ins C dx fs=>H dx=some (.own a)/\fs.length <= 1000/\dx ≠ a/\h.get? a=some (Cz C dx) /\
   ∃ mA,h.Ns1 dx mA/\(∀ f,aqs4 (fs.lookup f) (mA f))/\PySem.Within mA (fs.map (·.1))
 | .own _=>∃ o,h.get? a=some o
 | .xd fs=>∃ mA,h.Ns1 a mA/\∀ f,aqs4 (fs.lookup f) (mA f)
 | .rng lo hi=>∃ t u v,h.get? a=some { cls:=.type "range",data:=.fields #[.int lo t,.int hi u,.int 1 v] }
 | .frz o u=>h.get? a=some o/\axu H h a u
 | .tbl ps=>h.get? a=some { cls:=.none,data:=.fields ps }
 | .met f x=>h.get? a=some (Ip (.ref f) (.ref x))
 | .ext φ=>φ h/\(∃ o,h.get? a=some o)/\∀ h1 h2:Heap,φ h1->(∀ o,h1.get? a=some o->h2.get? a=some o)->φ h2
def HOk (H:Hp) (h:Heap):Prop:=∀ a o,H a=some o->axu P w H h a o
end
section
variable {P:Aj} {w:World} {H H':Hp} {h h':Heap} {a:Addr} {o:HO}
theorem axu.lt (x:axu P w H h a o):a < h.objs.size:=by
 cases o with
 | lst xs=>obtain ⟨_,_,_,_,e⟩:=x; exact Af e
 | tup xs=>obtain ⟨_,_,_,p⟩:=x; exact p.lt
 | dK kvs=>obtain ⟨_,_,_,_,o,_,_,e,_⟩:=x; exact Af e
 | dT kvs=>obtain ⟨_,_,_,_,o,_,_,e,_⟩:=x; exact Af e
 | set S n=>obtain ⟨o,_,_,_,e,_⟩:=x; exact Af e
 | ins C dx fs=>obtain ⟨_,_,_,e,_⟩:=x; exact Af e
 | own y=>obtain ⟨_,e⟩:=x; exact Af e
 | xd fs=>obtain ⟨_,⟨_,_,_,e,_⟩,_⟩:=x; exact Af e
 | rng lo hi=>obtain ⟨_,_,_,e⟩:=x; exact Af e
 | frz ob u=>obtain ⟨e,_⟩:=x; exact Af e
 | tbl ps=>exact Af (show h.get? a=some _ from x)
 | met f y=>exact Af (show h.get? a=some _ from x)
 | ext φ=>obtain ⟨_,⟨_,e⟩,_⟩:=x; exact Af e
theorem Paired.mapP {α β:Type} {F G:α->β->Prop}:∀ {l₁:List α} {l₂:List β},Paired F l₁ l₂->(∀ a b,F a b->G a b)->Paired G l₁ l₂
 | _,_,.nil,_=>.nil
 | _,_,.cons r t,f=>.cons (f _ _ r) (Paired.mapP t f)
theorem axu.stay (x:axu P w H h a o) (k:∀ b u,(b=a \/ H b=some (.own a))->h.get? b=some u->h'.get? b=some u)
  (ho:∀ b,H b=some (.own a)->H' b=some (.own a)) (ht:∀ b xs,H b=some (.tup xs)->H' b=some (.tup xs)):axu P w H' h' a o:=by
 induction o with
 | lst xs=>obtain ⟨z,its,n,r,e⟩:=x; exact ⟨z,its,n,r,k _ _ (.inl rfl) e⟩
 | tup xs=>obtain ⟨z,its,r,ob,e,c⟩:=x; exact ⟨z,its,r,ob,k _ _ (.inl rfl) e,c⟩
 | dK kvs=>obtain ⟨z,y,vs,r,ob,es,ep,e,c⟩:=x; exact ⟨z,y,vs,r,ob,es,ep,k _ _ (.inl rfl) e,c⟩
 | dT kvs =>
  obtain ⟨z,y,xs,r,ob,es,ep,e,c⟩:=x;exact ⟨z,y,xs,Paired.mapP r fun p q z=>⟨z.1,ht _ _ z.2.1,z.2.2⟩,ob,es,ep,k _ _ (.inl rfl) e,c⟩
 | set S n=>obtain ⟨ob,es,ep,t,e,c⟩:=x; exact ⟨ob,es,ep,t,k _ _ (.inl rfl) e,c⟩
 | ins C dx fs =>
  obtain ⟨d,z,ne,e,mA,⟨od,es,ep,e2,c⟩,r⟩:=x;exact ⟨ho _ d,z,ne,k _ _ (.inl rfl) e,mA,⟨od,es,ep,k _ _ (.inr d) e2,c⟩,r⟩
 | own y=>obtain ⟨ob,e⟩:=x; exact ⟨ob,k _ _ (.inl rfl) e⟩
 | xd fs=>obtain ⟨mA,⟨od,es,ep,e,c⟩,r⟩:=x; exact ⟨mA,⟨od,es,ep,k _ _ (.inl rfl) e,c⟩,r⟩
 | rng lo hi=>obtain ⟨t,u,v,e⟩:=x; exact ⟨t,u,v,k _ _ (.inl rfl) e⟩
 | frz ob u ih=>obtain ⟨e,q⟩:=x; exact ⟨k _ _ (.inl rfl) e,ih q⟩
 | tbl ps =>
  have e:h.get? a=some { cls:=.none,data:=.fields ps }:=x;show h'.get? a=some { cls:=.none,data:=.fields ps };exact k a _ (.inl rfl) e
 | met f y =>
  have e:h.get? a=some (Ip (.ref f) (.ref y)):=x;show h'.get? a=some (Ip (.ref f) (.ref y));exact k a _ (.inl rfl) e
 | ext φ=>obtain ⟨p,⟨o,e⟩,st⟩:=x; exact ⟨st _ _ p fun o q=>k _ _ (.inl rfl) q,⟨o,k _ _ (.inl rfl) e⟩,st⟩
theorem HOk.lt (x:HOk P w H h) (e:H a=some o):a < h.objs.size:=(x a o e).lt
theorem HOk.fresh (x:HOk P w H h) (e:h.objs.size <= a):H a=none:=by
 cases q:H a with
 | none=>rfl
 | some u=>exact absurd (lt_of_lt_of_le (x.lt q) e) (lt_irrefl _)
theorem HOk.kept (x:HOk P w H h) (k:∀ b u,h.get? b=some u->h'.get? b=some u):HOk P w H h':=fun a o e =>
 (x a o e).stay (fun b u _ q=>k b u q) (fun _ q=>q) fun _ _ q=>q
theorem HOk.laid (x:HOk P w H h) (k:∀ b u,h.get? b=some u->h'.get? b=some u) (hp:h.objs.size <= a) (new:axu P w (upd H a o) h' a o):HOk P w (upd H a o) h':=fun b u e=>by
 have hn:=x.fresh hp
 by_cases hb:b=a
 ·subst hb; rw [ac] at e; cases e; exact new
 ·rw [ah hb] at e
  exact (x b u e).stay (fun c v _ q=>k c v q) (fun c q=>by rw [ah (ae q hn)]; exact q) fun c xs q=>by rw [ah (ae q hn)]; exact q
end
def Rd (H:Hp) (a:Addr) (u:HO):Prop:=H a=some u \/ ∃ o,H a=some (.frz o u)
theorem Rd.of {H:Hp} {a:Addr} {u:HO} (h:H a=some u):Rd H a u:=.inl h
theorem Rd.ok {P:Aj} {w:World} {H:Hp} {h:Heap} {a:Addr} {u:HO} (r:Rd H a u) (x:HOk P w H h):axu P w H h a u:=by
 rcases r with r | ⟨o,r⟩
 ·exact x a u r
 ·obtain ⟨_,q⟩:=x a _ r
  exact q
def Mut:Option HO->Prop
 | some (.lst _)=>True
 | some (.dK _)=>True
 | some (.dT _)=>True
 | some (.set _ _)=>True
 | some (.ins _ _ _)=>True
 | some (.ext _)=>True
 | _=>False
section
variable {P:Aj} {w:World} {H:Hp} {h h':Heap} {x e:Addr} {o':HO}
theorem HOk.write (ok:HOk P w H h) (mu:Mut (H x)) (he:e=x \/ H e=some (.own x)) (k:∀ b u,b ≠ e->h.get? b=some u->h'.get? b=some u) (heo:∃ u,h'.get? e=some u)
  (new:axu P w (upd H x o') h' x o'):HOk P w (upd H x o') h':=fun b u q=>by
 have nown:∀ c y,H c=some (.own y)->c ≠ x:=fun c y r z=>by subst z; rw [r] at mu; exact mu
 have ntup:∀ c xs,H c=some (.tup xs)->c ≠ x:=fun c xs r z=>by subst z; rw [r] at mu; exact mu
 by_cases hb:b=x
 ·subst hb; rw [ac] at q; cases q; exact new
 ·rw [ah hb] at q
  by_cases hbe:b=e
  ·have q':H b=some (.own x):=by
    rcases he with z | z
    ·exact absurd (hbe.trans z) hb
    ·rw [hbe]; exact z
   rw [q] at q'; cases q';obtain ⟨v,hv⟩:=heo;exact ⟨v,by rw [hbe]; exact hv⟩
  ·refine (ok b u q).stay (fun c v hc r=>k c v ?_ r) (fun c r=>by rw [ah (nown c b r)]; exact r) fun c xs r=>by rw [ah (ntup c xs r)]; exact r
   rcases hc with rfl | hc
   ·exact hbe
   ·rintro rfl
    rcases he with z | z
    ·exact nown c b hc z
    ·rw [hc] at z; cases z; exact hb rfl
end
structure Un (fs ex:List Addr) (H H':Hp) (h h':Heap):Prop where
 keep:∀ b o,h.get? b=some o->H b=none->b ∉ fs->b ∉ ex->h'.get? b=some o
 slot:∀ b o,h.get? b=some o->H b=none->b∈fs->b ∉ ex->∃ sl,h'.get? b=some { o with slots:=sl }
 free:∀ b o,h.get? b=some o->H b=none->b ∉ ex->H' b=none
 there:∀ b o,h.get? b=some o->b ∉ ex->∃ o',h'.get? b=some o'
 tups:∀ b xs,H b=some (.tup xs)->H' b=some (.tup xs)
 frzs:∀ b o u,H b=some (.frz o u)->H' b=some (.frz o u)
 tbls:∀ b ps,H b=some (.tbl ps)->∃ more,H' b=some (.tbl (ps++more))
section
variable {fs fs' ex ex':List Addr} {H H1 H2:Hp} {h h1 h2 h':Heap} {a x e:Addr} {o:HO}
theorem Un.any (u:Un fs ex H H1 h h1) {b:Addr} {ob:Obj} (q:h.get? b=some ob) (n:H b=none) (hx:b ∉ ex):∃ sl,h1.get? b=some { ob with slots:=sl }:=by
 by_cases hb:b∈fs
 ·exact u.slot b ob q n hb hx
 ·exact ⟨ob.slots,u.keep b ob q n hb hx⟩
theorem Un.trans (a:Un fs ex H H1 h h1) (b:Un fs ex H1 H2 h1 h2):Un fs ex H H2 h h2 where
 keep:=fun c ob q n hc hx=>b.keep c ob (a.keep c ob q n hc hx) (a.free c ob q n hx) hc hx
 slot:=fun c ob q n hc hx=>by
  obtain ⟨sl,e1⟩:=a.slot c ob q n hc hx;obtain ⟨sl',e2⟩:=b.slot c _ e1 (a.free c ob q n hx) hc hx;exact ⟨sl',e2⟩
 free:=fun c ob q n hx=>by
  obtain ⟨o',e1⟩:=a.there c ob q hx;exact b.free c o' e1 (a.free c ob q n hx) hx
 there:=fun c ob q hx=>by
  obtain ⟨o',e1⟩:=a.there c ob q hx;exact b.there c o' e1 hx
 tups:=fun c xs q=>b.tups c xs (a.tups c xs q)
 frzs:=fun c ob xs q=>b.frzs c ob xs (a.frzs c ob xs q)
 tbls:=fun c ps q=>by
  obtain ⟨m1,e1⟩:=a.tbls c ps q;obtain ⟨m2,e2⟩:=b.tbls c _ e1;exact ⟨m1++m2,by rw [e2,append_assoc]⟩
theorem Un.kept (k:∀ b u,h.get? b=some u->h'.get? b=some u):Un fs ex H H h h' :=
 ⟨fun b ob q _ _ _=>k b ob q,fun b ob q _ _ _=>⟨ob.slots,k b ob q⟩,fun _ _ _ n _=>n,fun b ob q _=>⟨ob,k b ob q⟩,fun _ _ q=>q,fun _ _ _ q=>q,fun _ ps q=>⟨#[],by rw [q]; simp⟩⟩
theorem Un.refl:Un fs ex H H h h:=Un.kept fun _ _ q=>q
theorem Un.laid (k:∀ b u,h.get? b=some u->h'.get? b=some u) (hp:h.objs.size <= a) (hn:H a=none):Un fs ex H (upd H a o) h h' where
 keep:=fun b u q _ _ _=>k b u q
 slot:=fun b u q _ _ _=>⟨u.slots,k b u q⟩
 free:=fun b u q n _=>by rw [ah (ne_of_lt (lt_of_lt_of_le (Af q) hp))]; exact n
 there:=fun b u q _=>⟨u,k b u q⟩
 tups:=fun b xs q=>by rw [ah (ae q hn)]; exact q
 frzs:=fun b u xs q=>by rw [ah (ae q hn)]; exact q
 tbls:=fun b ps q=>⟨#[],by rw [ah (ae q hn),q]; simp⟩
theorem Un.write (mu:Mut (H x)) (he:e=x \/ H e=some (.own x)) (k:∀ b u,b ≠ e->h.get? b=some u->h'.get? b=some u) (heo:∃ u,h'.get? e=some u):Un fs ex H (upd H x o) h h':=by
 have hx:∀ b,H b=none->b ≠ x:=fun b n z=>by subst z; rw [n] at mu; exact mu
 have hb:∀ b,H b=none->b ≠ e:=fun b n z=>by
  subst z;rcases he with r | r
  ·exact hx b n r
  ·rw [n] at r; cases r
 have hm:∀ b u,H b=some u->¬ Mut (some u)->b ≠ x:=fun b u q nm z=>by subst z; rw [q] at mu; exact nm mu
 refine ⟨fun b u q n _ _=>k b u (hb b n) q,fun b u q n _ _=>⟨u.slots,k b u (hb b n) q⟩,fun b u q n _=>by rw [ah (hx b n)]; exact n,fun b u q _=>?_,
  fun b xs q=>by rw [ah (hm b _ q fun z=>z)]; exact q,fun b u xs q=>by rw [ah (hm b _ q fun z=>z)]; exact q,fun b ps q=>⟨#[],by rw [ah (hm b _ q fun z=>z),q]; simp⟩⟩
 by_cases hbe:b=e
 ·subst hbe; exact heo
 ·exact ⟨u,k b u hbe q⟩
theorem Un.mono (u:Un fs ex H H1 h h1) (hs:∀ b∈fs,b∈fs') (hx:∀ b∈ex,b∈ex'):Un fs' ex' H H1 h h1 :=
 ⟨fun b ob q n hb he=>u.keep b ob q n (fun z=>hb (hs b z)) fun z=>he (hx b z),fun _ _ q n _ he=>u.any q n fun z=>he (hx _ z),fun b ob q n he=>u.free b ob q n fun z=>he (hx b z),fun b ob q he=>u.there b ob q fun z=>he (hx b z),u.tups,u.frzs,u.tbls⟩
end
def trk (h:Heap) (H:Hp):List Addr:=(Ax h.objs.size).filter fun a=>(H a).isSome
def hidT (h:Heap) (H:Hp):Heap:=PySem.W.hideAll h (trk h H)
theorem aqcj (h:Heap) (H:Hp):(hidT h H).objs.size=h.objs.size:=PySem.W.hideAll_size _ _
theorem aqgp {h:Heap} {H:Hp} {b:Addr} {o:Obj} (e:h.get? b=some o) (n:H b=none):(hidT h H).get? b=some o :=
 Lm _ e fun hm=>by
  have q:(H b).isSome=true:=(C0.mp hm).2;rw [n] at q; simp at q
theorem aqjf {h:Heap} {H:Hp} {b:Addr} {o:Obj} (e:(hidT h H).get? b=some o):h.get? b=some o/\H b=none:=by
 have e':h.get? b=some o:=L6 (trk h H) e;refine ⟨e',?_⟩;cases q:H b with
 | none=>rfl
 | some x =>
  have hm:b∈trk h H:=C0.mpr ⟨Bt.mpr (Af e'),by simp [q]⟩;have z:(hidT h H).get? b=none:=PySem.W.hideAll_none (trk h H) hm;rw [z] at e; cases e
def allNews (g h:Heap) (L:Addr):List (Addr × Obj):=(Ax h.objs.size).filterMap fun a=>if a=L \/ (g.get? a).isSome=true then none else (h.get? a).map fun o=>(a,o)
def aqr2 (g h:Heap) (L d:Addr):List (Addr × Obj):=(allNews g h L).filter fun p=>decide (p.1 ≠ d)
structure Mod (K:Frag) (mg:Str->Option Value) (base:Heap):Prop where
 kin:K.In base
 glob:base.Ns Am mg
 blt:∃ mb,base.Ns L7 mb/\∀ x:Str,x ≠ "__name__"->mb x=A7 x
 nolimit:base.NoLimit
structure Cx where
 prog:Aj
 w:World
 K:Frag
 mg:Str->Option Value
 base:Heap
 A:Around
 N:List Str
 s₀:Shared
 H₀:Hp
 env:Env
 outer:List Env
 stack:List Env
 ex:List Addr
 fn:Str->Bool
 calm:Bool
 pn:List (Addr × Obj)
 xe:Value->Shared->Prop
def frs (l:List Env):List Addr:=l.filterMap (·.frame)
abbrev Cx.fs (X:Cx):List Addr:=frs X.outer
def Vis (sc:Scope) (x:Str):Prop:=sc.names.lookup x=some .local \/ sc.names.lookup x=some .cell \/ sc.names.lookup x=some .free
def Loc (sc:Scope) (x:Str):Prop:=sc.names.lookup x=some .local \/ sc.names.lookup x=some .cell
def aqs9 (env:Env) (h:Heap) (m:Str->Option Value) (x:Str) (u:Value):Prop :=
 (env.kindOf x=some .local/\m x=some u) \/ ((env.kindOf x=some .cell \/ env.kindOf x=some .free)/\∃ c,env.cells.lookup x=some c/\h.IsCell c (some u))
structure Cx.Ok (X:Cx):Prop where
 mod:Mod X.K X.mg X.base
 kind:X.env.scope.kind=.function
 glob:X.env.globals=Am
 blt:X.env.builtins=L7
 above:X.s₀.heap.objs.size <= X.env.locals
 inj:∀ x y c,X.env.cells.lookup x=some c->X.env.cells.lookup y=some c->x=y
 has:∀ x,(X.env.kindOf x=some .cell \/ X.env.kindOf x=some .free)->∃ c,X.env.cells.lookup x=some c
 cab:∀ x c,X.fn x=true->X.env.cells.lookup x=some c->X.s₀.heap.objs.size <= c
 hd:X.calm=true->X.A.handled=none
 frames:X.A.frames=some X.stack
 stk:X.stack=X.outer \/ (X.stack=X.env :: X.outer/\X.env.frame=some X.env.locals)
 exf:∀ b∈X.ex,b ≠ X.env.locals/\∀ x c,X.env.cells.lookup x=some c->c ≠ b
 bs:∀ b o,X.base.get? b=some o->X.s₀.heap.get? b=some o/\X.H₀ b=none
 bsz:X.base.objs.size <= X.s₀.heap.objs.size
 noex:∀ b o,X.base.get? b=some o->b ∉ X.ex
 exfs:∀ b∈X.ex,b ∉ X.fs
 funs:X.s₀.heap.FunFrames X.base X.outer
 frf:∀ b∈X.fs,X.H₀ b=none
structure Inv (X:Cx) (pins:List (Addr × Obj)) (σ:List (Option V)) (H:Hp) (s:Shared):Prop where
 ok:X.Ok
 os:s.os=X.s₀.os
 bare:Gx s.gens
 base:Un X.fs X.ex X.H₀ H X.s₀.heap s.heap
 loc:∃ m,s.heap.Ns X.env.locals m/\∀ (i:Nat) (x:Str) (v:V),X.N[i]?=some x->σ[i]?=some (some v)->Vis X.env.scope x->∃ u,aqs3 v u/\aqs9 X.env s.heap m x u
 cell:∀ x c,X.env.cells.lookup x=some c->∃ v,s.heap.IsCell c v
 free:H X.env.locals=none
 freeC:∀ x c,X.env.cells.lookup x=some c->H c=none
 pin:∀ p∈X.pn++pins,s.heap.get? p.1=some p.2/\H p.1=none/\p.1 ≠ X.env.locals/\p.1 ∉ X.fs/\∀ v,p.2.data ≠ .cell v
 hok:HOk X.prog X.w H s.heap
 len:σ.length=X.N.length
section
variable {X:Cx} {pins:List (Addr × Obj)} {σ:List (Option V)} {H H':Hp} {s:Shared} {h':Heap}
theorem Cx.Ok.nofr (ok:X.Ok) {b:Addr} {o:Obj} (e:X.base.get? b=some o):b ∉ X.fs:=fun hb=>by
 have:=(ok.funs.mem hb).1
 rw [e] at this; cases this
theorem Inv.bs (I:Inv X pins σ H s):∀ b o,X.base.get? b=some o->s.heap.get? b=some o/\H b=none:=fun b o e =>
 ⟨I.base.keep b o (I.ok.bs b o e).1 (I.ok.bs b o e).2 (I.ok.nofr e) (I.ok.noex b o e),I.base.free b o (I.ok.bs b o e).1 (I.ok.bs b o e).2 (I.ok.noex b o e)⟩
theorem Inv.bk (I:Inv X pins σ H s):∀ b o,X.base.get? b=some o->s.heap.get? b=some o:=fun b o e=>(I.bs b o e).1
theorem Inv.mod (I:Inv X pins σ H s):Mod X.K X.mg X.base:=I.ok.mod
theorem Inv.kIn (I:Inv X pins σ H s):X.K.In s.heap:=I.ok.mod.kin.keeps I.bk
theorem Inv.nolimit (I:Inv X pins σ H s):s.heap.NoLimit:=I.ok.mod.nolimit.keeps I.bk
theorem Inv.lt (I:Inv X pins σ H s):X.env.locals < s.heap.objs.size:=let ⟨_,hn,_⟩:=I.loc; hn.lt
theorem Inv.sz (I:Inv X pins σ H s):X.s₀.heap.objs.size <= s.heap.objs.size:=le_trans I.ok.above (le_of_lt I.lt)
theorem Inv.nofs (I:Inv X pins σ H s) {a:Addr} (h:s.heap.objs.size <= a):a ∉ X.fs:=fun hb=>by
 obtain ⟨_,o,ho,_⟩:=I.ok.funs.mem hb;exact absurd (lt_of_lt_of_le (Af ho) (le_trans I.sz h)) (lt_irrefl _)
theorem Inv.cne (I:Inv X pins σ H s):∀ x c,X.env.cells.lookup x=some c->c ≠ X.env.locals:=fun x c e z=>by
 obtain ⟨v,o,ho,hd⟩:=I.cell x c e;obtain ⟨m,⟨o',es,ep,ho',hd',_⟩,_⟩:=I.loc;rw [z,ho'] at ho; cases ho; rw [hd'] at hd; cases hd
theorem Inv.funs (I:Inv X pins σ H s):s.heap.FunFrames X.base X.outer:=by
 have all:∀ (l:List Env),(∀ b∈frs l,b∈X.fs)->X.s₀.heap.FunFrames X.base l->s.heap.FunFrames X.base l:=by
  intro l
  induction l with
  | nil=>intro _ _; trivial
  | cons env r ih =>
   intro hs hl;obtain ⟨hk,⟨L,o,hf,hn,ho,hd⟩,hr⟩:=hl;have hL:L∈X.fs:=hs L (by unfold frs; rw [filterMap_cons,hf]; exact mem_cons_self);obtain ⟨sl,e⟩:=I.base.slot L o ho (I.ok.frf L hL) hL fun z=>I.ok.exfs L z hL;exact ⟨hk,⟨L,_,hf,hn,e,hd⟩,ih (fun b hb=>hs b (by unfold frs; rw [filterMap_cons,hf]; exact mem_cons_of_mem _ hb)) hr⟩
 exact all X.outer (fun _ hb=>hb) I.ok.funs
theorem Inv.stack (I:Inv X pins σ H s):s.heap.FunFrames X.base X.stack:=by
 rcases I.ok.stk with e | ⟨e,hf⟩
 ·rw [e]; exact I.funs
 ·rw [e]
  obtain ⟨m,hn,_⟩:=I.loc;refine .cons (by rw [I.ok.kind]; decide) hf hn ?_ I.funs;exact Heap.get?_none_of_le (le_trans I.ok.bsz I.ok.above)
theorem Inv.stkSub (I:Inv X pins σ H s):∀ b∈frs X.stack,b∈X.env.locals :: X.fs:=fun b hb=>by
 rcases I.ok.stk with e | ⟨e,hf⟩
 ·rw [e] at hb; exact mem_cons_of_mem _ hb
 ·rw [e] at hb
  unfold frs at hb;rw [filterMap_cons,hf] at hb;exact hb
theorem Inv.stkFree (I:Inv X pins σ H s):∀ b∈frs X.stack,H b=none:=fun b hb=>by
 rcases Ao.mp (I.stkSub b hb) with e | hb
 ·rw [e]; exact I.free
 ·obtain ⟨_,o,ho,_⟩:=I.ok.funs.mem hb
  exact I.base.free b o ho (I.ok.frf b hb) fun z=>I.ok.exfs b z hb
theorem Inv.step {g':Array Ny} {t':Nat} {d':Drawn} {ch:List Addr} (I:Inv X pins σ H s)
  (hch:∀ b∈ch,(b∈X.ex \/ X.s₀.heap.objs.size <= b)/\b ≠ X.env.locals/\(∀ x c,X.env.cells.lookup x=some c->c ≠ b)/\∀ p∈X.pn++pins,p.1 ≠ b)
  (keep:∀ b o,b ≠ X.env.locals->b ∉ X.fs->b ∉ ch->s.heap.get? b=some o->H b=none->h'.get? b=some o)
  (slot:∀ b o,b ≠ X.env.locals->b∈X.fs->b ∉ ch->s.heap.get? b=some o->H b=none->∃ sl,h'.get? b=some { o with slots:=sl }) (free:∀ b o,b ∉ ch->s.heap.get? b=some o->H b=none->H' b=none)
  (there:∀ b o,b ∉ ch->s.heap.get? b=some o->∃ o',h'.get? b=some o')
  (tups:∀ b xs,H b=some (.tup xs)->H' b=some (.tup xs)) (frzs:∀ b o u,H b=some (.frz o u)->H' b=some (.frz o u)) (tbls:∀ b ps,H b=some (.tbl ps)->∃ more,H' b=some (.tbl (ps++more)))
  (ns:∀ m,s.heap.Ns X.env.locals m->h'.Ns X.env.locals m) (hok:HOk X.prog X.w H' h') (hg:Gx g') :
  Inv X pins σ H' { s with heap:=h',gens:=g',drawn:=d',toks:=t' }:=by
 have neL:∀ b o,X.s₀.heap.get? b=some o->b ≠ X.env.locals:=fun b o e=>ne_of_lt (lt_of_lt_of_le (Af e) I.ok.above);have neC:∀ b o,X.s₀.heap.get? b=some o->b ∉ X.ex->b ∉ ch:=fun b o e hx hb=>by
  rcases (hch b hb).1 with z | z
  ·exact hx z
  ·exact absurd (lt_of_lt_of_le (Af e) z) (lt_irrefl _)
 have cellK:∀ x c,X.env.cells.lookup x=some c->∀ v,s.heap.IsCell c v->h'.IsCell c v:=fun x c e v ⟨o,ho,hd⟩=>by
  have nch:c ∉ ch:=fun z=>(hch c z).2.2.1 x c e rfl
  by_cases hc:c∈X.fs
  ·obtain ⟨sl,q⟩:=slot c o (I.cne x c e) hc nch ho (I.freeC x c e)
   exact ⟨_,q,hd⟩
  ·exact ⟨o,keep c o (I.cne x c e) hc nch ho (I.freeC x c e),hd⟩
 refine ⟨I.ok,I.os,hg,⟨fun b o e n hb hx=>?_,fun b o e n hb hx=>?_,fun b o e n hx=>?_,fun b o e hx=>?_,fun b xs e=>tups b xs (I.base.tups b xs e),fun b o xs e=>frzs b o xs (I.base.frzs b o xs e),fun b ps e=>?_⟩,?_,fun x c e=>?_,?_,fun x c e=>?_,fun p hp=>?_,hok,I.len⟩
 ·exact keep b o (neL b o e) hb (neC b o e hx) (I.base.keep b o e n hb hx) (I.base.free b o e n hx)
 ·obtain ⟨sl,e1⟩:=I.base.slot b o e n hb hx
  obtain ⟨sl',e2⟩:=slot b _ (neL b o e) hb (neC b o e hx) e1 (I.base.free b o e n hx);exact ⟨sl',e2⟩
 ·obtain ⟨o',e1⟩:=I.base.there b o e hx
  exact free b o' (neC b o e hx) e1 (I.base.free b o e n hx)
 ·obtain ⟨o',e1⟩:=I.base.there b o e hx
  exact there b o' (neC b o e hx) e1
 ·obtain ⟨m1,e1⟩:=I.base.tbls b ps e
  obtain ⟨m2,e2⟩:=tbls b _ e1;exact ⟨m1++m2,by rw [e2,append_assoc]⟩
 ·obtain ⟨m,hn,hl⟩:=I.loc
  refine ⟨m,ns m hn,fun i x v e1 e2 e3=>?_⟩;obtain ⟨u,r,l⟩:=hl i x v e1 e2 e3;refine ⟨u,r,?_⟩;rcases l with l | ⟨k,c,e,z⟩
  ·exact .inl l
  ·exact .inr ⟨k,c,e,cellK x c e _ z⟩
 ·obtain ⟨v,z⟩:=I.cell x c e
  exact ⟨v,cellK x c e v z⟩
 ·obtain ⟨m,⟨o,_,_,ho,_⟩,_⟩:=I.loc
  exact free _ o (fun z=>(hch _ z).2.1 rfl) ho I.free
 ·obtain ⟨v,o,ho,hd⟩:=I.cell x c e
  exact free c o (fun z=>(hch c z).2.2.1 x c e rfl) ho (I.freeC x c e)
 ·obtain ⟨e,n,ne,nf,d⟩:=I.pin p hp
  have nch:p.1 ∉ ch:=fun z=>(hch p.1 z).2.2.2 p hp rfl;exact ⟨keep p.1 p.2 ne nf nch e n,free p.1 p.2 nch e n,ne,nf,d⟩
theorem Inv.un {t':Nat} (I:Inv X pins σ H s) (u:Un X.fs [] H H' s.heap h') (hok:HOk X.prog X.w H' h'):Inv X pins σ H' { s with heap:=h',toks:=t' }:=by
 obtain ⟨m,⟨o,es,ep,ho,r⟩,_⟩:=id I.loc;obtain ⟨sl,hL⟩:=u.any ho I.free (by simp);exact I.step (g':=s.gens) (d':=s.drawn) (ch:=[]) (fun _ z=>nomatch z) (fun b o _ hb _ e n=>u.keep b o e n hb (by simp)) (fun b o _ hb _ e n=>u.slot b o e n hb (by simp)) (fun b o _ e n=>u.free b o e n (by simp)) (fun b o _ e=>u.there b o e (by simp)) u.tups u.frzs u.tbls (fun m' hm=>by
  obtain ⟨o',es',ep',ho',r'⟩:=hm;rw [ho] at ho'; cases ho';exact ⟨_,es',ep',hL,r'⟩) hok I.bare
theorem Inv.call {g':Array Ny} {t':Nat} {d':Drawn} {ch:List Addr} (I:Inv X pins σ H s) (u:Un (frs X.stack) ch H H' s.heap h') (hok:HOk X.prog X.w H' h') (hg:Gx g')
  (hch:∀ b∈ch,(b∈X.ex \/ X.s₀.heap.objs.size <= b)/\b ≠ X.env.locals/\(∀ x c,X.env.cells.lookup x=some c->c ≠ b)/\∀ p∈X.pn++pins,p.1 ≠ b) :
  Inv X pins σ H' { s with heap:=h',gens:=g',drawn:=d',toks:=t' }:=by
 obtain ⟨m,⟨o,es,ep,ho,r⟩,_⟩:=id I.loc;obtain ⟨sl,hL⟩:=u.any ho I.free fun z=>(hch _ z).2.1 rfl;exact I.step (ch:=ch) hch (fun b o hL hb hc e n=>u.keep b o e n (fun z=>(Ao.mp (I.stkSub b z)).elim hL hb) hc) (fun b o _ _ hc e n=>u.any e n hc) (fun b o hc e n=>u.free b o e n hc) (fun b o hc e=>u.there b o e hc) u.tups u.frzs u.tbls (fun m' hm=>by
  obtain ⟨o',es',ep',ho',r'⟩:=hm;rw [ho] at ho'; cases ho';exact ⟨_,es',ep',hL,r'⟩) hok hg
theorem Inv.turned {t':Nat} {it:Addr} (I:Inv X pins σ H s) (k:∀ b o,b ≠ it->s.heap.get? b=some o->h'.get? b=some o) (hn:H it=none) (hL:it ≠ X.env.locals)
  (h1:it∈X.ex \/ X.s₀.heap.objs.size <= it) (h2:∀ x c,X.env.cells.lookup x=some c->c ≠ it) (h3:∀ p∈X.pn++pins,p.1 ≠ it):Inv X pins σ H { s with heap:=h',toks:=t' }:=by
 have nit:∀ b u,H b=some u->b ≠ it:=fun b u e z=>by rw [z,hn] at e; cases e
 refine I.step (g':=s.gens) (d':=s.drawn) (ch:=[it]) (fun b hb=>?_) (fun b o _ _ hc e _=>k b o (fun z=>hc (by simp [z])) e) (fun b o _ _ hc e _=>⟨o.slots,k b o (fun z=>hc (by simp [z])) e⟩) (fun _ _ _ _ n=>n)
  (fun b o hc e=>⟨o,k b o (fun z=>hc (by simp [z])) e⟩) (fun _ _ e=>e) (fun _ _ _ e=>e) (fun b ps e=>⟨#[],by rw [e]; simp⟩) (fun m hm=>?_) (fun b u e=>?_) I.bare
 ·have e:b=it:=by simpa using hb
  subst e;exact ⟨h1,hL,h2,h3⟩
 ·obtain ⟨o,es,ep,ho,r⟩:=hm
  exact ⟨o,es,ep,k _ o (Bw hL) ho,r⟩
 ·refine (I.hok b u e).stay (fun c v hc q=>k c v ?_ q) (fun _ q=>q) fun _ _ q=>q
  rcases hc with z | z
  ·rw [z]; exact nit b u e
  ·exact nit c _ z
theorem Inv.tok (I:Inv X pins σ H s) (t:Nat):Inv X pins σ H { s with toks:=t }:=I.un (h':=s.heap) (t':=t) Un.refl I.hok
theorem Inv.kept {t':Nat} (I:Inv X pins σ H s) (k:∀ b u,s.heap.get? b=some u->h'.get? b=some u):Inv X pins σ H { s with heap:=h',toks:=t' }:=I.un (Un.kept k) (I.hok.kept k)
theorem Inv.laid {a:Addr} {o:HO} {t':Nat} (I:Inv X pins σ H s) (k:∀ b u,s.heap.get? b=some u->h'.get? b=some u) (hp:s.heap.objs.size <= a) (new:axu X.prog X.w (upd H a o) h' a o) :
  Inv X pins σ (upd H a o) { s with heap:=h',toks:=t' }:=I.un (Un.laid k hp (I.hok.fresh hp)) (I.hok.laid k hp new)
theorem Inv.write {x e:Addr} {o:HO} {t':Nat} (I:Inv X pins σ H s) (mu:Mut (H x)) (he:e=x \/ H e=some (.own x)) (k:∀ b u,b ≠ e->s.heap.get? b=some u->h'.get? b=some u) (heo:∃ u,h'.get? e=some u)
  (new:axu X.prog X.w (upd H x o) h' x o):Inv X pins σ (upd H x o) { s with heap:=h',toks:=t' }:=I.un (Un.write mu he k heo) (I.hok.write mu he k heo new)
theorem Inv.pins_of {pins':List (Addr × Obj)} (I:Inv X pins σ H s) (h:∀ p∈pins',s.heap.get? p.1=some p.2/\H p.1=none/\p.1 ≠ X.env.locals/\p.1 ∉ X.fs/\∀ v,p.2.data ≠ .cell v):Inv X pins' σ H s :=
 ⟨I.ok,I.os,I.bare,I.base,I.loc,I.cell,I.free,I.freeC,fun p hp=>(Fk.mp hp).elim (fun z=>I.pin p (mem_append_left _ z)) (h p),I.hok,I.len⟩
theorem aXp {N:List Str} (hN:N.Nodup) {i j:Nat} {x:Str} (a:N[i]?=some x) (b:N[j]?=some x):i=j:=by
 obtain ⟨h1,e1⟩:=Ai.mp a;obtain ⟨h2,e2⟩:=Ai.mp b;exact (getElem_inj hN).mp (e1.trans e2.symm)
theorem aZj {M:Model} {A:Around} {E:Value->Shared->Prop} {i:Nat} {x:Str} {v:V} {u:Value} {Q:Unit->Shared->Prop} (I:Inv X pins σ H s) (hN:X.N.Nodup) (hi:X.N[i]?=some x) (hx:Loc X.env.scope x) (r:aqs3 v u)
  (h:∀ s',Inv X pins (σ.set i (some v)) H s'->(∃ a,Heap.SameBut a s.heap s'.heap/\(a=X.env.locals \/ X.env.cells.lookup x=some a))->Q () s') (hf:X.fn x=true \/ X.env.scope.names.lookup x=some .local:=by first | exact .inl rfl | exact .inr rfl | assumption):wpAny M A (storeName X.env x u) Q E s:=by
 obtain ⟨m,hn,hl⟩:=id I.loc;have hcls:(X.env.scope.kind == .class || (X.env.scope.kind == .module && X.env.locals != X.env.globals))=false:=by rw [I.ok.kind]; rfl
 have hiσ:i < σ.length:=by rw [I.len]; exact (Ai.mp hi).1
 have cne:=I.cne;have tracked:∀ {a:Addr} {h':Heap},(∃ o,s.heap.get? a=some o/\H a=none)->Heap.SameBut a s.heap h'->HOk X.prog X.w H h':=fun {a h'} ha hs b ob e=>by
  obtain ⟨_,_,hfree⟩:=ha;refine (I.hok b ob e).stay (fun c w' hc q=>(hs.2 c ?_).trans q) (fun _ q=>q) fun _ _ q=>q;rintro rfl;rcases hc with rfl | hc
  ·rw [hfree] at e; cases e
  ·rw [hfree] at hc; cases hc
 rcases hx with hk | hk
 ·refine wpAny_storeName_local hk hn (fun h' hn' hs=>?_) hcls
  obtain ⟨oL,_,_,hoL,_⟩:=id hn;refine h _ ⟨I.ok,I.os,I.bare,⟨fun b o e n hb hx=>?_,fun b o e n hb hx=>?_,I.base.free,fun b o e hx=>?_,I.base.tups,I.base.frzs,I.base.tbls⟩,⟨_,hn',fun j y v' e1 e2 e3=>?_⟩,fun y c e=>?_,I.free,I.freeC,fun p hp=>?_,tracked ⟨oL,hoL,I.free⟩ hs,by simpa using I.len⟩ ⟨_,hs,.inl rfl⟩
  ·exact (hs.2 b (ne_of_lt (lt_of_lt_of_le (Af e) I.ok.above))).trans (I.base.keep b o e n hb hx)
  ·obtain ⟨sl,e1⟩:=I.base.slot b o e n hb hx
   exact ⟨sl,(hs.2 b (ne_of_lt (lt_of_lt_of_le (Af e) I.ok.above))).trans e1⟩
  ·obtain ⟨o',e1⟩:=I.base.there b o e hx
   exact ⟨o',(hs.2 b (ne_of_lt (lt_of_lt_of_le (Af e) I.ok.above))).trans e1⟩
  ·by_cases hj:j=i
   ·subst hj
    rw [hi] at e1; cases e1;rw [getElem?_set_self hiσ] at e2;cases e2;exact ⟨u,r,.inl ⟨hk,by simp⟩⟩
   ·rw [getElem?_set_ne (Bw hj)] at e2
    obtain ⟨u',r',q⟩:=hl j y v' e1 e2 e3;refine ⟨u',r',?_⟩;rcases q with ⟨k,e⟩ | ⟨k,c,e,z⟩
    ·refine .inl ⟨k,?_⟩
     have:y ≠ x:=fun e=>hj (aXp hN e1 (e ▸ hi))
     simp [this,e]
    ·exact .inr ⟨k,c,e,z.sameBut hs (cne y c e)⟩
  ·obtain ⟨w',z⟩:=I.cell y c e
   exact ⟨w',z.sameBut hs (cne y c e)⟩
  ·obtain ⟨e,n,ne,nf,d⟩:=I.pin p hp
   exact ⟨(hs.2 p.1 ne).trans e,n,ne,nf,d⟩
 ·have hfn:X.fn x=true:=by
   rcases hf with z | z
   ·exact z
   ·rw [z] at hk; cases hk
  obtain ⟨c,hc⟩:=I.ok.has x (.inl hk);obtain ⟨w',z⟩:=I.cell x c hc;refine wpAny_storeName_cell I.ok.kind hk hc z (fun h' hc' hs=>?_);obtain ⟨oc,hoc,hocd⟩:=id z;refine h { s with heap:=h' } ⟨I.ok,I.os,I.bare,⟨fun b o e n hb hx=>?_,fun b o e n hb hx=>?_,I.base.free,fun b o e hx=>?_,I.base.tups,I.base.frzs,I.base.tbls⟩,⟨m,hn.sameBut hs (Bw (cne x c hc)),fun j y v' e1 e2 e3=>?_⟩,fun y c' e=>?_,I.free,I.freeC,fun p hp=>?_,tracked ⟨oc,hoc,I.freeC x c hc⟩ hs,by simpa using I.len⟩ ⟨c,hs,.inr hc⟩
  ·exact (hs.2 b (ne_of_lt (lt_of_lt_of_le (Af e) (I.ok.cab x c hfn hc)))).trans (I.base.keep b o e n hb hx)
  ·obtain ⟨sl,e1⟩:=I.base.slot b o e n hb hx
   exact ⟨sl,(hs.2 b (ne_of_lt (lt_of_lt_of_le (Af e) (I.ok.cab x c hfn hc)))).trans e1⟩
  ·obtain ⟨o',e1⟩:=I.base.there b o e hx
   exact ⟨o',(hs.2 b (ne_of_lt (lt_of_lt_of_le (Af e) (I.ok.cab x c hfn hc)))).trans e1⟩
  ·by_cases hj:j=i
   ·subst hj
    rw [hi] at e1; cases e1;rw [getElem?_set_self hiσ] at e2;cases e2;exact ⟨u,r,.inr ⟨.inl hk,c,hc,hc'⟩⟩
   ·rw [getElem?_set_ne (Bw hj)] at e2
    obtain ⟨u',r',q⟩:=hl j y v' e1 e2 e3;refine ⟨u',r',?_⟩;rcases q with q | ⟨k,c',e,z'⟩
    ·exact .inl q
    ·refine .inr ⟨k,c',e,z'.sameBut hs ?_⟩
     rintro rfl;exact hj (aXp hN e1 (I.ok.inj _ _ _ e hc ▸ hi))
  ·by_cases hcc:c'=c
   ·subst hcc; exact ⟨_,hc'⟩
   ·obtain ⟨w2,z2⟩:=I.cell y c' e
    exact ⟨w2,z2.sameBut hs hcc⟩
  ·obtain ⟨e,n,ne,nf,d⟩:=I.pin p hp
   refine ⟨(hs.2 p.1 ?_).trans e,n,ne,nf,d⟩;intro q;rw [q,hoc] at e;have q':oc=p.2:=Option.some.inj e;exact d w' (by rw [<- q']; exact hocd)
theorem aJy {M:Model} {A:Around} {E:Value->Shared->Prop} {i:Nat} {x:Str} {v:V} {u:Value} {Q:Unit->Shared->Prop} (I:Inv X pins σ H s) (hN:X.N.Nodup) (hi:X.N[i]?=some x) (hx:Loc X.env.scope x) (r:aqs3 v u)
  (h:∀ s',Inv X pins (σ.set i (some v)) H s'->Q () s') (hf:X.fn x=true \/ X.env.scope.names.lookup x=some .local:=by first | exact .inl rfl | exact .inr rfl | assumption):wpAny M A (storeName X.env x u) Q E s :=
 aZj I hN hi hx r (fun s' I' _=>h s' I') hf
theorem Inv.call' {s':Shared} {ch:List Addr} (I:Inv X pins σ H s) (ho:s'.os=s.os) (u:Un (frs X.stack) ch H H' s.heap s'.heap) (hok:HOk X.prog X.w H' s'.heap) (hg:Gx s'.gens)
  (hch:∀ b∈ch,(b∈X.ex \/ X.s₀.heap.objs.size <= b)/\b ≠ X.env.locals/\(∀ x c,X.env.cells.lookup x=some c->c ≠ b)/\∀ p∈X.pn++pins,p.1 ≠ b):Inv X pins σ H' s':=by
 obtain ⟨h',g',d',t',o'⟩:=s';have e:o'=s.os:=ho;subst e;exact I.call (g':=g') (t':=t') (d':=d') u hok hg hch
end
abbrev XK:=Value->Option Addr->Hp->Prop
abbrev St:=List (Option V)
abbrev VK:=V->Hp->Prop
abbrev TE:=St->Hp->VK->Prop
abbrev TT:=St->Hp->(Bool->Hp->Prop)->Prop
abbrev TA:=St->Hp->(List V->Hp->Prop)->Prop
structure Ends where
 nx:St->Hp->Prop
 rt:VK
 bk:St->Hp->Prop:=fun _ _=>False
 ct:St->Hp->Prop:=fun _ _=>False
abbrev TS:=Ends->St->Hp->Prop
def EP (X:Cx) (pins:List (Addr × Obj)) (σ:St) (Q:VK) (u:Value) (s':Shared):Prop:=∃ v H',Inv X pins σ H' s'/\aqs3 v u/\Q v H'
def TP (X:Cx) (pins:List (Addr × Obj)) (σ:St) (Q:Bool->Hp->Prop) (b:Bool) (s':Shared):Prop:=∃ H',Inv X pins σ H' s'/\Q b H'
def AP (X:Cx) (pins:List (Addr × Obj)) (σ:St) (Q:List V->Hp->Prop) (us:List Value) (s':Shared):Prop:=∃ vs H',Inv X pins σ H' s'/\aqs0 vs us/\Q vs H'
def SP (X:Cx) (pins:List (Addr × Obj)) (D:Ends) (f:Flow) (s':Shared):Prop :=
 match f with
 | .next=>∃ σ' H',Inv X pins σ' H' s'/\D.nx σ' H'
 | .brk=>∃ σ' H',Inv X pins σ' H' s'/\D.bk σ' H'
 | .cont=>∃ σ' H',Inv X pins σ' H' s'/\D.ct σ' H'
 | .ret u=>∃ v σ' H',Inv X pins σ' H' s'/\aqs3 v u/\D.rt v H'
def PE (X:Cx) (e:Expr) (t:TE):Prop :=
 ∀ (pins:List (Addr × Obj)) (s:Shared) (σ:St) (H:Hp) (Q:VK),Inv X pins σ H s->t σ H Q->wpAny (model X.prog X.w) X.A (eval e X.env) (EP X pins σ Q) X.xe s
def PT (X:Cx) (e:Expr) (t:TT):Prop :=
 ∀ (pins:List (Addr × Obj)) (s:Shared) (σ:St) (H:Hp) (Q:Bool->Hp->Prop),Inv X pins σ H s->t σ H Q->wpAny (model X.prog X.w) X.A (Nz e X.env (eval e X.env)) (TP X pins σ Q) X.xe s
def PW (X:Cx) (e:Expr) (t:TT):Prop :=
 ∀ (whole:Sem Value) (pins:List (Addr × Obj)) (s:Shared) (σ:St) (H:Hp) (Q:Bool->Hp->Prop),Inv X pins σ H s->t σ H Q->wpAny (model X.prog X.w) X.A (Nz e X.env whole) (TP X pins σ Q) X.xe s
theorem PW.pt {X:Cx} {e:Expr} {t:TT} (h:PW X e t):PT X e t:=h _
def PA (X:Cx) (es:List Expr) (t:TA):Prop :=
 ∀ (pos:Pos) (pins:List (Addr × Obj)) (s:Shared) (σ:St) (H:Hp) (Q:List V->Hp->Prop),Inv X pins σ H s->t σ H Q->wpAny (model X.prog X.w) X.A (spliced (C2 pos (Ap es X.env))) (AP X pins σ Q) X.xe s
def PS (X:Cx) (st:Stmt) (t:TS):Prop :=
 ∀ (pins:List (Addr × Obj)) (s:Shared) (σ:St) (H:Hp) (D:Ends),Inv X pins σ H s->t D σ H->wpAny (model X.prog X.w) X.A (exec st X.env) (SP X pins D) X.xe s
def PSs (X:Cx) (st:List Stmt) (t:TS):Prop :=
 ∀ (pins:List (Addr × Obj)) (s:Shared) (σ:St) (H:Hp) (D:Ends),Inv X pins σ H s->t D σ H->wpAny (model X.prog X.w) X.A (execs st X.env) (SP X pins D) X.xe s
theorem thn {α:Type} {t:Sem α} {Q Q':α->Shared->Prop} {M:Model} {A:Around} {E:Value->Shared->Prop} {s:Shared} (h:wpAny M A t Q E s) (hQ:∀ a s,Q a s->Q' a s):wpAny M A t Q' E s:=A9 h hQ fun _ _ x=>x
section
variable {X:Cx}
def aqqv (i:Nat):TE:=fun σ H Q=>∃ v,σ[i]?=some (some v)/\Q v H
def tC (v:V):TE:=fun _ H Q=>Q v H
theorem aqmg {i:Nat} {x:Str} {pos:Pos} (hN:X.N[i]?=some x) (hv:Vis X.env.scope x) (hd:(x == ("__debug__":Str))=false:=by decide) (hcd:(x == ("__classdict__":Str))=false:=by decide):PE X (.Name x pos) (aqqv i):=by
 intro pins s σ H Q I h;obtain ⟨v,e,h⟩:=h;obtain ⟨m,hn,hl⟩:=I.loc;obtain ⟨u,r,l⟩:=hl i x v hN e hv;have fin:EP X pins σ Q u s:=⟨v,H,I,r,h⟩;rcases l with ⟨hk,hm⟩ | ⟨hk,c,hc,hcell⟩
 ·exact wpAny_Name (wpAny_loadName_local I.ok.kind hk hn hm fin) hd
 ·rcases hk with hk | hk
  ·exact wpAny_Name (wpAny_loadName_cell I.ok.kind hk hc hcell fin) hd
  ·exact wpAny_Name (wpAny_loadName_free I.ok.kind hk hc hcell fin hcd) hd
theorem aq {i j pos}:PE X (.Constant (.int i) j pos) (tC (.int i)):=fun _ _ _ H _ I h=>wpAny_Constant_int ⟨.int i,H,I.tok _,⟨_,rfl⟩,h⟩
theorem ak7 {b j pos}:PE X (.Constant (.bool b) j pos) (tC (.bl b)):=fun _ _ _ H _ I h=>Constant_bool ⟨.bl b,H,I,rfl,h⟩
theorem aV4 {j pos}:PE X (.Constant .none j pos) (tC .non):=fun _ _ _ H _ I h=>Constant_none ⟨.non,H,I,rfl,h⟩
theorem ar {x j pos}:PE X (.Constant (.str x) j pos) (tC (.str x)):=fun _ _ _ H _ I h=>Calls.Constant_str ⟨.str x,H,I.tok _,⟨_,rfl⟩,h⟩
def Gl (X:Cx) (x:Str):Prop:=X.env.kindOf x=some .globalImplicit
theorem az5 {E:Value->Shared->Prop} {pins:List (Addr × Obj)} {s:Shared} {σ:St} {H:Hp} {x:Str} {u:Value} {pos:Pos} {Q:Value->Shared->Prop} (I:Inv X pins σ H s) (hg:Gl X x) (hm:X.mg x=some u) (h:Q u s)
  (hd:(x == ("__debug__":Str))=false:=by decide):wpAny (model X.prog X.w) X.A (eval (.Name x pos) X.env) Q E s :=
 Hy I.ok.kind hg (Calls.loadGlobal_global (by rw [I.ok.glob]; exact I.mod.glob.keeps I.bk) hm h) hd
theorem aQc {E:Value->Shared->Prop} {pins:List (Addr × Obj)} {s:Shared} {σ:St} {H:Hp} {x:Str} {u:Value} {pos:Pos} {Q:Value->Shared->Prop} (I:Inv X pins σ H s) (hg:Gl X x) (hm:X.mg x=none) (hv:A7 x=some u) (h:Q u s)
  (hn:x ≠ "__name__":=by decide) (hd:(x == ("__debug__":Str))=false:=by decide):wpAny (model X.prog X.w) X.A (eval (.Name x pos) X.env) Q E s:=by
 obtain ⟨mb,h1,h2⟩:=I.mod.blt;exact Hy I.ok.kind hg (Calls.loadGlobal_builtin (by rw [I.ok.glob]; exact I.mod.glob.keeps I.bk) hm (by rw [I.ok.blt]; exact h1.keeps I.bk) ((h2 x hn).trans hv) h) hd
theorem aW4 {x:Str} {v:V} {u:Value} {pos:Pos} (hg:Gl X x) (hm:X.mg x=some u) (r:aqs3 v u) (hd:(x == ("__debug__":Str))=false:=by decide):PE X (.Name x pos) (tC v) :=
 fun _ _ _ H _ I h=>az5 I hg hm ⟨v,H,I,r,h⟩ hd
theorem aqix {x:Str} {v:V} {u:Value} {pos:Pos} (hg:Gl X x) (hm:X.mg x=none) (hv:A7 x=some u) (r:aqs3 v u) (hn:x ≠ "__name__":=by decide) (hd:(x == ("__debug__":Str))=false:=by decide):PE X (.Name x pos) (tC v) :=
 fun _ _ _ H _ I h=>aQc I hg hm hv ⟨v,H,I,r,h⟩ hn hd
variable {a b:Expr} {ta tb:TE} {pos:Pos}
def PC (X:Cx) (op:CmpOp) (a b:Expr) (t:TE):Prop :=
 ∀ (pins:List (Addr × Obj)) (s:Shared) (σ:St) (H:Hp) (Q:VK),Inv X pins σ H s->t σ H Q ->
  wpAny (model X.prog X.w) X.A (eval a X.env) (fun v s₁=>wpAny (model X.prog X.w) X.A (eval b X.env) (fun u s₂=>wpAny (model X.prog X.w) X.A (Bn op v u) (EP X pins σ Q) X.xe s₂) X.xe s₁) X.xe s
theorem nobehind (b:Expr) {op:CmpOp} (h:op ≠ .In) (h2:op ≠ .NotIn):C5 op b=false:=by
 have e1:(op == CmpOp.In)=false:=by cases op <;> first | rfl | exact absurd rfl h
 have e2:(op == CmpOp.NotIn)=false:=by cases op <;> first | rfl | exact absurd rfl h2
 cases b <;> simp [C5,e1,e2]
def tIsN (ta:TE):TE:=fun σ H Q=>ta σ H fun x H1=>Q (.bl (decide (x=.non))) H1
theorem aqs3.none_iff {x:V} {v:Value} (r:aqs3 x v):(v == Value.none)=decide (x=.non):=by
 cases x with
 | non=>cases r; rfl
 | bl _=>cases r; rfl
 | int _=>obtain ⟨t,rfl⟩:=r; rfl
 | str _=>obtain ⟨t,rfl⟩:=r; rfl
 | byt _=>obtain ⟨t,rfl⟩:=r; rfl
 | flt _=>obtain ⟨t,rfl⟩:=r; rfl
 | ref _=>cases r; rfl
 | ty _=>cases r; rfl
theorem aqmh {j pos'} (ha:PE X a ta):PC X .Is a (.Constant .none j pos') (tIsN ta):=by
 intro pins s σ H Q I h;refine thn (ha pins s σ H _ I h) fun v s1 hQ=>?_;obtain ⟨x,H1,I1,r1,q1⟩:=hQ;exact Constant_none (is_none_gen ⟨.bl _,H1,I1,by rw [r1.none_iff]; rfl,q1⟩)
def tB (t:TE):TT:=fun σ H Q=>t σ H fun x H1=>∃ c,x=.bl c/\Q c H1
theorem aqip {op:CmpOp} {t:TE} (h:PC X op a b t) (h1:C5 op b=false:=by first | exact nobehind _ (by decide) (by decide) | rfl):PT X (.Compare a [op] [b] pos) (tB t):=by
 intro pins s σ H Q I hw;refine Kg (thn (h pins s σ H _ I hw) fun v s1 h1=>thn h1 fun u s2 h2=>thn h2 fun c s3 hQ=>?_) h1;obtain ⟨x,H1,I1,r1,q1⟩:=hQ;obtain ⟨d,rfl,q⟩:=q1;cases r1;exact Dq ⟨H1,I1,q⟩
theorem aq1 {e:Expr} {t:TE} (h:PE X e t) (he:∀ whole,Nz e X.env whole=(do let v <- whole; Nu e.pos; Jv [v] (truthy v)):=by intro _; rfl):PT X e (tB t):=by
 intro pins s σ H Q I hw;refine isTrue_plain (thn (h pins s σ H _ I hw) fun v s1 hQ=>?_) (he _);obtain ⟨x,H1,I1,r1,q1⟩:=hQ;obtain ⟨d,rfl,q⟩:=q1;cases r1;exact Dq ⟨H1,I1,q⟩
variable {tA tB':TT} {aqr2:List Expr}
def tAnd (t u:TT):TT:=fun σ H Q=>t σ H fun c H1=>if c=true then u σ H1 Q else Q false H1
def tOr (t u:TT):TT:=fun σ H Q=>t σ H fun c H1=>if c=true then Q true H1 else u σ H1 Q
def tNot (t:TT):TT:=fun σ H Q=>t σ H fun c H1=>Q (!c) H1
theorem aqdg (ha:PT X a tA):PW X (.BoolOp .And [a] pos) tA:=by
 intro wh pins s σ H Q I h;refine isTrue_and (thn (ha pins s σ H Q I h) fun c s1 e=>?_);cases c with
 | true=>exact isTrue_and_nil e
 | false=>exact e
theorem aw2 (ha:PT X a tA):PW X (.BoolOp .Or [a] pos) tA:=by
 intro wh pins s σ H Q I h;refine isTrue_or (thn (ha pins s σ H Q I h) fun c s1 e=>?_);cases c with
 | false=>exact isTrue_or_nil e
 | true=>exact e
theorem aqin (ha:PT X a tA) (hb:PW X (.BoolOp .And (b :: aqr2) pos) tB'):PW X (.BoolOp .And (a :: b :: aqr2) pos) (tAnd tA tB'):=by
 intro wh pins s σ H Q I h;refine isTrue_and (thn (ha pins s σ H _ I h) fun c s1 hQ=>?_);obtain ⟨H1,I1,q1⟩:=hQ;cases c with
 | true=>exact hb wh pins s1 σ H1 Q I1 q1
 | false=>exact ⟨H1,I1,q1⟩
theorem aqb2 (ha:PT X a tA) (hb:PW X (.BoolOp .Or (b :: aqr2) pos) tB'):PW X (.BoolOp .Or (a :: b :: aqr2) pos) (tOr tA tB'):=by
 intro wh pins s σ H Q I h;refine isTrue_or (thn (ha pins s σ H _ I h) fun c s1 hQ=>?_);obtain ⟨H1,I1,q1⟩:=hQ;cases c with
 | true=>exact ⟨H1,I1,q1⟩
 | false=>exact hb wh pins s1 σ H1 Q I1 q1
theorem aq2 (ha:PT X a tA):PT X (.UnaryOp .Not a pos) (tNot tA):=by
 intro pins s σ H Q I h;exact isTrue_not (ha pins s σ H (fun c H1=>Q (!c) H1) I h)
def tAndV (ta tb:TE):TE:=fun σ H Q=>ta σ H fun x H1=>∃ c,x=.bl c/\if c=true then tb σ H1 Q else Q (.bl false) H1
theorem aqfi {op} {t:TE} (h:PE X a t):PE X (.BoolOp op [a] pos) t:=fun pins s σ H Q I hw=>BoolOp_one (h pins s σ H Q I hw)
theorem aW6 (ha:PE X a ta) (hb:PE X (.BoolOp .And (b :: aqr2) pos) tb):PE X (.BoolOp .And (a :: b :: aqr2) pos) (tAndV ta tb):=by
 intro pins s σ H Q I h;refine BoolOp_and (thn (ha pins s σ H _ I h) fun v s1 hQ=>?_);obtain ⟨x,H1,I1,r1,q1⟩:=hQ;obtain ⟨c,rfl,q1⟩:=q1;cases r1;refine Dq ?_;cases c with
 | true=>exact hb pins s1 σ H1 Q I1 q1
 | false=>exact ⟨.bl false,H1,I1,rfl,q1⟩
def tIf (t:TT) (ta tb:TE):TE:=fun σ H Q=>t σ H fun c H1=>if c=true then ta σ H1 Q else tb σ H1 Q
theorem aqfk {c:Expr} (hc:PT X c tA) (ha:PE X a ta) (hb:PE X b tb):PE X (.IfExp c a b pos) (tIf tA ta tb):=by
 intro pins s σ H Q I h;refine wpAny_IfExp (thn (hc pins s σ H _ I h) fun d s1 hQ=>?_);obtain ⟨H1,I1,q1⟩:=hQ;cases d with
 | true=>exact ha pins s1 σ H1 Q I1 q1
 | false=>exact hb pins s1 σ H1 Q I1 q1
end
def SqL (K:Frag) (H:Hp) (a:Addr) (xs:List V):Prop :=
 Rd H a (.lst xs) \/
  ∃ (o:Obj) (its:Array Value) (n:Nat),K.lookup a=some o/\o.cls=.type "list"/\o.dict=none/\o.data=.seq its n/\its.size <= Ag/\aqs0 xs its.toList
def SqT (K:Frag) (H:Hp) (a:Addr) (xs:List V):Prop :=
 Rd H a (.tup xs) \/
  ∃ (o:Obj) (its:Array Value) (n:Nat),K.lookup a=some o/\o.cls=.type "tuple"/\o.data=.seq its n/\its.size <= Ag/\aqs0 xs its.toList
def absV:Value->Option V
 | .none=>some .non
 | .bool b=>some (.bl b)
 | .int i _=>some (.int i)
 | .str x _=>some (.str x)
 | .bytes b _=>some (.byt b)
 | .float b _=>some (.flt b)
 | .ref a=>some (.ref a)
 | .type n=>some (.ty n)
 | _=>none
theorem aqs3.abs {x:V} {u:Value} (r:aqs3 x u):absV u=some x:=by
 cases x with
 | non=>cases r; rfl
 | bl _=>cases r; rfl
 | int _=>obtain ⟨t,rfl⟩:=r; rfl
 | str _=>obtain ⟨t,rfl⟩:=r; rfl
 | byt _=>obtain ⟨t,rfl⟩:=r; rfl
 | flt _=>obtain ⟨t,rfl⟩:=r; rfl
 | ref _=>cases r; rfl
 | ty _=>cases r; rfl
theorem aqs3.inj {x y:V} {u:Value} (r:aqs3 x u) (q:aqs3 y u):x=y:=Option.some.inj (r.abs.symm.trans q.abs)
theorem aqs0.inj:∀ {xs ys:List V} {us:List Value},aqs0 xs us->aqs0 ys us->xs=ys
 | _,_,_,.nil,.nil=>rfl
 | _,_,_,.cons r t,.cons r' t'=>by rw [r.inj r',aqs0.inj t t']
section
variable {X:Cx} {pins:List (Addr × Obj)} {σ:St} {H:Hp} {s:Shared} {a:Addr} {xs ys:List V}
theorem SqL.of {K:Frag} (h:H a=some (.lst xs)):SqL K H a xs:=.inl (.inl h)
theorem SqT.of {K:Frag} (h:H a=some (.tup xs)):SqT K H a xs:=.inl (.inl h)
theorem Inv.list (I:Inv X pins σ H s) (h:SqL X.K H a xs):∃ its:List Value,aqs0 xs its/\PlainL s.heap a its.toArray/\xs.length <= Ag:=by
 rcases h with h | ⟨o,its,n,hk,hc,hd,hs,hz,r⟩
 ·obtain ⟨z,its,n,r,e⟩:=h.ok I.hok
  exact ⟨its,r,⟨_,n,e,rfl,rfl,rfl⟩,z⟩
 ·refine ⟨its.toList,r,⟨o,n,I.kIn a o hk,hc,hd,by simpa using hs⟩,?_⟩
  have e:=r.length;simp only [length_toList] at e;omega
theorem Inv.tuple (I:Inv X pins σ H s) (h:SqT X.K H a xs):∃ its:List Value,aqs0 xs its/\IsTup s.heap a its.toArray/\xs.length <= Ag:=by
 rcases h with h | ⟨o,its,n,hk,hc,hs,hz,r⟩
 ·obtain ⟨z,its,r,p⟩:=h.ok I.hok
  exact ⟨its,r,p,z⟩
 ·refine ⟨its.toList,r,⟨o,I.kIn a o hk,hc,n,by simpa using hs⟩,?_⟩
  have e:=r.length;simp only [length_toList] at e;omega
theorem Inv.list_inj (I:Inv X pins σ H s) (h:SqL X.K H a xs) (h':SqL X.K H a ys):xs=ys:=by
 obtain ⟨its,r,⟨o,n,e,_,_,d⟩,_⟩:=I.list h;obtain ⟨its',r',⟨o',n',e',_,_,d'⟩,_⟩:=I.list h';rw [e] at e'; cases e';rw [d] at d';injection d' with d1 _
 have:its=its':=by simpa using congrArg Array.toList d1
 subst this;exact r.inj r'
end
abbrev Cx.wish (X:Cx) (E:Value->Shared->Prop):Cx:={ X with xe:=E }
abbrev Cx.nox (X:Cx):Cx:=X.wish fun _ _=>False
theorem Cx.Ok.wish {X:Cx} (ok:X.Ok) (E:Value->Shared->Prop):(X.wish E).Ok :=
 ⟨ok.mod,ok.kind,ok.glob,ok.blt,ok.above,ok.inj,ok.has,ok.cab,ok.hd,ok.frames,ok.stk,ok.exf,ok.bs,ok.bsz,ok.noex,ok.exfs,ok.funs,ok.frf⟩
theorem Cx.Ok.unwish {X:Cx} {E:Value->Shared->Prop} (ok:(X.wish E).Ok):X.Ok :=
 ⟨ok.mod,ok.kind,ok.glob,ok.blt,ok.above,ok.inj,ok.has,ok.cab,ok.hd,ok.frames,ok.stk,ok.exf,ok.bs,ok.bsz,ok.noex,ok.exfs,ok.funs,ok.frf⟩
section
variable {X:Cx} {pins:List (Addr × Obj)} {σ:St} {H:Hp} {s:Shared} {E:Value->Shared->Prop}
theorem Inv.wish (I:Inv X pins σ H s) (E:Value->Shared->Prop):Inv (X.wish E) pins σ H s:=⟨I.ok.wish E,I.os,I.bare,I.base,I.loc,I.cell,I.free,I.freeC,I.pin,I.hok,I.len⟩
theorem Inv.unwish (I:Inv (X.wish E) pins σ H s):Inv X pins σ H s:=⟨I.ok.unwish,I.os,I.bare,I.base,I.loc,I.cell,I.free,I.freeC,I.pin,I.hok,I.len⟩
theorem SP.unwish {D:Ends} {f:Flow} {s':Shared} (h:SP (X.wish E) pins D f s'):SP X pins D f s':=by
 cases f with
 | next=>obtain ⟨σ',H',I,q⟩:=h; exact ⟨σ',H',I.unwish,q⟩
 | brk=>obtain ⟨σ',H',I,q⟩:=h; exact ⟨σ',H',I.unwish,q⟩
 | cont=>obtain ⟨σ',H',I,q⟩:=h; exact ⟨σ',H',I.unwish,q⟩
 | ret u=>obtain ⟨v,σ',H',I,r,q⟩:=h; exact ⟨v,σ',H',I.unwish,r,q⟩
theorem PE.nox {e:Expr} {t:TE} (h:PE X.nox e t):PE X e t:=fun pins s σ H Q I hw =>
 A9 (h pins s σ H Q (I.wish _) hw) (fun _ _ ⟨v,H',I',r,q⟩=>⟨v,H',I'.unwish,r,q⟩) fun _ _ z=>Az z
theorem PT.nox {e:Expr} {t:TT} (h:PT X.nox e t):PT X e t:=fun pins s σ H Q I hw =>
 A9 (h pins s σ H Q (I.wish _) hw) (fun _ _ ⟨H',I',q⟩=>⟨H',I'.unwish,q⟩) fun _ _ z=>Az z
theorem PSs.nox {st:List Stmt} {t:TS} (h:PSs X.nox st t):PSs X st t:=fun pins s σ H D I hw =>
 A9 (h pins s σ H D (I.wish _) hw) (fun _ _ q=>q.unwish) fun _ _ z=>Az z
end
section
variable {X:Cx} {st:Stmt} {aqr2:List Stmt} {t u:TS} {e:Expr} {te:TE} {pos:Pos}
def tNext:TS:=fun D σ H=>D.nx σ H
def tSeq (t u:TS):TS:=fun D σ H=>t { D with nx:=u D } σ H
theorem aL:PSs X [] tNext:=fun _ _ σ H _ I h=>Fm ⟨σ,H,I,h⟩
theorem ak (h1:PS X st t) (h2:PSs X aqr2 u):PSs X (st :: aqr2) (tSeq t u):=by
 intro pins s σ H D I h;refine wpAny_execs_cons (thn (h1 pins s σ H { D with nx:=u D } I h) fun f s1 q=>?_);cases f with
 | next =>
  obtain ⟨σ',H',I',q⟩:=q;exact h2 pins s1 σ' H' D I' q
 | ret v=>exact q
 | brk=>exact q
 | cont=>exact q
theorem el (h1:PS X st t):PSs X [st] t:=by
 intro pins s σ H D I h;refine wpAny_execs_cons (thn (h1 pins s σ H D I h) fun f s1 q=>?_);cases f with
 | next=>exact Fm q
 | ret v=>exact q
 | brk=>exact q
 | cont=>exact q
theorem Inv.quiet {pins:List (Addr × Obj)} {σ:St} {H:Hp} {s:Shared} (I:Inv X pins σ H s):interactive X.env=false:=by simp [interactive,I.ok.kind]
def tDrop (te:TE):TS:=fun D σ H=>te σ H fun _ H1=>D.nx σ H1
theorem ajj (he:PE X e te) (hs:Hw e none pos.line X.env=pure false:=by rfl):PS X (.Expr e pos) (tDrop te):=by
 intro pins s σ H D I h;exact wpAny_Expr_any (thn (he pins s σ H _ I h) fun v s1 ⟨x,H1,I1,r1,q1⟩=>⟨σ,H1,I1,q1⟩) I.quiet hs
def tRet (te:TE):TS:=fun D σ H=>te σ H D.rt
theorem aV (he:PE X e te):PS X (.Return (some e) pos) (tRet te):=by
 intro pins s σ H D I h;exact wpAny_Return_some (thn (he pins s σ H _ I h) fun v s1 ⟨x,H1,I1,r1,q1⟩=>⟨x,σ,H1,I1,r1,q1⟩)
def tIfS (c:TT) (t u:TS):TS:=fun D σ H=>c σ H fun b H1=>if b=true then t D σ H1 else u D σ H1
theorem ax8 {c:Expr} {a b:List Stmt} {tc:TT} (hc:PT X c tc) (ha:PSs X a t) (hb:PSs X b u):PS X (.If c a b pos) (tIfS tc t u):=by
 intro pins s σ H D I h;refine wpAny_If (thn (hc pins s σ H _ I h) fun d s1 hQ=>?_);obtain ⟨H1,I1,q1⟩:=hQ;cases d with
 | true=>exact ha pins s1 σ H1 D I1 q1
 | false=>exact hb pins s1 σ H1 D I1 q1
def tNever:TS:=fun _ _ _=>False
theorem aqfd:PS X st tNever:=fun _ _ _ _ _ _ h=>h.elim
end
abbrev TG:=V->St->Hp->(St->Hp->Prop)->Prop
abbrev TGs:=List V->St->Hp->(St->Hp->Prop)->Prop
def PG (X:Cx) (target:Expr) (t:TG):Prop :=
 ∀ (pins:List (Addr × Obj)) (s:Shared) (σ:St) (H:Hp) (v:V) (u:Value) (Q:St->Hp->Prop),Inv X pins σ H s->aqs3 v u->t v σ H Q ->
  wpAny (model X.prog X.w) X.A (Jc target X.env u) (fun _ s'=>∃ σ' H',Inv X pins σ' H' s'/\Q σ' H') X.xe s
def PGs (X:Cx) (ts:List Expr) (t:TGs):Prop :=
 ∀ (pins:List (Addr × Obj)) (s:Shared) (σ:St) (H:Hp) (vs:List V) (us:List Value) (Q:St->Hp->Prop),Inv X pins σ H s->aqs0 vs us->t vs σ H Q ->
  wpAny (model X.prog X.w) X.A (assignInOrder ((Bk ts X.env).map (·.2)) us) (fun _ s'=>∃ σ' H',Inv X pins σ' H' s'/\Q σ' H') X.xe s
abbrev TSet:=V->V->V->Hp->(Hp->Prop)->Prop
def PSet (X:Cx) (t:TSet):Prop :=
 ∀ (pins:List (Addr × Obj)) (s:Shared) (σ:St) (H:Hp) (o i v:V) (ov iv u:Value) (Q:Hp->Prop),Inv X pins σ H s->aqs3 o ov->aqs3 i iv->aqs3 v u->t o i v H Q ->
  wpAny (model X.prog X.w) X.A (setItem ov iv u) (fun _ s'=>∃ H',Inv X pins σ H' s'/\Q H') X.xe s
section
variable {X:Cx} {pos:Pos}
def ax9 (i:Nat):TG:=fun v σ H Q=>Q (σ.set i (some v)) H
theorem aqc {i:Nat} {x:Str} (hN:X.N.Nodup) (hi:X.N[i]?=some x) (hx:Loc X.env.scope x) (hf:X.fn x=true \/ X.env.scope.names.lookup x=some .local:=by first | exact .inl rfl | exact .inr rfl | assumption):PG X (.Name x pos) (ax9 i):=by
 intro pins s σ H v u Q I r h;exact wpAny_assign_Name (aJy I hN hi hx r (fun s' I'=>⟨_,H,I',h⟩) hf)
def gNil:TGs:=fun vs σ H Q=>vs=[]/\Q σ H
def aY9 (t:TG) (u:TGs):TGs:=fun vs σ H Q=>∃ v r,vs=v :: r/\t v σ H fun σ' H'=>u r σ' H' Q
theorem ak4:PGs X [] gNil:=by
 intro pins s σ H vs us Q I r h;obtain ⟨e,h⟩:=h;subst e;cases r;exact assignInOrder_nil ⟨σ,H,I,h⟩
theorem aqw {e:Expr} {es:List Expr} {t:TG} {u:TGs} (h1:PG X e t) (h2:PGs X es u)
  (hs:(Bk (e :: es) X.env).map (·.2)=Jc e X.env :: (Bk es X.env).map (·.2):=by rfl):PGs X (e :: es) (aY9 t u):=by
 intro pins s σ H vs us Q I r h;obtain ⟨v,vr,e1,h⟩:=h;subst e1;cases r with
 | cons r rr =>
  rw [hs];refine assignInOrder_cons (thn (h1 pins s σ H _ _ _ I r h) fun _ s1 hQ=>?_);obtain ⟨σ1,H1,I1,q1⟩:=hQ;exact h2 pins s1 σ1 H1 _ _ Q I1 rr q1
def gTup (K:Frag) (n:Nat) (t:TGs):TG:=fun v σ H Q=>∃ a xs,v=.ref a/\SqT K H a xs/\xs.length=n/\t xs σ H Q
theorem aqbp {es:List Expr} {k:Nat} {t:TGs} {n:Nat} (hc:X.calm=true) (h:PGs X es t)
  (hn:(Bk es X.env).length=n:=by rfl) (hst:(Bk es X.env).findIdx? (·.1)=none:=by rfl):PG X (.Tuple es k pos) (gTup X.K n t):=by
 intro pins s σ H v u Q I r hw;obtain ⟨a,xs,e1,hq,hl,hw⟩:=hw;subst e1;cases r;obtain ⟨its,rv,ht,hz⟩:=I.tuple hq;refine assign_Tuple_tuple (I.ok.hd hc) ht (by simp [hn,<- hl,rv.length]) hst fun h' hx=>?_;have I1:Inv X pins σ H { s with heap:=h' }:=I.kept (t':=s.toks) fun b o e=>hx b o (ne_of_lt (Af e)) e;exact h pins _ σ H xs _ Q I1 (by simpa using rv) hw
def gSub (to ti:TE) (t:TSet):TG:=fun v σ H Q=>to σ H fun o H1=>ti σ H1 fun i H2=>t o i v H2 fun H3=>Q σ H3
theorem aqmf {o i:Expr} {to ti:TE} {t:TSet} (ho:PE X o to) (hi:PE X i ti) (hs:PSet X t)
  (ha:∀ v,Jc (.Subscript o i pos) X.env v=(do
   let ov <- Jv [v] (eval o X.env)
   let iv <- Jv [v,ov] (eval i X.env)
   Nu pos
   Jv [v,ov,iv] (setItem ov iv v)
   release [v,ov,iv] []):=by intro _; rfl):PG X (.Subscript o i pos) (gSub to ti t):=by
 intro pins s σ H v u Q I r h;rw [ha];refine Ac (A5 (thn (ho pins s σ H _ I h) fun ov s1 hQ=>?_));obtain ⟨x,H1,I1,r1,q1⟩:=hQ;refine Ac (A5 (thn (hi pins s1 σ H1 _ I1 q1) fun iv s2 hQ=>?_));obtain ⟨y,H2,I2,r2,q2⟩:=hQ;refine Ac (Jd (Ac (A5 (thn (hs pins s2 σ H2 x y v ov iv u _ I2 r1 r2 r q2) fun _ s3 hQ=>?_))));obtain ⟨H3,I3,q3⟩:=hQ;exact wpAny_release ⟨σ,H3,I3,q3⟩
def tAsg (te:TE) (g:TG):TS:=fun D σ H=>te σ H fun x H1=>g x σ H1 D.nx
theorem aqir {tg e:Expr} {te:TE} {g:TG} (he:PE X e te) (hg:PG X tg g) (hs:swapsWithSole [tg] e pos.line X.env=pure false:=by rfl) (hw:swappedStores [tg] e X.env=pure none:=by rfl)
  (h1:(Bk [tg] X.env).map (·.2)=[Jc tg X.env]:=by rfl):PS X (.Assign [tg] e pos) (tAsg te g):=by
 intro pins s σ H D I h;refine wpAny_Assign_stores (thn (he pins s σ H _ I h) fun v s1 hQ=>?_) hs hw;obtain ⟨x,H1,I1,r1,q1⟩:=hQ;rw [h1];exact thn (hg pins s1 σ H1 x v _ I1 r1 q1) fun _ s2 q=>q
theorem gp {i:Nat} {x:Str} {e:Expr} {te:TE} {pos':Pos} (hN:X.N.Nodup) (hi:X.N[i]?=some x) (hx:Loc X.env.scope x) (he:PE X e te) (hs:Hw e (some (.Name x pos')) pos.line X.env=pure false:=by rfl) (hf:X.fn x=true \/ X.env.scope.names.lookup x=some .local:=by first | exact .inl rfl | exact .inr rfl | assumption) :
  PS X (.Assign [.Name x pos'] e pos) (tAsg te (ax9 i)):=by
 intro pins s σ H D I h;refine wpAny_Assign_Name (thn (he pins s σ H _ I h) fun v s1 hQ=>?_) hs;obtain ⟨y,H1,I1,r1,q1⟩:=hQ;exact aJy I1 hN hi hx r1 (fun s2 I2=>⟨_,H1,I2,q1⟩) hf
end
section
variable {X:Cx} {pos:Pos}
def tWhile (c:TT) (tb:TS):TS:=fun D σ H=>∃ W:Nat->St->Hp->Prop,(∃ m,W m σ H)/\∀ m σ H,W m σ H ->
 c σ H fun b H1=>if b=true then ∃ N:St->Hp->Prop,(∀ σ' H',N σ' H'->∃ m',m' < m/\W m' σ' H')/\tb { D with nx:=N,ct:=N,bk:=D.nx } σ H1 else D.nx σ H1
theorem aWy {c:Expr} {body:List Stmt} {tc:TT} {tb:TS} (hp:PassesOwn (model X.prog X.w) X.A X.env X.xe) (hc:PT X c tc) (hb:PSs X body tb):PS X (.While c body [] pos) (tWhile tc tb):=by
 intro pins s σ H D I h;obtain ⟨W,⟨m0,w0⟩,turn⟩:=h;refine wpAny_While (codeAny_whileLoop (fun n s'=>∃ σ' H',Inv X pins σ' H' s'/\W n σ' H') ?_ m0 ⟨σ,H,I,w0⟩);rintro n s1 ⟨σ1,H1,I1,w1⟩;refine Dp hp (thn (hc pins s1 σ1 H1 _ I1 (turn n σ1 H1 w1)) fun b s2 hQ=>?_);obtain ⟨H2,I2,q2⟩:=hQ;cases b with
 | true =>
  obtain ⟨N,hN,q2⟩:=q2;rw [if_pos rfl];refine Dp hp (thn (hb pins s2 σ1 H2 _ I2 q2) fun f s3 q3=>?_);cases f with
  | next =>
   obtain ⟨σ3,H3,I3,n3⟩:=q3;obtain ⟨m',hm,w3⟩:=hN σ3 H3 n3;exact ⟨m',hm,σ3,H3,I3,w3⟩
  | cont =>
   obtain ⟨σ3,H3,I3,n3⟩:=q3;obtain ⟨m',hm,w3⟩:=hN σ3 H3 n3;exact ⟨m',hm,σ3,H3,I3,w3⟩
  | brk=>exact q3
  | ret v=>exact q3
 | false =>
  rw [if_neg Al];exact Fm ⟨σ1,H2,I2,q2⟩
end
structure It where
 go:Nat->Hp->Prop
 yld:Nat->Hp->V->Hp->Prop
 stop:Nat->Hp->Prop
def FpOk (X:Cx) (pins:List (Addr × Obj)) (H:Hp) (b:Addr):Prop :=
 H b=none/\b ≠ X.env.locals/\b ∉ X.fs/\(b∈X.ex \/ X.s₀.heap.objs.size <= b)/\(∀ x c,X.env.cells.lookup x=some c->c ≠ b)/\∀ p∈X.pn++pins,p.1 ≠ b
theorem Inv.fpOk {X:Cx} {pins:List (Addr × Obj)} {σ:St} {H H':Hp} {s:Shared} {b:Addr} (I:Inv X pins σ H s) (hb:s.heap.objs.size <= b) (hn:H' b=none):FpOk X pins H' b:=by
 refine ⟨hn,ne_of_gt (lt_of_lt_of_le I.lt hb),I.nofs hb,.inr (le_trans I.sz hb),fun x c e z=>?_,fun p hp z=>?_⟩
 ·obtain ⟨v,q⟩:=I.cell x c e
  exact absurd (lt_of_lt_of_le q.lt (by rw [z]; exact hb)) (lt_irrefl _)
 ·exact absurd (lt_of_lt_of_le (Af (I.pin p hp).1) (by rw [z]; exact hb)) (lt_irrefl _)
structure Turn (P:Aj) (w:World) (K:Frag) (tg:Expr) (J:It) (fp:List Addr) (it:Addr) (tn:Nat->Heap->Prop):Prop where
 mem:it∈fp
 obj:∀ i h,tn i h->∀ b∈fp,∃ o,h.get? b=some o/\∀ v,o.data ≠ .cell v
 keep:∀ i h h',tn i h->(∀ b∈fp,∀ o,h.get? b=some o->h'.get? b=some o)->tn i h'
 item:∀ (X:Cx),X.prog=P->X.w=w->X.K=K->X.calm=true->∀ (i:Nat) (pins:List (Addr × Obj)) (s:Shared) (σ:St) (H:Hp) (E:Value->Shared->Prop),Inv X pins σ H s->(∀ b∈fp,FpOk X pins H b)->tn i s.heap->J.go i H ->
  wpAny (model P w) X.A (D8 (.ref it)) (fun r s1=>∃ u,r=some u /\
   wpAny (model P w) X.A (G9 tg (.ref it) u) (fun _ s2=>∃ x H',Inv X pins σ H' s2/\aqs3 x u/\J.yld i H x H'/\tn (i + 1) s2.heap/\∀ b∈fp,H' b=none) E s1) E s
 done:∀ (X:Cx),X.prog=P->X.w=w->X.K=K->X.calm=true->∀ (i:Nat) (pins:List (Addr × Obj)) (s:Shared) (σ:St) (H:Hp) (E:Value->Shared->Prop),Inv X pins σ H s->(∀ b∈fp,FpOk X pins H b)->tn i s.heap->J.stop i H ->
  wpAny (model P w) X.A (D8 (.ref it)) (fun r s1=>r=none/\Inv X pins σ H s1) E s
 self:∀ (A:Around) (i:Nat) (s:Shared) (Q:Value->Shared->Prop) (E:Value->Shared->Prop),tn i s.heap->Q (.ref it) s->wpAny (model P w) A (Kn (.ref it)) Q E s
abbrev TI:=St->Hp->(It->Hp->Prop)->Prop
def PIE (X:Cx) (pins:List (Addr × Obj)) (σ:St) (tg:Expr) (R:It->Hp->Prop) (itv:Value) (s2:Shared):Prop :=
 ∃ (it:Addr) (fp:List Addr) (tn:Nat->Heap->Prop) (J:It) (H':Hp),itv=.ref it/\Inv X pins σ H' s2/\Turn X.prog X.w X.K tg J fp it tn/\tn 0 s2.heap/\(∀ b∈fp,FpOk X pins H' b)/\R J H'
def PI (X:Cx) (tg iter:Expr) (wi:TI):Prop :=
 ∀ (pins:List (Addr × Obj)) (s:Shared) (σ:St) (H:Hp) (R:It->Hp->Prop),Inv X pins σ H s->wi σ H R ->
  wpAny (model X.prog X.w) X.A (eval iter X.env) (fun v s1=>wpAny (model X.prog X.w) X.A (Kn v) (PIE X pins σ tg R) X.xe s1) X.xe s
theorem go_of {M:Model} {A:Around} {E:Value->Shared->Prop} {s:Shared} {tg:Expr} {it:Addr} {u:Value} {o:Obj} {n:String} {vs:Array Value} {Q:Unit->Shared->Prop} (ho:s.heap.get? it=some o) (hc:o.cls=.type n) (hd:o.data=.fields vs)
  (hn:["enumerate","zip","dict_itemiterator","dict_reverseitemiterator","odict_iterator","itertools.zip_longest","itertools.pairwise"].contains n=false) (hQ:Q () s):wpAny M A (G9 tg (.ref it) u) Q E s:=by
 unfold G9;cases tg <;> first
  | exact Ad hQ
  | (cases u <;> first
    | exact Ad hQ
    | (refine Ac (Gs ho ?_)
       rw [hc,hd];show wpAny M A (if (["enumerate","zip","dict_itemiterator","dict_reverseitemiterator","odict_iterator","itertools.zip_longest","itertools.pairwise"].contains n && vs[0]? == some (Bz _))=true then _ else _) Q E s;rw [if_neg (by intro h; rw [hn,Bool.false_and] at h; cases h)];exact Ad hQ))
def Itl (K:Frag) (a:Addr):It :=
 ⟨fun i H=>∃ xs x,SqL K H a xs/\xs[i]?=some x,fun i H x H'=>H'=H/\∀ xs,SqL K H a xs->xs[i]?=some x,fun i H=>∃ xs,SqL K H a xs/\xs.length <= i⟩
def Itr (lo:Int) (n:Nat):It:=⟨fun i _=>i < n,fun i H x H'=>H'=H/\x=.int (lo + i),fun i _=>n <= i⟩
theorem aqb7 {P:Aj} {w:World} {K:Frag} {tg:Expr} (a it:Addr):Turn P w K tg (Itl K a) [it] it (fun i h=>h.IsListIter it a i) where
 mem:=by simp
 obj:=fun i h st b hb=>by
  have e:b=it:=by simpa using hb
  subst e;obtain ⟨o,e,c,d⟩:=st;exact ⟨o,e,fun v z=>by rw [d] at z; cases z⟩
 keep:=fun i h h' st k=>st.at fun o e=>k it (by simp) o e
 item:=by
  intro X hP hw hK hc i pins s σ H E I hf st hg;subst hP hw hK;obtain ⟨xs,x,hq,hx⟩:=hg;obtain ⟨its,rv,p,hz⟩:=I.list hq;obtain ⟨u,hu,ru⟩:=rv.get hx;obtain ⟨f0,f1,f2,f3,f4,f5⟩:=hf it (by simp);refine wpAny_pyNext_list_item st p.isList (x:=u) (by simpa using hu) fun h' st' sb=>?_;have I1:Inv X pins σ H { s with heap:=h' }:=I.turned (t':=s.toks) (fun b o hb e=>(sb.2 b hb).trans e) f0 f1 f3 f4 f5;obtain ⟨o,e,c,d⟩:=id st';exact ⟨u,rfl,go_of (s:={ s with heap:=h' }) e c d (by decide) ⟨x,H,I1,ru,⟨rfl,fun ys hy=>by rw [I.list_inj hy hq]; exact hx⟩,st',fun b hb=>(hf b hb).1⟩⟩
 done:=by
  intro X hP hw hK hc i pins s σ H E I hf st hg;subst hP hw hK;obtain ⟨xs,hq,hx⟩:=hg;obtain ⟨its,rv,p,hz⟩:=I.list hq;obtain ⟨f0,f1,f2,f3,f4,f5⟩:=hf it (by simp);have hl:=rv.length;exact wpAny_pyNext_list_end (I.ok.hd hc) st p.isList (by simp; omega) fun h' eb=>⟨rfl,I.turned (t':=s.toks) (fun b o hb e=>eb b o hb e) f0 f1 f3 f4 f5⟩
 self:=fun _ _ _ _ _ st h=>wpAny_pyIter_listiter st h
theorem aKu {P:Aj} {w:World} {K:Frag} {tg:Expr} (it:Addr) (lo:Int) (n:Nat):Turn P w K tg (Itr lo n) [it] it (fun i h=>IsRangeIter h it (lo + (i:Nat) * 1) ((n:Int) - (i:Nat)) 1) where
 mem:=by simp
 obj:=fun i h st b hb=>by
  have e:b=it:=by simpa using hb
  subst e;exact ⟨_,st,fun v z=>by
   have z':Data.fields _=Data.cell v:=z;cases z'⟩
 keep:=fun i h h' st k=>k it (by simp) _ st
 item:=by
  intro X hP hw hK hc i pins s σ H E I hf st hg;subst hP hw hK;obtain ⟨f0,f1,f2,f3,f4,f5⟩:=hf it (by simp);have W:=Walks.range (prog:=X.prog) (w:=X.w) (I.ok.hd hc) it lo 1 n;refine W.item i s _ _ hg st fun v h' tk hv st' kk=>?_;obtain ⟨t,rfl⟩:=hv;have I1:Inv X pins σ H { s with heap:=h',toks:=tk }:=I.turned (fun b o hb e=>kk b o (by simpa using hb) e) f0 f1 f3 f4 f5;refine ⟨_,rfl,go_of (s:={ s with heap:=h',toks:=tk }) (n:="range_iterator") st' rfl rfl (by decide) ⟨.int (lo + i),H,I1,⟨t,?_⟩,⟨rfl,rfl⟩,st',fun b hb=>(hf b hb).1⟩⟩;rw [Int.mul_one]
 done:=by
  intro X hP hw hK hc i pins s σ H E I hf st hg;subst hP hw hK;obtain ⟨f0,f1,f2,f3,f4,f5⟩:=hf it (by simp);exact wpAny_pyNext_range_end (I.ok.hd hc) st (by have:n <= i:=hg; omega) fun h' eb=>⟨rfl,I.turned (t':=s.toks) (fun b o hb e=>eb b o hb e) f0 f1 f3 f4 f5⟩
 self:=fun _ _ _ _ _ st h=>wpAny_pyIter_rangeiter st h
section
variable {X:Cx} {tg:Expr}
def aqk8 (K:Frag) (tl:TE):TI:=fun σ H R=>tl σ H fun x H1=>∃ a,x=.ref a/\(∃ xs,SqL K H1 a xs)/\R (Itl K a) H1
theorem aH {l:Expr} {tl:TE} (hl:PE X l tl):PI X tg l (aqk8 X.K tl):=by
 intro pins s σ H R I h;refine thn (hl pins s σ H _ I h) fun v s1 hQ=>?_;obtain ⟨x,H1,I1,r1,q1⟩:=hQ;obtain ⟨a,e,⟨xs,hq⟩,q⟩:=q1;subst e;cases r1;obtain ⟨its,rv,p,hz⟩:=I1.list hq;refine Iq p.isList ?_;refine ⟨s1.heap.objs.size,[s1.heap.objs.size],_,_,H1,rfl,I1.kept (t':=s1.toks) fun b o e=>Ae _ e,aqb7 a _,⟨_,Ah _ rfl,rfl,rfl⟩,fun b hb=>?_,q⟩;have e:b=s1.heap.objs.size:=by simpa using hb
 subst e;exact I1.fpOk (le_refl _) (I1.hok.fresh (le_refl _))
theorem aqfc {pins:List (Addr × Obj)} {σ:St} {H:Hp} {s:Shared} {R:It->Hp->Prop} {E:Value->Shared->Prop} {lo hi:Int} {t u v:Tok} {tk:Nat} (I:Inv X pins σ H s) (h1:-(2 ^ 62) <= lo) (h2:lo < 2 ^ 62) (h3:-(2 ^ 62) <= hi) (h4:hi < 2 ^ 62)
  (q:R (Itr lo (hi - lo).toNat) H):wpAny (model X.prog X.w) X.A (Kn (.ref s.heap.objs.size)) (PIE X pins σ tg R) E { s with heap:=s.heap.push { cls:=.type "range",data:=.fields #[.int lo t,.int hi u,.int 1 v] },toks:=tk }:=by
 refine wpAny_pyIter_range (IsRange.new ..) (small_one h1 h2 h3 h4) ?_;have I1:Inv X pins σ H { s with heap:=s.heap.push { cls:=.type "range",data:=.fields #[.int lo t,.int hi u,.int 1 v] },toks:=tk }:=I.kept fun b o e=>Ae _ e;refine ⟨(s.heap.push { cls:=.type "range",data:=.fields #[.int lo t,.int hi u,.int 1 v] }).objs.size,[(s.heap.push { cls:=.type "range",data:=.fields #[.int lo t,.int hi u,.int 1 v] }).objs.size],_,_,H,rfl,
  I1.kept (t':=tk) fun b o e=>Ae _ e,aKu _ lo (hi - lo).toNat,?_,fun b hb=>?_,q⟩
 ·have e1:lo + ((0:Nat):Int) * 1=lo:=by simp
  have e2:(((hi - lo).toNat:Nat):Int) - ((0:Nat):Int)=Builtin.Range.rangeSize lo hi 1:=by rw [rangeSize_one]; split <;> omega
  show IsRangeIter _ _ (lo + ((0:Nat):Int) * 1) ((((hi - lo).toNat:Nat):Int) - ((0:Nat):Int)) 1;rw [e1,e2];exact Ah _ rfl
 ·have e:b=(s.heap.push { cls:=.type "range",data:=.fields #[.int lo t,.int hi u,.int 1 v] }).objs.size:=by simpa using hb
  subst e;exact I1.fpOk (le_refl _) (I1.hok.fresh (le_refl _))
def iRng1 (ta:TA):TI:=fun σ H R=>ta σ H fun vs H1=>∃ j:Int,vs=[.int j]/\-(2 ^ 62) <= j/\j < 2 ^ 62/\R (Itr 0 j.toNat) H1
theorem avf {a:Expr} {ta:TA} {p pos:Pos} (hg:Gl X "range") (hm:X.mg "range"=none) (ha:PA X [a] ta) (hs:Ap [a] X.env=[(false,eval a X.env)]:=by rfl):PI X tg (.Call (.Name "range" p) [a] [] pos) (iRng1 ta):=by
 intro pins s σ H R I h;refine Call_ (aQc I hg hm boot_range (B5 (thn (ha pos pins s σ H _ I h) fun us s1 hQ=>?_) hs rfl));obtain ⟨vs,H1,I1,r1,q1⟩:=hQ;obtain ⟨j,e,q1,q2,q⟩:=q1;subst e;cases r1 with
 | cons r rr =>
  cases rr;obtain ⟨t,rfl⟩:=r;exact call_range_1 (aqfc I1 (by omega) (by omega) q1 q2 (by simpa using q))
def tFor (wi:TI) (g:TG) (tb:TS):TS:=fun D σ H=>wi σ H fun J H1=>∃ W:Nat->Nat->St->Hp->Prop,(∃ m,W 0 m σ H1)/\∀ i m σ H,W i m σ H ->
 (J.stop i H/\D.nx σ H) \/ (J.go i H/\∃ N:St->Hp->Prop,(∀ σ' H',N σ' H'->∃ m',m' < m/\W (i + 1) m' σ' H')/\∀ x H',J.yld i H x H'->g x σ H' fun σ2 H2=>tb { D with nx:=N,ct:=N,bk:=D.nx } σ2 H2)
def aXe (fp:List Addr) (h:Heap):List (Addr × Obj):=fp.filterMap fun b=>(h.get? b).map fun o=>(b,o)
theorem aze {fp:List Addr} {h:Heap} {b:Addr} {o:Obj} (hb:b∈fp) (e:h.get? b=some o):(b,o)∈aXe fp h:=C9.mpr ⟨b,hb,by rw [e]; rfl⟩
theorem aqc0 {fp:List Addr} {h:Heap} {p:Addr × Obj} (hp:p∈aXe fp h):p.1∈fp/\h.get? p.1=some p.2:=by
 obtain ⟨b,hb,e⟩:=C9.mp hp;cases q:h.get? b with
 | none=>rw [q] at e; cases e
 | some o =>
  rw [q] at e;have e':(b,o)=p:=Option.some.inj e;subst e';exact ⟨hb,q⟩
theorem Inv.pinned {pins:List (Addr × Obj)} {σ:St} {H:Hp} {s:Shared} {fp:List Addr} (I:Inv X pins σ H s) (hf:∀ b∈fp,FpOk X pins H b) (ho:∀ b∈fp,∃ o,s.heap.get? b=some o/\∀ v,o.data ≠ .cell v):Inv X (pins++aXe fp s.heap) σ H s :=
 I.pins_of fun p hp=>(Fk.mp hp).elim (fun z=>I.pin p (mem_append_right _ z)) fun z=>by
  obtain ⟨hb,e⟩:=aqc0 z;obtain ⟨f0,f1,f2,_⟩:=hf p.1 hb;obtain ⟨o,e',d⟩:=ho p.1 hb;rw [e] at e'; cases e';exact ⟨e,f0,f1,f2,d⟩
theorem Inv.unpinned {pins pl:List (Addr × Obj)} {σ:St} {H:Hp} {s:Shared} (I:Inv X (pins++pl) σ H s):Inv X pins σ H s:=I.pins_of fun p hp=>I.pin p (mem_append_right _ (mem_append_left _ hp))
theorem aV2 {iter:Expr} {body:List Stmt} {wi:TI} {g:TG} {tb:TS} {pos:Pos} (hp:PassesOwn (model X.prog X.w) X.A X.env X.xe) (hc:X.calm=true) (hi:PI X tg iter wi) (hg:PG X tg g) (hb:PSs X body tb)
  (hs:∀ x,B7 iter X.env x=pure x:=by intro _; rfl):PS X (.For tg iter body [] pos) (tFor wi g tb):=by
 intro pins s σ H D I h;refine wpAny_For (thn (hi pins s σ H _ I h) fun v s1 h1=>thn h1 fun itv s2 h2=>?_) hs;obtain ⟨it,fp,tn,J,H2,e,I2,T,st2,f2,W,⟨m0,w0⟩,turn⟩:=h2;subst e;have stat:∀ {H':Hp},(∀ b∈fp,H' b=none)->∀ b∈fp,FpOk X pins H' b:=fun hn b hb=>⟨hn b hb,(f2 b hb).2⟩;refine codeAny_forLoop_any (fun n s'=>∃ i σ' H',Inv X pins σ' H' s'/\tn i s'.heap/\(∀ b∈fp,H' b=none)/\W i n σ' H') ?_ m0 ⟨0,σ,H2,I2,st2,fun b hb=>(f2 b hb).1,w0⟩;rintro n s3 ⟨i,σ3,H3,I3,st3,fr3,w3⟩;rcases turn i n σ3 H3 w3 with ⟨stop,qn⟩ | ⟨go,N,hN,step⟩
 ·refine Dp hp (thn (T.done X rfl rfl rfl hc i pins s3 σ3 H3 X.xe I3 (stat fr3) st3 stop) fun r s4 hQ=>?_)
  obtain ⟨hr,I4⟩:=hQ;subst hr;exact Fm ⟨σ3,H3,I4,qn⟩
 ·refine Dp hp (thn (T.item X rfl rfl rfl hc i pins s3 σ3 H3 X.xe I3 (stat fr3) st3 go) fun r s4 hQ=>?_)
  obtain ⟨u,hr,h4⟩:=hQ;subst hr;refine Dp hp (thn h4 fun _ s5 hQ=>?_);obtain ⟨x,H5,I5,r5,y5,st5,fr5⟩:=hQ;have I5':=I5.pinned (stat fr5) (T.obj _ _ st5);refine Dp hp (thn (hg _ s5 σ3 H5 x u _ I5' r5 (step x H5 y5)) fun _ s6 hQ=>?_);obtain ⟨σ6,H6,I6,q6⟩:=hQ;refine Dp hp (thn (hb _ s6 σ6 H6 _ I6 q6) fun f s7 q7=>?_);have again:∀ {σ7:St} {H7:Hp},Inv X (pins++aXe fp s5.heap) σ7 H7 s7->N σ7 H7->∃ m,m < n/\∃ i σ' H',Inv X pins σ' H' s7/\tn i s7.heap/\(∀ b∈fp,H' b=none)/\W i m σ' H':=fun {σ7 H7} I7 n7=>by
   obtain ⟨m',hm,w7⟩:=hN σ7 H7 n7;refine ⟨m',hm,i + 1,σ7,H7,I7.unpinned,T.keep _ _ _ st5 fun b hb o e=>(I7.pin (b,o) (mem_append_right _ (mem_append_right _ (aze hb e)))).1,fun b hb=>?_,w7⟩;obtain ⟨o,e,d⟩:=T.obj _ _ st5 b hb;exact (I7.pin (b,o) (mem_append_right _ (mem_append_right _ (aze hb e)))).2.1
  cases f with
  | next=>obtain ⟨σ7,H7,I7,n7⟩:=q7; exact again I7 n7
  | cont=>obtain ⟨σ7,H7,I7,n7⟩:=q7; exact again I7 n7
  | brk=>obtain ⟨σ7,H7,I7,q7⟩:=q7; exact ⟨σ7,H7,I7.unpinned,q7⟩
  | ret v=>obtain ⟨x7,σ7,H7,I7,r7,q7⟩:=q7; exact ⟨x7,σ7,H7,I7.unpinned,r7,q7⟩
end
theorem aqa0 {K:Frag} {a:Addr} {xs:List V} {g:TG} {tb:TS} {D:Ends} {σ:St} {H:Hp} (Pv:Nat->St->Hp->Prop) (h0:Pv 0 σ H) (hl:∀ i σ H,i <= xs.length->Pv i σ H->SqL K H a xs)
  (hs:∀ i x σ H,xs[i]?=some x->Pv i σ H->g x σ H fun σ2 H2=>tb { D with nx:=Pv (i + 1),ct:=Pv (i + 1),bk:=D.nx } σ2 H2) (hd:∀ σ H,Pv xs.length σ H->D.nx σ H) :
  ∃ W:Nat->Nat->St->Hp->Prop,(∃ m,W 0 m σ H)/\∀ i m σ H,W i m σ H ->
   ((Itl K a).stop i H/\D.nx σ H) \/ ((Itl K a).go i H/\∃ N:St->Hp->Prop,(∀ σ' H',N σ' H'->∃ m',m' < m/\W (i + 1) m' σ' H')/\∀ x H',(Itl K a).yld i H x H'->g x σ H' fun σ2 H2=>tb { D with nx:=N,ct:=N,bk:=D.nx } σ2 H2):=by
 refine ⟨fun i m σ H=>m=xs.length - i/\i <= xs.length/\Pv i σ H,⟨xs.length,by simp,zero_le _,h0⟩,?_⟩;rintro i m σ H ⟨rfl,hi,p⟩;have q:=hl i σ H hi p
 by_cases hlt:i < xs.length
 ·refine .inr ⟨⟨xs,xs[i],q,by simp [hlt]⟩,Pv (i + 1),fun σ' H' p'=>⟨xs.length - (i + 1),by omega,rfl,hlt,p'⟩,fun x H' y=>?_⟩
  obtain ⟨e,y⟩:=y;subst e;exact hs i x σ _ (y xs q) p
 ·have e:i=xs.length:=by omega
  subst e;exact .inl ⟨⟨xs,q,le_refl _⟩,hd σ H p⟩
theorem aQi {lo:Int} {n:Nat} {g:TG} {tb:TS} {D:Ends} {σ:St} {H:Hp} (Pv:Nat->St->Hp->Prop) (h0:Pv 0 σ H)
  (hs:∀ i σ H,i < n->Pv i σ H->g (.int (lo + i)) σ H fun σ2 H2=>tb { D with nx:=Pv (i + 1),ct:=Pv (i + 1),bk:=D.nx } σ2 H2) (hd:∀ σ H,Pv n σ H->D.nx σ H) :
  ∃ W:Nat->Nat->St->Hp->Prop,(∃ m,W 0 m σ H)/\∀ i m σ H,W i m σ H ->
   ((Itr lo n).stop i H/\D.nx σ H) \/ ((Itr lo n).go i H/\∃ N:St->Hp->Prop,(∀ σ' H',N σ' H'->∃ m',m' < m/\W (i + 1) m' σ' H')/\∀ x H',(Itr lo n).yld i H x H'->g x σ H' fun σ2 H2=>tb { D with nx:=N,ct:=N,bk:=D.nx } σ2 H2):=by
 refine ⟨fun i m σ H=>m=n - i/\i <= n/\Pv i σ H,⟨n,by simp,zero_le _,h0⟩,?_⟩;rintro i m σ H ⟨rfl,hi,p⟩
 by_cases hlt:i < n
 ·refine .inr ⟨hlt,Pv (i + 1),fun σ' H' p'=>⟨n - (i + 1),by omega,rfl,hlt,p'⟩,fun x H' y=>?_⟩
  obtain ⟨e,y⟩:=y;subst e y;exact hs i σ _ hlt p
 ·have e:i=n:=by omega
  subst e;exact .inl ⟨le_refl _,hd σ H p⟩
abbrev R2:=V->V->Hp->VK->Prop
def OpR (X:Cx) (f:Value->Value->Sem Value) (r:R2):Prop :=
 ∀ (pins:List (Addr × Obj)) (s:Shared) (σ:St) (H:Hp) (x y:V) (v u:Value) (Q:VK),Inv X pins σ H s->aqs3 x v->aqs3 y u->r x y H Q ->
  wpAny (model X.prog X.w) X.A (f v u) (EP X pins σ Q) X.xe s
def UnR (X:Cx) (f:Value->Sem Value) (r:V->Hp->VK->Prop):Prop :=
 ∀ (pins:List (Addr × Obj)) (s:Shared) (σ:St) (H:Hp) (x:V) (v:Value) (Q:VK),Inv X pins σ H s->aqs3 x v->r x H Q ->
  wpAny (model X.prog X.w) X.A (f v) (EP X pins σ Q) X.xe s
def awm (X:Cx) (f:Value) (r:List V->Hp->VK->Prop):Prop :=
 ∀ (pins:List (Addr × Obj)) (s:Shared) (σ:St) (H:Hp) (xs:List V) (us:List Value) (Q:VK),Inv X pins σ H s->aqs0 xs us->r xs H Q ->
  wpAny (model X.prog X.w) X.A (call f us) (EP X pins σ Q) X.xe s
def tOp (r:R2) (ta tb:TE):TE:=fun σ H Q=>ta σ H fun x H1=>tb σ H1 fun y H2=>r x y H2 Q
def tUn (r:V->Hp->VK->Prop) (ta:TE):TE:=fun σ H Q=>ta σ H fun x H1=>r x H1 Q
def rI (C:Int->Int->Prop) (g:Int->Int->V):R2:=fun x y H Q=>∃ i j,x=.int i/\y=.int j/\C i j/\Q (g i j) H
def rI0 (g:Int->Int->V):R2:=fun x y H Q=>∃ i j,x=.int i/\y=.int j/\Q (g i j) H
def rU (g:Int->V):V->Hp->VK->Prop:=fun x H Q=>∃ i,x=.int i/\Q (g i) H
section
variable {X:Cx} {a b c:Expr} {ta tb tc:TE} {pos:Pos}
theorem binT (ha:PE X a ta) (hb:PE X b tb) {pins:List (Addr × Obj)} {s:Shared} {σ:St} {H:Hp} {R:V->V->Hp->Prop} (I:Inv X pins σ H s)
  (h:ta σ H fun x H1=>tb σ H1 fun y H2=>R x y H2) {Q:Value->Shared->Prop} {f:Value->Value->Sem Value}
  (hf:∀ v u s2 x y H2,Inv X pins σ H2 s2->aqs3 x v->aqs3 y u->R x y H2->wpAny (model X.prog X.w) X.A (f v u) Q X.xe s2) :
  wpAny (model X.prog X.w) X.A (eval a X.env) (fun v s₁=>wpAny (model X.prog X.w) X.A (eval b X.env) (fun u s₂=>wpAny (model X.prog X.w) X.A (f v u) Q X.xe s₂) X.xe s₁) X.xe s:=by
 refine thn (ha pins s σ H _ I h) fun v s1 hQ=>?_;obtain ⟨x,H1,I1,r1,q1⟩:=hQ;refine thn (hb pins s1 σ H1 _ I1 q1) fun u s2 hQ=>?_;obtain ⟨y,H2,I2,r2,q2⟩:=hQ;exact hf v u s2 x y H2 I2 r1 r2 q2
theorem axz {op:Operator} {r:R2} (ho:OpR X (Dr op) r) (ha:PE X a ta) (hb:PE X b tb):PE X (.BinOp a op b pos) (tOp r ta tb):=by
 intro pins s σ H Q I h;exact wpAny_BinOp (binT ha hb I h fun v u s2 x y H2 I2 rx ry q=>ho pins s2 σ H2 x y v u Q I2 rx ry q)
theorem pe_un {op:UnaryOp} {r:V->Hp->VK->Prop} (ho:UnR X (unaryOp op) r) (ha:PE X a ta):PE X (.UnaryOp op a pos) (tUn r ta):=by
 intro pins s σ H Q I h;exact UnaryOp_ (thn (ha pins s σ H _ I h) fun v s1 ⟨x,H1,I1,r1,q1⟩=>ho pins s1 σ H1 x v Q I1 r1 q1)
theorem opI {f:Value->Value->Sem Value} {C:Int->Int->Prop} {g:Int->Int->Int}
  (rule:∀ (i j:Int) (t u:Tok) (s:Shared) (Q:Value->Shared->Prop) (E:Value->Shared->Prop),C i j->Q (.int (g i j) s.toks) { s with toks:=s.toks + 1 }->wpAny (model X.prog X.w) X.A (f (.int i t) (.int j u)) Q E s) :
  OpR X f (rI C fun i j=>.int (g i j)):=by
 intro pins s σ H x y v u Q I rx ry h;obtain ⟨i,j,rfl,rfl,hc,q⟩:=h;obtain ⟨t,rfl⟩:=rx;obtain ⟨t',rfl⟩:=ry;exact rule i j t t' s _ _ hc ⟨.int (g i j),H,I.tok _,⟨_,rfl⟩,q⟩
theorem opI0 {f:Value->Value->Sem Value} {g:Int->Int->Int}
  (rule:∀ (i j:Int) (t u:Tok) (s:Shared) (Q:Value->Shared->Prop) (E:Value->Shared->Prop),Q (.int (g i j) s.toks) { s with toks:=s.toks + 1 }->wpAny (model X.prog X.w) X.A (f (.int i t) (.int j u)) Q E s) :
  OpR X f (rI0 fun i j=>.int (g i j)):=by
 intro pins s σ H x y v u Q I rx ry h;obtain ⟨i,j,rfl,rfl,q⟩:=h;obtain ⟨t,rfl⟩:=rx;obtain ⟨t',rfl⟩:=ry;exact rule i j t t' s _ _ ⟨.int (g i j),H,I.tok _,⟨_,rfl⟩,q⟩
theorem opB0 {f:Value->Value->Sem Value} {g:Int->Int->Bool}
  (rule:∀ (i j:Int) (t u:Tok) (s:Shared) (Q:Value->Shared->Prop) (E:Value->Shared->Prop),Q (.bool (g i j)) s->wpAny (model X.prog X.w) X.A (f (.int i t) (.int j u)) Q E s) :
  OpR X f (rI0 fun i j=>.bl (g i j)):=by
 intro pins s σ H x y v u Q I rx ry h;obtain ⟨i,j,rfl,rfl,q⟩:=h;obtain ⟨t,rfl⟩:=rx;obtain ⟨t',rfl⟩:=ry;exact rule i j t t' s _ _ ⟨.bl (g i j),H,I,rfl,q⟩
def CDiv (i j:Int):Prop:=0 < j/\j < 1073741824
def CPow (i j:Int):Prop:=0 <= j/\j <= 1000000/\i.natAbs < 2 ^ 64
def CMul (i j:Int):Prop:=(-(2 ^ 64) < i/\i < 2 ^ 64) \/ (-(2 ^ 64) < j/\j < 2 ^ 64)
theorem CMul.ok {i j:Int} (h:CMul i j):IntMulOk i j:=by
 rcases h with ⟨h1,h2⟩ | ⟨h1,h2⟩
 ·exact .of_left (intBits_le_64 h1 h2)
 ·exact .of_right (intBits_le_64 h1 h2)
theorem aw9:OpR X (Dr .Add) (rI0 fun i j=>.int (i + j)):=opI0 fun _ _ _ _ _ _ _ q=>add_int q
theorem aw7:OpR X (Dr .Sub) (rI0 fun i j=>.int (i - j)):=opI0 fun _ _ _ _ _ _ _ q=>sub_int q
theorem aqdq:OpR X (Dr .FloorDiv) (rI CDiv fun i j=>.int (i / j)):=opI fun i j _ _ _ _ _ hc q=>by
 have h1:(0:Int) < j:=hc.1;have h2:j < 1073741824:=hc.2;exact floordiv_int (by omega) (by rw [Int.fdiv_eq_ediv_of_nonneg i (by omega)]; exact q) (.inl (PyProof.noPylong_small (by omega)))
theorem aYi:OpR X (Dr .Mod) (rI (fun _ j=>0 < j) fun i j=>.int (i % j)):=opI fun i j _ _ _ _ _ hc q=>by
 have h1:(0:Int) < j:=hc;exact mod_int' (by omega) (by rw [Ez i (by omega)]; exact q)
theorem aYh:OpR X (Dr .Mod) (rI (fun _ j=>j ≠ 0) fun i j=>.int (i.fmod j)):=opI fun _ _ _ _ _ _ _ hc q=>mod_int' hc q
theorem aYf:OpR X (Dr .Pow) (rI CPow fun i j=>.int (i ^ j.toNat)):=opI fun _ _ _ _ _ _ _ hc q=>pow_int_small hc.1 hc.2.1 hc.2.2 q
theorem unI {f:Value->Sem Value} {g:Int->Int}
  (rule:∀ (i:Int) (t:Tok) (s:Shared) (Q:Value->Shared->Prop) (E:Value->Shared->Prop),Q (.int (g i) s.toks) { s with toks:=s.toks + 1 }->wpAny (model X.prog X.w) X.A (f (.int i t)) Q E s) :
  UnR X f (rU fun i=>.int (g i)):=by
 intro pins s σ H x v Q I rx h;obtain ⟨i,rfl,q⟩:=h;obtain ⟨t,rfl⟩:=rx;exact rule i t s _ _ ⟨.int (g i),H,I.tok _,⟨_,rfl⟩,q⟩
theorem aqel:UnR X (unaryOp .USub) (rU fun i=>.int (-i)):=unI fun _ _ _ _ _ q=>neg_int q
end
def scal:V->V->Bool
 | .non,.non=>true | .non,.int _=>true | .int _,.non=>true | .non,.bl _=>true | .bl _,.non=>true | .non,.str _=>true | .str _,.non=>true
 | .int _,.int _=>true | .bl _,.bl _=>true | .str _,.str _=>true | .byt _,.byt _=>true
 | .int _,.str _=>true | .str _,.int _=>true | .bl _,.str _=>true | .str _,.bl _=>true
 | _,_=>false
def rEq:R2:=fun x y H Q=>scal x y=true/\Q (.bl (decide (x=y))) H
def rNe:R2:=fun x y H Q=>scal x y=true/\Q (.bl (!decide (x=y))) H
theorem aqe5 {i j:Int}:decide (V.int i=V.int j)=(i == j):=by
 rw [Bg]
 simp
theorem aqkw {i j:Bool}:decide (V.bl i=V.bl j)=(i == j):=by
 rw [Bg]
 simp
theorem aqe4 {i j:Str}:decide (V.str i=V.str j)=(i == j):=by
 rw [Bg]
 simp
theorem aqe6 {i j:Array UInt8}:decide (V.byt i=V.byt j)=(i.toList == j.toList):=by
 rw [Bg];cases i;cases j
 simp
section
variable {X:Cx} {a b c:Expr} {ta tb tc:TE} {pos:Pos}
theorem aX {pins:List (Addr × Obj)} {σ:St} {H:Hp} {s:Shared} {Q:VK} {k k':Bool} (I:Inv X pins σ H s) (q:Q (.bl k) H) (e:k=k'):EP X pins σ Q (.bool k') s:=by
 subst e;exact ⟨.bl k,H,I,rfl,q⟩
theorem aKq:OpR X (Bn .Eq) rEq:=by
 intro pins s σ H x y v u Q I rx ry h;obtain ⟨hs,q⟩:=h;cases x with
 | non =>
  cases rx;cases y with
  | non=>cases ry; exact PySem.EqNone.eq_none_none (aX I q (by simp))
  | bl j=>cases ry; exact PySem.EqNone.eq_none_bool (aX I q (by simp))
  | int j=>obtain ⟨t',rfl⟩:=ry; exact PySem.EqNone.eq_none_int (aX I q (by simp))
  | str j=>obtain ⟨t',rfl⟩:=ry; exact PySem.EqNone.eq_none_str (aX I q (by simp))
  | _=>exact absurd (show false=true from hs) Al
 | bl i =>
  cases rx;cases y with
  | non=>cases ry; exact PySem.EqNone.eq_bool_none (aX I q (by simp))
  | bl j=>cases ry; exact eq_bool (aX I q aqkw)
  | str j=>obtain ⟨t',rfl⟩:=ry; exact PySem.EqMixed.eq_bool_str (aX I q (by simp))
  | _=>exact absurd (show false=true from hs) Al
 | int i =>
  obtain ⟨t,rfl⟩:=rx;cases y with
  | non=>cases ry; exact PySem.EqNone.eq_int_none (aX I q (by simp))
  | int j=>obtain ⟨t',rfl⟩:=ry; exact eq_int (aX I q aqe5)
  | str j=>obtain ⟨t',rfl⟩:=ry; exact PySem.EqMixed.eq_int_str (aX I q (by simp))
  | _=>exact absurd (show false=true from hs) Al
 | str i =>
  obtain ⟨t,rfl⟩:=rx;cases y with
  | non=>cases ry; exact PySem.EqNone.eq_str_none (aX I q (by simp))
  | bl j=>cases ry; exact PySem.EqMixed.eq_str_bool (aX I q (by simp))
  | int j=>obtain ⟨t',rfl⟩:=ry; exact PySem.EqMixed.eq_str_int (aX I q (by simp))
  | str j=>obtain ⟨t',rfl⟩:=ry; exact eq_str (aX I q aqe4)
  | _=>exact absurd (show false=true from hs) Al
 | byt i =>
  obtain ⟨t,rfl⟩:=rx;cases y with
  | byt j=>obtain ⟨t',rfl⟩:=ry; exact PySem.W.eq_bytes (aX I q aqe6)
  | _=>exact absurd (show false=true from hs) Al
 | _=>cases y <;> exact absurd (show false=true from hs) Al
theorem op_ne:OpR X (Bn .NotEq) rNe:=by
 intro pins s σ H x y v u Q I rx ry h;obtain ⟨hs,q⟩:=h;cases x with
 | non =>
  cases rx;cases y with
  | non=>cases ry; exact PySem.EqNone.ne_none_none (aX I q (by simp))
  | bl j=>cases ry; exact PySem.EqNone.ne_none_bool (aX I q (by simp))
  | int j=>obtain ⟨t',rfl⟩:=ry; exact PySem.EqNone.ne_none_int (aX I q (by simp))
  | str j=>obtain ⟨t',rfl⟩:=ry; exact PySem.EqNone.ne_none_str (aX I q (by simp))
  | _=>exact absurd (show false=true from hs) Al
 | bl i =>
  cases rx;cases y with
  | non=>cases ry; exact PySem.EqNone.ne_bool_none (aX I q (by simp))
  | bl j=>cases ry; exact ne_bool (aX I q (congrArg not aqkw))
  | str j=>obtain ⟨t',rfl⟩:=ry; exact PySem.EqMixed.ne_bool_str (aX I q (by simp))
  | _=>exact absurd (show false=true from hs) Al
 | int i =>
  obtain ⟨t,rfl⟩:=rx;cases y with
  | non=>cases ry; exact PySem.EqNone.ne_int_none (aX I q (by simp))
  | int j=>obtain ⟨t',rfl⟩:=ry; exact ne_int (aX I q (congrArg not aqe5))
  | str j=>obtain ⟨t',rfl⟩:=ry; exact PySem.EqMixed.ne_int_str (aX I q (by simp))
  | _=>exact absurd (show false=true from hs) Al
 | str i =>
  obtain ⟨t,rfl⟩:=rx;cases y with
  | non=>cases ry; exact PySem.EqNone.ne_str_none (aX I q (by simp))
  | bl j=>cases ry; exact PySem.EqMixed.ne_str_bool (aX I q (by simp))
  | int j=>obtain ⟨t',rfl⟩:=ry; exact PySem.EqMixed.ne_str_int (aX I q (by simp))
  | str j=>obtain ⟨t',rfl⟩:=ry; exact ne_str (aX I q (congrArg not aqe4))
  | _=>exact absurd (show false=true from hs) Al
 | byt i =>
  obtain ⟨t,rfl⟩:=rx;cases y with
  | byt j=>obtain ⟨t',rfl⟩:=ry; exact PySem.W.ne_bytes (aX I q (congrArg not aqe6))
  | _=>exact absurd (show false=true from hs) Al
 | _=>cases y <;> exact absurd (show false=true from hs) Al
theorem aqj2:OpR X (Bn .Lt) (rI0 fun i j=>.bl (decide (i < j))):=opB0 fun _ _ _ _ _ _ _ q=>lt_int q
theorem op_le:OpR X (Bn .LtE) (rI0 fun i j=>.bl (decide (i <= j))):=opB0 fun _ _ _ _ _ _ _ q=>le_int q
theorem op_gt:OpR X (Bn .Gt) (rI0 fun i j=>.bl (decide (j < i))):=opB0 fun _ _ _ _ _ _ _ q=>gt_int q
theorem op_ge:OpR X (Bn .GtE) (rI0 fun i j=>.bl (decide (j <= i))):=opB0 fun _ _ _ _ _ _ _ q=>ge_int q
theorem aqj3:OpR X (Bn .Is) (fun x y H Q=>y=.non/\Q (.bl (decide (x=.non))) H):=by
 intro pins s σ H x y v u Q I rx ry h;obtain ⟨rfl,q⟩:=h;cases ry;refine is_none_gen (aX I q ?_);cases x <;> first
  | (cases rx; rfl)
  | (obtain ⟨t,rfl⟩:=rx; rfl)
theorem aqj1:OpR X (Bn .IsNot) (fun x y H Q=>y=.non/\Q (.bl (!decide (x=.non))) H):=by
 intro pins s σ H x y v u Q I rx ry h;obtain ⟨rfl,q⟩:=h;cases ry;refine isnot_none_gen (aX I q ?_);cases x <;> first
  | (cases rx; rfl)
  | (obtain ⟨t,rfl⟩:=rx; rfl)
theorem OpR.or {f:Value->Value->Sem Value} {r r':R2} (h:OpR X f r) (h':OpR X f r'):OpR X f (fun x y H Q=>r x y H Q \/ r' x y H Q):=by
 intro pins s σ H x y v u Q I rx ry q;rcases q with q | q
 ·exact h pins s σ H x y v u Q I rx ry q
 ·exact h' pins s σ H x y v u Q I rx ry q
theorem ax (b:Expr) {op:CmpOp} (h:op ≠ .In:=by decide) (h2:op ≠ .NotIn:=by decide):C5 op b=false:=by
 have e1:(op == CmpOp.In)=false:=by cases op <;> first | rfl | exact absurd rfl h
 have e2:(op == CmpOp.NotIn)=false:=by cases op <;> first | rfl | exact absurd rfl h2
 cases b <;> simp [C5,e1,e2]
theorem aj3 {op:CmpOp} {r:R2} (ho:OpR X (Bn op) r) (ha:PE X a ta) (hb:PE X b tb) (hm:C5 op b=false):PE X (.Compare a [op] [b] pos) (tOp r ta tb):=by
 intro pins s σ H Q I h;exact wpAny_Compare1 (binT ha hb I h fun v u s2 x y H2 I2 rx ry q=>ho pins s2 σ H2 x y v u Q I2 rx ry q) hm
def tTest (t:TE):TT:=fun σ H Q=>t σ H fun x H'=>∃ k,x=.bl k/\Q k H'
theorem aW {op:CmpOp} {r:R2} (ho:OpR X (Bn op) r) (ha:PE X a ta) (hb:PE X b tb) (hm:C5 op b=false):PT X (.Compare a [op] [b] pos) (tTest (tOp r ta tb)):=by
 intro pins s σ H Q I h;refine Kg (thn (ha pins s σ H _ I h) fun v s1 ⟨x,H1,I1,r1,q1⟩=>thn (hb pins s1 σ H1 _ I1 q1) fun u s2 ⟨y,H2,I2,r2,q2⟩ =>
  thn (ho pins s2 σ H2 x y v u _ I2 r1 r2 q2) fun c s3 ⟨z,H3,I3,r3,k,e,q3⟩=>?_) hm
 subst e;cases r3;exact Dq ⟨H3,I3,q3⟩
theorem aYx:(Ag:Nat) < 2 ^ 63:=by rw [Au]; decide
theorem avx:OpR X (Dr .Add) (fun x y H Q=>∃ i j,x=.str i/\y=.str j/\i.length + j.length <= Ag/\Q (.str (i++j)) H):=by
 intro pins s σ H x y v u Q I rx ry h;obtain ⟨i,j,rfl,rfl,hz,q⟩:=h;obtain ⟨t,rfl⟩:=rx;obtain ⟨t',rfl⟩:=ry;exact add_str (fun t' tk=>⟨.str (i++j),H,I.tok _,⟨_,rfl⟩,q⟩) hz
theorem aqhz {x:V} {us:List Value} (r:aqs0 [x] us):∃ u,us=[u]/\aqs3 x u:=by
 cases r with
 | cons r1 r2=>cases r2; exact ⟨_,rfl,r1⟩
theorem aqao:awm X (.builtin "abs") (fun xs H Q=>∃ i,xs=[.int i]/\Q (.int (if i < 0 then -i else i)) H):=by
 intro pins s σ H xs us Q I r h;obtain ⟨i,rfl,q⟩:=h;obtain ⟨u,rfl,t,rfl⟩:=aqhz r;exact call_abs_int fun u tk=>⟨.int (if i < 0 then -i else i),H,I.tok _,⟨_,rfl⟩,q⟩
end
structure ObjM (h:Heap) (x dx C:Addr) (mA:Str->Option Value):Prop where
 obj:h.get? x=some (Cz C dx)
 ns:h.Ns1 dx mA
 ne:dx ≠ x
theorem aqc5 {h:Heap} {dx:Addr} {mA:Str->Option Value} (n:h.Ns1 dx mA):∃ od,h.get? dx=some od/\∀ name,Hz name od=some (mA name):=by
 obtain ⟨o,es,ep,ho,hd,hk,_,hm⟩:=n;refine ⟨o,ho,fun name=>?_⟩;have e:=hm name;unfold nsFind findBy at e;rw [<- Array.find?_toList] at e;unfold Hz;rw [hd];dsimp only;split
 ·rename_i y q
  rw [q] at e;exact congrArg some e
 ·rename_i q
  rw [q] at e;have a:es.toList.any (·.refKey)=false:=by
   rw [List.any_eq_false];intro y hy;obtain ⟨z,t,hkey⟩:=hk y (Array.mem_toList_iff.mp hy);simp [DictEntry.refKey,hkey]
  have a':¬ es.toList.any (·.refKey)=true:=by rw [a]; exact Al
  rw [if_neg a'];exact congrArg some e
theorem ObjM.look {h:Heap} {x dx C:Addr} {mA:Str->Option Value} (I:ObjM h x dx C mA):∃ od,PySem.W.InstAt h x (Cz C dx) C (some od)/\∀ name,Hz name od=some (mA name) :=
 let ⟨od,ho,hl⟩:=aqc5 I.ns
 ⟨od,⟨I.obj,rfl,rfl,ho⟩,hl⟩
section
variable {prog:Aj} {w:World} {A:Around} {E:Value->Shared->Prop} {s:Shared} {K:Frag} {x dx C f:Addr} {mA:Str->Option Value} {name:Str} {v:Value}
theorem aqka {expr:Bool} {Q:Value->Shared->Prop} (X:K.In s.heap) (I:ObjM s.heap x dx C mA) (hg:E8 K C name=true) (hh:Fz K C=true)
  (ha:Aq K (.ref C) name=some none) (hv:mA name=some v) (hv':PySem.W.handedIn v=true) (h:Q v { s with toks:=s.toks + 1 }) :
  wpAny (model prog w) A (getAttr (.ref x) name expr) Q E s:=by
 obtain ⟨od,J,hl⟩:=I.look;exact PySem.W.get_value X J (Hj hg).1 (PySem.W.findObj_own hh ha rfl (by rw [hl,hv])) hv' h
theorem aqgq {pl:Sem Bool} {Q:Value × List Value->Shared->Prop} (X:K.In s.heap) (I:ObjM s.heap x dx C mA) (hg:E8 K C name=true)
  (hf:Aq K (.ref C) name=some (some (.ref f))) (ht:Ho K (.ref f)=true) (hv:mA name=none) (h:Q (.ref f,[.ref x]) s) :
  wpAny (model prog w) A (Ng (.ref x) name pl) Q E s:=by
 obtain ⟨od,J,hl⟩:=I.look;exact PySem.W.method_fn X J (Hj hg).1 (Hj hg).2 hf (beq_iff_eq.mp ht) (by show (Hz name od).map (·.isSome)=some false; rw [hl,hv]; rfl) h
theorem aqie {ns:List Str} {Q:Unit->Shared->Prop} (X:K.In s.heap) (I:ObjM s.heap x dx C mA)
  (hs:Aq K (.ref C) "__setattr__"=some (some (.builtin "object.__setattr__"))) (hp:Ir K C=true) (ht:J7 K C name=some none) (hh:Fz K C=true)
  (hw:PySem.Within mA ns) (hsz:ns.length <= Ag)
  (h:∀ h',ObjM h' x dx C (fun y=>if y=name then some v else mA y)->Heap.SameBut dx s.heap h'->Q () { s with heap:=h',toks:=s.toks + 2 }) :
  wpAny (model prog w) A (setAttr (.ref x) name v) Q E s:=by
 obtain ⟨od,J,hl⟩:=I.look;refine PySem.W.set_plain X J hs (PySem.W.osa_open (s:={ s with toks:=s.toks + 1 }) (r:=none) X J hp ht fun b=>?_);obtain ⟨cd,hc,hd'⟩:=PySem.W.any_some hh;have hx:s.heap.get? x=some ⟨.ref C,some dx,.plain,#[]⟩:=I.obj;refine Ac (Ad (Ac (Ac (wpAny_loadPart hx (Ac (PySem.W.Looks.here (s:={ s with toks:=s.toks + 1 }) (PySem.W.looks_clsIn X hc) ?_))))));rw [hd'];refine Ad (a:=some dx) (Ac (Ad (Ac ?_)));refine wpAny_nsSet1 (s:={ s with toks:=s.toks + 1 }) I.ns fun h' hn2 hs2=>?_;obtain ⟨oD,esD,epD,hoD,hdD,hcD⟩:=hn2.count (PySem.Within.cons name v hw);refine Ac (wpAny_lookBehind hoD (by rw [hdD]; exact pastItsLine_dict (le_trans hcD (by rw [length_cons]; omega))) ?_);exact Ad (h _ ⟨(hs2.2 _ (Bw I.ne)).trans I.obj,hn2,I.ne⟩ hs2)
theorem aqgb {R:L8->Shared->Prop} {vs:List Value} {kw:List (Str × Value)} (X:K.In s.heap) (hm:J8 K C=true)
  (hi:Aq K (.ref C) "__init__"=some (some (.ref f))) (hf:Dc K (.ref f)=some (.type "function"))
  (h:Ds (model prog w) (A.under (.builtin "type.__call__" ⟨.ref C :: vs,kw⟩)) (.call (.ref f) ⟨.ref (s.heap.objs.size + 1) :: vs,kw⟩) (PySem.W.InitBack (s.heap.objs.size + 1) R)
   { s with heap:=(s.heap.push Bq).push (Cz C s.heap.objs.size) }) :
  Ds (model prog w) A (.call (.ref C) ⟨vs,kw⟩) R s:=by
 obtain ⟨hh,g,d,t,os⟩:=s;exact PySem.W.make_core (PySem.W.makes_of X hm) (E1 X hi) (fun self=>PySem.W.bind_fn X self hf) (.inl rfl) h
end
def aqr4 (f:Str) (v:V):List (Str × V)->List (Str × V)
 | []=>[(f,v)]
 | (g,x) :: r=>if g=f then (g,v) :: r else (g,x) :: aqr4 f v r
theorem aqn (f g:Str) (v:V):∀ fs:List (Str × V),(aqr4 f v fs).lookup g=if g=f then some v else fs.lookup g
 | []=>by
  show Dt g [(f,v)]=_
  by_cases h:g=f
  ·have hb:(g == f)=true:=beq_iff_eq.mpr h
   simp only [Dt,hb,if_pos h]
  ·have hb:(g == f)=false:=beq_eq_false_iff_ne.mpr h
   simp only [Dt,hb,if_neg h]
 | (k,x) :: r=>by
  have ih:=aqn f g v r;rw [show aqr4 f v ((k,x) :: r)=(if k=f then (k,v) :: r else (k,x) :: aqr4 f v r) from rfl]
  by_cases hk:k=f
  ·rw [if_pos hk]
   by_cases h:g=k
   ·have hb:(g == k)=true:=beq_iff_eq.mpr h
    simp only [Dt,hb,if_pos (h.trans hk)]
   ·have hb:(g == k)=false:=beq_eq_false_iff_ne.mpr h
    simp only [Dt,hb,if_neg (fun e:g=f=>h (e.trans hk.symm))]
  ·rw [if_neg hk]
   by_cases h:g=k
   ·have hb:(g == k)=true:=beq_iff_eq.mpr h
    simp only [Dt,hb,if_neg (fun e:g=f=>hk (h.symm.trans e))]
   ·have hb:(g == k)=false:=beq_eq_false_iff_ne.mpr h
    simp only [Dt,hb];exact ih
theorem aQe (f:Str) (v:V):∀ fs:List (Str × V),f∈(aqr4 f v fs).map (·.1)/\∀ g,g∈fs.map (·.1)->g∈(aqr4 f v fs).map (·.1)
 | []=>⟨by simp [aqr4],fun g h=>by simp at h⟩
 | (k,x) :: r=>by
  obtain ⟨i1,i2⟩:=aQe f v r;rw [show aqr4 f v ((k,x) :: r)=(if k=f then (k,v) :: r else (k,x) :: aqr4 f v r) from rfl]
  by_cases hk:k=f
  ·rw [if_pos hk]
   subst hk;exact ⟨by simp,fun g h=>by simpa using h⟩
  ·rw [if_neg hk]
   refine ⟨?_,fun g h=>?_⟩
   ·rw [map_cons]
    exact mem_cons_of_mem _ i1
   ·rw [map_cons] at h ⊢
    rcases Ao.mp h with e | e
    ·exact Ao.mpr (.inl e)
    ·exact mem_cons_of_mem _ (i2 g e)
theorem awb (f:Str) (v:V):∀ fs:List (Str × V),(aqr4 f v fs).length <= fs.length + 1
 | []=>by simp [aqr4]
 | (k,x) :: r=>by
  have ih:=awb f v r;rw [show aqr4 f v ((k,x) :: r)=(if k=f then (k,v) :: r else (k,x) :: aqr4 f v r) from rfl]
  by_cases hk:k=f
  ·rw [if_pos hk,length_cons,length_cons]; omega
  ·rw [if_neg hk,length_cons,length_cons]; omega
theorem aqs4.some_of {v:V} {o:Option Value} (r:aqs4 (some v) o):∃ u,o=some u/\aqs3 v u:=by
 cases o with
 | none=>exact (show False from r).elim
 | some u=>exact ⟨u,rfl,r⟩
theorem aqs4.none_of {o:Option Value} (r:aqs4 none o):o=none:=by
 cases o with
 | none=>rfl
 | some u=>exact (show False from r).elim
theorem aqck {v:V} {u:Value} (r:aqs3 v u):PySem.W.handedIn u=true:=by
 cases v with
 | non=>cases (show u=Value.none from r); rfl
 | bl b=>cases (show u=Value.bool b from r); rfl
 | int i=>obtain ⟨t,e⟩:=(show ∃ t,u=Value.int i t from r); cases e; rfl
 | str x=>obtain ⟨t,e⟩:=(show ∃ t,u=Value.str x t from r); cases e; rfl
 | byt b=>obtain ⟨t,e⟩:=(show ∃ t,u=Value.bytes b t from r); cases e; rfl
 | flt b=>obtain ⟨t,e⟩:=(show ∃ t,u=Value.float b t from r); cases e; rfl
 | ref a=>cases (show u=Value.ref a from r); rfl
 | ty n=>cases (show u=Value.type n from r); rfl
section
variable {P:Aj} {w:World} {H H':Hp} {h h':Heap} {a C dx:Addr} {fs fs':List (Str × V)}
theorem aY5 (hok:HOk P w H h) (e:H a=some (.ins C dx fs)):∃ mA,ObjM h a dx C mA/\(∀ f,aqs4 (fs.lookup f) (mA f))/\PySem.Within mA (fs.map (·.1))/\fs.length <= 1000/\H dx=some (.own a):=by
 obtain ⟨d,z,ne,ob,mA,n,r,q⟩:=(show axu P w H h a (.ins C dx fs) from hok a _ e);exact ⟨mA,⟨ob,n,ne⟩,r,q,z,d⟩
end
structure Cls (K:Frag) (C:Addr):Prop where
 pg:E8 K C Str.empty=true
 hd:Fz K C=true
 po:Ir K C=true
 sa:Aq K (.ref C) "__setattr__"=some (some (.builtin "object.__setattr__"))
theorem Cls.get {K:Frag} {C:Addr} (c:Cls K C) (f:Str):E8 K C f=true:=c.pg
def aJt (K:Frag) (C:Addr) (f:Str):Prop:=Aq K (.ref C) f=some none
theorem aJt.taker {K:Frag} {C:Addr} {f:Str} (n:aJt K C f):J7 K C f=some none:=by
 unfold J7;rw [show Aq K (.ref C) f=some none from n];rfl
structure Con (K:Frag) (C:Addr) (f:Str) (v:V) (u:Value):Prop where
 at_:Aq K (.ref C) f=some (some u)
 rel:aqs3 v u
 get:F6 K u "__get__"=some none
 cp:PySem.W.copiedNames.contains f=false
structure Meth (K:Frag) (C:Addr) (m:Str) (f:Addr):Prop where
 at_:Aq K (.ref C) m=some (some (.ref f))
 fn:Ho K (.ref f)=true
 kp:Ha K (.ref f)=true
section
variable {X:Cx} {pins:List (Addr × Obj)} {σ:St} {H:Hp} {s:Shared} {a C dx:Addr} {fs:List (Str × V)} {f:Str} {v:V} {A:Around} {E:Value->Shared->Prop}
theorem aY6 {b:Bool} {Q:Value->Shared->Prop} (I:Inv X pins σ H s) (e:H a=some (.ins C dx fs)) (c:Cls X.K C) (n:aJt X.K C f) (l:fs.lookup f=some v)
  (h:∀ u s',Inv X pins σ H s'->aqs3 v u->Q u s'):wpAny (model X.prog X.w) A (getAttr (.ref a) f b) Q E s:=by
 obtain ⟨mA,O,r,_,_,_⟩:=aY5 I.hok e;obtain ⟨u,hu,ru⟩:=aqs4.some_of (v:=v) (o:=mA f) (by rw [<- l]; exact r f);exact aqka I.kIn O (c.get f) c.hd n hu (aqck ru) (h u _ (I.tok _) ru)
theorem aJj {m:Str} {g:Addr} {pl:Sem Bool} {Q:Value × List Value->Shared->Prop} (I:Inv X pins σ H s) (e:H a=some (.ins C dx fs)) (c:Cls X.K C) (k:Meth X.K C m g) (l:fs.lookup m=none)
  (h:Q (.ref g,[.ref a]) s):wpAny (model X.prog X.w) A (Ng (.ref a) m pl) Q E s:=by
 obtain ⟨mA,O,r,_,_,_⟩:=aY5 I.hok e;have hn:mA m=none:=aqs4.none_of (by rw [<- l]; exact r m);exact aqgq I.kIn O (c.get m) k.at_ k.fn hn h
theorem aWf {y:V} {u:Value} {Q:Unit->Shared->Prop} (I:Inv X pins σ H s) (e:H a=some (.ins C dx fs)) (c:Cls X.K C) (n:aJt X.K C f) (hl:fs.length < 1000) (ry:aqs3 y u)
  (h:∀ s',Inv X pins σ (upd H a (.ins C dx (aqr4 f y fs))) s'->Q () s'):wpAny (model X.prog X.w) A (setAttr (.ref a) f u) Q E s:=by
 obtain ⟨mA,O,r,wi,_,ho⟩:=aY5 I.hok e;have hz:(fs.map (·.1)).length <= Ag:=by rw [length_map,Au]; omega
 refine aqie I.kIn O c.sa c.po n.taker c.hd wi hz fun h' O' sb=>h _ ?_;have hd:∃ o,h'.get? dx=some o:=let ⟨o,_,_,e',_⟩:=O'.ns; ⟨o,e'⟩;refine I.write (x:=a) (e:=dx) (by rw [e]; exact True.intro) (.inr ho) (fun b q hb z=>(sb.2 b hb).trans z) hd ?_;refine ⟨by rw [ah O.ne]; exact ho,?_,O.ne,O'.obj,_,O'.ns,fun g=>?_,fun g hg=>?_⟩
 ·have:=awb f y fs; omega
 ·show aqs4 ((aqr4 f y fs).lookup g) (if g=f then some u else mA g)
  rw [aqn]
  by_cases q:g=f
  ·rw [if_pos q,if_pos q]; exact ry
  ·rw [if_neg q,if_neg q]; exact r g
 ·by_cases q:g=f
  ·rw [q]; exact (aQe f y fs).1
  ·refine (aQe f y fs).2 g (wi g fun z=>hg ?_)
   show (if g=f then some u else mA g)=none;rw [if_neg q]; exact z
theorem Inv.made (I:Inv X pins σ H s):Inv X pins σ (upd (upd H s.heap.objs.size (.own (s.heap.objs.size + 1))) (s.heap.objs.size + 1) (.ins C s.heap.objs.size []))
  { s with heap:=(s.heap.push Bq).push (Cz C s.heap.objs.size) }:=by
 have e1:(s.heap.push Bq).get? s.heap.objs.size=some Bq:=Ah s.heap rfl;have e2:((s.heap.push Bq).push (Cz C s.heap.objs.size)).get? (s.heap.objs.size + 1)=some (Cz C s.heap.objs.size):=by
  have:=Ah (s.heap.push Bq) (o:=Cz C s.heap.objs.size) rfl
  rwa [Bu] at this
 have e3:(s.heap.push Bq).Ns s.heap.objs.size (fun _=>none):=⟨Bq,#[],_,e1,rfl,(fun e he=>absurd he (by simp)),fun _=>rfl⟩;have I1:=I.laid (a:=s.heap.objs.size) (o:=.own (s.heap.objs.size + 1)) (h':=s.heap.push Bq) (t':=s.toks) (fun b u q=>Ae _ q) (le_refl _) ⟨_,e1⟩;refine I1.laid (a:=s.heap.objs.size + 1) (o:=.ins C s.heap.objs.size []) (t':=s.toks) (fun b u q=>Ae _ q) (Nat.le_of_eq (Bu _ _)) ?_;have ne:s.heap.objs.size ≠ s.heap.objs.size + 1:=ne_of_lt (lt_succ_self _);refine ⟨by rw [ah ne,ac],zero_le _,ne,e2,fun _=>none,(Heap.Ns1.of_empty e3).at fun o q=>Ae _ q,fun _=>True.intro,fun y hy=>absurd rfl hy⟩
theorem aql9 {prog:Aj} {w:World} {env:Env} {e:Expr} {f:Str} {pos:Pos} {s:Shared} {Q:Value->Shared->Prop} (hb:Em e f env (eval e env)=eval e env)
  (h:wpAny (model prog w) A (eval e env) (fun o s₁=>wpAny (model prog w) A (getAttr o f true) Q E s₁) E s):wpAny (model prog w) A (eval (.Attribute e f pos) env) Q E s :=
 Attribute_any_ h (by rw [arm_eval_Attribute,hb])
end
def tFld (K:Frag) (ta:TE) (f:Str):TE:=fun σ H Q=>ta σ H fun x H1=>∃ a C dx fs v,x=.ref a/\H1 a=some (.ins C dx fs)/\Cls K C/\aJt K C f/\fs.lookup f=some v/\Q v H1
def sFld (K:Frag) (ta tv:TE) (f:Str):TS:=fun D σ H=>tv σ H fun y H1=>ta σ H1 fun x H2=>∃ a C dx fs,x=.ref a/\H2 a=some (.ins C dx fs)/\Cls K C/\aJt K C f/\fs.length < 1000 /\
 D.nx σ (upd H2 a (.ins C dx (aqr4 f y fs)))
section
variable {X:Cx} {o e value:Expr} {f:Str} {pos pos' tpos:Pos} {ta tv:TE}
theorem azs (he:PE X e ta) (hb:Em e f X.env (eval e X.env)=eval e X.env):PE X (.Attribute e f pos) (tFld X.K ta f):=by
 intro pins s σ H Q I h;refine aql9 hb (thn (he pins s σ H _ I h) fun u s1 hQ=>?_);obtain ⟨x,H1,I1,rx,a,C,dx,fs,v,ex,ea,c,n,l,q⟩:=hQ;subst ex;obtain rfl:u=Value.ref a:=rx;exact aY6 I1 ea c n l fun u' s2 I2 ru=>⟨v,H1,I2,ru,q⟩
theorem aqiq (ha:PE X o ta) (hv:PE X value tv) (hs:Hw value (some (.Attribute o f pos')) pos.line X.env=pure false):PS X (.Assign [.Attribute o f pos'] value pos) (sFld X.K ta tv f):=by
 intro pins s σ H D I h;refine plainObj_wpAny_Assign_Attribute (thn (hv pins s σ H _ I h) fun u s1 ⟨y,H1,I1,ry,q⟩=>thn (ha pins s1 σ H1 _ I1 q) fun ov s2 hQ=>?_) hs;obtain ⟨x,H2,I2,rx,a,C,dx,fs,ex,ea,c,n,l,q2⟩:=hQ;subst ex;obtain rfl:ov=Value.ref a:=rx;exact aWf I2 ea c n l ry fun s3 I3=>⟨σ,_,I3,q2⟩
end
section
variable {X:Cx} {pins:List (Addr × Obj)} {σ:St} {H:Hp} {s:Shared} {A:Around} {E:Value->Shared->Prop} {Q:Value->Shared->Prop} {c:Value} {b:Bool}
inductive TyOf (K:Frag) (H:Hp):V->Value->Prop where
 | non:TyOf K H .non (.type "NoneType")
 | bl (x:Bool):TyOf K H (.bl x) (.type "bool")
 | int (i:Int):TyOf K H (.int i) (.type "int")
 | str (x:Str):TyOf K H (.str x) (.type "str")
 | flt (x:UInt64):TyOf K H (.flt x) (.type "float")
 | lst {a:Addr} {xs:List V} (e:H a=some (.lst xs)):TyOf K H (.ref a) (.type "list")
 | frz {a:Addr} {o:Obj} {xs:List V} (e:H a=some (.frz o (.lst xs))):TyOf K H (.ref a) (.type "list")
 | tup {a:Addr} {xs:List V} (e:H a=some (.tup xs)):TyOf K H (.ref a) (.type "tuple")
 | dK {a:Addr} {kvs:List (Key × V)} (e:H a=some (.dK kvs)):TyOf K H (.ref a) (.type "dict")
 | dT {a:Addr} {kvs:List (List Key × V)} (e:H a=some (.dT kvs)):TyOf K H (.ref a) (.type "dict")
 | ins {a C dx:Addr} {fs:List (Str × V)} (e:H a=some (.ins C dx fs)) (cl:Cls K C) (ha:Aq K (.ref C) "__class__"=some (some (.builtin "object.__class__")))
   (hn:F6 K (.builtin "object.__class__") "__get__"=some (some (.builtin "getset_descriptor.__get__"))) (htk:J9 K (.builtin "object.__class__")=some true)
   (hm:As K C (.type "object")=some true):TyOf K H (.ref a) (.ref C)
end
structure Room (k:Nat) (A:Around):Prop where
 hd:A.handled=none
 dp:A.depth + 3 * k + 5 < recursionLimit
 un:A.units + 16 * k + 200 < cLine
theorem Room.mono {j k:Nat} {A:Around} (r:Room k A) (h:j <= k):Room j A:=⟨r.hd,by have:=r.dp; omega,by have:=r.un; omega⟩
theorem Room.deeper {k:Nat} {A:Around} (r:Room (k + 1) A) (env:Env):Room k (A.deeper env) :=
 ⟨r.hd,by have:=r.dp; show A.depth + 1 + 3 * k + 5 < _; omega,by have:=r.un; show A.units + 3 + 16 * k + 200 < _; omega⟩
theorem Room.in1 {k:Nat} {A:Around} (r:Room (k + 1) A):Room k A.in1 :=
 ⟨r.hd,by have:=r.dp; show A.depth + 3 * k + 5 < _; omega,by have:=r.un; show A.units + 1 + 16 * k + 200 < _; omega⟩
theorem aYu {A:Around} {C:Addr} {us:List Value} {kw:List (Str × Value)}:(A.under (.builtin "type.__call__" ⟨.ref C :: us,kw⟩)).depth=A.depth + 1:=by
 first | rfl | simp [Mv,Code.weight,Code.isCreation,Code.isGuard,Code.isCaller,Code.frames,Mw,guardIds]
theorem aYt {A:Around} {C:Addr} {us:List Value} {kw:List (Str × Value)}:(A.under (.builtin "type.__call__" ⟨.ref C :: us,kw⟩)).units=A.units + 1:=by
 first | rfl | simp [Mv,Code.cUnits,Code.frames,Mw]
theorem Room.make {k:Nat} {A:Around} (r:Room (k + 1) A) (C:Addr) (us:List Value) (kw:List (Str × Value)):Room k (A.under (.builtin "type.__call__" ⟨.ref C :: us,kw⟩)) :=
 ⟨r.hd,by have:=r.dp; rw [aYu]; omega,by have:=r.un; rw [aYt]; omega⟩
theorem Room.depth {k:Nat} {A:Around} (r:Room k A):A.depth < recursionLimit:=by have:=r.dp; omega
theorem Room.units {k:Nat} {A:Around} (r:Room k A):A.units + 64 < cLine:=by have:=r.un; omega
def aqqw:TA:=fun _ H Q=>Q [] H
def ako (ta:TE) (tr:TA):TA:=fun σ H Q=>ta σ H fun x H1=>tr σ H1 fun xs H2=>Q (x :: xs) H2
section
variable {X:Cx} {e:Expr} {es:List Expr} {te:TE} {t:TA} {pos:Pos}
theorem bg:PA X [] aqqw:=fun _ _ _ _ H Q I h=>Et ⟨[],H,I,.nil,h⟩
theorem aa (ha:PE X e te) (hr:PA X es t) (hs:Ap (e :: es) X.env=(false,eval e X.env) :: Ap es X.env:=by rfl):PA X (e :: es) (ako te t):=by
 intro pos pins s σ H Q I h;rw [hs];show wpAny _ _ (spliced ((false,eval e X.env) :: C2 pos (Ap es X.env))) _ _ s;refine Cd (thn (ha pins s σ H _ I h) fun u s1 hQ=>?_);obtain ⟨x,H1,I1,r1,q1⟩:=hQ;exact thn (hr pos pins s1 σ H1 _ I1 q1) fun us s2 ⟨xs,H2,I2,r2,q2⟩=>⟨x :: xs,H2,I2,.cons r1 r2,q2⟩
def tTup (t:TA):TE:=fun σ H Q=>t σ H fun xs H1=>xs.length <= Ag/\∀ p,H1 p=none->Q (.ref p) (upd H1 p (.tup xs))
def tLst (t:TA):TE:=fun σ H Q=>t σ H fun xs H1=>xs.length <= Ag/\∀ p,H1 p=none->Q (.ref p) (upd H1 p (.lst xs))
theorem azc {x1} (h:PA X es t):PE X (.Tuple es x1 pos) (tTup t):=by
 intro pins s σ H Q I hq;refine wpAny_Tuple_spliced (thn (h pos pins s σ H _ I hq) fun us s1 ⟨xs,H1,I1,r,z,q⟩=>⟨by rw [<- r.length]; exact z,?_⟩);have hf:H1 s1.heap.objs.size=none:=I1.hok.fresh (le_refl _);refine ⟨.ref s1.heap.objs.size,upd H1 s1.heap.objs.size (.tup xs),I1.laid (t':=s1.toks) (fun b u e=>Ae _ e) (le_refl _) ?_,rfl,q _ hf⟩;exact ⟨z,us,r,⟨_,Ah _ rfl,rfl,_,rfl⟩⟩
theorem aF (h:PA X es t):PE X (.List es pos) (tLst t):=by
 intro pins s σ H Q I hq;refine wpAny_List_spliced (thn (h pos pins s σ H _ I hq) fun us s1 ⟨xs,H1,I1,r,z,q⟩=>⟨by rw [<- r.length]; exact z,?_⟩);have hf:H1 s1.heap.objs.size=none:=I1.hok.fresh (le_refl _);refine ⟨.ref s1.heap.objs.size,upd H1 s1.heap.objs.size (.lst xs),I1.laid (t':=s1.toks) (fun b u e=>Ae _ e) (le_refl _) ?_,rfl,q _ hf⟩;exact ⟨z,us,0,r,Ah _ rfl⟩
end
abbrev Sp:=List V->Hp->VK->XK->Prop
abbrev CXT:=List Env->Hp->Shared->XK->Value->Shared->Prop
structure Env0 (P:Aj) (w:World) (K:Frag) (mg:Str->Option Value) (base:Heap) (A:Around) (outer:List Env) (s:Shared) (H:Hp):Prop where
 frames:A.frames=some outer
 mod:Mod K mg base
 bs:∀ b o,base.get? b=some o->s.heap.get? b=some o/\H b=none
 bsz:base.objs.size <= s.heap.objs.size
 funs:s.heap.FunFrames base outer
 frf:∀ b∈frs outer,H b=none
 hok:HOk P w H s.heap
 bare:Gx s.gens
def CE (outer:List Env) (P:Aj) (w:World) (H:Hp) (s:Shared) (Q:VK) (u:Value) (s':Shared):Prop :=
 ∃ v H',s'.os=s.os/\Gx s'.gens/\Un (frs outer) [] H H' s.heap s'.heap/\HOk P w H' s'.heap/\aqs3 v u/\Q v H'
def CR (CX:CXT) (outer:List Env) (P:Aj) (w:World) (H:Hp) (s:Shared) (Q:VK) (E:XK) (r:L8) (s':Shared):Prop :=
 match r with
 | .ok (.ret u)=>CE outer P w H s Q u s'
 | .ok _=>False
 | .error e=>CX outer H s E e s'
structure FnOk (P:Aj) (w:World) (K:Frag) (mg:Str->Option Value) (base:Heap) (CX:CXT) (k:Nat) (f:Addr) (fd:Ak) (ps:List Str) (sp:Sp):Prop where
 len:∀ vs H Q E,sp vs H Q E->vs.length=ps.length
 run:∀ (A:Around) (outer:List Env) (s:Shared) (H:Hp) (args:Args) (us:List Value) (vs:List V) (Q:VK) (E:XK),Room k A->Env0 P w K mg base A outer s H->Iu s fd args (ps.zip us)->aqs0 vs us->sp vs H Q E ->
  Ds (model P w) A (.call (.ref f) args) (CR CX outer P w H s Q E) s
theorem FnOk.mono {P:Aj} {w:World} {K:Frag} {mg:Str->Option Value} {base:Heap} {CX:CXT} {j k:Nat} {f:Addr} {fd:Ak} {ps:List Str} {sp:Sp} (F:FnOk P w K mg base CX j f fd ps sp) (h:j <= k) :
  FnOk P w K mg base CX k f fd ps sp:=⟨F.len,fun A outer s H args us vs Q E hr=>F.run A outer s H args us vs Q E (hr.mono h)⟩
theorem FnOk.imp {P:Aj} {w:World} {K:Frag} {mg:Str->Option Value} {base:Heap} {CX:CXT} {k:Nat} {f:Addr} {fd:Ak} {ps:List Str} {sp sp':Sp} (F:FnOk P w K mg base CX k f fd ps sp)
  (h:∀ vs H Q E,sp' vs H Q E->sp vs H Q E):FnOk P w K mg base CX k f fd ps sp' :=
 ⟨fun vs H Q E q=>F.len vs H Q E (h _ _ _ _ q),fun A outer s H args us vs Q E hr he hb hv hs=>F.run A outer s H args us vs Q E hr he hb hv (h _ _ _ _ hs)⟩
theorem Env0.make {P:Aj} {w:World} {K:Frag} {mg:Str->Option Value} {base:Heap} {A:Around} {outer:List Env} {s:Shared} {H:Hp} (e:Env0 P w K mg base A outer s H) (C:Addr) (us:List Value) (kw:List (Str × Value)) :
  Env0 P w K mg base (A.under (.builtin "type.__call__" ⟨.ref C :: us,kw⟩)) outer s H:=⟨by first | exact e.frames | (simpa [Mv,Code.envs,Mw,pushEnvs] using e.frames),e.mod,e.bs,e.bsz,e.funs,e.frf,e.hok,e.bare⟩
theorem Env0.in1 {P:Aj} {w:World} {K:Frag} {mg:Str->Option Value} {base:Heap} {A:Around} {outer:List Env} {s:Shared} {H:Hp} (e:Env0 P w K mg base A outer s H) :
  Env0 P w K mg base A.in1 outer s H:=⟨e.frames,e.mod,e.bs,e.bsz,e.funs,e.frf,e.hok,e.bare⟩
section
variable {X:Cx} {pins:List (Addr × Obj)} {σ:St} {H:Hp} {s s':Shared}
theorem Inv.env0 (I:Inv X pins σ H s):Env0 X.prog X.w X.K X.mg X.base X.A X.stack s H :=
 ⟨I.ok.frames,I.ok.mod,I.bs,le_trans I.ok.bsz I.sz,I.stack,I.stkFree,I.hok,I.bare⟩
theorem Inv.after {Q:VK} {u:Value} (I:Inv X pins σ H s) (h:CE X.stack X.prog X.w H s Q u s'):EP X pins σ Q u s':=by
 obtain ⟨v,H',os,bare,un,hok,r,q⟩:=h;obtain ⟨hh,g,d,t,os'⟩:=s';obtain rfl:os'=s.os:=os;exact ⟨v,H',I.call (h':=hh) (g':=g) (d':=d) (t':=t) (ch:=[]) un hok bare (fun b z=>absurd z (by simp)),r,q⟩
end
def tCall (sp:Sp) (dvs:List V) (E:XK) (t:TA):TE:=fun σ H Q=>t σ H fun vs H1=>sp (vs++dvs) H1 Q E
def tMeth (C:Addr) (m:Str) (sp:Sp) (dvs:List V) (E:XK) (ta:TE) (t:TA):TE:=fun σ H Q=>ta σ H fun x H1=>∃ a dx fs,x=.ref a/\H1 a=some (.ins C dx fs)/\fs.lookup m=none /\
 t σ H1 fun vs H2=>sp (x :: (vs++dvs)) H2 Q E
def tMake (C:Addr) (sp:Sp) (dvs:List V) (E:XK) (t:TA):TE:=fun σ H Q=>t σ H fun vs H1=>∀ x dx,H1 x=none->H1 dx=none->dx ≠ x ->
 sp (.ref x :: (vs++dvs)) (upd (upd H1 dx (.own x)) x (.ins C dx [])) (fun v H2=>v=.non/\Q (.ref x) H2) E
def Binds (K:Frag) (fd:Ak) (ps:List Str) (ds:List Value):Prop :=
 ∀ (s:Shared) (us:List Value),K.In s.heap->(us++ds).length=ps.length->Iu s fd ⟨us,[]⟩ (ps.zip (us++ds))
theorem Binds.all {K:Frag} {fd:Ak} {ps:List Str} (h:∀ us:List Value,us.length=ps.length->Ia fd ⟨us,[]⟩=pure (ps.zip us)):Binds K fd ps []:=fun s us _ hl=>by
 rw [append_nil] at hl ⊢;exact .of_eq (h us hl)
def aky (CX:CXT) (X:Cx) (E:XK):Prop:=∀ (pins:List (Addr × Obj)) (σ:St) (H:Hp) (s:Shared) (e:Value) (s':Shared),Inv X pins σ H s->CX X.stack H s E e s'->X.xe e s'
section
variable {X:Cx} {CX:CXT} {k:Nat} {f C:Addr} {fd:Ak} {ps:List Str} {sp:Sp} {dvs:List V} {ds:List Value} {E:XK} {x m:Str} {p pos apos:Pos} {e o:Expr} {es:List Expr} {ta:TE} {t:TA}
theorem aqfa {pins:List (Addr × Obj)} {σ:St} {H:Hp} {s:Shared} {Q:VK} {us:List Value} {vs:List V} (F:FnOk X.prog X.w X.K X.mg X.base CX k f fd ps sp) (hr:Room k X.A) (hb:Binds X.K fd ps ds) (hd:aqs0 dvs ds) (hx:aky CX X E)
  (I:Inv X pins σ H s) (r:aqs0 vs us) (h:sp (vs++dvs) H Q E):wpAny (model X.prog X.w) X.A (call (.ref f) us) (EP X pins σ Q) X.xe s:=by
 have r2:aqs0 (vs++dvs) (us++ds):=r.append hd;have hl:(us++ds).length=ps.length:=by rw [<- r2.length]; exact F.len _ _ _ _ h
 refine wpAny_call (Co (F.run X.A X.stack s H ⟨us,[]⟩ (us++ds) (vs++dvs) Q E hr I.env0 (hb s us I.kIn hl) r2 h) fun r s' hq=>?_);cases r with
 | error e=>exact hx pins σ H s e s' I hq
 | ok fl =>
  cases fl with
  | ret u=>exact I.after hq
  | next=>exact Az hq
  | brk=>exact Az hq
  | cont=>exact Az hq
theorem au (F:FnOk X.prog X.w X.K X.mg X.base CX k f fd ps sp) (hr:Room k X.A) (hg:Gl X x) (hm:X.mg x=some (.ref f)) (hk:Ha X.K (.ref f)=true) (hb:Binds X.K fd ps ds) (hd:aqs0 dvs ds) (hx:aky CX X E)
  (ha:PA X (e :: es) t) (hdb:(x == ("__debug__":Str))=false:=by decide) (he:Ap (e :: es) X.env=(false,eval e X.env) :: Ap es X.env:=by rfl) (hpl:(C2 pos (Ap es X.env)).any (·.1)=false:=by rfl) :
  PE X (.Call (.Name x p) (e :: es) [] pos) (tCall sp dvs E t):=by
 intro pins s σ H Q I h;refine B0 (az5 I hg hm ?_ hdb);refine L9 (h₀:=X.base) I.ok.mod.kin hk (thn (ha pos pins s σ H _ I h) fun us s1 ⟨vs,H1,I1,r,q⟩=>⟨I1.kIn,?_⟩) he hpl;exact aqfa F hr hb hd hx I1 r q
theorem aqg {pl:Sem Bool} (he:PE X o ta) (c:Cls X.K C) (hm:Meth X.K C m f) (F:FnOk X.prog X.w X.K X.mg X.base CX k f fd ps sp) (hr:Room k X.A) (hb:Binds X.K fd ps ds) (hd:aqs0 dvs ds) (hx:aky CX X E) (ha:PA X (e :: es) t)
  (hst:Ap (e :: es) X.env=(false,eval e X.env) :: Ap es X.env:=by rfl) (hpl:(C2 pos (Ap es X.env)).any (·.1)=false:=by rfl)
  (ht:eval (.Call (.Attribute o m apos) (e :: es) [] pos) X.env=(do
   let ov <- eval o X.env
   Nu apos.atName
   let (f,first) <- Jv [ov] (Ng ov m pl)
   callWith pos f first (C2 pos (Ap (e :: es) X.env)) (Mx pos (Iv [] X.env))):=by rfl) :
  PE X (.Call (.Attribute o m apos) (e :: es) [] pos) (tMeth C m sp dvs E ta t):=by
 intro pins s σ H Q I h;refine Kh (pl:=pl) (thn (he pins s σ H _ I h) fun u s1 hQ=>?_) ht;obtain ⟨x,H1,I1,rx,a,dx,fs,ex,ea,l,q⟩:=hQ;subst ex;obtain rfl:u=Value.ref a:=rx;refine aJj I1 ea c hm l ?_;refine L9 (first:=[.ref a]) (h₀:=X.base) I.ok.mod.kin hm.kp (thn (ha pos pins s1 σ H1 _ I1 q) fun us s2 ⟨vs,H2,I2,r,q2⟩=>⟨I2.kIn,?_⟩) hst hpl;exact aqfa (us:=.ref a :: us) (vs:=.ref a :: vs) F hr hb hd hx I2 (.cons rfl r) q2
theorem ax0 {pl:Sem Bool} (he:PE X o ta) (c:Cls X.K C) (hm:Meth X.K C m f) (F:FnOk X.prog X.w X.K X.mg X.base CX k f fd ps sp) (hr:Room k X.A) (hb:Binds X.K fd ps ds) (hd:aqs0 dvs ds) (hx:aky CX X E)
  (ht:eval (.Call (.Attribute o m apos) [] [] pos) X.env=(do
   let ov <- eval o X.env
   Nu apos.atName
   let (f,first) <- Jv [ov] (Ng ov m pl)
   callWith pos f first (C2 pos (Ap [] X.env)) (Mx pos (Iv [] X.env))):=by rfl) :
  PE X (.Call (.Attribute o m apos) [] [] pos) (tMeth C m sp dvs E ta aqqw):=by
 intro pins s σ H Q I h;refine Kh (pl:=pl) (thn (he pins s σ H _ I h) fun u s1 hQ=>?_) ht;obtain ⟨x,H1,I1,rx,a,dx,fs,ex,ea,l,q⟩:=hQ;subst ex;obtain rfl:u=Value.ref a:=rx;refine aJj I1 ea c hm l ?_;exact Ln (first:=[.ref a]) I1.kIn hm.kp (aqfa (us:=[.ref a]) (vs:=[.ref a]) F hr hb hd hx I1 (.cons rfl .nil) q)
structure Mk (K:Frag) (C f:Addr):Prop where
 makes:J8 K C=true
 init:Aq K (.ref C) "__init__"=some (some (.ref f))
 fn:Ho K (.ref f)=true
 kp:Ha K (.ref C)=true
theorem aqf9 {pins:List (Addr × Obj)} {σ:St} {H:Hp} {s:Shared} {Q:VK} {us:List Value} {vs:List V} (M:Mk X.K C f) (F:FnOk X.prog X.w X.K X.mg X.base CX k f fd ps sp) (hr:Room (k + 1) X.A) (hb:Binds X.K fd ps ds) (hd:aqs0 dvs ds)
  (hx:aky CX X E) (I:Inv X pins σ H s) (r:aqs0 vs us)
  (h:∀ x dx,H x=none->H dx=none->dx ≠ x->sp (.ref x :: (vs++dvs)) (upd (upd H dx (.own x)) x (.ins C dx [])) (fun v H2=>v=.non/\Q (.ref x) H2) E) :
  wpAny (model X.prog X.w) X.A (call (.ref C) us) (EP X pins σ Q) X.xe s:=by
 have hq:=h (s.heap.objs.size + 1) s.heap.objs.size (I.hok.fresh (le_succ _)) (I.hok.fresh (le_refl _)) (ne_of_lt (lt_succ_self _));have I2:=Inv.made (C:=C) I;have r2:aqs0 (V.ref (s.heap.objs.size + 1) :: (vs++dvs)) (Value.ref (s.heap.objs.size + 1) :: (us++ds)):=.cons rfl (r.append hd);have hl:(Value.ref (s.heap.objs.size + 1) :: us++ds).length=ps.length:=by
  have e:=r2.length;rw [F.len _ _ _ _ hq] at e;exact e.symm
 refine wpAny_call (aqgb (f:=f) I.kIn M.makes M.init (beq_iff_eq.mp M.fn) (Co (F.run _ X.stack _ _ ⟨Value.ref (s.heap.objs.size + 1) :: us,[]⟩ (Value.ref (s.heap.objs.size + 1) :: (us++ds)) _ _ E (hr.make C us [])
  (I2.env0.make C us []) (hb _ (Value.ref (s.heap.objs.size + 1) :: us) I2.kIn hl) r2 hq) fun r s' hq'=>?_))
 cases r with
 | error e=>exact hx pins σ _ _ e s' I2 hq'
 | ok fl =>
  cases fl with
  | ret u =>
   obtain ⟨v,H',I3,rv,ev,q3⟩:=I2.after hq';subst ev;exact ⟨rv,⟨V.ref (s.heap.objs.size + 1),H',I3,rfl,q3⟩⟩
  | next=>exact Az hq'
  | brk=>exact Az hq'
  | cont=>exact Az hq'
theorem aqfj (M:Mk X.K C f) (F:FnOk X.prog X.w X.K X.mg X.base CX k f fd ps sp) (hr:Room (k + 1) X.A) (hg:Gl X x) (hm:X.mg x=some (.ref C)) (hb:Binds X.K fd ps ds) (hd:aqs0 dvs ds) (hx:aky CX X E)
  (hdb:(x == ("__debug__":Str))=false:=by decide):PE X (.Call (.Name x p) [] [] pos) (tMake C sp dvs E aqqw):=by
 intro pins s σ H Q I h;refine B0 (az5 I hg hm ?_ hdb);exact Ln I.kIn M.kp (aqf9 (us:=[]) M F hr hb hd hx I .nil h)
end
section
variable {X:Cx} {CX:CXT} {k:Nat} {f C:Addr} {fd:Ak} {ps ks:List Str} {sp:Sp} {E:XK} {x m:Str} {p pos apos kpos:Pos} {e o:Expr} {es:List Expr} {kws:List Lh} {te ta:TE} {t tk:TA} {nm:Option Str}
structure KBinds (K:Frag) (fd:Ak) (ps ks:List Str) (g:List Value->List Value->List Value) (gV:List V->List V->List V):Prop where
 to:∀ (s:Shared) (us ws:List Value),K.In s.heap->(g us ws).length=ps.length->Iu s fd ⟨us,ks.zip ws⟩ (ps.zip (g us ws))
 rel:∀ {vs:List V} {us:List Value} {zs:List V} {ws:List Value},aqs0 vs us->aqs0 zs ws->aqs0 (gV vs zs) (g us ws)
variable {g:List Value->List Value->List Value} {gV:List V->List V->List V}
end
structure FnScope (N P:List Str) (sc:Scope):Prop where
 kind:sc.kind=.function
 co:sc.isCoroutine=false
 gen:sc.isGenerator=false
 nd:N.Nodup
 pre:N.take P.length=P
 par:∀ x∈P,sc.names.lookup x=some .local \/ sc.names.lookup x=some .cell
 nofree:∀ y∈sc.names,y.2 ≠ .free
theorem aVm {kindOf:Str->Option NameKind} {x:Str}:∀ {binds:List (Str × Value)} {m:Str->Option Value},(∀ v,(x,v) ∉ binds)->bindL kindOf binds m x=m x
 | [],_,_=>rfl
 | (n,v) :: r,m,h=>by
  unfold bindL;rw [aVm fun w hw=>h w (mem_cons_of_mem _ hw)];split
  ·have:x ≠ n:=by rintro rfl; exact h v mem_cons_self
   simp [this]
  ·rfl
theorem aVo {kindOf:Str->Option NameKind} {x:Str}:∀ {binds:List (Str × Value)} {m:Str->Option Value},(∀ v,(x,v) ∉ binds)->bindC kindOf binds m x=m x
 | [],_,_=>rfl
 | (n,v) :: r,m,h=>by
  unfold bindC;rw [aVo fun w hw=>h w (mem_cons_of_mem _ hw)];split
  ·rfl
  ·have:x ≠ n:=by rintro rfl; exact h v mem_cons_self
   simp [this]
theorem aVn {kindOf:Str->Option NameKind} {x:Str} {v:Value}:∀ {P:List Str} {vs:List Value} {i:Nat} {m:Str->Option Value},P.Nodup->P[i]?=some x->vs[i]?=some v->kindOf x=some .local ->
  bindL kindOf (P.zip vs) m x=some v
 | [],_,_,_,_,h,_,_=>by simp at h
 | _ :: _,[],_,_,_,_,h,_=>by simp at h
 | p :: P,w :: vs,0,m,nd,h1,h2,hk=>by
  simp at h1 h2; subst h1; subst h2;show bindL kindOf ((p,w) :: P.zip vs) m p=_;unfold bindL;rw [aVm fun v hv=>(Fo.mp nd).1 (Ka hv).1,if_pos hk]
  simp
 | p :: P,w :: vs,i + 1,m,nd,h1,h2,hk=>by
  show bindL kindOf ((p,w) :: P.zip vs) m x=_;unfold bindL;exact aVn (i:=i) (Fo.mp nd).2 (by simpa using h1) (by simpa using h2) hk
theorem aVp {kindOf:Str->Option NameKind} {x:Str} {v:Value}:∀ {P:List Str} {vs:List Value} {i:Nat} {m:Str->Option Value},P.Nodup->P[i]?=some x->vs[i]?=some v->kindOf x ≠ some .local ->
  bindC kindOf (P.zip vs) m x=some v
 | [],_,_,_,_,h,_,_=>by simp at h
 | _ :: _,[],_,_,_,_,h,_=>by simp at h
 | p :: P,w :: vs,0,m,nd,h1,h2,hk=>by
  simp at h1 h2; subst h1; subst h2;show bindC kindOf ((p,w) :: P.zip vs) m p=_;unfold bindC;rw [aVo fun v hv=>(Fo.mp nd).1 (Ka hv).1,if_neg hk]
  simp
 | p :: P,w :: vs,i + 1,m,nd,h1,h2,hk=>by
  show bindC kindOf ((p,w) :: P.zip vs) m x=_;unfold bindC;exact aVp (i:=i) (Fo.mp nd).2 (by simpa using h1) (by simpa using h2) hk
def start (N:List Str) (vs:List V):St:=vs.map some++D9 (N.length - vs.length) none
def aqrp (CX:CXT) (P:Aj) (w:World) (K:Frag) (mg:Str->Option Value) (base:Heap) (N:List Str) (qual:Str) (scope:Scope) (f:Addr) (cd:Value) (A:Around) (outer:List Env) (s:Shared) (H:Hp) (E:XK):Cx where
 prog:=P
 w:=w
 K:=K
 mg:=mg
 base:=base
 A:=A.deeper (F7 qual scope s.heap.objs.size f cd)
 N:=N
 s₀:=s
 H₀:=H
 env:=F7 qual scope s.heap.objs.size f cd
 outer:=outer
 stack:=F7 qual scope s.heap.objs.size f cd :: outer
 ex:=[]
 calm:=true
 fn:=fun _=>true
 pn:=[]
 xe:=fun e s'=>wpAny (model P w) (A.deeper (F7 qual scope s.heap.objs.size f cd)) (leaving (F7 qual scope s.heap.objs.size f cd) e) (fun _ s''=>CX outer H s E e s'') (fun e' s''=>CX outer H s E e' s'') s'
theorem aqak {sc:Scope} {n:Nat} {x:Str} (h:sc.names.lookup x=some .cell):∃ c,(Nh n sc.names []).lookup x=some c:=by
 have q:=Jw sc.names n [] (.inl h);exact Je.mp q
theorem aqcg {CX:CXT} {P:Aj} {w:World} {K:Frag} {mg:Str->Option Value} {base:Heap} {N ps:List Str} {qual:Str} {scope:Scope} {f:Addr} {cd:Value} {A:Around} {outer:List Env} {s s1:Shared} {H:Hp} {E:XK} {us:List Value} {vs:List V}
  (S:FnScope N ps scope) (hd:A.handled=none) (e0:Env0 P w K mg base A outer s H) (hl:vs.length=ps.length) (r:aqs0 vs us)
  (x:InCallC s s.heap.objs.size (bindL (F7 qual scope s.heap.objs.size f cd).kindOf (ps.zip us) fun _=>none) (Nh (s.heap.objs.size + 1) scope.names []) (bindC (F7 qual scope s.heap.objs.size f cd).kindOf (ps.zip us) fun _=>none) s1) :
  Inv (aqrp CX P w K mg base N qual scope f cd A outer s H E) [] (start N vs) H s1:=by
 have hpl:ps.length <= N.length:=by have:=congrArg List.length S.pre; rw [length_take] at this; omega
 obtain ⟨h1,tk,rfl,hk⟩:=x.done;have noA:∀ b:Addr,b ∉ (aqrp CX P w K mg base N qual scope f cd A outer s H E).ex:=fun b z=>absurd (show b∈([]:List Addr) from z) (by simp);refine ⟨⟨e0.mod,S.kind,rfl,rfl,le_refl _,fun y z c h1 h2=>?_,fun y hy=>?_,fun y c _ h=>?_,fun _=>hd,Around.frames_deeper e0.frames,.inr ⟨rfl,rfl⟩,fun b z=>absurd z (noA b),e0.bs,e0.bsz,fun b _ _=>noA b,fun b z=>absurd z (noA b),e0.funs,e0.frf⟩,
  rfl,e0.bare,Un.kept hk,⟨_,x.toInCall.ns,fun i y v h1 h2 h3=>?_⟩,fun y c h=>⟨_,x.cell y c h⟩,e0.hok.fresh (le_refl _),fun y c h=>?_,fun p hp=>absurd (show p∈([]:List (Addr × Obj)) from hp) (by simp),e0.hok.kept hk,?_⟩
 ·exact name_of_addr x.apart (D5 h1) (D5 h2)
 ·have hy:scope.names.lookup y=some .cell \/ scope.names.lookup y=some .free:=hy
  rcases hy with hy | hy
  ·exact aqak hy
  ·exact absurd rfl (S.nofree _ (D5 hy))
 ·exact le_of_lt (x.above y c (D5 h))
 ·have hi:i < vs.length:=by
   unfold start at h2
   by_cases hi:i < vs.length
   ·exact hi
   ·rw [Ib (by simpa using hi)] at h2
    rw [List.getElem?_replicate] at h2;split at h2 <;> cases h2
  have ha:vs[i]?=some v:=by
   unfold start at h2;rw [Di (by simpa using hi),getElem?_map] at h2;cases e:vs[i]? with
   | none=>rw [e] at h2; cases h2
   | some a=>rw [e] at h2; cases h2; rfl
  obtain ⟨u,hu,rv⟩:=r.get ha;have hp:ps[i]?=some y:=by
   rw [<- S.pre,Jf (by omega)]; exact h1
  have ndP:ps.Nodup:=by rw [<- S.pre]; exact S.nd.sublist (List.take_sublist _ _)
  refine ⟨u,rv,?_⟩;rcases S.par y (mem_of_getElem? hp) with k | k
  ·exact .inl ⟨k,aVn ndP hp hu k⟩
  ·obtain ⟨c,e⟩:=aqak (n:=s.heap.objs.size + 1) k
   refine .inr ⟨.inl k,c,e,?_⟩;have q:=x.cell y c e;rw [aVp ndP hp hu (by show scope.names.lookup y ≠ _; rw [k]; decide)] at q;exact q
 ·exact e0.hok.fresh (le_of_lt (x.above y c (D5 h)))
 ·unfold start
  show _=N.length;rw [length_append,length_map,List.length_replicate];omega
theorem fn_of {CX:CXT} {P:Aj} {w:World} {K:Frag} {mg:Str->Option Value} {base:Heap} {k:Nat} {f:Addr} {name qual:Str} {params:Arguments} {body:List Stmt} {scope:Scope} {dV kV doc pm cdv ct oc:Value} {an od:Option Addr}
  {osl:Array (Option Value)} {N ps:List Str} {sp:Sp} (lk:K.lookup f=some ⟨oc,od,.func (fnOf name qual params body scope dV kV doc pm an cdv ct),osl⟩) (hcd:Ni K cdv qual=true) (S:FnScope N ps scope)
  (len:∀ vs H Q E,sp vs H Q E->vs.length=ps.length)
  (hbody:∀ (A:Around) (outer:List Env) (s:Shared) (H:Hp) (vs:List V) (Q:VK) (E:XK),Room k (A.deeper (F7 qual scope s.heap.objs.size f cdv))->sp vs H Q E ->
   ∃ t,PSs (aqrp CX P w K mg base N qual scope f cdv A outer s H E) body t/\t { nx:=fun _ H'=>Q .non H',rt:=Q } (start N vs) H) :
  FnOk P w K mg base CX (k + 1) f (fnOf name qual params body scope dV kV doc pm an cdv ct) ps sp:=by
 refine ⟨len,fun A outer s H args us vs Q E hr e0 hb r hsp=>?_⟩;have hl:=len _ _ _ _ hsp;have KX:K.In s.heap:=e0.mod.kin.keeps fun b o e=>(e0.bs b o e).1;have lim:s.heap.NoLimit:=e0.mod.nolimit.keeps fun b o e=>(e0.bs b o e).1;have hkind:∀ y∈ps.zip us,scope.names.lookup y.1=some .local \/ (scope.names.lookup y.1=some .cell/\((Nh (s.heap.objs.size + 1) scope.names []).lookup y.1).isSome=true):=fun ⟨n,v⟩ hy=>by
  rcases S.par n (Ka hy).1 with q | q
  ·exact .inl q
  ·exact .inr ⟨q,Jw _ _ _ (.inl q)⟩
 refine codeAny_call_function hr.depth (KX _ _ lk) rfl S.co S.gen rfl (PySem.W.codeRec_of KX hcd) (hb _ _ _ _ ?_);refine wpAny_newFunctionEnv_cells S.kind hkind fun env he s1 x=>?_;subst he;refine ⟨lim.keeps x.toInCall.keep,codeAny_func ?_⟩;obtain ⟨t,ht,hq⟩:=hbody A outer s H vs Q E (hr.deeper _) hsp;have I:Inv (aqrp CX P w K mg base N qual scope f cdv A outer s H E) [] (start N vs) H s1:=aqcg S hr.hd e0 hl r x;refine A9 (ht [] s1 (start N vs) H _ I hq) (fun fl s' hs=>?_) fun e s' hs=>hs;have fin:∀ {σ':St} {H':Hp} {v:V} {u:Value},Inv (aqrp CX P w K mg base N qual scope f cdv A outer s H E) [] σ' H' s'->aqs3 v u->Q v H'->CE outer P w H s Q u s' :=
  fun {σ' H' v u} J rv q=>⟨v,H',J.os,J.bare,J.base,J.hok,rv,q⟩
 cases fl with
 | ret u =>
  obtain ⟨v,σ',H',J,rv,q⟩:=hs;exact fin J rv q
 | next =>
  obtain ⟨σ',H',J,q⟩:=hs;exact fin (v:=V.non) (u:=Value.none) J rfl q
 | brk =>
  obtain ⟨_,_,_,q⟩:=hs;exact Az q
 | cont =>
  obtain ⟨_,_,_,q⟩:=hs;exact Az q
section
variable {X:Cx} {x:Str} {p pos:Pos} {e:Expr} {es:List Expr} {t:TA} {id T:String} {r:List V->Hp->VK->Prop}
def tCB (r:List V->Hp->VK->Prop) (t:TA):TE:=fun σ H Q=>t σ H fun vs H1=>r vs H1 Q
theorem aqe (hc:awm X (.builtin id) r) (hg:Gl X x) (hm:X.mg x=none) (hv:A7 x=some (.builtin id)) (ha:PA X (e :: es) t) (hn:x ≠ "__name__":=by decide) (hdb:(x == ("__debug__":Str))=false:=by decide)
  (he:Ap (e :: es) X.env=(false,eval e X.env) :: Ap es X.env:=by rfl) (hpl:(C2 pos (Ap es X.env)).any (·.1)=false:=by rfl):PE X (.Call (.Name x p) (e :: es) [] pos) (tCB r t):=by
 intro pins s σ H Q I h;refine B0 (aQc I hg hm hv ?_ hn hdb);exact PyProof.Rows.callWith_builtin1 (thn (ha pos pins s σ H _ I h) fun us s1 ⟨vs,H1,I1,r1,q1⟩=>hc pins s1 σ H1 vs us Q I1 r1 q1) he hpl
theorem ajv (hc:awm X (.type T) r) (hg:Gl X x) (hm:X.mg x=none) (hv:A7 x=some (.type T)) (ha:PA X (e :: es) t) (hn:x ≠ "__name__":=by decide) (hdb:(x == ("__debug__":Str))=false:=by decide)
  (he:Ap (e :: es) X.env=(false,eval e X.env) :: Ap es X.env:=by rfl) (hpl:(C2 pos (Ap es X.env)).any (·.1)=false:=by rfl):PE X (.Call (.Name x p) (e :: es) [] pos) (tCB r t):=by
 intro pins s σ H Q I h;refine B0 (aQc I hg hm hv ?_ hn hdb);exact B5 (thn (ha pos pins s σ H _ I h) fun us s1 ⟨vs,H1,I1,r1,q1⟩=>hc pins s1 σ H1 vs us Q I1 r1 q1) he hpl
end
end L2
namespace HT
open PySem PyProof.Rows
section
open PySem.SeqAt
open PySem.AutoSeq1 (wpAny_loadPart')
open PySem.MeetsSeq PySem.MeetsSeq2 PySem.MeetsSeq3
end
section
variable {prog:Aj} {w:World} {A:Around} {E:Value->Shared->Prop} {s:Shared}
def sIx (n d:Nat):Option Int->Nat
 | none=>d
 | some v=>if v < 0 then (v + (n:Int)).toNat else min v.toNat n
end
end HT
namespace L2
open PySem PySem.Spec PyProof.Rows
abbrev TO:=St->Hp->(Option Int->Hp->Prop)->Prop
def PO (X:Cx) (e:Option Expr) (t:TO):Prop :=
 ∀ (pins:List (Addr × Obj)) (s:Shared) (σ:St) (H:Hp) (Q:Option Int->Hp->Prop),Inv X pins σ H s->t σ H Q ->
  wpAny (model X.prog X.w) X.A (evalPart e X.env) (fun u s'=>∃ o H',Inv X pins σ H' s'/\IsPart u o/\Q o H') X.xe s
def tNoPart:TO:=fun _ H Q=>Q none H
def tPart (t:TE):TO:=fun σ H Q=>t σ H fun x H1=>∃ i,x=.int i/\Q (some i) H1
theorem ajm {ns:List Int}:∀ {us:List Value},aqs0 (ns.map V.int) us->IntsAre us ns:=by
 induction ns with
 | nil=>intro us r; rw [map_nil] at r; cases r; exact .nil
 | cons n ns ih =>
  intro us r;rw [map_cons] at r;cases r with
  | cons r1 r2 =>
   obtain ⟨t,e⟩:=r1;subst e;exact .cons n t (ih r2)
section
variable {X:Cx} {e:Expr} {te:TE} {lo hi:Option Expr} {tl th:TO} {pos p2:Pos}
theorem aQ7:PO X none tNoPart:=by
 intro pins s σ H Q I h;rw [evalPart_none];exact Ad ⟨none,H,I,.none,h⟩
theorem ak2 (h:PE X e te):PO X (some e) (tPart te):=by
 intro pins s σ H Q I hw;rw [evalPart_some];refine thn (h pins s σ H _ I hw) fun u s1 hQ=>?_;obtain ⟨x,H1,I1,r1,q1⟩:=hQ;obtain ⟨i,rfl,q⟩:=q1;obtain ⟨t,rfl⟩:=r1;exact ⟨some i,H1,I1,.int i t,q⟩
def SlR (X:Cx) (r:V->Option Int->Option Int->Hp->VK->Prop):Prop :=
 ∀ (pins:List (Addr × Obj)) (s:Shared) (σ:St) (H:Hp) (x:V) (v vl vu:Value) (lo hi:Option Int) (sl:Addr) (Q:VK),Inv X pins σ H s->aqs3 x v->s.heap.IsSliceOf sl vl vu .none->IsPart vl lo->IsPart vu hi->r x lo hi H Q ->
  ∃ T id,Ma (.type T) "__getitem__"=pure (some (.builtin id))/\s.TypeIs v T/\wpAny (model X.prog X.w) X.A (My v (.ref sl)) (EP X pins σ Q) X.xe s
theorem SlR.or {r r':V->Option Int->Option Int->Hp->VK->Prop} (h:SlR X r) (h':SlR X r'):SlR X (fun x lo hi H Q=>r x lo hi H Q \/ r' x lo hi H Q):=by
 intro pins s σ H x v vl vu lo hi sl Q I rx hs pl pu q;rcases q with q | q
 ·exact h pins s σ H x v vl vu lo hi sl Q I rx hs pl pu q
 ·exact h' pins s σ H x v vl vu lo hi sl Q I rx hs pl pu q
def tSl (r:V->Option Int->Option Int->Hp->VK->Prop) (te:TE) (tl th:TO):TE:=fun σ H Q=>te σ H fun x H1=>tl σ H1 fun l H2=>th σ H2 fun u H3=>r x l u H3 Q
theorem aw6 {r:V->Option Int->Option Int->Hp->VK->Prop} (hr:SlR X r) (he:PE X e te) (hl:PO X lo tl) (hu:PO X hi th):PE X (.Subscript e (.Slice lo hi none p2) pos) (tSl r te tl th):=by
 intro pins s σ H Q I h;refine Mb (thn (he pins s σ H _ I h) fun v s1 hQ=>?_);obtain ⟨x,H1,I1,r1,q1⟩:=hQ;refine wpAny_Slice (thn (hl pins s1 σ H1 _ I1 q1) fun vl s2 ⟨l,H2,I2,pl,q2⟩=>thn (hu pins s2 σ H2 _ I2 q2) fun vu s3 hQ=>?_);obtain ⟨u,H3,I3,pu,q3⟩:=hQ;rw [evalPart_none];refine Ad ?_;have I4:Inv X pins σ H3 { s3 with heap:=s3.heap.push { cls:=.type "slice",data:=.fields #[vl,vu,.none] } }:=I3.kept (t':=s3.toks) fun b ob q=>Ae _ q;obtain ⟨T,id,hT,ht,hg⟩:=hr pins { s3 with heap:=s3.heap.push { cls:=.type "slice",data:=.fields #[vl,vu,.none] } } σ H3 x v vl vu l u s3.heap.objs.size Q I4 r1 (Mc ..) pl pu q3;show wpAny (model X.prog X.w) X.A (Jg e (.Slice lo hi none p2) v (.ref s3.heap.objs.size)) (EP X pins σ Q) X.xe { s3 with heap:=s3.heap.push { cls:=.type "slice",data:=.fields #[vl,vu,.none] } };exact tail_any (ops:=[.ref s3.heap.objs.size,v]) ht hT hg (by with_unfolding_all rfl)
def cutV (xs:List V) (lo hi:Option Int):List V:=(xs.drop (HT.sIx xs.length 0 lo)).take (HT.sIx xs.length xs.length hi - HT.sIx xs.length 0 lo)
theorem aKf (xs:List V) (lo hi:Option Int):(cutV xs lo hi).length <= xs.length:=by
 unfold cutV;rw [length_take,List.length_drop];omega
end
def ixN (n:Nat) (i:Int):Option Nat:=if 0 <= i then (if i < n then some i.toNat else none) else if -(n:Int) <= i then some (i + n).toNat else none
def atI {α:Type} (xs:List α) (i:Int):Option α:=(ixN xs.length i).bind fun j=>xs[j]?
theorem aY1 {n:Nat} {i:Int} {j:Nat} (h:ixN n i=some j):seqIndex? i n=some j/\j < n/\-(n:Int) <= i/\i < n:=by
 unfold ixN at h
 by_cases h0:0 <= i
 ·rw [if_pos h0] at h
  by_cases h1:i < n
  ·rw [if_pos h1] at h
   have e:i.toNat=j:=Option.some.inj h;exact ⟨by rw [Np h0 h1,e],by omega,by omega,h1⟩
  ·rw [if_neg h1] at h; cases h
 ·rw [if_neg h0] at h
  by_cases h1:-(n:Int) <= i
  ·rw [if_pos h1] at h
   have e:(i + n).toNat=j:=Option.some.inj h;exact ⟨by rw [Mz (by omega) h1,e],by omega,h1,by omega⟩
  ·rw [if_neg h1] at h; cases h
theorem aqaz {α:Type} {xs:List α} {i:Int} {v:α} (h:atI xs i=some v):∃ j,seqIndex? i xs.length=some j/\xs[j]?=some v/\j < xs.length/\-(xs.length:Int) <= i/\i < xs.length:=by
 unfold atI at h;cases e:ixN xs.length i with
 | none=>rw [e] at h; cases h
 | some j =>
  rw [e] at h;obtain ⟨h1,h2,h3,h4⟩:=aY1 e;exact ⟨j,h1,h,h2,h3,h4⟩
theorem az9 {α:Type} {xs:List α} {j:Nat} {v:α} (h:xs[j]?=some v):atI xs (j:Int)=some v:=by
 have hj:j < xs.length:=(Ai.mp h).1;have e:ixN xs.length (j:Int)=some j:=by
  unfold ixN;rw [if_pos (by omega),if_pos (by omega)]; simp
 unfold atI; rw [e]; exact h
def aqed (b:Expr):Prop:=∀ o i,Ko b false o i=operate [o,i] (My o i)
def IxR (X:Cx) (r:R2):Prop :=
 ∀ (value slice:Expr) (pins:List (Addr × Obj)) (s:Shared) (σ:St) (H:Hp) (x y:V) (v u:Value) (Q:VK),Inv X pins σ H s->aqs3 x v->aqs3 y u->r x y H Q ->
  Ko slice false v u=operate [v,u] (My v u)->wpAny (model X.prog X.w) X.A (Jg value slice v u) (EP X pins σ Q) X.xe s
def MtR (X:Cx) (id:String) (r:V->List V->Hp->VK->Prop):Prop :=
 ∀ (pins:List (Addr × Obj)) (s:Shared) (σ:St) (H:Hp) (x:V) (xs:List V) (v:Value) (us:List Value) (Q:VK),Inv X pins σ H s->aqs3 x v->aqs0 xs us->r x xs H Q ->
  wpAny (model X.prog X.w) X.A (call (.builtin id) (v :: us)) (EP X pins σ Q) X.xe s
section
variable {X:Cx} {a b:Expr} {ta tb:TE} {pos:Pos}
theorem IxR.or {r r':R2} (h:IxR X r) (h':IxR X r'):IxR X (fun x y H Q=>r x y H Q \/ r' x y H Q):=by
 intro value slice pins s σ H x y v u Q I rx ry q hs;rcases q with q | q
 ·exact h value slice pins s σ H x y v u Q I rx ry q hs
 ·exact h' value slice pins s σ H x y v u Q I rx ry q hs
theorem MtR.or {id:String} {r r':V->List V->Hp->VK->Prop} (h:MtR X id r) (h':MtR X id r'):MtR X id (fun x xs H Q=>r x xs H Q \/ r' x xs H Q):=by
 intro pins s σ H x xs v us Q I rx rs q;rcases q with q | q
 ·exact h pins s σ H x xs v us Q I rx rs q
 ·exact h' pins s σ H x xs v us Q I rx rs q
theorem aks {r:R2} (hr:IxR X r) (ha:PE X a ta) (hb:PE X b tb) (hs:aqed b):PE X (.Subscript a b pos) (tOp r ta tb):=by
 intro pins s σ H Q I h;exact Mb (binT ha hb I h fun v u s2 x y H2 I2 rx ry q=>hr a b pins s2 σ H2 x y v u Q I2 rx ry q (hs _ _))
def rIxL (K:Frag):R2:=fun x y H Q=>∃ p xs i v,x=.ref p/\y=.int i/\SqL K H p xs/\atI xs i=some v/\Q v H
def rIxT (K:Frag):R2:=fun x y H Q=>∃ p xs i v,x=.ref p/\y=.int i/\SqT K H p xs/\atI xs i=some v/\Q v H
def rIxS:R2:=fun x y H Q=>∃ z i c,x=.str z/\y=.int i/\z.length <= Ag/\atI z.cps.toList i=some c/\Q (.str ⟨#[c]⟩) H
theorem av5:IxR X (rIxL X.K):=by
 intro value slice pins s σ H x y v u Q I rx ry h hs;obtain ⟨p,xs,i,z,rfl,rfl,hq,he,q⟩:=h;cases rx;obtain ⟨t,rfl⟩:=ry;obtain ⟨its,r,pl,hz⟩:=I.list hq;obtain ⟨j,h1,h2,h3,h4,h5⟩:=aqaz he;obtain ⟨w,ew,rw'⟩:=r.get h2;have hl:=r.length;have hn:=aYx;have fin:EP X pins σ Q w s:=⟨z,H,I,rw',q⟩
 by_cases h0:0 <= i
 ·have hj:i.toNat=j:=by
   rw [Np h0 h5] at h1;exact Option.some.inj h1
  exact item_listR pl.isList h0 (by omega) (by rw [hj]; simpa using ew) fin hs
 ·have hj:(i + (its.toArray.size:Int)).toNat=j:=by
   rw [Mz (by omega) h4] at h1;rw [size_toArray,<- hl];exact Option.some.inj h1
  exact Jx (x:=w) pl.isList.typeIs Iw.lookup
   (wpAny_getItem_list_neg (Q:=fun r s'=>r=w/\EP X pins σ Q r s') pl.isList (by omega) (by rw [size_toArray] <;> omega) (by omega) (by rw [hj]; simpa using ew) ⟨rfl,fin⟩) hs
theorem aKc:IxR X (rIxT X.K):=by
 intro value slice pins s σ H x y v u Q I rx ry h hs;obtain ⟨p,xs,i,z,rfl,rfl,hq,he,q⟩:=h;cases rx;obtain ⟨t,rfl⟩:=ry;obtain ⟨its,r,pl,hz⟩:=I.tuple hq;obtain ⟨j,h1,h2,h3,h4,h5⟩:=aqaz he;obtain ⟨w,ew,rw'⟩:=r.get h2;have hl:=r.length;have hn:=aYx;have fin:EP X pins σ Q w s:=⟨z,H,I,rw',q⟩;exact Jx (x:=w) pl.typeIs slot_tuple_getitem.lookup
  (getItem_tuple (j:=j) (Q:=fun r s'=>r=w/\EP X pins σ Q r s') pl (by omega) (by omega) (by rw [size_toArray,<- hl]; exact h1) (by simpa using ew) ⟨rfl,fin⟩) hs
theorem aqgj:IxR X rIxS:=by
 intro value slice pins s σ H x y v u Q I rx ry h hs;obtain ⟨z,i,c,rfl,rfl,hz,he,q⟩:=h;obtain ⟨t,rfl⟩:=rx;obtain ⟨t',rfl⟩:=ry;obtain ⟨j,h1,h2,h3,h4,h5⟩:=aqaz he;have hl:z.cps.toList.length=z.length:=by simp [Str.length]
 rw [hl] at h1 h4 h5;have hn:=aYx;exact tail_any (Md s z t) slot_str_getitem.lookup (getItem_str (c:=c) (by
  have e1:decide (i < -(2 ^ 63:Int))=false:=decide_eq_false (by omega);have e2:decide (i ≥ 2 ^ 63)=false:=decide_eq_false (by omega);rw [e1,e2,Lu]) (by rw [h1]; simpa using h2) ⟨.str ⟨#[c]⟩,H,I.tok _,⟨_,rfl⟩,q⟩) hs
theorem aYs (its:List Value) (n j:Nat) (u:Value):Be (·.setIfInBounds j u) { cls:=.type "list",data:=.seq its.toArray n }={ cls:=.type "list",data:=.seq (its.set j u).toArray n }:=by
 simp [Be]
theorem Inv.lst {pins:List (Addr × Obj)} {σ:St} {H:Hp} {s:Shared} {p:Addr} {xs:List V} (I:Inv X pins σ H s) (h:H p=some (.lst xs)) :
  ∃ (its:List Value) (n:Nat),aqs0 xs its/\s.heap.get? p=some { cls:=.type "list",data:=.seq its.toArray n }/\xs.length <= Ag:=by
 obtain ⟨z,its,n,r,e⟩:=I.hok p _ h;exact ⟨its,n,r,e,z⟩
theorem Inv.lstUpd {pins:List (Addr × Obj)} {σ:St} {H:Hp} {s:Shared} {p:Addr} {xs ys:List V} {its its':List Value} {n n':Nat} {f:Obj->Obj} (I:Inv X pins σ H s) (h:H p=some (.lst xs))
  (ho:s.heap.get? p=some { cls:=.type "list",data:=.seq its.toArray n }) (hf:f { cls:=.type "list",data:=.seq its.toArray n }={ cls:=.type "list",data:=.seq its'.toArray n' }) (r:aqs0 ys its') (hz:ys.length <= Ag) (t:Nat) :
  Inv X pins σ (upd H p (.lst ys)) { s with heap:=s.heap.update p f,toks:=t }:=by
 have e:(s.heap.update p f).get? p=some { cls:=.type "list",data:=.seq its'.toArray n' }:=by
  rw [Bc f ho (by rw [hf] <;> rfl),hf]
 refine I.write (x:=p) (e:=p) (by rw [h]; trivial) (.inl rfl) (fun b u hb q=>(Av _ _ (Bw hb)).trans q) ⟨_,e⟩ ?_;exact ⟨hz,its',n',r,e⟩
def rSetL:V->V->V->Hp->(Hp->Prop)->Prop:=fun o i v H Q=>∃ p xs k j,o=.ref p/\i=.int k/\H p=some (.lst xs)/\ixN xs.length k=some j/\Q (upd H p (.lst (xs.set j v)))
theorem aqeu:PSet X rSetL:=by
 intro pins s σ H o i v ov iv u Q I ro ri rv h;obtain ⟨p,xs,k,j,rfl,rfl,hp,hj,q⟩:=h;cases ro;obtain ⟨t,rfl⟩:=ri;obtain ⟨its,n,r,ho,hz⟩:=I.lst hp;obtain ⟨h1,h2,h3,h4⟩:=aY1 hj;have hl:=r.length;have hn:=aYx;have I':Inv X pins σ (upd H p (.lst (xs.set j v))) { s with heap:=s.heap.update p (Be (·.setIfInBounds j u)) } :=
  I.lstUpd hp ho (aYs its n j u) (r.set rv j) (by rw [List.length_set]; exact hz) s.toks
 by_cases h0:0 <= k
 ·have hk:k.toNat=j:=by
   rw [Np h0 h4] at h1;exact Option.some.inj h1
  exact PySem.W.ki_setAt ho h0 (by omega) (by rw [size_toArray,<- hl]; exact h4) (by rw [hk]; exact ⟨_,I',q⟩)
 ·have hk:(k + (its.toArray.size:Int)).toNat=j:=by
   rw [Mz (by omega) h3] at h1;rw [size_toArray,<- hl];exact Option.some.inj h1
  exact PySem.W.ki_setBack ho (by omega) (by rw [size_toArray,<- hl]; exact h3) (by omega) (by rw [hk]; exact ⟨_,I',q⟩)
theorem sb1 {i:Int} {n:Nat} (h:i < 0):max 0 (min (i + (n:Int)) n)=(((i + n).toNat:Nat):Int):=by
 rw [Int.min_eq_left (Int.add_le_of_le_sub_right (by rw [M0]; exact M3 h)),Int.max_comm,Int.toNat_eq_max]
theorem sb2 {i:Int} {n:Nat} (h:¬ i < 0):max 0 (min i (n:Int))=((min i.toNat n:Nat):Int):=by
 obtain ⟨k,rfl⟩:=Jl (Int.not_lt.mp h);rw [A8];rcases Nat.le_total k n with e | e
 ·rw [Nat.min_eq_left e,Int.min_eq_left (Int.ofNat_le.mpr e)]; exact Int.max_eq_right (Me _)
 ·rw [Nat.min_eq_right e,Int.min_eq_right (Int.ofNat_le.mpr e)]; exact Int.max_eq_right (Me _)
theorem aJz (lo hi:Option Int) (n:Nat):(E2 lo hi none n).1=((HT.sIx n 0 lo:Nat):Int)/\(E2 lo hi none n).2.1=((HT.sIx n n hi:Nat):Int)/\(E2 lo hi none n).2.2=1:=by
 refine ⟨?_,?_,rfl⟩
 ·cases lo with
  | none=>simp [E2,HT.sIx]
  | some i =>
   simp only [E2,HT.sIx,getD_none,show (1:Int) > 0 by decide,if_true]
   by_cases h:i < 0
   ·simp only [h,if_true]; exact sb1 h
   ·simp only [h,if_false]; exact sb2 h
 ·cases hi with
  | none=>simp [E2,HT.sIx]
  | some i =>
   simp only [E2,HT.sIx,getD_none,show (1:Int) > 0 by decide,if_true]
   by_cases h:i < 0
   ·simp only [h,if_true]; exact sb1 h
   ·simp only [h,if_false]; exact sb2 h
theorem aQ0 (its:List Value) (lo hi:Option Int):Li its.toArray lo hi none=((its.drop (HT.sIx its.length 0 lo)).take (HT.sIx its.length its.length hi - HT.sIx its.length 0 lo)).toArray:=by
 obtain ⟨h1,h2,h3⟩:=aJz lo hi its.toArray.size;unfold Li;rw [h1,h2,h3];simp only [sliceRange_one,pick_run,size_toArray] <;> rfl
def rSlL (K:Frag):V->Option Int->Option Int->Hp->VK->Prop:=fun x lo hi H Q=>∃ a xs,x=.ref a/\SqL K H a xs/\∀ p,H p=none->Q (.ref p) (upd H p (.lst (cutV xs lo hi)))
theorem aWe:SlR X (rSlL X.K):=by
 intro pins s σ H x v vl vu lo hi sl Q I rx hs pl pu h;obtain ⟨a,xs,rfl,hx,q⟩:=h;cases rx;obtain ⟨its,r,ht,hz⟩:=I.list hx;have hlen:=r.length;refine ⟨"list",_,Iw.lookup,ht.isList.typeIs,?_⟩;refine Jh ht.isList hs pl pu .none (by simp) ?_ (by rw [size_toArray] <;> omega);rw [aQ0,<- hlen];refine ⟨.ref s.heap.objs.size,_,I.laid (t':=s.toks) (o:=.lst (cutV xs lo hi)) (fun b ob q=>Ae _ q) (le_refl _) ?_,rfl,q _ (I.hok.fresh (le_refl _))⟩;exact ⟨le_trans (aKf xs lo hi) hz,_,0,(r.drop (HT.sIx xs.length 0 lo)).take (HT.sIx xs.length xs.length hi - HT.sIx xs.length 0 lo),Ah _ rfl⟩
theorem aD:awm X (.builtin "len") (fun xs H Q=>∃ p ys,xs=[.ref p]/\(SqL X.K H p ys \/ SqT X.K H p ys)/\Q (.int ys.length) H):=by
 intro pins s σ H xs us Q I r h;obtain ⟨p,ys,rfl,hq,q⟩:=h;obtain ⟨u,rfl,rx⟩:=aqhz r;cases rx;have hn:=aYx;rcases hq with hq | hq
 ·obtain ⟨its,r',pl,hz⟩:=I.list hq
  have hlen:=r'.length;exact Calls.call_len_list pl.isList (by simp only [size_toArray] <;> omega) ⟨.int ys.length,H,I.tok _,⟨s.toks + 1,by rw [size_toArray,hlen]⟩,q⟩
 ·obtain ⟨its,r',pl,hz⟩:=I.tuple hq
  have hlen:=r'.length;exact len_tuple pl (by simp only [size_toArray] <;> omega) ⟨.int ys.length,H,I.tok _,⟨s.toks + 1,by rw [size_toArray,hlen]⟩,q⟩
theorem awm.or {f:Value} {r r':List V->Hp->VK->Prop} (h:awm X f r) (h':awm X f r'):awm X f (fun xs H Q=>r xs H Q \/ r' xs H Q):=by
 intro pins s σ H xs us Q I rs q;rcases q with q | q
 ·exact h pins s σ H xs us Q I rs q
 ·exact h' pins s σ H xs us Q I rs q
theorem aj0:awm X (.type "list") (fun xs H Q=>∃ p ys,xs=[.ref p]/\(SqL X.K H p ys \/ SqT X.K H p ys)/\∀ l,H l=none->Q (.ref l) (upd H l (.lst ys))):=by
 intro pins s σ H xs us Q I r h;obtain ⟨p,ys,rfl,hq,q⟩:=h;obtain ⟨u,rfl,rx⟩:=aqhz r;cases rx;have fin:∀ (its:List Value),aqs0 ys its->ys.length <= Ag->∀ (h':Heap) (c':Nat),(∀ b o',s.heap.get? b=some o'->h'.get? b=some o') ->
   h'.get? s.heap.objs.size=some { cls:=.type "list",dict:=none,data:=.seq its.toArray c',slots:=#[] }->EP X pins σ Q (.ref s.heap.objs.size) { s with heap:=h' }:=fun its r' hz h' c' kp e =>
  ⟨.ref s.heap.objs.size,_,I.laid (t':=s.toks) kp (le_refl _) (show axu X.prog X.w _ h' _ (.lst ys) from ⟨hz,its,c',r',e⟩),rfl,q _ (I.hok.fresh (le_refl _))⟩
 rcases hq with hq | hq
 ·obtain ⟨its,r',pl,hz⟩:=I.list hq
  have hlen:=r'.length;obtain ⟨o,ho,hc,n,hd⟩:=pl.isList;exact call_list_seq p (.inl rfl) ho hc hd (fun h' c' kp e=>fin its r' hz h' c' kp e) (by simp only [size_toArray] <;> omega)
 ·obtain ⟨its,r',pl,hz⟩:=I.tuple hq
  have hlen:=r'.length;obtain ⟨o,ho,hc,n,hd⟩:=pl;exact call_list_seq p (.inr rfl) ho hc hd (fun h' c' kp e=>fin its r' hz h' c' kp e) (by simp only [size_toArray] <;> omega)
theorem axf:awm X (.type "tuple") (fun xs H Q=>∃ p ys,xs=[.ref p]/\((SqL X.K H p ys/\∀ l,H l=none->Q (.ref l) (upd H l (.tup ys))) \/ (SqT X.K H p ys/\Q (.ref p) H))):=by
 intro pins s σ H xs us Q I r h;obtain ⟨p,ys,rfl,h⟩:=h;obtain ⟨u,rfl,rx⟩:=aqhz r;cases rx;rcases h with ⟨hq,q⟩ | ⟨hq,q⟩
 ·obtain ⟨its,r',pl,hz⟩:=I.list hq
  have hlen:=r'.length;refine call_tuple_list pl.isList (fun h' kp=>?_) (by simp only [size_toArray] <;> omega);have I1:Inv X pins σ H { s with heap:=h' }:=I.kept (t':=s.toks) kp;have I2:Inv X pins σ (upd H h'.objs.size (.tup ys)) { s with heap:=h'.push { cls:=.type "tuple",data:=.seq its.toArray } } :=
   I1.laid (t':=s.toks) (fun b o e=>Ae _ e) (le_refl _) (show axu X.prog X.w _ _ _ (.tup ys) from ⟨hz,its,r',IsTup.new _ _⟩)
  exact ⟨.ref h'.objs.size,_,I2,rfl,q _ (I1.hok.fresh (le_refl _))⟩
 ·obtain ⟨its,r',pl,hz⟩:=I.tuple hq
  exact call_tuple_same pl ⟨.ref p,H,I,rfl,q⟩
def tyV (K:Frag) (T:String) (x:V) (H:Hp):Prop:=match x with
 | .str _=>T="str"
 | .int _=>T="int"
 | .ref p=>(T="list"/\∃ xs,SqL K H p xs) \/ (T="tuple"/\∃ o,K.lookup p=some o/\o.cls=.type "tuple"/\o.dict=none) \/
   (T="dict"/\((∃ kvs,H p=some (.dK kvs)) \/ ∃ kvs,H p=some (.dT kvs))) \/ (T="set"/\∃ S n,H p=some (.set S n))
 | _=>False
theorem aqma {pins:List (Addr × Obj)} {σ:St} {H:Hp} {s:Shared} {T:String} {x:V} {v:Value} (I:Inv X pins σ H s) (r:aqs3 x v) (ty:tyV X.K T x H) :
  s.TypeIs v T/\∀ a,v=.ref a->∃ ob,s.heap.get? a=some ob/\ob.dict=none:=by
 cases x with
 | str z =>
  obtain ⟨t,rfl⟩:=r;cases (show T="str" from ty);exact ⟨Md s z t,fun _ e=>nomatch e⟩
 | int i =>
  obtain ⟨t,rfl⟩:=r;cases (show T="int" from ty);exact ⟨typeIs_int s i t,fun _ e=>nomatch e⟩
 | ref p =>
  cases r;rcases ty with ⟨rfl,xs,hq⟩ | ⟨rfl,o,hk,hc,hd⟩ | ⟨rfl,hk⟩ | ⟨rfl,S,n,hk⟩
  ·obtain ⟨its,_,pl,_⟩:=I.list hq
   refine ⟨pl.isList.typeIs,fun a e=>?_⟩;cases e;obtain ⟨o,n,e,c,hd,_⟩:=pl;exact ⟨o,e,hd⟩
  ·refine ⟨⟨o,I.kIn p o hk,hc⟩,fun a e=>?_⟩
   cases e;exact ⟨o,I.kIn _ o hk,hd⟩
  ·have z:∃ o,s.heap.get? p=some o/\o.ExactDict:=by
    rcases hk with ⟨kvs,hk⟩ | ⟨kvs,hk⟩
    ·obtain ⟨_,_,_,_,o,_,_,e,ex,_⟩:=I.hok p _ hk
     exact ⟨o,e,ex⟩
    ·obtain ⟨_,_,_,_,o,_,_,e,ex,_⟩:=I.hok p _ hk
     exact ⟨o,e,ex⟩
   obtain ⟨o,e,ex⟩:=z;refine ⟨⟨o,e,ex.1⟩,fun a e2=>?_⟩;cases e2;exact ⟨o,e,ex.2.1⟩
  ·obtain ⟨o,_,_,_,e,ex,_⟩:=I.hok p _ hk
   refine ⟨⟨o,e,ex.1⟩,fun a e2=>?_⟩;cases e2;exact ⟨o,e,ex.2.1⟩
 | _=>exact Az ty
def tBM (K:Frag) (T:String) (r:V->List V->Hp->VK->Prop) (to:TE) (t:TA):TE:=fun σ H Q=>to σ H fun x H1=>tyV K T x H1/\t σ H1 fun xs H2=>r x xs H2 Q
variable {o e:Expr} {es:List Expr} {to:TE} {t:TA} {name:Str} {apos cpos:Pos} {T id:String} {r:V->List V->Hp->VK->Prop}
theorem aqfl (pa:PlainAttrs T) (slot:Slot T name id) (hty:Kq (.builtin id)=pure (.type "method_descriptor")) (hm:MtR X id r) (ho:PE X o to) (ha:PA X (e :: es) t)
  (hbase:Em o name X.env (eval o X.env)=eval o X.env:=by rfl)
  (hfew:((C2 cpos (Ap (e :: es) X.env)).all (fun x=>!x.1) && (Mx cpos (Iv [] X.env)).all (fun x=>x.1.isSome)
   && decide ((e :: es).length + ([]:List Lh).length + (if ([]:List Lh).isEmpty then 0 else 1) < 30))=true:=by rfl)
  (hline:(apos.endLine == cpos.line)=true:=by rfl) (hs:Ap (e :: es) X.env=(false,eval e X.env) :: Ap es X.env:=by rfl) (hplain:(C2 cpos (Ap es X.env)).any (·.1)=false:=by rfl) :
  PE X (.Call (.Attribute o name apos) (e :: es) [] cpos) (tBM X.K T r to t):=by
 intro pins s σ H Q I h;refine wpAny_Call_method_late hbase hfew hline rfl (thn (ho pins s σ H _ I h) fun v s1 hQ=>?_);obtain ⟨x,H1,I1,r1,ty,q1⟩:=hQ;obtain ⟨h1,h2⟩:=aqma I1 r1 ty;refine ⟨T,id,pa,slot,hty,h1,h2,?_⟩;have hA:=ha cpos pins s1 σ H1 _ I1 q1;rw [hs] at hA ⊢;refine Ed (by show (false || (C2 cpos (Ap es X.env)).any (·.1))=false; rw [hplain] <;> rfl) (E3 ?_);exact thn hA fun us s2 ⟨vs,H2,I2,r2,q2⟩=>hm pins s2 σ H2 x vs v us Q I2 r1 r2 q2
end
def MtM (X:Cx) (id:String) (r:V->List V->Hp->VK->Prop):Prop :=
 ∀ (pins:List (Addr × Obj)) (s:Shared) (σ:St) (H:Hp) (x:V) (xs:List V) (v:Value) (us:List Value) (Q:VK),Inv X pins σ H s->aqs3 x v->aqs0 xs us->r x xs H Q ->
  wpAny (model X.prog X.w) X.A (call (.builtin id) (v :: us)) (EP X pins σ Q) X.xe s
theorem aqs0.one:∀ {x:V} {us:List Value},aqs0 [x] us->∃ u,us=[u]/\aqs3 x u
 | _,_,.cons r .nil=>⟨_,rfl,r⟩
theorem aqs0.eraseIdx:∀ {xs:List V} {us:List Value} (i:Nat),aqs0 xs us->aqs0 (xs.eraseIdx i) (us.eraseIdx i)
 | _,_,_,.nil=>.nil
 | _,_,0,.cons _ t=>t
 | _,_,i + 1,.cons r t=>.cons r (aqs0.eraseIdx i t)
theorem aqs0.reverse {xs:List V} {us:List Value} (h:aqs0 xs us):aqs0 xs.reverse us.reverse:=by
 induction h with
 | nil=>exact .nil
 | cons r t ih=>rw [List.reverse_cons,List.reverse_cons]; exact aqs0.append ih (.cons r .nil)
theorem aqs0.rep {xs:List V} {us:List Value} (h:aqs0 xs us):∀ k:Nat,aqs0 (D9 k xs).flatten (D9 k us).flatten
 | 0=>.nil
 | k + 1=>by
  rw [Hk,Hk,List.flatten_cons,List.flatten_cons];exact aqs0.append h (aqs0.rep h k)
section
variable {X:Cx} {pins:List (Addr × Obj)} {σ:St} {H:Hp} {s:Shared} {l b:Addr} {xs ys zs:List V}
theorem Inv.lset {its its':List Value} {n:Nat} {f:Array Value->Array Value} {t':Nat} (I:Inv X pins σ H s) (hH:H l=some (.lst xs))
  (e:s.heap.get? l=some { cls:=.type "list",data:=.seq its.toArray n }) (hf:f its.toArray=its'.toArray) (hv:aqs0 ys its') (hz:ys.length <= Ag) :
  Inv X pins σ (upd H l (.lst ys)) { s with heap:=s.heap.update l (Be f),toks:=t' }:=by
 have q:=PySem.IsL.update e f;rw [hf] at q;refine I.write (x:=l) (e:=l) (by rw [hH]; exact trivial) (.inl rfl) (fun b' u hb hu=>(Av s.heap (Be f) (Bw hb)).trans hu) ⟨_,q⟩ ?_;exact ⟨hz,its',_,hv,q⟩
theorem Inv.lnew {its:List Value} {t':Nat} (I:Inv X pins σ H s) (hv:aqs0 ys its) (hz:ys.length <= Ag) :
  Inv X pins σ (upd H s.heap.objs.size (.lst ys)) { s with heap:=s.heap.push { cls:=.type "list",data:=.seq its.toArray },toks:=t' } :=
 I.laid (fun _ _ q=>Ae _ q) (le_refl _) ⟨hz,its,0,hv,Ah _ rfl⟩
theorem Inv.fresh (I:Inv X pins σ H s):H s.heap.objs.size=none:=I.hok.fresh (le_refl _)
theorem Inv.lstM (I:Inv X pins σ H s) (hH:H l=some (.lst xs)):xs.length <= Ag/\∃ (its:List Value) (n:Nat),aqs0 xs its/\xs.length=its.length/\s.heap.get? l=some { cls:=.type "list",data:=.seq its.toArray n }:=by
 obtain ⟨z,its,n,r,e⟩:=I.hok l _ hH;exact ⟨z,its,n,r,r.length,e⟩
theorem notLongL {n:Nat} (h:n <= Ag):Ff n=false:=by
 unfold Ff;exact decide_eq_false (by omega)
end
section
variable {X:Cx}
def aqde:V->List V->Hp->VK->Prop:=fun x vs H Q=>∃ l xs y,x=.ref l/\vs=[y]/\H l=some (.lst xs)/\xs.length < Ag/\Q .non (upd H l (.lst (xs++[y])))
theorem axl:MtM X "list.append" aqde:=by
 intro pins s σ H x vs v us Q I rx rv h;obtain ⟨l,xs,y,rfl,rfl,hH,hz,q⟩:=h;cases rx;obtain ⟨u,rfl,ru⟩:=rv.one;obtain ⟨z,its,n,r,hl,e⟩:=I.lstM hH;refine call_meets F.slot_list_append ⟨_,e,rfl⟩ F.entry_list_append (F.args_list_append_2 _ _) (PySem.list_append l its.toArray n u (by rw [size_toArray]; omega)) ⟨e,?_⟩;refine ⟨.non,_,I.lset (its':=its++[u]) hH e (by simp) (r.append (.cons ru .nil)) ?_,rfl,q⟩;rw [length_append,List.length_singleton];omega
def rCat:R2:=fun x y H Q=>∃ l b xs zs,x=.ref l/\y=.ref b/\H l=some (.lst xs)/\H b=some (.lst zs)/\xs.length + zs.length <= Ag/\∀ p,H p=none->Q (.ref p) (upd H p (.lst (xs++zs)))
theorem aqmn:OpR X (Dr .Add) rCat:=by
 intro pins s σ H x y v u Q I rx ry h;obtain ⟨l,b,xs,zs,rfl,rfl,hH,hB,hz,q⟩:=h;cases rx;cases ry;obtain ⟨z,its,n,r,hl,e⟩:=I.lstM hH;obtain ⟨z2,its2,n2,r2,hl2,e2⟩:=I.lstM hB;refine PySem.P.add_list e e2 ?_ (by rw [size_toArray,size_toArray]; omega);have ea:its.toArray++its2.toArray=(its++its2).toArray:=by simp
 rw [ea];exact ⟨.ref _,_,I.lnew (t':=s.toks) (r.append r2) (by rw [length_append]; omega),rfl,q _ I.fresh⟩
end
section
variable {prog:Aj} {w:World} {A:Around} {E:Value->Shared->Prop} {s:Shared}
end
section
variable {X:Cx}
end
end L2
namespace Att
open PySem PySem.W PySem.Calls PyProof.Rows
theorem ints_of_wellAll {P:Params} {h:Heap}:∀ (ns:List Int) (vs:List Value),WellAll P h vs (ns.map WData.int)->IntsAre vs ns:=by
 intro ns
 induction ns with
 | nil =>
  intro vs w;rw [map_nil] at w;cases w;exact .nil
 | cons n ns ih =>
  intro vs w;rw [map_cons] at w;cases w with
  | cons a b =>
   cases a;exact .cons _ _ (ih _ b)
theorem script_of {l:OpenLaw} {n:Nat} (hn:l.most=some n) {P:Params} {h:Heap} {args:List WData} {vals:List Value}
  (hpre:l.row.toRowW.claim.pre args=true) (hwl:WellAll P h vals args) :
  ∃ a vs ns,vals=[Value.ref a]/\args=[WData.list (ns.map WData.int)]/\h.get? a=some { cls:=.type "list",data:=.seq vs.toArray }/\IntsAre vs ns/\ns.length <= n:=by
 have hsh:WShape.hasAll [] args [.list .int]=true:=(pre_splitW hpre).1;have hc:l.pre.holds [] { args:=args }=true:=(pre_splitW hpre).2;obtain ⟨d,r,rfl,h1,h2⟩:=hasAllW_cons hsh;obtain rfl:=hasAllW_nil h2;obtain ⟨xs,rfl,h3⟩:=hasW_list h1;obtain ⟨ns,rfl⟩:=items_int h3;have hlen:ns.length <= n:=by
  unfold OpenLaw.pre at hc;have h4:(WTm.not (.lt (.lit (.int (n:Int))) (.len (.arg 0)))).holds [] { args:=[.list (ns.map .int)] }=true:=by
   have h4:=(holds_andW hc).1;rw [hn] at h4;exact h4
  have h5:=condW_of h4 (w_not (w_lt w_lit (w_len_list (w_arg rfl))));rw [length_map] at h5;refine Nat.le_of_not_lt fun q=>?_;have q':(n:Int) < ((ns.length:Nat):Int):=by omega
  first
   | (rw [decide_eq_true q'] at h5; exact absurd h5 (by decide))
   | (simp at h5; omega)
 cases hwl with
 | cons w1 w2 =>
  cases w2;cases w1 with
  | list ho hall=>exact ⟨_,_,ns,rfl,rfl,ho,ints_of_wellAll ns _ hall,hlen⟩
theorem post_true (l:OpenLaw) (args:List WData):l.row.toRowW.claim.post args (.bool true) args=true :=
 postW_of (r:=l.row.toRowW) (X:=(true == true))
  (show WShape.has [] (.bool true) .bool=true by first | rfl | decide | simp [WShape.has,WShape.arms,WShape.armsAll])
  (show (WTm.eq .res (.lit (.bool true))).value [] { args:=args,res:=some (.bool true),after:=args }=some (.bool (true == true)) from w_eq_bool (w_res rfl) w_lit) rfl
theorem attach_call {l:OpenLaw} {n:Nat} {q:Aj} {loose:List Str} {XP:(Str->Option Value)->Heap->Prop} {YP:World->Heap->Prop} {d:DefRec}
  (hn:l.most=some n) (hdf:d.params.defaults=[])
  (call:∀ (w:World) (s₀ s₁:Shared) (mg mb:Str->Option Value) (fa:Addr) (o:Obj) (pm cd doc:Value) (a:Addr) (vs:List Value) (ns:List Int),
   Ground q loose [] XP w s₀ mg mb s₁.heap->YP w s₁.heap ->
   s₁.heap.get? fa=some o->o.data=.func (docDef d.name d.params d.body d.scope pm cd doc)->s₁.heap.CodeRec cd d.name->mg d.name=some (.ref fa) ->
   s₁.heap.get? a=some { cls:=.type "list",data:=.seq vs.toArray }->IntsAre vs ns->ns.length <= n->s₁.gens=#[] ->
   Ds (model l.prog w) Hq (.call (.ref fa) ⟨[.ref a],[]⟩) (fun r s'=>r=.ok (.ret (.bool true))/\OldK s₁.heap s'.heap/\s'.os=s₁.os/\Gx s'.gens) s₁) :
  WalkO q loose XP YP l.row.toRowW d [] (fun f vs=>PySem.call f vs):=by
 intro w s₀ s₁ mg mb G Y fa o pm cd doc dV kV ho hd hcd hD hmg hg args vals as hpre hlay hrd hwl hlo;obtain rfl:dV=.none:=Dflts.none hD hdf;obtain rfl:kV=.none:=Dflts.noKw hD;obtain ⟨a,vs,ns,rfl,rfl,hobj,hints,hlen⟩:=script_of hn hpre hwl;refine enter_call (Co (call w s₀ s₁ mg mb fa o pm cd doc a vs ns G Y ho (fd_plain hd) hcd hmg hobj hints hlen hg) fun r s' hq=>?_);obtain ⟨rfl,h2,h3,h4⟩:=hq;exact ⟨.inl ⟨.bool true,.bool true,[],rfl,fun _=>rfl,.bool true,post_true l _,fun _=>⟨List.Pairwise.nil,fun _ hm=>(nomatch hm)⟩⟩,h2,h3,h4⟩
section
variable {prog:Aj} {w:World} {A:Around} {E:Value->Shared->Prop} {s:Shared} {K:Frag}
end
end Att
namespace L2
open PySem PySem.Spec PyProof.Rows
theorem awn:∀ {vs:List Value} {ns:List Int},IntsAre vs ns->aqs0 (ns.map V.int) vs
 | _,_,.nil=>.nil
 | _,_,.cons n t h=>.cons ⟨t,rfl⟩ (awn h)
def Only (H:Hp):Prop:=∀ b,H b=none \/ ∃ o xs,H b=some (.frz o (.lst xs))
theorem law_call {P:Aj} {w:World} {K:Frag} {mg mb:Str->Option Value} {CX:CXT} {k:Nat} {fa a:Addr} {fd:Ak} {x:Str} {sp:Sp} {s₁:Shared} {vs:List Value} {ns:List Int}
  (KX:K.In s₁.heap) (hns:s₁.heap.Ns Am mg) (hb:s₁.heap.Ns L7 mb) (hbb:∀ x:Str,x ≠ "__name__"->mb x=A7 x) (hlim:s₁.heap.NoLimit) (hg:s₁.gens=#[])
  (ha:s₁.heap.get? a=some { cls:=.type "list",data:=.seq vs.toArray }) (hi:IntsAre vs ns) (hl:ns.length <= Ag) (hr:Room k Hq)
  (F:∀ base:Heap,K.In base->base.Ns Am mg->FnOk P w K mg base CX k fa fd [x] sp) (hbind:∀ (s:Shared) (u:Value),Iu s fd ⟨[u],[]⟩ [(x,u)])
  (hsp:∀ H:Hp,Only H->SqL K H a (ns.map V.int)->sp [.ref a] H (fun v _=>v=.bl true) fun _ _ _=>False)
  (hCX:∀ H e s',CX [] H s₁ (fun _ _ _=>False) e s'->False) :
  Ds (model P w) Hq (.call (.ref fa) ⟨[.ref a],[]⟩) (fun r s'=>r=.ok (.ret (.bool true))/\OldK s₁.heap s'.heap/\s'.os=s₁.os/\Gx s'.gens) s₁:=by
 have rv:=awn hi;have lenV:=hi.length;have core:∀ H:Hp,Only H->SqL K H a (ns.map V.int)->HOk P w H s₁.heap->(∀ b,H b ≠ none->b=a)->(H a ≠ none->K.lookup a=none) ->
   Ds (model P w) Hq (.call (.ref fa) ⟨[.ref a],[]⟩) (fun r s'=>r=.ok (.ret (.bool true))/\OldK s₁.heap s'.heap/\s'.os=s₁.os/\Gx s'.gens) s₁:=by
  intro H hO hS hok hA hK;have base_of:∀ {b:Addr} {o:Obj},s₁.heap.get? b=some o->H b=none->(hidT s₁.heap H).get? b=some o:=fun e n=>aqgp e n;have noA:∀ {b:Addr} {o:Obj} {es:Array DictEntry} {ep:Nat},s₁.heap.get? b=some o->o.data=.dict es ep->H b=none:=fun {b o es ep} e d=>by
   cases q:H b with
   | none=>rfl
   | some u =>
    have e':b=a:=hA b (by rw [q]; simp);subst e';rw [ha] at e; cases e;have d':Data.seq vs.toArray _=Data.dict es ep:=d;cases d'
  have nsK:∀ {b:Addr} {m:Str->Option Value},s₁.heap.Ns b m->(hidT s₁.heap H).Ns b m:=fun {b m} ⟨o,es,ep,e,d,r⟩=>⟨o,es,ep,base_of e (noA e d),d,r⟩;have hKb:K.In (hidT s₁.heap H):=fun b o e=>base_of (KX b o e) (by
   cases q:H b with
   | none=>rfl
   | some u =>
    have e':b=a:=hA b (by rw [q]; simp);subst e';rw [hK (by rw [q]; simp)] at e; cases e)
  have hM:Mod K mg (hidT s₁.heap H):=⟨hKb,nsK hns,⟨mb,nsK hb,hbb⟩,let ⟨mc,h1,h2⟩:=hlim; ⟨mc,nsK h1,h2⟩⟩;have e0:Env0 P w K mg (hidT s₁.heap H) Hq [] s₁ H:=⟨rfl,hM,fun b o e=>aqjf e,Nat.le_of_eq (aqcj _ _),trivial,fun b hb=>absurd (show b∈([]:List Addr) from hb) (by simp),hok,.of_eq hg⟩;refine Co ((F _ hKb (nsK hns)).run Hq [] s₁ H ⟨[.ref a],[]⟩ [.ref a] [.ref a] _ _ hr e0 (hbind s₁ (.ref a)) (.cons rfl .nil) (hsp H hO hS)) fun r s' h=>?_;cases r with
  | error e=>exact (hCX H e s' h).elim
  | ok fl =>
   cases fl with
   | next=>exact Az h
   | brk=>exact Az h
   | cont=>exact Az h
   | ret u =>
    obtain ⟨v,H',os,bare,un,hok',r',q⟩:=h;have q':v=.bl true:=q;subst q';obtain rfl:u=Value.bool true:=r';refine ⟨rfl,OldK.of_keep fun b o e=>?_,os,bare⟩;cases q:H b with
    | none=>exact un.keep b o e q (by intro z; exact absurd (show b∈([]:List Addr) from z) (by simp)) (by simp)
    | some u =>
     rcases hO b with z | ⟨ob,xs,z⟩
     ·rw [q] at z; cases z
     ·have z2:=un.frzs b ob _ z
      obtain ⟨e1,_⟩:=hok b _ z;obtain ⟨e2,_⟩:=hok' b _ z2;rw [e] at e1; cases e1;exact e2
 cases hk:K.lookup a with
 | some o =>
  have e:=KX a o hk;rw [ha] at e;cases e;refine core (fun _=>none) (fun _=>.inl rfl) (.inr ⟨_,vs.toArray,_,hk,rfl,rfl,rfl,by rw [size_toArray,lenV]; exact hl,by simpa using rv⟩) (fun b u z=>by have z':(none:Option HO)=some u:=z; cases z') (fun b z=>absurd rfl z) fun z=>absurd rfl z
 | none =>
  refine core (fun b=>if b=a then some (.frz { cls:=.type "list",data:=.seq vs.toArray } (.lst (ns.map V.int))) else none) (fun b=>?_) (.inl (.inr ⟨{ cls:=.type "list",data:=.seq vs.toArray },if_pos rfl⟩)) (fun b u z=>?_) (fun b z=>?_) fun _=>hk
  ·by_cases hb:b=a
   ·exact .inr ⟨_,_,if_pos hb⟩
   ·exact .inl (if_neg hb)
  ·by_cases hb:b=a
   ·have z':=(if_pos hb).symm.trans z
    cases z';subst hb;exact ⟨ha,by rw [length_map]; exact hl,vs,_,rv,ha⟩
   ·have z':=(if_neg hb).symm.trans z
    cases z'
  ·by_cases hb:b=a
   ·exact hb
   ·exact absurd (if_neg hb) z
theorem aqd0 {l:Hb} {n k:Nat} {q:Aj} {loose:List Str} {XP:(Str->Option Value)->Heap->Prop} {YP:World->Heap->Prop} {d:DefRec} {K:Params->Frag} {CX:World->CXT} {sp:World->Sp} {x:Str}
  (hn:l.most=some n) (hn2:n <= Ag) (hdf:d.params.defaults=[]) (hr:Room k Hq)
  (hY:∀ (w:World) (h:Heap),YP w h->(K w.params).In h)
  (F:∀ (w:World) (mg:Str->Option Value) (fa:Addr) (h:Heap),(K w.params).In h->h.Ns Am mg->mg d.name=some (.ref fa) ->
   ∃ fd:Ak,(∀ (s:Shared) (u:Value),Iu s fd ⟨[u],[]⟩ [(x,u)]) /\
    ∀ base:Heap,(K w.params).In base->base.Ns Am mg->FnOk l.prog w (K w.params) mg base (CX w) k fa fd [x] (sp w))
  (hsp:∀ (w:World) (H:Hp) (a:Addr) (ns:List Int),ns.length <= n->Only H->SqL (K w.params) H a (ns.map V.int)->sp w [.ref a] H (fun v _=>v=.bl true) fun _ _ _=>False)
  (hCX:∀ (w:World) (H:Hp) (s:Shared) (e:Value) (s':Shared),CX w [] H s (fun _ _ _=>False) e s'->False) :
  Lv q loose XP YP l.row.toRowW d [] (fun f vs=>PySem.call f vs):=by
 refine Att.attach_call hn hdf fun w s₀ s₁ mg mb fa o pm cd doc a vs ns G Y ho hd hcd hmg hobj hints hlen hg=>?_;have KX:=hY w _ Y;obtain ⟨fd,hb,hF⟩:=F w mg fa _ KX G.T.g hmg;exact law_call KX G.T.g G.T.b G.T.builtins G.T.nolimit hg hobj hints (le_trans hlen hn2) hr hF hb (fun H hO hS=>hsp w H a ns hlen hO hS) fun H e s'=>hCX w H s₁ e s'
def axe (s:Stmt) (j:Nat):Stmt:=match s with
 | .ClassDef _ _ _ body _ _ _ _ _ _ _=>body.getD j (.Pass ⟨0,0,0,0⟩)
 | _=>.Pass ⟨0,0,0,0⟩
def aqz (s:Stmt):Arguments:=match s with
 | .FunctionDef _ a _ _ _ _ _ _ _ _=>a
 | _=>{ posonlyargs:=[],args:=[],vararg:=none,kwonlyargs:=[],kw_defaults:=[],kwarg:=none,defaults:=[] }
def aqi (s:Stmt):List Stmt:=match s with
 | .FunctionDef _ _ b _ _ _ _ _ _ _=>b
 | _=>[]
def af (s:Stmt):Scope:=match s with
 | .FunctionDef _ _ _ _ _ _ sc _ _ _=>sc
 | _=>{ kind:=.function,names:=[],isGenerator:=false,isCoroutine:=false }
abbrev CX0:CXT:=fun _ _ _ _ _ _=>False
abbrev E0:XK:=fun _ _ _=>False
theorem aqt {X:Cx}:aky CX0 X E0:=fun _ _ _ _ _ _ _ h=>h.elim
structure Fun (K:Frag) (x qual:Str) (st:Stmt) (f:Addr) (fd:Ak):Prop where
 ex:∃ (oc:Value) (od:Option Addr) (kV doc pm:Value) (an:Option Addr) (cdv ct:Value) (osl:Array (Option Value)),
  fd=fnOf x qual (aqz st) (aqi st) (af st) .none kV doc pm an cdv ct/\K.lookup f=some ⟨oc,od,.func fd,osl⟩/\Ni K cdv qual=true
 kp:Ha K (.ref f)=true
section
variable {P:Aj} {w:World} {K:Frag} {mg:Str->Option Value} {base:Heap}
theorem Fun.ok {x qual:Str} {st:Stmt} {f:Addr} {fd:Ak} {N ps:List Str} {k:Nat} {sp:Sp} (F:Fun K x qual st f fd) (S:FnScope N ps (af st)) (len:∀ vs H Q E,sp vs H Q E->vs.length=ps.length)
  (hbody:∀ (cdv:Value) (A:Around) (outer:List Env) (s:Shared) (H:Hp) (vs:List V) (Q:VK) (E:XK),Room k (A.deeper (F7 qual (af st) s.heap.objs.size f cdv))->sp vs H Q E ->
   ∃ t,PSs (aqrp CX0 P w K mg base N qual (af st) f cdv A outer s H E).nox (aqi st) t/\t { nx:=fun _ H'=>Q .non H',rt:=Q } (start N vs) H):FnOk P w K mg base CX0 (k + 1) f fd ps sp:=by
 obtain ⟨oc,od,kV,doc,pm,an,cdv,ct,osl,rfl,lk,hcd⟩:=F.ex;refine fn_of lk hcd S len fun A outer s H vs Q E hr hsp=>?_;obtain ⟨t,h,q⟩:=hbody cdv A outer s H vs Q E hr hsp;exact ⟨t,h.nox,q⟩
theorem Fun.binds {x qual:Str} {st:Stmt} {f:Addr} {fd:Ak} {ps:List Str} (F:Fun K x qual st f fd)
  (h:∀ (kV doc pm:Value) (an:Option Addr) (cdv ct:Value) (us:List Value),us.length=ps.length->Ia (fnOf x qual (aqz st) (aqi st) (af st) .none kV doc pm an cdv ct) ⟨us,[]⟩=pure (ps.zip us)):Binds K fd ps []:=by
 obtain ⟨oc,od,kV,doc,pm,an,cdv,ct,osl,rfl,lk,hcd⟩:=F.ex;exact .all (h kV doc pm an cdv ct)
theorem aqgt {x qual:Str} {st:Stmt} {f:Addr} {oc:Value} {od an:Option Addr} {osl:Array (Option Value)} {kV doc pm cdv ct:Value} (l:K.lookup f=some ⟨oc,od,.func (fnOf x qual (aqz st) (aqi st) (af st) .none kV doc pm an cdv ct),osl⟩)
  (c:Ni K cdv qual=true) (k:Ha K (.ref f)=true):Fun K x qual st f (fnOf x qual (aqz st) (aqi st) (af st) .none kV doc pm an cdv ct):=⟨⟨oc,od,kV,doc,pm,an,cdv,ct,osl,rfl,l,c⟩,k⟩
end
theorem aqe0 {A:Around} {k:Nat} (hr:Room k A):A.units + 1 < cLine:=lt_of_le_of_lt (Nat.add_le_add_left (by decide:1 <= 64) _) hr.units
section
variable {X:Cx}
theorem pv (i:Nat) {x:Str} {pos:Pos} (hN:X.N[i]?=some x:=by rfl) (hv:Vis X.env.scope x:=by first | exact Or.inl rfl | exact Or.inr (Or.inl rfl) | exact Or.inr (Or.inr rfl)) (hd:(x == ("__debug__":Str))=false:=by decide)
  (hcd:(x == ("__classdict__":Str))=false:=by decide):PE X (.Name x pos) (aqqv i):=aqmg hN hv hd hcd
end
theorem aqrc {A B:Prop} (h:B):if false=true then A else B:=by
 rw [if_neg Al];exact h
theorem aqrb {A B:Prop} (h:A):if true=true then A else B:=by
 rw [if_pos rfl];exact h
def aqs2 (H H':Hp):Prop:=∀ b o,H b=some o->H' b=some o
theorem aqs2.refl (H:Hp):aqs2 H H:=fun _ _ h=>h
theorem aqs2.trans {H H1 H2:Hp} (a:aqs2 H H1) (b:aqs2 H1 H2):aqs2 H H2:=fun c o h=>b c o (a c o h)
theorem aqs2.free {H H':Hp} (e:aqs2 H H') {l:Addr} (h:H' l=Option.none):H l=Option.none:=by
 cases q:H l with
 | none=>rfl
 | some o =>
  rw [e l o q] at h;cases h
theorem aqs2.seq {K:Frag} {H H':Hp} {a:Addr} {xs:List V} (e:aqs2 H H') (h:SqL K H a xs):SqL K H' a xs:=by
 rcases h with (h | ⟨o,h⟩) | h
 ·exact .inl (.inl (e _ _ h))
 ·exact .inl (.inr ⟨o,e _ _ h⟩)
 ·exact .inr h
end L2
namespace DL
open PySem
inductive D where
 | non | bl (b:Bool) | int (i:Int) | str (x:Str) | lst (xs:List D) | tup (xs:List D)
inductive O where
 | sh (d:D) | lst (os:List O) | tup (os:List O)
mutual
def imm:D->Bool
 | .lst _=>false
 | .tup ds=>aqrf ds
 | _=>true
def aqrf:List D->Bool
 | []=>true
 | d :: ds=>imm d && aqrf ds
end
mutual
def oD:O->Option D
 | .sh d=>some d
 | .lst os=>(oDs os).map D.lst
 | .tup os=>(oDs os).map D.tup
def oDs:List O->Option (List D)
 | []=>some []
 | o :: os=>(oD o).bind fun d=>(oDs os).map fun ds=>d :: ds
end
mutual
def oim:O->Bool
 | .sh d=>imm d
 | .lst os=>aqr6 os
 | .tup os=>aqr6 os
def aqr6:List O->Bool
 | []=>true
 | o :: os=>oim o && aqr6 os
end
def ow (ds:List D):O:=.lst (ds.map O.sh)
abbrev Cs:=List (Option O)
abbrev aqsd:=List (Option D)
abbrev FE:=aqsd->Option D
abbrev FO:=aqsd->Option O
abbrev FT:=aqsd->Option Bool
abbrev FA:=aqsd->Option (List D)
abbrev FAO:=aqsd->Option (List O)
def aqsa:Nat:=100000
def aqri (i:Nat):FE:=fun ρ=>(ρ[i]?).bind id
def fC (d:D):FE:=fun _=>some d
def f2 (g:D->D->Option D) (a b:FE):FE:=fun ρ=>(a ρ).bind fun x=>(b ρ).bind fun y=>g x y
def f1 (g:D->Option D) (a:FE):FE:=fun ρ=>(a ρ).bind g
def fL (f:FO):FE:=fun ρ=>(f ρ).bind oD
def oE (f:FE):FO:=fun ρ=>(f ρ).map O.sh
def qV (f:FE):FT:=fun ρ=>(f ρ).bind fun d=>match d with | .bl b=>some b | _=>none
def qNot (f:FT):FT:=fun ρ=>(f ρ).map not
def qAnd (f g:FT):FT:=fun ρ=>(f ρ).bind fun x=>if x=true then g ρ else some false
def qOr (f g:FT):FT:=fun ρ=>(f ρ).bind fun x=>if x=true then some true else g ρ
def fB (f:FT):FE:=fun ρ=>(f ρ).map D.bl
def fNot (f:FE):FE:=fB (qNot (qV f))
def fAnd (f g:FE):FE:=fun ρ=>(qV f ρ).bind fun x=>if x=true then g ρ else some (.bl false)
def fOr (f g:FE):FE:=fun ρ=>(qV f ρ).bind fun x=>if x=true then some (.bl true) else g ρ
def fIf (c:FT) (f g:FE):FE:=fun ρ=>(c ρ).bind fun x=>if x=true then f ρ else g ρ
def aqry:FA:=fun _=>some []
def cn (f:FE) (g:FA):FA:=fun ρ=>(f ρ).bind fun d=>(g ρ).map fun ds=>d :: ds
def aoNil:FAO:=fun _=>some []
def aKn (f:FO) (g:FAO):FAO:=fun ρ=>(f ρ).bind fun d=>(g ρ).map fun ds=>d :: ds
def aqrj (g:FA):FE:=fun ρ=>(g ρ).bind fun ds=>if ds.length <= aqsa then some (.tup ds) else none
def aqr7 (g:FA):FO:=fun ρ=>(g ρ).bind fun ds=>if ds.length <= aqsa then some (ow ds) else none
def oLstO (g:FAO):FO:=fun ρ=>(g ρ).bind fun os=>if os.length <= aqsa then some (.lst os) else none
def oTupO (g:FAO):FO:=fun ρ=>(g ρ).bind fun os=>if os.length <= aqsa then some (.tup os) else none
def aqs (n:Nat) (g:List D->Option D) (f:FA):FE:=fun ρ=>(f ρ).bind fun ds=>if ds.length=n then g ds else none
def aV6 (n:Nat) (g:List D->Option O) (f:FA):FO:=fun ρ=>(f ρ).bind fun ds=>if ds.length=n then g ds else none
def aqrk (g:List D->Option D) (f:FA):FE:=fun ρ=>(f ρ).bind g
def aqr8 (g:List D->Option (List D)) (f:FA):FO:=fun ρ=>((f ρ).bind g).map ow
def o2 (g:D->D->Option (List D)) (a b:FE):FO:=fun ρ=>((a ρ).bind fun x=>(b ρ).bind fun y=>g x y).map ow
abbrev GE:=D->aqsd->Option aqsd
def geN (i:Nat):GE:=fun d ρ=>some (ρ.set i (some d))
def geT:List GE->List D->aqsd->Option aqsd
 | [],[],ρ=>some ρ
 | g :: gs,d :: ds,ρ=>(g d ρ).bind fun ρ'=>geT gs ds ρ'
 | _,_,_=>none
def geTp (gs:List GE):GE:=fun d ρ=>match d with
 | .tup ds=>geT gs ds ρ
 | _=>none
def mkD (js:List (Option Nat)) (ρ:aqsd):aqsd:=js.map fun o=>o.bind fun j=>(ρ[j]?).bind id
def akb (g:GE) (c:FT) (e:FO):List D->aqsd->Option (List O)
 | [],_=>some []
 | d :: ds,ρ=>(g d ρ).bind fun ρ1=>(c ρ1).bind fun b=>if b=true then (e ρ1).bind fun y=>(akb g c e ds ρ1).map fun ys=>y :: ys else akb g c e ds ρ1
def qT:FT:=fun _=>some true
def aqdw:D->Option (List D)
 | .lst ds=>some ds
 | _=>none
theorem aZb {α:Type} (d:D) (k:List D->Option α):(aqdw d).bind k=match d with
 | .lst ds=>k ds
 | _=>none:=by cases d <;> rfl
def ava (js:List (Option Nat)) (f:FE) (g:GE) (c:FT) (e:FO):FO:=fun ρ=>(f ρ).bind fun d=>(aqdw d).bind fun ds=>if ds.length <= aqsa then (akb g c e ds (mkD js ρ)).map O.lst else none
def aqht (ds:List D):List D:=(Ax ds.length).zipWith (fun (i:Nat) d=>.tup [.int (i:Int),d]) ds
def aqg3 (js:List (Option Nat)) (f:FE) (g:GE) (c:FT) (e:FO):FO:=fun ρ=>(f ρ).bind fun d=>(aqdw d).bind fun ds=>if ds.length <= aqsa then (akb g c e (aqht ds) (mkD js ρ)).map O.lst else none
inductive Out where
 | nx (ρ:Cs) | bk (ρ:Cs) | ct (ρ:Cs) | rt (o:O) (ρ:Cs) | ex (c:Str) (ρ:Cs)
abbrev Blk:=Cs->Option Out
def fzc:Option O->Option O
 | some o=>match oD o with | some d=>some (.sh d) | none=>some o
 | none=>none
def frz:List Bool->Cs->aqsd
 | b :: S,c :: ρ=>(if b=true then c.bind oD else none) :: frz S ρ
 | _,_=>[]
def fz:List Bool->Cs->Cs
 | b :: S,c :: ρ=>(if b=true then fzc c else c) :: fz S ρ
 | _,ρ=>ρ
def all (ρ:Cs):aqsd:=ρ.map fun c=>c.bind oD
abbrev FM:=Cs->Option (O × Cs)
def mE (S:List Bool) (f:FE):FM:=fun ρ=>(f (frz S ρ)).map fun d=>(.sh d,if imm d=true then ρ else fz S ρ)
def mO (S:List Bool) (f:FO):FM:=fun ρ=>(f (frz S ρ)).map fun o=>(o,if oim o=true then ρ else fz S ρ)
def mMv (i:Nat):FM:=fun ρ=>((ρ[i]?).bind id).map fun o=>(o,ρ.set i none)
def aqrv:Blk:=fun ρ=>some (.nx ρ)
def aqrt (b c:Blk):Blk:=fun ρ=>match b ρ with
 | some (.nx ρ')=>c ρ'
 | o=>o
def aqrs (i:Nat) (f:FM):Blk:=fun ρ=>(f ρ).map fun p=>.nx (p.2.set i (some p.1))
def aqru (f:FM):Blk:=fun ρ=>(f ρ).map fun p=>.rt p.1 p.2
def bRetN:Blk:=fun ρ=>some (.rt (.sh .non) ρ)
def bExpr (f:FM):Blk:=fun ρ=>(f ρ).map fun p=>.nx p.2
def bIf (c:FT) (a b:Blk):Blk:=fun ρ=>(c (DL.all ρ)).bind fun t=>if t=true then a ρ else b ρ
def bPass:Blk:=fun ρ=>some (.nx ρ)
def bBrk:Blk:=fun ρ=>some (.bk ρ)
def bCnt:Blk:=fun ρ=>some (.ct ρ)
def bNever:Blk:=fun _=>none
abbrev GD:=D->Cs->Option Cs
def gN (i:Nat):GD:=fun d ρ=>some (ρ.set i (some (.sh d)))
def gT:List GD->List D->Cs->Option Cs
 | [],[],ρ=>some ρ
 | g :: gs,d :: ds,ρ=>(g d ρ).bind fun ρ'=>gT gs ds ρ'
 | _,_,_=>none
def gTp (gs:List GD):GD:=fun d ρ=>match d with
 | .tup ds=>gT gs ds ρ
 | _=>none
def aqrh (g:GD) (b:Blk):List D->Blk
 | [],ρ=>some (.nx ρ)
 | d :: ds,ρ=>(g d ρ).bind fun ρ1=>match b ρ1 with
  | some (.nx ρ2)=>aqrh g b ds ρ2
  | some (.ct ρ2)=>aqrh g b ds ρ2
  | some (.bk ρ2)=>some (.nx ρ2)
  | o=>o
def aqrw (S:List Bool) (f:FE) (g:GD) (b:Blk):Blk:=fun ρ=>(f (frz S ρ)).bind fun d=>(aqdw d).bind fun ds=>aqrh g b ds (fz S ρ)
def aXx (c:FT) (b:Blk):Nat->Blk
 | 0,_=>none
 | n + 1,ρ=>(c (DL.all ρ)).bind fun t=>if t=true then match b ρ with
   | some (.nx ρ2)=>aXx c b n ρ2
   | some (.ct ρ2)=>aXx c b n ρ2
   | some (.bk ρ2)=>some (.nx ρ2)
   | o=>o
  else some (.nx ρ)
theorem bind_some {α β:Type} {o:Option α} {f:α->Option β} {y:β} (h:o.bind f=some y):∃ x,o=some x/\f x=some y:=by
 cases o with
 | none=>cases h
 | some x=>exact ⟨x,rfl,h⟩
theorem map_some {α β:Type} {o:Option α} {f:α->β} {y:β} (h:o.map f=some y):∃ x,o=some x/\f x=y:=by
 cases o with
 | none=>cases h
 | some x=>exact ⟨x,rfl,Option.some.inj h⟩
theorem azg {c:FT} {b:Blk}:∀ {n m:Nat} {ρ:Cs} {o:Out},aXx c b n ρ=some o->n <= m->aXx c b m ρ=some o
 | 0,_,_,_,h,_=>by cases h
 | n + 1,0,_,_,_,h=>by omega
 | n + 1,m + 1,ρ,o,h,hl=>by
  unfold aXx at h ⊢;obtain ⟨t,ht,h⟩:=bind_some h;rw [ht];show (if t=true then _ else _)=some o;split at h
  ·rename_i htt
   rw [if_pos htt];cases hb:b ρ with
   | none=>rw [hb] at h; cases h
   | some o1 =>
    rw [hb] at h;cases o1 with
    | nx ρ2=>exact azg h (by omega)
    | ct ρ2=>exact azg h (by omega)
    | bk ρ2=>exact h
    | rt d ρ2=>exact h
    | ex d ρ2=>exact h
  ·rename_i htt
   rw [if_neg htt]; exact h
open Classical in
noncomputable def azk (c:FT) (b:Blk):Blk:=fun ρ=>if h:∃ n o,aXx c b n ρ=some o then aXx c b (choose h) ρ else none
theorem aVu {c:FT} {b:Blk} {n:Nat} {ρ:Cs} {o:Out} (h:aXx c b n ρ=some o):azk c b ρ=some o:=by
 have h':∃ n o,aXx c b n ρ=some o:=⟨n,o,h⟩;unfold azk;rw [dif_pos h'];obtain ⟨o',ho⟩:=Classical.choose_spec h';have e1:=azg h (Nat.le_max_left n (Classical.choose h'));have e2:=azg ho (Nat.le_max_right n (Classical.choose h'));rw [e1] at e2;cases e2;exact ho
theorem aZz {c:FT} {b:Blk} {ρ:Cs} {o:Out} (h:azk c b ρ=some o):∃ n,aXx c b n ρ=some o:=by
 unfold azk at h;split at h
 ·exact ⟨_,h⟩
 ·cases h
inductive Stp where
 | ix (i:Int) | fl (x:Str)
def ixP (n:Nat) (i:Int):Option Nat:=if 0 <= i then (if i < n then some i.toNat else none) else if -(n:Int) <= i then some (i + n).toNat else none
def atP {α:Type} (xs:List α) (i:Int):Option α:=(ixP xs.length i).bind fun j=>xs[j]?
def plc:O->Stp->Option Nat
 | .lst os,.ix i=>ixP os.length i
 | .tup os,.ix i=>ixP os.length i
 | _,_=>none
def kids:O->List O
 | .lst os=>os
 | .tup os=>os
 | _=>[]
def reset:O->List O->O
 | .lst _,os=>.lst os
 | .tup _,os=>.tup os
 | o,_=>o
def atO (g:O->Option O):List Stp->O->Option O
 | [],o=>g o
 | s :: p,o=>(plc o s).bind fun n=>((kids o)[n]?).bind fun c=>(atO g p c).map fun c'=>reset o ((kids o).set n c')
def aqrg:List Stp->O->Option O
 | [],o=>some o
 | s :: p,o=>(plc o s).bind fun n=>((kids o)[n]?).bind fun c=>aqrg p c
abbrev FP:=aqsd->Option (List Stp)
def pNil:FP:=fun _=>some []
def gApp (o:O):O->Option O
 | .lst os=>if os.length < aqsa then some (.lst (os++[o])) else none
 | _=>none
def gSetI (i:Int) (o:O):O->Option O
 | .lst os=>(ixP os.length i).map fun n=>.lst (os.set n o)
 | _=>none
def gExt (ds:List D):O->Option O
 | .lst os=>if os.length + ds.length <= aqsa then some (.lst (os++ds.map O.sh)) else none
 | _=>none
def isL:O->Bool
 | .lst _=>true
 | _=>false
def bMut (i:Nat) (S:List Bool) (p:FP) (f:FM) (g:O->O->Option O):Blk:=fun ρ=>(p (frz S ρ)).bind fun q=>((ρ[i]?).bind id).bind fun c0=>(aqrg q c0).bind fun m=>if isL m=true then
  (f ρ).bind fun r=>((r.2[i]?).bind id).bind fun c=>(atO (g r.1) q c).map fun c'=>.nx (r.2.set i (some c')) else none
def bPut (i:Nat) (S:List Bool) (p:FP) (k:FE) (f:FM):Blk:=fun ρ=>(f ρ).bind fun r=>(p (frz S r.2)).bind fun q=>(k (frz S r.2)).bind fun d=>((r.2[i]?).bind id).bind fun c=>match d with
 | .int j=>(atO (gSetI j r.1) q c).map fun c'=>.nx (r.2.set i (some c'))
 | _=>none
def bExt (i:Nat) (S:List Bool) (p:FP) (f:FE):Blk:=fun ρ=>(p (frz S ρ)).bind fun q=>(f (frz S ρ)).bind fun d=>((ρ[i]?).bind id).bind fun c=>match d with
 | .lst ds=>if aqrf ds=true then (atO (gExt ds) q c).map fun c'=>.nx (ρ.set i (some c')) else none
 | _=>none
def ini (m:Nat) (ds:List D):Cs:=ds.map (fun d=>some (.sh d))++D9 (m - ds.length) none
def aqqz (m:Nat) (b:Blk):List D->Option O:=fun ds=>match b (ini m ds) with
 | some (.rt o _)=>some o
 | some (.nx _)=>some (.sh .non)
 | _=>none
def aqr1 (m:Nat) (b:Blk):List D->Option D:=fun ds=>(aqqz m b ds).bind oD
def BIG:Nat:=2 ^ 1000000
def BIGD:Nat:=2 ^ 9000
def SHORT:Nat:=2 ^ 63
def aqg7 (i j:Int):Prop:=(i.natAbs < BIG/\j.natAbs < BIG) \/ i.natAbs < SHORT \/ j.natAbs < SHORT
instance (i j:Int):Decidable (aqg7 i j):=inferInstanceAs (Decidable (_ \/ _ \/ _))
def dI (g:Int->Int->Int):D->D->Option D
 | .int i,.int j=>some (.int (g i j))
 | _,_=>none
def dB (g:Int->Int->Bool):D->D->Option D
 | .int i,.int j=>some (.bl (g i j))
 | _,_=>none
def dAdd:D->D->Option D
 | .int i,.int j=>some (.int (i + j))
 | .str x,.str y=>if x.length + y.length <= aqsa then some (.str (x++y)) else none
 | _,_=>none
def dSub:D->D->Option D:=dI fun i j=>i - j
def aqrm:D->D->Option D
 | .int i,.int j=>if aqg7 i j then some (.int (i * j)) else none
 | _,_=>none
def aqro:D->D->Option D
 | .int i,.int j=>if j ≠ 0/\j.natAbs < BIGD then some (.int (i.fdiv j)) else none
 | _,_=>none
def dMod:D->D->Option D
 | .int i,.int j=>if j ≠ 0 then some (.int (i.fmod j)) else none
 | _,_=>none
def dNeg:D->Option D
 | .int i=>some (.int (-i))
 | _=>none
def dLt:D->D->Option D:=dB fun i j=>decide (i < j)
def dLe:D->D->Option D:=dB fun i j=>decide (i <= j)
def dGt:D->D->Option D:=dB fun i j=>decide (j < i)
def dGe:D->D->Option D:=dB fun i j=>decide (j <= i)
mutual
def eqD:D->D->Bool
 | .non,.non=>true
 | .bl a,.bl b=>a == b
 | .int i,.int j=>i == j
 | .bl a,.int j=>(if a=true then 1 else 0) == j
 | .int i,.bl b=>i == (if b=true then 1 else 0)
 | .str x,.str y=>x == y
 | .lst xs,.lst ys=>aqrl xs ys
 | .tup xs,.tup ys=>aqrl xs ys
 | _,_=>false
def aqrl:List D->List D->Bool
 | [],[]=>true
 | x :: xs,y :: ys=>eqD x y && aqrl xs ys
 | _,_=>false
end
mutual
def shp:Nat->D->Bool
 | _,.non=>true
 | _,.bl _=>true
 | _,.int _=>true
 | _,.str x=>x.cps.all (· < 0x110000)
 | 0,.lst _=>false
 | n + 1,.lst xs=>aqqx n xs
 | 0,.tup _=>false
 | n + 1,.tup xs=>aqqx n xs
def aqqx:Nat->List D->Bool
 | _,[]=>true
 | n,x :: xs=>shp n x && aqqx n xs
end
def dEq (x y:D):Option D:=if shp 20 x=true/\shp 20 y=true then some (.bl (eqD x y)) else none
def dNe (x y:D):Option D:=if shp 20 x=true/\shp 20 y=true then some (.bl (!eqD x y)) else none
def dIs:D->D->Option D
 | .bl a,.bl b=>some (.bl (a == b))
 | x,.non=>match x with | .non=>some (.bl true) | _=>some (.bl false)
 | _,_=>none
def dIsN:D->D->Option D
 | .bl a,.bl b=>some (.bl (a != b))
 | x,.non=>match x with | .non=>some (.bl false) | _=>some (.bl true)
 | _,_=>none
def dIn:D->D->Option D
 | x,.lst ds=>if shp 20 x=true/\shp 20 (.lst ds)=true then some (.bl (ds.any fun y=>eqD y x)) else none
 | x,.tup ds=>if shp 20 x=true/\shp 20 (.tup ds)=true then some (.bl (ds.any fun y=>eqD y x)) else none
 | _,_=>none
def avc:D->D->Option D
 | x,.lst ds=>if shp 20 x=true/\shp 20 (.lst ds)=true then some (.bl (!ds.any fun y=>eqD y x)) else none
 | x,.tup ds=>if shp 20 x=true/\shp 20 (.tup ds)=true then some (.bl (!ds.any fun y=>eqD y x)) else none
 | _,_=>none
def dIx:D->D->Option D
 | .lst xs,.int i=>atP xs i
 | .tup xs,.int i=>atP xs i
 | _,_=>none
def aqrn:List D->Option D
 | [.lst xs]=>some (.int xs.length)
 | [.tup xs]=>some (.int xs.length)
 | _=>none
def dAbs:List D->Option D
 | [.int i]=>some (.int (if i < 0 then -i else i))
 | _=>none
def dMax2:List D->Option D
 | [.int i,.int j]=>some (.int (if j > i then j else i))
 | _=>none
def dMin2:List D->Option D
 | [.int i,.int j]=>some (.int (if j < i then j else i))
 | _=>none
def tyD:D->String
 | .non=>"NoneType"
 | .bl _=>"bool"
 | .int _=>"int"
 | .str _=>"str"
 | .lst _=>"list"
 | .tup _=>"tuple"
def isT (d:D) (T:String):Bool:=tyD d == T || (tyD d == "bool" && T == "int")
def aqrd (T:String):D->Option D
 | d=>some (.bl (isT d T))
def fIsi (T:String) (f:FE):FE:=fun ρ=>(f ρ).bind (aqrd T)
def dCat:D->D->Option (List D)
 | .lst xs,.lst ys=>if xs.length + ys.length <= aqsa then some (xs++ys) else none
 | _,_=>none
def bndP (lo hi st:Option Int) (n:Nat):Int × Int × Int :=
 let step:=st.getD 1
 let clip (v:Option Int) (dflt:Int):Int:=match v with
  | none=>dflt
  | some i=>let i:=if i < 0 then i + n else i; if step > 0 then max 0 (min i n) else max (-1) (min i ((n:Int) - 1))
 (clip lo (if step > 0 then 0 else (n:Int) - 1),clip hi (if step > 0 then n else -1),step)
def rngP (start stop step:Int):List Nat :=
 let count : Int := if step > 0 then (if start < stop then (stop - start + step - 1) / step else 0)
                    else (if start > stop then (start - stop - step - 1) / (-step) else 0)
 (Ax count.toNat).map fun (k:Nat)=>(start + step * (k:Int)).toNat
def aqhn {α:Type} (xs:List α) (lo hi st:Option Int):List α:=(rngP (bndP lo hi st xs.length).1 (bndP lo hi st xs.length).2.1 (bndP lo hi st xs.length).2.2).filterMap (xs[·]?)
def sumD:List D->Int->Option Int
 | [],a=>some a
 | .int i :: ds,a=>sumD ds (a + i)
 | _,_=>none
def dSum:List D->Option D
 | [.lst ds]=>(sumD ds 0).map D.int
 | _=>none
def aql3:List D->Option (List Bool)
 | []=>some []
 | .bl b :: ds=>(aql3 ds).map fun r=>b :: r
 | _=>none
def dAll:List D->Option D
 | [.lst ds]=>(aql3 ds).map fun bs=>D.bl (bs.all id)
 | _=>none
def aqc8:List D->Option (List D)
 | [.lst ds]=>some ds
 | [.tup ds]=>some ds
 | _=>none
def dTuple:List D->Option D
 | [.lst ds]=>some (.tup ds)
 | [.tup ds]=>some (.tup ds)
 | _=>none
end DL
namespace DL
open PySem
section
variable {ρ:aqsd} {σ:Cs} {f g:FE} {a:FA} {p q:FT} {o:FO}
@[simp] theorem aqp5 {i:Nat}:aqri i ρ=(ρ[i]?).bind id:=rfl
@[simp] theorem fC_ap {d:D}:fC d ρ=some d:=rfl
@[simp] theorem f2_ap {o:D->D->Option D}:f2 o f g ρ=(f ρ).bind fun x=>(g ρ).bind fun y=>o x y:=rfl
@[simp] theorem f1_ap {o:D->Option D}:f1 o f ρ=(f ρ).bind o:=rfl
@[simp] theorem fL_ap:fL o ρ=(o ρ).bind oD:=rfl
@[simp] theorem oE_ap:oE f ρ=(f ρ).map O.sh:=rfl
@[simp] theorem qV_ap:qV f ρ=(f ρ).bind fun d=>match d with | .bl b=>some b | _=>none:=rfl
@[simp] theorem qT_ap:qT ρ=some true:=rfl
@[simp] theorem aqoj:qNot p ρ=(p ρ).map not:=rfl
@[simp] theorem aqok:qAnd p q ρ=(p ρ).bind fun x=>if x=true then q ρ else some false:=rfl
@[simp] theorem aqpu:qOr p q ρ=(p ρ).bind fun x=>if x=true then some true else q ρ:=rfl
@[simp] theorem fB_ap:fB p ρ=(p ρ).map D.bl:=rfl
@[simp] theorem aqp7:fNot f ρ=((qV f ρ).map not).map D.bl:=rfl
@[simp] theorem aqpa:fAnd f g ρ=(qV f ρ).bind fun x=>if x=true then g ρ else some (.bl false):=rfl
@[simp] theorem aqqb:fOr f g ρ=(qV f ρ).bind fun x=>if x=true then some (.bl true) else g ρ:=rfl
@[simp] theorem aqqc:fIf p f g ρ=(p ρ).bind fun x=>if x=true then f ρ else g ρ:=rfl
@[simp] theorem aqps:aqry ρ=some []:=rfl
@[simp] theorem aqoc:cn f a ρ=(f ρ).bind fun d=>(a ρ).map fun ds=>d :: ds:=rfl
@[simp] theorem aqo8:aoNil ρ=some []:=rfl
@[simp] theorem aqm6 {h:FAO}:aKn o h ρ=(o ρ).bind fun d=>(h ρ).map fun ds=>d :: ds:=rfl
@[simp] theorem aqp6:aqrj a ρ=(a ρ).bind fun ds=>if ds.length <= aqsa then some (.tup ds) else none:=rfl
@[simp] theorem aqoo:aqr7 a ρ=(a ρ).bind fun ds=>if ds.length <= aqsa then some (ow ds) else none:=rfl
@[simp] theorem aqmu {h:FAO}:oLstO h ρ=(h ρ).bind fun ds=>if ds.length <= aqsa then some (.lst ds) else none:=rfl
@[simp] theorem aqmt {h:FAO}:oTupO h ρ=(h ρ).bind fun ds=>if ds.length <= aqsa then some (.tup ds) else none:=rfl
@[simp] theorem aqni {n:Nat} {h:List D->Option D}:aqs n h a ρ=(a ρ).bind fun ds=>if ds.length=n then h ds else none:=rfl
@[simp] theorem aqmw {n:Nat} {h:List D->Option O}:aV6 n h a ρ=(a ρ).bind fun ds=>if ds.length=n then h ds else none:=rfl
@[simp] theorem aqp9 {h:List D->Option D}:aqrk h a ρ=(a ρ).bind h:=rfl
@[simp] theorem aqor {h:List D->Option (List D)}:aqr8 h a ρ=((a ρ).bind h).map ow:=rfl
@[simp] theorem o2_ap {h:D->D->Option (List D)}:o2 h f g ρ=((f ρ).bind fun x=>(g ρ).bind fun y=>h x y).map ow:=rfl
@[simp] theorem aqp8 {T:String}:fIsi T f ρ=(f ρ).bind (aqrd T):=rfl
@[simp] theorem aqnb {T:String} {i:Int}:aqrd T (.int i)=some (.bl (isT (.int i) T)):=rfl
@[simp] theorem aqov {T:String} {i:Bool}:aqrd T (.bl i)=some (.bl (isT (.bl i) T)):=rfl
@[simp] theorem aqn8 {T:String} {i:Str}:aqrd T (.str i)=some (.bl (isT (.str i) T)):=rfl
@[simp] theorem aqn9 {T:String}:aqrd T .non=some (.bl (isT .non T)):=rfl
@[simp] theorem aqna {T:String} {i:List D}:aqrd T (.lst i)=some (.bl (isT (.lst i) T)):=rfl
@[simp] theorem aqn7 {T:String} {i:List D}:aqrd T (.tup i)=some (.bl (isT (.tup i) T)):=rfl
@[simp] theorem mE_ap {S:List Bool}:mE S f σ=(f (frz S σ)).map fun d=>(.sh d,if imm d=true then σ else fz S σ):=rfl
@[simp] theorem mO_ap {S:List Bool}:mO S o σ=(o (frz S σ)).map fun o=>(o,if oim o=true then σ else fz S σ):=rfl
@[simp] theorem aqpz {i:Nat}:mMv i σ=((σ[i]?).bind id).map fun o=>(o,σ.set i none):=rfl
@[simp] theorem aqpk {b c:Blk}:aqrt b c σ=(match b σ with | some (.nx ρ')=>c ρ' | o=>o):=rfl
@[simp] theorem aqpm:aqrv σ=some (.nx σ):=rfl
@[simp] theorem aqo4:bPass σ=some (.nx σ):=rfl
@[simp] theorem aqpp:bBrk σ=some (.bk σ):=rfl
@[simp] theorem aqpo:bCnt σ=some (.ct σ):=rfl
@[simp] theorem aqpj {i:Nat} {m:FM}:aqrs i m σ=(m σ).map fun p=>.nx (p.2.set i (some p.1)):=rfl
@[simp] theorem aqpl {m:FM}:aqru m σ=(m σ).map fun p=>.rt p.1 p.2:=rfl
@[simp] theorem aqo3:bRetN σ=some (.rt (.sh .non) σ):=rfl
@[simp] theorem aqo5 {m:FM}:bExpr m σ=(m σ).map fun p=>.nx p.2:=rfl
@[simp] theorem aqqr {b c:Blk}:bIf p b c σ=(p (all σ)).bind fun t=>if t=true then b σ else c σ:=rfl
@[simp] theorem aqp4 {S:List Bool}:frz S []=[]:=by cases S <;> rfl
@[simp] theorem frz_t {S:List Bool} {c:Option O}:frz (true :: S) (c :: σ)=c.bind oD :: frz S σ:=rfl
@[simp] theorem frz_f {S:List Bool} {c:Option O}:frz (false :: S) (c :: σ)=none :: frz S σ:=rfl
@[simp] theorem aqqa {S:List Bool}:fz S []=[]:=by cases S <;> rfl
@[simp] theorem aqp3:fz [] σ=σ:=by cases σ <;> rfl
@[simp] theorem fz_t {S:List Bool} {c:Option O}:fz (true :: S) (c :: σ)=fzc c :: fz S σ:=rfl
@[simp] theorem fz_f {S:List Bool} {c:Option O}:fz (false :: S) (c :: σ)=c :: fz S σ:=rfl
@[simp] theorem aqng:fzc none=none:=rfl
@[simp] theorem aqq8 {d:D}:fzc (some (.sh d))=some (.sh d):=by simp [fzc,oD]
@[simp] theorem aqpr:all []=[]:=rfl
@[simp] theorem all_cons {c:Option O}:all (c :: σ)=c.bind oD :: all σ:=rfl
@[simp] theorem oD_sh {d:D}:oD (.sh d)=some d:=by simp [oD]
@[simp] theorem aqoq {ds:List D}:oDs (ds.map O.sh)=some ds:=by
 induction ds with
 | nil=>simp [oDs]
 | cons d ds ih=>simp [oDs,ih]
@[simp] theorem oD_ow {ds:List D}:oD (ow ds)=some (.lst ds):=by simp [ow,oD]
@[simp] theorem aqpy {os:List O}:oD (.lst os)=(oDs os).map D.lst:=by simp [oD]
@[simp] theorem aqpx {os:List O}:oD (.tup os)=(oDs os).map D.tup:=by simp [oD]
@[simp] theorem aqop:oDs []=some []:=by simp [oDs]
@[simp] theorem aqmv {x:O} {xs:List O}:oDs (x :: xs)=(oD x).bind fun d=>(oDs xs).map fun ds=>d :: ds:=by simp [oDs]
@[simp] theorem aqq9 {ds:List D}:fzc (some (ow ds))=some (.sh (.lst ds)):=by simp [fzc]
@[simp] theorem aqp1 {i:Int}:imm (.int i)=true:=by simp [imm]
@[simp] theorem aqq7 {i:Bool}:imm (.bl i)=true:=by simp [imm]
@[simp] theorem aqoy {i:Str}:imm (.str i)=true:=by simp [imm]
@[simp] theorem aqoz:imm .non=true:=by simp [imm]
@[simp] theorem aqp0 {ds:List D}:imm (.lst ds)=false:=by simp [imm]
@[simp] theorem aqox {ds:List D}:imm (.tup ds)=aqrf ds:=by simp [imm]
@[simp] theorem aqnd:aqrf []=true:=by simp [aqrf]
@[simp] theorem aqlv {d:D} {ds:List D}:aqrf (d :: ds)=(imm d && aqrf ds):=by simp [aqrf]
@[simp] theorem aqlu {ns:List Int}:aqrf (ns.map D.int)=true:=by
 induction ns with
 | nil=>simp
 | cons n ns ih=>simp [ih]
@[simp] theorem aqpv {d:D}:oim (.sh d)=imm d:=by simp [oim]
@[simp] theorem aqon {os:List O}:oim (.lst os)=aqr6 os:=by simp [oim]
@[simp] theorem aqom {os:List O}:oim (.tup os)=aqr6 os:=by simp [oim]
@[simp] theorem aqmr:aqr6 []=true:=by simp [aqr6]
@[simp] theorem aqlq {x:O} {xs:List O}:aqr6 (x :: xs)=(oim x && aqr6 xs):=by simp [aqr6]
@[simp] theorem aqms {ds:List D}:aqr6 (ds.map O.sh)=aqrf ds:=by
 induction ds with
 | nil=>simp
 | cons d ds ih=>simp [ih]
@[simp] theorem aqpw {ds:List D}:oim (ow ds)=aqrf ds:=by simp [ow]
@[simp] theorem dI_ap {o:Int->Int->Int} {i j:Int}:dI o (.int i) (.int j)=some (.int (o i j)):=rfl
@[simp] theorem dB_ap {o:Int->Int->Bool} {i j:Int}:dB o (.int i) (.int j)=some (.bl (o i j)):=rfl
@[simp] theorem aqpi {i j:Int}:dAdd (.int i) (.int j)=some (.int (i + j)):=rfl
@[simp] theorem aqpb {i j:Int}:dSub (.int i) (.int j)=some (.int (i - j)):=rfl
@[simp] theorem aqqg {i j:Int}:dLt (.int i) (.int j)=some (.bl (decide (i < j))):=rfl
@[simp] theorem aqqj {i j:Int}:dLe (.int i) (.int j)=some (.bl (decide (i <= j))):=rfl
@[simp] theorem aqql {i j:Int}:dGt (.int i) (.int j)=some (.bl (decide (j < i))):=rfl
@[simp] theorem aqqm {i j:Int}:dGe (.int i) (.int j)=some (.bl (decide (j <= i))):=rfl
@[simp] theorem aqpc {i:Int}:dNeg (.int i)=some (.int (-i)):=rfl
theorem aqae {i j:Int} (h:i.natAbs < 2 ^ 63):aqrm (.int i) (.int j)=some (.int (i * j)):=by
 have:aqg7 i j:=.inr (.inl h)
 simp [aqrm,this]
theorem aqct {i j:Int} (h:j.natAbs < 2 ^ 63):aqrm (.int i) (.int j)=some (.int (i * j)):=by
 have:aqg7 i j:=.inr (.inr h)
 simp [aqrm,this]
theorem aqag {i j:Int} (h:j ≠ 0) (h':j.natAbs < BIGD):aqro (.int i) (.int j)=some (.int (i.fdiv j)):=by simp [aqro,h,h']
theorem aqaf {i j:Int} (h:j ≠ 0):dMod (.int i) (.int j)=some (.int (i.fmod j)):=by simp [dMod,h]
@[simp] theorem aqqo {i j:Int}:dEq (.int i) (.int j)=some (.bl (i == j)):=by simp [dEq,shp,eqD]
@[simp] theorem aqqe {i j:Int}:dNe (.int i) (.int j)=some (.bl (i != j)):=by simp [dNe,shp,eqD,bne]
@[simp] theorem aqqp {i j:Bool}:dEq (.bl i) (.bl j)=some (.bl (i == j)):=by simp [dEq,shp,eqD]
@[simp] theorem aqqf {i j:Bool}:dNe (.bl i) (.bl j)=some (.bl (i != j)):=by simp [dNe,shp,eqD,bne]
@[simp] theorem aqqn {a b c d:Int}:dEq (.tup [.int a,.int b]) (.tup [.int c,.int d])=some (.bl (a == c && b == d)):=by simp [dEq,shp,aqqx,eqD,aqrl]
@[simp] theorem aqqd {a b c d:Int}:dNe (.tup [.int a,.int b]) (.tup [.int c,.int d])=some (.bl (!(a == c && b == d))):=by simp [dNe,shp,aqqx,eqD,aqrl]
@[simp] theorem aqqk {i j:Bool}:dIs (.bl i) (.bl j)=some (.bl (i == j)):=rfl
@[simp] theorem aqpg {i j:Bool}:dIsN (.bl i) (.bl j)=some (.bl (i != j)):=rfl
@[simp] theorem aqos {ds:List D}:aqdw (.lst ds)=some ds:=rfl
@[simp] theorem aqqi {ds:List D}:aqrn [.lst ds]=some (.int ds.length):=rfl
@[simp] theorem aqqh {ds:List D}:aqrn [.tup ds]=some (.int ds.length):=rfl
@[simp] theorem aqqq {i:Int}:dAbs [.int i]=some (.int (if i < 0 then -i else i)):=rfl
@[simp] theorem aqpf {i j:Int}:dMax2 [.int i,.int j]=some (.int (if j > i then j else i)):=rfl
@[simp] theorem aqpe {i j:Int}:dMin2 [.int i,.int j]=some (.int (if j < i then j else i)):=rfl
@[simp] theorem aqou {ds:List D}:aqc8 [.lst ds]=some ds:=rfl
@[simp] theorem aqot {ds:List D}:aqc8 [.tup ds]=some ds:=rfl
@[simp] theorem aqnu {ds:List D}:dTuple [.lst ds]=some (.tup ds):=rfl
@[simp] theorem aqnw {a:D} {ds:List D}:dIx (.tup (a :: ds)) (.int 0)=some a:=by simp [dIx,atP,ixP]
@[simp] theorem aqnv {a b:D} {ds:List D}:dIx (.tup (a :: b :: ds)) (.int 1)=some b:=by
 have:(1:Int) < (ds.length:Int) + 1 + 1:=by omega
 simp [dIx,atP,ixP,this]
theorem aqlb {α:Type} {ds:List α} {i:Nat} (h:i < ds.length):atP ds (i:Int)=some ds[i]:=by
 unfold atP ixP;simp [h]
theorem dIx_l {ds:List D} {i:Nat} (h:i < ds.length):dIx (.lst ds) (.int (i:Int))=some ds[i]:=aqlb h
end
@[simp] theorem aqq2 {i:Int}:isT (.int i) "int"=true:=rfl
@[simp] theorem aqq3 {i:Int}:isT (.int i) "bool"=false:=rfl
@[simp] theorem aqq4 {i:Bool}:isT (.bl i) "int"=true:=rfl
@[simp] theorem aqq5 {i:Bool}:isT (.bl i) "bool"=true:=rfl
@[simp] theorem aqq0 {ds:List D}:isT (.tup ds) "tuple"=true:=rfl
@[simp] theorem aqq1 {ds:List D}:isT (.lst ds) "list"=true:=rfl
@[simp] theorem aqq6 {ds:List D}:isL (ow ds)=true:=rfl
@[simp] theorem aqow {os:List O}:isL (.lst os)=true:=rfl
@[simp] theorem aqnf {o:O}:aqrg [] o=some o:=rfl
@[simp] theorem aqpq {g:O->Option O} {o:O}:atO g [] o=g o:=rfl
@[simp] theorem aqol {ρ:aqsd}:pNil ρ=some []:=rfl
@[simp] theorem aqpn {i:Nat} {S:List Bool} {p:FP} {f:FM} {g:O->O->Option O} {ρ:Cs}:bMut i S p f g ρ=(p (frz S ρ)).bind fun q=>((ρ[i]?).bind id).bind fun c0=>(aqrg q c0).bind fun m=>if isL m=true then
  (f ρ).bind fun r=>((r.2[i]?).bind id).bind fun c=>(atO (g r.1) q c).map fun c'=>.nx (r.2.set i (some c')) else none:=rfl
mutual
theorem ajz:∀ {n:Nat} {d:D},shp n d=true->eqD d d=true
 | n,.non,_=>by simp [eqD]
 | n,.bl _,_=>by simp [eqD]
 | n,.int _,_=>by simp [eqD]
 | n,.str _,_=>by simp [eqD]
 | 0,.lst _,h=>by simp [shp] at h
 | n + 1,.lst xs,h=>by simp only [eqD]; exact aQj (n:=n) (by simpa [shp] using h)
 | 0,.tup _,h=>by simp [shp] at h
 | n + 1,.tup xs,h=>by simp only [eqD]; exact aQj (n:=n) (by simpa [shp] using h)
theorem aQj:∀ {n:Nat} {ds:List D},aqqx n ds=true->aqrl ds ds=true
 | n,[],_=>by simp [aqrl]
 | n,d :: ds,h=>by
  have h':shp n d=true/\aqqx n ds=true:=by simpa [aqqx] using h
  simp [aqrl,ajz h'.1,aQj h'.2]
end
theorem aqet {n:Nat} {ds:List D}:aqqx n ds=true ↔ ∀ d∈ds,shp n d=true:=by
 induction ds with
 | nil=>simp [aqqx]
 | cons d ds ih=>simp [aqqx,ih]
@[simp] theorem aqoh {n:Nat} {i:Int}:shp n (.int i)=true:=by simp [shp]
@[simp] theorem aqpt {n:Nat} {i:Bool}:shp n (.bl i)=true:=by simp [shp]
@[simp] theorem aqog {n:Nat}:shp n .non=true:=by simp [shp]
@[simp] theorem aqid {n:Nat} {ds:List D}:shp (n + 1) (.lst ds)=aqqx n ds:=by simp [shp]
@[simp] theorem aqof {n:Nat} {ds:List D}:shp (n + 1) (.tup ds)=aqqx n ds:=by simp [shp]
@[simp] theorem aqmc {n:Nat}:aqqx n []=true:=by simp [aqqx]
@[simp] theorem aqlm {n:Nat} {d:D} {ds:List D}:aqqx n (d :: ds)=(shp n d && aqqx n ds):=by simp [aqqx]
@[simp] theorem aqll {n:Nat} {ns:List Int}:aqqx n (ns.map D.int)=true:=by
 induction ns with
 | nil=>simp
 | cons m ns ih=>simp [ih]
theorem aqcm {xs ys:List Int}:aqrl (xs.map D.int) (ys.map D.int)=decide (xs=ys):=by
 induction xs generalizing ys with
 | nil=>cases ys <;> simp [aqrl]
 | cons x xs ih=>cases ys with
  | nil=>simp [aqrl]
  | cons y ys=>simp [aqrl,eqD,ih]; rw [Bg]; simp
theorem ax6 {c:FT} {b:Blk} {ρ:Cs} (h:c (all ρ)=some false):azk c b ρ=some (.nx ρ):=aVu (n:=1) (by simp [aXx,h])
theorem awl {c:FT} {b:Blk} {ρ ρ2:Cs} {o:Out} (h:c (all ρ)=some true) (hb:b ρ=some (.nx ρ2)) (hr:azk c b ρ2=some o):azk c b ρ=some o:=by
 obtain ⟨n,hn⟩:=aZz hr;exact aVu (n:=n + 1) (by simp [aXx,h,hb,hn])
theorem aqa2 {g:GD} {b:Blk} {d:D} {ds:List D} {ρ ρ1 ρ2:Cs} (h1:g d ρ=some ρ1) (h2:b ρ1=some (.nx ρ2) \/ b ρ1=some (.ct ρ2)):aqrh g b (d :: ds) ρ=aqrh g b ds ρ2:=by
 have e:aqrh g b (d :: ds) ρ=(g d ρ).bind fun ρ1=>match b ρ1 with
  | some (.nx ρ2)=>aqrh g b ds ρ2
  | some (.ct ρ2)=>aqrh g b ds ρ2
  | some (.bk ρ2)=>some (.nx ρ2)
  | o=>o:=rfl
 rw [e,h1];rcases h2 with h2 | h2 <;> simp [h2]
theorem aqa1 {g:GD} {b:Blk} {d:D} {ds:List D} {ρ ρ1 ρ2:Cs} {o:O} (h1:g d ρ=some ρ1) (h2:b ρ1=some (.rt o ρ2)):aqrh g b (d :: ds) ρ=some (.rt o ρ2):=by
 unfold aqrh;rw [h1];simp [h2]
end DL
namespace DL
open PySem PySem.Spec PyProof.Rows L2
theorem aJp:A7 "list"=some (.type "list"):=by decide +kernel
theorem aX9:A7 "tuple"=some (.type "tuple"):=by decide +kernel
theorem aqo0:A7 "set"=some (.type "set"):=by decide +kernel
theorem aZa:A7 "enumerate"=some (.type "enumerate"):=by decide +kernel
theorem aqnz:A7 "zip"=some (.type "zip"):=by decide +kernel
theorem aql2:A7 "abs"=some (.builtin "abs"):=by decide +kernel
theorem akf:A7 "len"=some (.builtin "len"):=by decide +kernel
theorem aqhb:A7 "sum"=some (.builtin "sum"):=by decide +kernel
theorem azh:A7 "sorted"=some (.builtin "sorted"):=by decide +kernel
theorem aqhc:A7 "all"=some (.builtin "all"):=by decide +kernel
theorem aP:A7 "isinstance"=some (.builtin "isinstance"):=by decide +kernel
end DL
set_option maxHeartbeats 1000000
namespace DL
open PySem PySem.Spec PyProof.Rows L2
abbrev St:=L2.St
theorem seqT {K:Frag} {H H':Hp} {a:Addr} {xs:List V} (e:aqs2 H H') (h:SqT K H a xs):SqT K H' a xs:=by
 rcases h with (h | ⟨o,h⟩) | h
 ·exact .inl (.inl (e _ _ h))
 ·exact .inl (.inr ⟨o,e _ _ h⟩)
 ·exact .inr h
def SqE (K:Frag) (H:Hp) (a:Addr) (xs:List V):Prop :=
 Rd H a (.lst xs) \/ ∃ (its:List Value) (n:Nat),K.lookup a=some { cls:=.type "list",data:=.seq its.toArray n }/\xs.length <= Ag/\aqs0 xs its
theorem SqE.l {K:Frag} {H:Hp} {a:Addr} {xs:List V} (h:SqE K H a xs):SqL K H a xs:=by
 rcases h with h | ⟨its,n,h,hz,r⟩
 ·exact .inl h
 ·exact .inr ⟨_,its.toArray,n,h,rfl,rfl,rfl,by rw [size_toArray,<- r.length]; exact hz,by simpa using r⟩
theorem aqqy {K:Frag} {H H':Hp} {a:Addr} {xs:List V} (e:aqs2 H H') (h:SqE K H a xs):SqE K H' a xs:=by
 rcases h with (h | ⟨o,h⟩) | h
 ·exact .inl (.inl (e _ _ h))
 ·exact .inl (.inr ⟨o,e _ _ h⟩)
 ·exact .inr h
theorem Inv.listE {X:Cx} {pins:List (Addr × Obj)} {σ:St} {H:Hp} {s:Shared} {a:Addr} {xs:List V} (I:Inv X pins σ H s) (h:SqE X.K H a xs) :
  ∃ (its:List Value) (n:Nat),aqs0 xs its/\s.heap.get? a=some { cls:=.type "list",data:=.seq its.toArray n }/\xs.length <= Ag:=by
 rcases h with h | ⟨its,n,h,hz,r⟩
 ·obtain ⟨z,its,n,r,e⟩:=h.ok I.hok
  exact ⟨its,n,r,e,z⟩
 ·exact ⟨its,n,r,I.kIn a _ h,hz⟩
mutual
inductive Rep (K:Frag) (F:Hp):V->D->Prop
 | non:Rep K F .non .non
 | bl (b:Bool):Rep K F (.bl b) (.bl b)
 | int (i:Int):Rep K F (.int i) (.int i)
 | str (x:Str):Rep K F (.str x) (.str x)
 | lst {a:Addr} {vs:List V} {ds:List D} (h:SqE K F a vs) (r:Reps K F vs ds):Rep K F (.ref a) (.lst ds)
 | tup {a:Addr} {vs:List V} {ds:List D} (h:SqT K F a vs) (r:Reps K F vs ds):Rep K F (.ref a) (.tup ds)
inductive Reps (K:Frag) (F:Hp):List V->List D->Prop
 | nil:Reps K F [] []
 | cons {v:V} {d:D} {vs:List V} {ds:List D} (h:Rep K F v d) (t:Reps K F vs ds):Reps K F (v :: vs) (d :: ds)
end
theorem aqv {K:Frag} {F F':Hp} (e:aqs2 F F'):(∀ {v:V} {d:D},Rep K F v d->Rep K F' v d)/\∀ {vs:List V} {ds:List D},Reps K F vs ds->Reps K F' vs ds:=by
 refine ⟨@Rep.rec K F (fun v d _=>Rep K F' v d) (fun v d _=>Reps K F' v d) .non .bl .int .str ?a ?b .nil ?c,@Reps.rec K F (fun v d _=>Rep K F' v d) (fun v d _=>Reps K F' v d) .non .bl .int .str ?a ?b .nil ?c⟩
 case a=>exact fun h _ r=>.lst (aqqy e h) r
 case b=>exact fun h _ r=>.tup (seqT e h) r
 case c=>exact fun _ _ h t=>.cons h t
theorem Rep.mono {K:Frag} {F F':Hp} (e:aqs2 F F') {v:V} {d:D} (h:Rep K F v d):Rep K F' v d:=(aqv e).1 h
theorem Reps.mono {K:Frag} {F F':Hp} (e:aqs2 F F') {vs:List V} {ds:List D} (h:Reps K F vs ds):Reps K F' vs ds:=(aqv e).2 h
section
variable {K:Frag} {F:Hp}
theorem Reps.length {vs:List V} {ds:List D} (r:Reps K F vs ds):vs.length=ds.length:=by
 induction vs generalizing ds with
 | nil=>cases r; rfl
 | cons v vs ih=>cases r with | cons h t=>simp [ih t]
theorem Reps.get {vs:List V} {ds:List D} (r:Reps K F vs ds) {i:Nat} {v:V} (h:vs[i]?=some v):∃ d,ds[i]?=some d/\Rep K F v d:=by
 induction vs generalizing ds i with
 | nil=>simp at h
 | cons w vs ih =>
  cases r with
  | cons q t =>
   cases i with
   | zero=>simp at h; subst h; exact ⟨_,rfl,q⟩
   | succ i=>exact ih t (by simpa using h)
theorem Reps.getD {vs:List V} {ds:List D} (r:Reps K F vs ds) {i:Nat} {d:D} (h:ds[i]?=some d):∃ v,vs[i]?=some v/\Rep K F v d:=by
 induction vs generalizing ds i with
 | nil=>cases r; simp at h
 | cons w vs ih =>
  cases r with
  | cons q t =>
   cases i with
   | zero=>simp at h; subst h; exact ⟨_,rfl,q⟩
   | succ i=>exact ih t (by simpa using h)
theorem Reps.append {vs ws:List V} {ds es:List D} (r:Reps K F vs ds) (q:Reps K F ws es):Reps K F (vs++ws) (ds++es):=by
 induction vs generalizing ds with
 | nil=>cases r; exact q
 | cons v vs ih=>cases r with | cons h t=>exact .cons h (ih t)
theorem Reps.take {vs:List V} {ds:List D} (r:Reps K F vs ds) (n:Nat):Reps K F (vs.take n) (ds.take n):=by
 induction vs generalizing ds n with
 | nil=>cases r; simp; exact .nil
 | cons v vs ih=>cases r with | cons h t=>cases n with
  | zero=>exact .nil
  | succ n=>exact .cons h (ih t n)
theorem Reps.drop {vs:List V} {ds:List D} (r:Reps K F vs ds) (n:Nat):Reps K F (vs.drop n) (ds.drop n):=by
 induction vs generalizing ds n with
 | nil=>cases r; simp; exact .nil
 | cons v vs ih=>cases r with | cons h t=>cases n with
  | zero=>exact .cons h t
  | succ n=>exact ih t n
theorem aq4 (ns:List Int):Reps K F (ns.map V.int) (ns.map D.int):=by
 induction ns with
 | nil=>exact .nil
 | cons n ns ih=>exact .cons (.int n) ih
end
structure Ext (F H F' H':Hp):Prop where
 ff:aqs2 F F'
 fh:aqs2 F' H'
 hh:aqs2 H H'
 nw:∀ b o,F' b=some o->F b=some o \/ H b=none
theorem Ext.refl {F H:Hp} (s:aqs2 F H):Ext F H F H:=⟨aqs2.refl _,s,aqs2.refl _,fun _ _ h=>.inl h⟩
theorem Ext.trans {F H F1 H1 F2 H2:Hp} (a:Ext F H F1 H1) (b:Ext F1 H1 F2 H2):Ext F H F2 H2 :=
 ⟨a.ff.trans b.ff,b.fh,a.hh.trans b.hh,fun c o h=>by
  rcases b.nw c o h with h | h
  ·exact a.nw c o h
  ·exact .inr (a.hh.free h)⟩
theorem gd {H:Hp} {l:Addr} {o:HO} (h:H l=none):aqs2 H (upd H l o):=fun b u e=>by rw [ah (ae e h)]; exact e
theorem Ext.laid {F H:Hp} (s:aqs2 F H) {l:Addr} {o:HO} (h:H l=none):Ext F H (upd F l o) (upd H l o) :=
 ⟨gd (s.free h),fun b u e=>by
   by_cases hb:b=l
   ·subst hb; rw [ac] at e ⊢; exact e
   ·rw [ah hb] at e ⊢; exact s _ _ e,
  gd h,fun b u e=>by
   by_cases hb:b=l
   ·subst hb; exact .inr h
   ·rw [ah hb] at e; exact .inl e⟩
theorem Ext.laidH {F H:Hp} (s:aqs2 F H) {l:Addr} {o:HO} (h:H l=none):Ext F H F (upd H l o) :=
 ⟨aqs2.refl _,s.trans (gd h),gd h,fun _ _ e=>.inl e⟩
theorem Ext.keep {F H F' H':Hp} (e:Ext F H F' H') {l:Addr} {o:HO} (h:H l=none) (h1:F' l=none) (h2:H' l=some o):Ext F H (upd F' l o) H' :=
 ⟨e.ff.trans (gd h1),fun b u q=>by
   by_cases hb:b=l
   ·subst hb; rw [ac] at q; rw [<- q]; exact h2
   ·rw [ah hb] at q; exact e.fh _ _ q,
  e.hh,fun b u q=>by
   by_cases hb:b=l
   ·subst hb; exact .inr h
   ·rw [ah hb] at q; exact e.nw b u q⟩
def RE (K:Frag) (F:Hp) (σ:St) (ρ:aqsd):Prop:=∀ (i:Nat) (d:D),ρ[i]?=some (some d)->∃ v,σ[i]?=some (some v)/\Rep K F v d
theorem RE.mono {K:Frag} {F F':Hp} {σ:St} {ρ:aqsd} (r:RE K F σ ρ) (e:aqs2 F F'):RE K F' σ ρ:=fun i d h=>by
 obtain ⟨v,h1,h2⟩:=r i d h;exact ⟨v,h1,h2.mono e⟩
def tD (K:Frag) (f:FE):TE:=fun σ H Q=>∃ F ρ d,aqs2 F H/\RE K F σ ρ/\f ρ=some d/\∀ v F' H',Ext F H F' H'->Rep K F' v d->Q v H'
def tDT (K:Frag) (f:FT):TT:=fun σ H Q=>∃ F ρ b,aqs2 F H/\RE K F σ ρ/\f ρ=some b/\∀ F' H',Ext F H F' H'->Q b H'
def tDA (K:Frag) (f:FA):TA:=fun σ H Q=>∃ F ρ ds,aqs2 F H/\RE K F σ ρ/\f ρ=some ds/\∀ vs F' H',Ext F H F' H'->Reps K F' vs ds->Q vs H'
def DE (X:Cx) (e:Expr) (f:FE):Prop:=PE X e (tD X.K f)
def DT (X:Cx) (e:Expr) (f:FT):Prop:=PT X e (tDT X.K f)
def DW (X:Cx) (e:Expr) (f:FT):Prop:=PW X e (tDT X.K f)
def DA (X:Cx) (es:List Expr) (f:FA):Prop:=PA X es (tDA X.K f)
theorem PE.imp {X:Cx} {e:Expr} {t t':TE} (h:PE X e t) (i:∀ σ H Q,t' σ H Q->t σ H Q):PE X e t':=fun pins s σ H Q I q=>h pins s σ H Q I (i σ H Q q)
theorem PT.imp {X:Cx} {e:Expr} {t t':TT} (h:PT X e t) (i:∀ σ H Q,t' σ H Q->t σ H Q):PT X e t':=fun pins s σ H Q I q=>h pins s σ H Q I (i σ H Q q)
theorem PW.imp {X:Cx} {e:Expr} {t t':TT} (h:PW X e t) (i:∀ σ H Q,t' σ H Q->t σ H Q):PW X e t':=fun wh pins s σ H Q I q=>h wh pins s σ H Q I (i σ H Q q)
theorem PA.imp {X:Cx} {e:List Expr} {t t':TA} (h:PA X e t) (i:∀ σ H Q,t' σ H Q->t σ H Q):PA X e t':=fun pos pins s σ H Q I q=>h pos pins s σ H Q I (i σ H Q q)
theorem PS.imp {X:Cx} {st:Stmt} {t t':TS} (h:PS X st t) (i:∀ E σ H,t' E σ H->t E σ H):PS X st t':=fun pins s σ H E I q=>h pins s σ H E I (i E σ H q)
theorem PSs.imp {X:Cx} {st:List Stmt} {t t':TS} (h:PSs X st t) (i:∀ E σ H,t' E σ H->t E σ H):PSs X st t':=fun pins s σ H E I q=>h pins s σ H E I (i E σ H q)
theorem PG.imp {X:Cx} {tg:Expr} {t t':TG} (h:PG X tg t) (i:∀ v σ H Q,t' v σ H Q->t v σ H Q):PG X tg t':=fun pins s σ H v u Q I r q=>h pins s σ H v u Q I r (i v σ H Q q)
section
variable {X:Cx} {a b c:Expr} {pos:Pos}
theorem ai (i:Nat) {x:Str} {pos:Pos} (h:PE X (.Name x pos) (aqqv i)):DE X (.Name x pos) (aqri i):=by
 refine PE.imp h fun σ H Q q=>?_;obtain ⟨F,ρ,d,s,r,hf,k⟩:=q;have e:ρ[i]?=some (some d):=by
  unfold aqri at hf;cases q:ρ[i]? with
  | none=>rw [q] at hf; cases hf
  | some o=>rw [q] at hf; cases o with
   | none=>cases hf
   | some d'=>cases hf; rfl
 obtain ⟨v,h1,h2⟩:=r i d e;exact ⟨v,h1,k v F H (Ext.refl s) h2⟩
theorem de_c {e:Expr} {v:V} {d:D} (h:PE X e (tC v)) (r:∀ F,Rep X.K F v d):DE X e (fC d):=by
 refine PE.imp h fun σ H Q q=>?_;obtain ⟨F,ρ,d',s,_,hf,k⟩:=q;cases hf;exact k v F H (Ext.refl s) (r F)
theorem ss {i j pos}:DE X (.Constant (.int i) j pos) (fC (.int i)):=de_c aq fun _=>.int i
theorem de_bl {i j pos}:DE X (.Constant (.bool i) j pos) (fC (.bl i)):=de_c ak7 fun _=>.bl i
theorem aX5 {j pos}:DE X (.Constant .none j pos) (fC .non):=de_c aV4 fun _=>.non
def OpD (K:Frag) (r:R2) (g:D->D->Option D):Prop:=∀ x y d F H v u Q,g x y=some d->aqs2 F H->Rep K F v x->Rep K F u y->(∀ w F' H',Ext F H F' H'->Rep K F' w d->Q w H')->r v u H Q
def UnD (K:Frag) (r:V->Hp->VK->Prop) (g:D->Option D):Prop:=∀ x d F H v Q,g x=some d->aqs2 F H->Rep K F v x->(∀ w F' H',Ext F H F' H'->Rep K F' w d->Q w H')->r v H Q
theorem d_op {K:Frag} {r:R2} {g:D->D->Option D} (hr:OpD K r g) {fa fb:FE} {σ:St} {H:Hp} {Q:VK} (q:tD K (f2 g fa fb) σ H Q):tOp r (tD K fa) (tD K fb) σ H Q:=by
 obtain ⟨F,ρ,d,s,re,hf,k⟩:=q;obtain ⟨x,hx,hf⟩:=bind_some hf;obtain ⟨y,hy,hf⟩:=bind_some hf;exact ⟨F,ρ,x,s,re,hx,fun v F1 H1 e1 r1=>⟨F1,ρ,y,e1.fh,re.mono e1.ff,hy,fun u F2 H2 e2 r2=>hr x y d F2 H2 v u Q hf e2.fh (r1.mono e2.ff) r2 fun w F' H' e' r'=>k w F' H' ((e1.trans e2).trans e') r'⟩⟩
theorem d_un {K:Frag} {r:V->Hp->VK->Prop} {g:D->Option D} (hr:UnD K r g) {fa:FE} {σ:St} {H:Hp} {Q:VK} (q:tD K (f1 g fa) σ H Q):tUn r (tD K fa) σ H Q:=by
 obtain ⟨F,ρ,d,s,re,hf,k⟩:=q;obtain ⟨x,hx,hf⟩:=bind_some hf;exact ⟨F,ρ,x,s,re,hx,fun v F1 H1 e1 r1=>hr x d F1 H1 v Q hf e1.fh r1 fun w F' H' e' r'=>k w F' H' (e1.trans e') r'⟩
theorem ajq {op:Operator} {r:R2} {g:D->D->Option D} {fa fb:FE} (ho:OpR X (Dr op) r) (hr:OpD X.K r g) (ha:DE X a fa) (hb:DE X b fb):DE X (.BinOp a op b pos) (f2 g fa fb) :=
 PE.imp (axz ho ha hb) fun _ _ _ q=>d_op hr q
theorem de_un {op:UnaryOp} {r:V->Hp->VK->Prop} {g:D->Option D} {fa:FE} (ho:UnR X (unaryOp op) r) (hr:UnD X.K r g) (ha:DE X a fa):DE X (.UnaryOp op a pos) (f1 g fa) :=
 PE.imp (pe_un ho ha) fun _ _ _ q=>d_un hr q
theorem aqcq {op:CmpOp} {r:R2} {g:D->D->Option D} {fa fb:FE} (ho:OpR X (Bn op) r) (hr:OpD X.K r g) (ha:DE X a fa) (hb:DE X b fb) (hm:C5 op b=false):DE X (.Compare a [op] [b] pos) (f2 g fa fb) :=
 PE.imp (aj3 ho ha hb hm) fun _ _ _ q=>d_op hr q
theorem OpR.or {f:Value->Value->Sem Value} {r r':R2} (h:OpR X f r) (h':OpR X f r'):OpR X f (fun x y H Q=>r x y H Q \/ r' x y H Q):=by
 intro pins s σ H x y v u Q I rx ry q;rcases q with q | q
 ·exact h pins s σ H x y v u Q I rx ry q
 ·exact h' pins s σ H x y v u Q I rx ry q
theorem aqdf {f:FE} {ρ:aqsd} {b:Bool} (h:qV f ρ=some b):f ρ=some (.bl b):=by
 obtain ⟨d,h1,h2⟩:=bind_some h;cases d <;> cases h2;exact h1
theorem aqa7 {f:FE} (h:DE X a f) (he:∀ whole,Nz a X.env whole=(do let v <- whole; Nu a.pos; Jv [v] (truthy v)):=by intro _; rfl):DT X a (qV f):=by
 refine PT.imp (aq1 h he) fun σ H Q q=>?_;obtain ⟨F,ρ,b,s,re,hf,k⟩:=q;exact ⟨F,ρ,.bl b,s,re,aqdf hf,fun v F' H' e r=>by cases r; exact ⟨b,rfl,k F' H' e⟩⟩
theorem ajn {op:CmpOp} {r:R2} {g:D->D->Option D} {fa fb:FE} (ho:OpR X (Bn op) r) (hr:OpD X.K r g) (ha:DE X a fa) (hb:DE X b fb) (hm:C5 op b=false):DT X (.Compare a [op] [b] pos) (qV (f2 g fa fb)):=by
 refine PT.imp (aW ho ha hb hm) fun σ H Q q=>?_;obtain ⟨F,ρ,c,s,re,hf,k⟩:=q;refine d_op (K:=X.K) hr (σ:=σ) (H:=H) ⟨F,ρ,.bl c,s,re,aqdf hf,fun v F' H' e r=>?_⟩;cases r;exact ⟨c,rfl,k F' H' e⟩
variable {aqr2:List Expr}
theorem aqno {f:FT} (h:DT X a f):DT X (.UnaryOp .Not a pos) (qNot f):=by
 refine PT.imp (aq2 h) fun σ H Q q=>?_;obtain ⟨F,ρ,b,s,re,hf,k⟩:=q;unfold qNot at hf;cases hd:f ρ with
 | none=>rw [hd] at hf; cases hf
 | some c=>rw [hd] at hf; cases hf; exact ⟨F,ρ,c,s,re,hd,k⟩
theorem aqkq {f:FT} (h:DT X a f):DW X (.BoolOp .Or [a] pos) f:=aw2 h
theorem dw_or {f g:FT} (h:DT X a f) (h':DW X (.BoolOp .Or (b :: aqr2) pos) g):DW X (.BoolOp .Or (a :: b :: aqr2) pos) (qOr f g):=by
 refine PW.imp (aqb2 h h') fun σ H Q q=>?_;obtain ⟨F,ρ,c,s,re,hf,k⟩:=q;obtain ⟨x,hx,hf⟩:=bind_some hf;refine ⟨F,ρ,x,s,re,hx,fun F1 H1 e1=>?_⟩;cases x with
 | true=>rw [if_pos rfl] at hf ⊢; cases hf; exact k F1 H1 e1
 | false=>rw [if_neg Al] at hf ⊢; exact ⟨F1,ρ,c,e1.fh,re.mono e1.ff,hf,fun F2 H2 e2=>k F2 H2 (e1.trans e2)⟩
theorem DW.dt {e:Expr} {f:FT} (h:DW X e f):DT X e f:=h _
theorem de_if {t:Expr} {q:FT} {f g:FE} (hc:DT X t q) (ha:DE X a f) (hb:DE X b g):DE X (.IfExp t a b pos) (fIf q f g):=by
 refine PE.imp (aqfk hc ha hb) fun σ H Q q=>?_;obtain ⟨F,ρ,d,s,re,hf,k⟩:=q;obtain ⟨x,hx,hf⟩:=bind_some hf;refine ⟨F,ρ,x,s,re,hx,fun F1 H1 e1=>?_⟩;cases x with
 | true=>rw [if_pos rfl] at hf ⊢; exact ⟨F1,ρ,d,e1.fh,re.mono e1.ff,hf,fun w F2 H2 e2 r2=>k w F2 H2 (e1.trans e2) r2⟩
 | false=>rw [if_neg Al] at hf ⊢; exact ⟨F1,ρ,d,e1.fh,re.mono e1.ff,hf,fun w F2 H2 e2 r2=>k w F2 H2 (e1.trans e2) r2⟩
variable {es:List Expr}
theorem am:DA X [] aqry:=by
 refine PA.imp bg fun σ H Q q=>?_;obtain ⟨F,ρ,d,s,re,hf,k⟩:=q;cases hf;exact k [] F H (Ext.refl s) .nil
theorem cb {f:FE} {g:FA} (ha:DE X a f) (hr:DA X es g) (hs:Ap (a :: es) X.env=(false,eval a X.env) :: Ap es X.env:=by rfl):DA X (a :: es) (cn f g):=by
 refine PA.imp (aa ha hr hs) fun σ H Q q=>?_;obtain ⟨F,ρ,ds,s,re,hf,k⟩:=q;obtain ⟨d,hd,hf⟩:=bind_some hf;cases hg:g ρ with
 | none=>rw [hg] at hf; cases hf
 | some ds' =>
  rw [hg] at hf;cases hf;exact ⟨F,ρ,d,s,re,hd,fun v F1 H1 e1 r1=>⟨F1,ρ,ds',e1.fh,re.mono e1.ff,hg,fun vs F2 H2 e2 r2=>k _ F2 H2 (e1.trans e2) (.cons (r1.mono e2.ff) r2)⟩⟩
theorem axp {n:Nat} (h:n <= aqsa):n <= Ag:=le_trans h (by unfold aqsa; decide)
theorem akw {x1} {g:FA} (h:DA X es g):DE X (.Tuple es x1 pos) (aqrj g):=by
 refine PE.imp (azc h) fun σ H Q q=>?_;obtain ⟨F,ρ,d,s,re,hf,k⟩:=q;obtain ⟨ds,hd,hf⟩:=bind_some hf;split at hf
 ·rename_i hl
  cases hf;exact ⟨F,ρ,ds,s,re,hd,fun vs F1 H1 e1 r1=>⟨by rw [r1.length]; exact axp hl,fun p hp=>k _ _ _ (e1.trans (Ext.laid e1.fh hp)) (.tup (.inl (.inl ac)) (r1.mono (gd (e1.fh.free hp))))⟩⟩
 ·cases hf
def spD (K:Frag) (n:Nat) (g:List D->Option D):Sp:=fun vs H Q _=>∃ F ds d,aqs2 F H/\Reps K F vs ds/\ds.length=n/\g ds=some d/\∀ v F' H',Ext F H F' H'->Rep K F' v d->Q v H'
variable {k n:Nat} {f:Addr} {fd:Ak} {ps:List Str} {x:Str} {p:Pos}
theorem aqkx {g:List D->Option D} {h:FA} (G:FnOk X.prog X.w X.K X.mg X.base CX0 k f fd ps (spD X.K n g)) (hr:Room k X.A) (hg:Gl X x) (hm:X.mg x=some (.ref f)) (hk:Ha X.K (.ref f)=true) (hb:Binds X.K fd ps [])
  (ha:DA X (a :: es) h) (hdb:(x == ("__debug__":Str))=false:=by decide) (he:Ap (a :: es) X.env=(false,eval a X.env) :: Ap es X.env:=by rfl) (hpl:(C2 pos (Ap es X.env)).any (·.1)=false:=by rfl) :
  DE X (.Call (.Name x p) (a :: es) [] pos) (aqs n g h):=by
 refine PE.imp (au G hr hg hm hk hb .nil aqt ha hdb he hpl) fun σ H Q q=>?_;obtain ⟨F,ρ,d,s,re,hf,k⟩:=q;obtain ⟨ds,hd,hf⟩:=bind_some hf;refine ⟨F,ρ,ds,s,re,hd,fun vs F1 H1 e1 r1=>?_⟩;dsimp only;rw [append_nil];split at hf
 ·rename_i hl
  exact ⟨F1,ds,d,e1.fh,r1,hl,hf,fun v F2 H2 e2 r2=>k v F2 H2 (e1.trans e2) r2⟩
 ·cases hf
def aqlk (K:Frag) (r:List V->Hp->VK->Prop) (g:List D->Option D):Prop:=∀ ds d F H vs Q,g ds=some d->aqs2 F H->Reps K F vs ds->(∀ w F' H',Ext F H F' H'->Rep K F' w d->Q w H')->r vs H Q
theorem aqb {id:String} {r:List V->Hp->VK->Prop} {g:List D->Option D} {h:FA} (hc:awm X (.builtin id) r) (hr:aqlk X.K r g) (hg:Gl X x) (hm:X.mg x=none) (hv:A7 x=some (.builtin id)) (ha:DA X (a :: es) h)
  (hn:x ≠ "__name__":=by decide) (hdb:(x == ("__debug__":Str))=false:=by decide)
  (he:Ap (a :: es) X.env=(false,eval a X.env) :: Ap es X.env:=by rfl) (hpl:(C2 pos (Ap es X.env)).any (·.1)=false:=by rfl):DE X (.Call (.Name x p) (a :: es) [] pos) (aqrk g h):=by
 refine PE.imp (aqe hc hg hm hv ha hn hdb he hpl) fun σ H Q q=>?_;obtain ⟨F,ρ,d,s,re,hf,k⟩:=q;obtain ⟨ds,hd,hf⟩:=bind_some hf;exact ⟨F,ρ,ds,s,re,hd,fun vs F1 H1 e1 r1=>hr ds d F1 H1 vs Q hf e1.fh r1 fun w F' H' e' r'=>k w F' H' (e1.trans e') r'⟩
end
end DL
namespace DL
open PySem PySem.Spec PyProof.Rows L2
abbrev AS:=Addr->Prop
mutual
inductive Own (K:Frag) (F H:Hp):V->O->AS->Prop
 | sh {v:V} {d:D} {A:AS} (h:Rep K F v d) (hA:∀ b,¬ A b):Own K F H v (.sh d) A
 | lst {a:Addr} {vs:List V} {os:List O} {A' A:AS} (h:H a=some (.lst vs)) (n:¬ A' a) (r:Owns K F H vs os A') (hA:∀ b,A b ↔ b=a \/ A' b):Own K F H (.ref a) (.lst os) A
 | tup {a:Addr} {vs:List V} {os:List O} {A:AS} (h:F a=some (.tup vs)) (r:Owns K F H vs os A):Own K F H (.ref a) (.tup os) A
inductive Owns (K:Frag) (F H:Hp):List V->List O->AS->Prop
 | nil {A:AS} (hA:∀ b,¬ A b):Owns K F H [] [] A
 | cons {v:V} {o:O} {vs:List V} {os:List O} {A1 A2 A:AS} (h:Own K F H v o A1) (t:Owns K F H vs os A2) (d:∀ b,A1 b->¬ A2 b) (hA:∀ b,A b ↔ A1 b \/ A2 b):Owns K F H (v :: vs) (o :: os) A
end
section
variable {K:Frag} {F F' H H':Hp}
theorem aZp:(∀ {v:V} {o:O} {A:AS},Own K F H v o A->∀ b,A b->∃ u,H b=some u/\∀ xs,u ≠ .tup xs/\∀ ob w,u ≠ .frz ob w)/\∀ {vs:List V} {os:List O} {A:AS},Owns K F H vs os A->∀ b,A b->∃ u,H b=some u/\∀ xs,u ≠ .tup xs/\∀ ob w,u ≠ .frz ob w:=by
 refine ⟨@Own.rec K F H (fun _ _ A _=>∀ b,A b->∃ u,H b=some u/\∀ xs,u ≠ .tup xs/\∀ ob w,u ≠ .frz ob w) (fun _ _ A _=>∀ b,A b->∃ u,H b=some u/\∀ xs,u ≠ .tup xs/\∀ ob w,u ≠ .frz ob w) ?a ?b ?c ?a2 ?d,@Owns.rec K F H (fun _ _ A _=>∀ b,A b->∃ u,H b=some u/\∀ xs,u ≠ .tup xs/\∀ ob w,u ≠ .frz ob w) (fun _ _ A _=>∀ b,A b->∃ u,H b=some u/\∀ xs,u ≠ .tup xs/\∀ ob w,u ≠ .frz ob w) ?a ?b ?c ?a2 ?d⟩
 case a=>exact fun _ hA b h=>absurd h (hA b)
 case b =>
  intro a vs os A' A h n r hA ih b hb;rcases (hA b).mp hb with rfl | z
  ·exact ⟨_,h,fun xs=>⟨(fun z=>by cases z),fun _ _ z=>by cases z⟩⟩
  ·exact ih b z
 case c=>exact fun _ _ ih=>ih
 case a2=>exact fun hA b h=>absurd h (hA b)
 case d =>
  intro v o vs os A1 A2 A h t d hA ih it b hb;rcases (hA b).mp hb with z | z
  ·exact ih b z
  ·exact it b z
theorem Own.there {v:V} {o:O} {A:AS} (h:Own K F H v o A):∀ b,A b->∃ u,H b=some u/\∀ xs,u ≠ .tup xs/\∀ ob w,u ≠ .frz ob w:=aZp.1 h
theorem Owns.there {vs:List V} {os:List O} {A:AS} (h:Owns K F H vs os A):∀ b,A b->∃ u,H b=some u/\∀ xs,u ≠ .tup xs/\∀ ob w,u ≠ .frz ob w:=aZp.2 h
theorem aW9 (e:aqs2 F F'):(∀ {v:V} {o:O} {A:AS},Own K F H v o A->(∀ b,A b->H' b=H b)->Own K F' H' v o A)/\∀ {vs:List V} {os:List O} {A:AS},Owns K F H vs os A->(∀ b,A b->H' b=H b)->Owns K F' H' vs os A:=by
 refine ⟨@Own.rec K F H (fun v o A _=>(∀ b,A b->H' b=H b)->Own K F' H' v o A) (fun v o A _=>(∀ b,A b->H' b=H b)->Owns K F' H' v o A) ?a ?b ?c ?a2 ?d,@Owns.rec K F H (fun v o A _=>(∀ b,A b->H' b=H b)->Own K F' H' v o A) (fun v o A _=>(∀ b,A b->H' b=H b)->Owns K F' H' v o A) ?a ?b ?c ?a2 ?d⟩
 case a=>exact fun h hA _=>.sh (h.mono e) hA
 case b=>exact fun h n _ hA ih k=>.lst ((k _ ((hA _).mpr (.inl rfl))).trans h) n (ih fun b z=>k b ((hA b).mpr (.inr z))) hA
 case c=>exact fun h _ ih k=>.tup (e _ _ h) (ih k)
 case a2=>exact fun hA _=>.nil hA
 case d=>exact fun _ _ d hA ih it k=>.cons (ih fun b z=>k b ((hA b).mpr (.inl z))) (it fun b z=>k b ((hA b).mpr (.inr z))) d hA
theorem Own.stay (e:aqs2 F F') {v:V} {o:O} {A:AS} (h:Own K F H v o A) (k:∀ b,A b->H' b=H b):Own K F' H' v o A:=(aW9 e).1 h k
theorem Owns.stay (e:aqs2 F F') {vs:List V} {os:List O} {A:AS} (h:Owns K F H vs os A) (k:∀ b,A b->H' b=H b):Owns K F' H' vs os A:=(aW9 e).2 h k
theorem Own.ext (e:aqs2 F F') (s:aqs2 H H') {v:V} {o:O} {A:AS} (h:Own K F H v o A):Own K F' H' v o A:=h.stay e fun b z=>by
 obtain ⟨u,e1,_⟩:=h.there b z;rw [e1,s _ _ e1]
theorem Owns.ext (e:aqs2 F F') (s:aqs2 H H') {vs:List V} {os:List O} {A:AS} (h:Owns K F H vs os A):Owns K F' H' vs os A:=h.stay e fun b z=>by
 obtain ⟨u,e1,_⟩:=h.there b z;rw [e1,s _ _ e1]
theorem Own.congr {v:V} {o:O} {A A':AS} (h:Own K F H v o A) (e:∀ b,A b ↔ A' b):Own K F H v o A':=by
 have:A=A':=funext fun b=>propext (e b)
 subst this; exact h
theorem Owns.congr {v:List V} {o:List O} {A A':AS} (h:Owns K F H v o A) (e:∀ b,A b ↔ A' b):Owns K F H v o A':=by
 have:A=A':=funext fun b=>propext (e b)
 subst this; exact h
theorem Owns.length {vs:List V} {os:List O} {A:AS} (h:Owns K F H vs os A):vs.length=os.length :=
 Owns.rec (motive_1:=fun _ _ _ _=>True) (motive_2:=fun vs os _ _=>vs.length=os.length) (fun _ _=>trivial) (fun _ _ _ _ _=>trivial) (fun _ _ _=>trivial) (fun _=>rfl) (fun _ _ _ _ _ it=>congrArg Nat.succ it) h
open Classical in
noncomputable def aqrx (F H:Hp) (A:AS):Hp:=fun b=>if A b then H b else F b
theorem axg {A:AS} {b:Addr} (h:A b):aqrx F H A b=H b:=by unfold aqrx; exact if_pos h
theorem ajg {A:AS} {b:Addr} (h:¬ A b):aqrx F H A b=F b:=by unfold aqrx; exact if_neg h
theorem avj {A:AS} (h:∀ b,A b->F b=none):aqs2 F (aqrx F H A):=fun b o e=>by
 rw [ajg fun z=>by rw [h b z] at e; cases e]; exact e
theorem aqb0 {A:AS} (s:aqs2 F H):aqs2 (aqrx F H A) H:=fun b o e=>by
 by_cases z:A b
 ·rw [axg z] at e; exact e
 ·rw [ajg z] at e; exact s _ _ e
theorem aZf {F₀ B:Hp} {A:AS} (e:Ext F₀ B F H) (h:∀ b,A b->F b=none/\B b=none):Ext F₀ B (aqrx F H A) H :=
 ⟨e.ff.trans (avj fun b z=>(h b z).1),aqb0 e.fh,e.hh,fun b o q=>by
  by_cases z:A b
  ·exact .inr (h b z).2
  ·rw [ajg z] at q; exact e.nw b o q⟩
theorem aqdo {G:Hp} (sF:aqs2 F G):(∀ {v:V} {o:O} {A:AS},Own K F H v o A->∀ {d:D},oD o=some d->(∀ b,A b->G b=H b)->Rep K G v d)/\∀ {vs:List V} {os:List O} {A:AS},Owns K F H vs os A->∀ {ds:List D},oDs os=some ds->(∀ b,A b->G b=H b)->Reps K G vs ds:=by
 refine ⟨@Own.rec K F H (fun v o A _=>∀ {d:D},oD o=some d->(∀ b,A b->G b=H b)->Rep K G v d) (fun v o A _=>∀ {d:List D},oDs o=some d->(∀ b,A b->G b=H b)->Reps K G v d) ?a ?b ?c ?a2 ?d,@Owns.rec K F H (fun v o A _=>∀ {d:D},oD o=some d->(∀ b,A b->G b=H b)->Rep K G v d) (fun v o A _=>∀ {d:List D},oDs o=some d->(∀ b,A b->G b=H b)->Reps K G v d) ?a ?b ?c ?a2 ?d⟩
 case a =>
  intro v d A h hA d' e _;cases e; exact h.mono sF
 case b =>
  intro a vs os A' A h n r hA ih d e k;obtain ⟨ds,hd,rfl⟩:=map_some (by simpa [oD] using e);exact .lst (.inl (.inl ((k _ ((hA _).mpr (.inl rfl))).trans h))) (ih hd fun b z=>k b ((hA b).mpr (.inr z)))
 case c =>
  intro a vs os A h r ih d e k;obtain ⟨ds,hd,rfl⟩:=map_some (by simpa [oD] using e);exact .tup (.inl (.inl (sF _ _ h))) (ih hd k)
 case a2 =>
  intro A hA ds e _;cases e; exact .nil
 case d =>
  intro v o vs os A1 A2 A h t d hA ih it ds e k;obtain ⟨d,hd,e⟩:=bind_some (by simpa [oDs] using e);obtain ⟨ds,hds,rfl⟩:=map_some e;exact .cons (ih hd fun b z=>k b ((hA b).mpr (.inl z))) (it hds fun b z=>k b ((hA b).mpr (.inr z)))
theorem Own.rep {G:Hp} (sF:aqs2 F G) {v:V} {o:O} {A:AS} {d:D} (h:Own K F H v o A) (e:oD o=some d) (k:∀ b,A b->G b=H b):Rep K G v d:=(aqdo sF).1 h e k
theorem Owns.rep {G:Hp} (sF:aqs2 F G) {vs:List V} {os:List O} {A:AS} {ds:List D} (h:Owns K F H vs os A) (e:oDs os=some ds) (k:∀ b,A b->G b=H b):Reps K G vs ds:=(aqdo sF).2 h e k
theorem aqdn {vs:List V} {ds:List D} (h:Reps K F vs ds):Owns K F H vs (ds.map O.sh) fun _=>False :=
 Reps.rec (motive_1:=fun _ _ _=>True) (motive_2:=fun vs ds _=>Owns K F H vs (ds.map O.sh) fun _=>False) trivial (fun _=>trivial) (fun _=>trivial) (fun _=>trivial) (fun _ _ _=>trivial) (fun _ _ _=>trivial) (.nil fun _ z=>z) (fun h _ _ it=>.cons (.sh h (A:=fun _=>False) fun _ z=>z) it (fun _ z=>z.elim) fun b=>⟨fun z=>z.elim,fun z=>z.elim id id⟩) h
theorem aYa {a:Addr} {vs:List V} {os:List O} {A:AS} (h:H a=some (.lst vs)) (n:¬ A a) (r:Owns K F H vs os A):Own K F H (.ref a) (.lst os) fun b=>b=a \/ A b:=.lst h n r fun _=>M4
theorem aXi {a:Addr} {vs:List V} {ds:List D} (h:H a=some (.lst vs)) (r:Reps K F vs ds):Own K F H (.ref a) (ow ds) fun b=>b=a:=.lst h (A':=fun _=>False) id (aqdn r) fun b=>⟨.inl,fun z=>z.elim id Az⟩
theorem Owns.append {vs ws:List V} {os ps:List O} {A B:AS} (h:Owns K F H vs os A) (s:Owns K F H ws ps B):(∀ b,A b->¬ B b)->Owns K F H (vs++ws) (os++ps) fun b=>A b \/ B b :=
 Owns.rec (motive_1:=fun _ _ _ _=>True) (motive_2:=fun vs os A _=>(∀ b,A b->¬ B b)->Owns K F H (vs++ws) (os++ps) fun b=>A b \/ B b) (fun _ _=>trivial) (fun _ _ _ _ _=>trivial) (fun _ _ _=>trivial)
  (fun hA _=>s.congr fun b=>⟨.inr,fun z=>z.elim (fun y=>absurd y (hA b)) id⟩)
  (fun h _ dd hA _ it d=>.cons h (it fun b y=>d b ((hA b).mpr (.inr y))) (fun b y z=>z.elim (dd b y) (d b ((hA b).mpr (.inl y)))) fun b=>by
   rw [hA b]; exact ⟨fun z=>z.elim (fun y=>y.elim .inl fun w=>.inr (.inl w)) fun w=>.inr (.inr w),fun z=>z.elim (fun y=>.inl (.inl y)) fun y=>y.elim (fun w=>.inl (.inr w)) .inr⟩) h
theorem Owns.split:∀ {vs:List V} {os:List O} {A:AS} {n:Nat} {o:O},Owns K F H vs os A->os[n]?=some o ->
  ∃ (v:V) (A1 A2:AS),vs[n]?=some v/\Own K F H v o A1/\(∀ b,A b ↔ A1 b \/ A2 b)/\(∀ b,A1 b->¬ A2 b) /\
   ∀ (F' H':Hp) (v':V) (o':O) (A1':AS),aqs2 F F'->(∀ b,A2 b->H' b=H b)->Own K F' H' v' o' A1'->(∀ b,A1' b->¬ A2 b)->Owns K F' H' (vs.set n v') (os.set n o') fun b=>A1' b \/ A2 b
 | _,_,_,_,_,.nil _,e=>by simp at e
 | _,_,A,0,o,.cons (v:=v) (vs:=vs) (os:=os) (A1:=A1) (A2:=A2) h t d hA,e=>by
  simp at e; subst e;exact ⟨v,A1,A2,rfl,h,hA,d,fun F' H' v' o' A1' sF k q dd=>.cons q (t.stay sF k) dd fun b=>M4⟩
 | _,_,A,n + 1,o,.cons (v:=v) (vs:=vs) (os:=os) (A1:=B1) (A2:=B2) h t d hA,e=>by
  obtain ⟨w,A1,A2,h1,h2,h3,h4,h5⟩:=Owns.split t (n:=n) (o:=o) (by simpa using e);refine ⟨w,A1,fun b=>B1 b \/ A2 b,by simpa using h1,h2,fun b=>?_,fun b y z=>?_,fun F' H' v' o' A1' sF k q dd=>?_⟩
  ·rw [hA b,h3 b]; exact ⟨fun z=>z.elim (fun y=>.inr (.inl y)) fun y=>y.elim .inl fun w=>.inr (.inr w),fun z=>z.elim (fun y=>.inr (.inl y)) fun y=>y.elim .inl fun w=>.inr (.inr w)⟩
  ·rcases z with z | z
   ·exact d b z ((h3 b).mpr (.inl y))
   ·exact h4 b y z
  ·refine .cons (h.stay sF fun b y=>k b (.inl y)) (h5 F' H' v' o' A1' sF (fun b y=>k b (.inr y)) q fun b y z=>dd b y (.inr z)) (fun b y z=>?_) fun b=>⟨fun z=>z.elim (fun y=>.inr (.inl y)) fun y=>y.elim .inl fun w=>.inr (.inr w),fun z=>z.elim (fun y=>.inr (.inl y)) fun y=>y.elim .inl fun w=>.inr (.inr w)⟩
   rcases z with z | z
   ·exact dd b z (.inl y)
   ·exact d b y ((h3 b).mpr (.inr z))
end
def tO (K:Frag) (f:FO):TE:=fun σ H Q=>∃ F ρ o,aqs2 F H/\RE K F σ ρ/\f ρ=some o /\
 ∀ v F' H' A,Ext F H F' H'->Own K F' H' v o A->(∀ b,A b->F' b=none/\H b=none)->Q v H'
def tAO (K:Frag) (f:FAO):TA:=fun σ H Q=>∃ F ρ os,aqs2 F H/\RE K F σ ρ/\f ρ=some os /\
 ∀ vs F' H' A,Ext F H F' H'->Owns K F' H' vs os A->(∀ b,A b->F' b=none/\H b=none)->Q vs H'
def DO (X:Cx) (e:Expr) (f:FO):Prop:=PE X e (tO X.K f)
def DAO (X:Cx) (es:List Expr) (f:FAO):Prop:=PA X es (tAO X.K f)
section
variable {X:Cx} {a b c e:Expr} {es:List Expr} {pos:Pos}
theorem DE.o {f:FE} (h:DE X e f):DO X e (oE f):=by
 refine PE.imp h fun σ H Q q=>?_;obtain ⟨F,ρ,o,s,re,hf,k⟩:=q;obtain ⟨d,hd,rfl⟩:=map_some hf;exact ⟨F,ρ,d,s,re,hd,fun v F' H' e r=>k v F' H' (fun _=>False) e (.sh r fun _ z=>z) fun _ z=>z.elim⟩
theorem DO.de {f:FO} (h:DO X e f):DE X e (fL f):=by
 refine PE.imp h fun σ H Q q=>?_;obtain ⟨F,ρ,d,s,re,hf,k⟩:=q;obtain ⟨o,ho,hd⟩:=bind_some hf;exact ⟨F,ρ,o,s,re,ho,fun v F' H' A e r hA=>k v (aqrx F' H' A) H' (aZf e hA) (r.rep (avj fun b z=>(hA b z).1) hd fun b z=>axg z)⟩
theorem aqkh {H F1 H1 F2 H2:Hp} {A:AS} (e2:Ext F1 H1 F2 H2) (h:∀ b,A b->F1 b=none/\H b=none) (t:∀ b,A b->∃ u,H1 b=some u):∀ b,A b->F2 b=none/\H b=none:=fun b z=>by
 obtain ⟨h1,h2⟩:=h b z;obtain ⟨u,hu⟩:=t b z;refine ⟨?_,h2⟩;cases q:F2 b with
 | none=>rfl
 | some o =>
  rcases e2.nw b o q with y | y
  ·rw [h1] at y; cases y
  ·rw [hu] at y; cases y
theorem aqe7:DAO X [] aoNil:=by
 refine PA.imp bg fun σ H Q q=>?_;obtain ⟨F,ρ,d,s,re,hf,k⟩:=q;cases hf;exact k [] F H (fun _=>False) (Ext.refl s) (.nil fun _ z=>z) fun _ z=>z.elim
theorem aQo {f:FO} {g:FAO} (ha:DO X a f) (hr:DAO X es g) (hs:Ap (a :: es) X.env=(false,eval a X.env) :: Ap es X.env:=by rfl):DAO X (a :: es) (aKn f g):=by
 refine PA.imp (aa ha hr hs) fun σ H Q q=>?_;obtain ⟨F,ρ,ds,s,re,hf,k⟩:=q;obtain ⟨d,hd,hf⟩:=bind_some hf;obtain ⟨ds',hg,rfl⟩:=map_some hf;refine ⟨F,ρ,d,s,re,hd,fun v F1 H1 A1 e1 r1 n1=>⟨F1,ρ,ds',e1.fh,re.mono e1.ff,hg,fun vs F2 H2 A2 e2 r2 n2=>?_⟩⟩;have t1:∀ b,A1 b->∃ u,H1 b=some u:=fun b z=>by obtain ⟨u,h,_⟩:=r1.there b z; exact ⟨u,h⟩
 refine k _ F2 H2 (fun b=>A1 b \/ A2 b) (e1.trans e2) (.cons (r1.ext e2.ff e2.hh) r2 (fun b y z=>?_) fun _=>M4) fun b z=>?_
 ·obtain ⟨u,hu⟩:=t1 b y
  rw [(n2 b z).2] at hu; cases hu
 ·rcases z with z | z
  ·exact aqkh e2 n1 t1 b z
  ·exact ⟨(n2 b z).1,e1.hh.free (n2 b z).2⟩
theorem aQm {g:FA} (h:DA X es g):DO X (.List es pos) (aqr7 g):=by
 refine PE.imp (aF h) fun σ H Q q=>?_;obtain ⟨F,ρ,d,s,re,hf,k⟩:=q;obtain ⟨ds,hd,hf⟩:=bind_some hf;split at hf
 ·rename_i hl
  cases hf;refine ⟨F,ρ,ds,s,re,hd,fun vs F1 H1 e1 r1=>⟨by rw [r1.length]; exact axp hl,fun p hp=>?_⟩⟩;exact k _ F1 _ _ (e1.trans (Ext.laidH e1.fh hp)) (aXi ac r1) fun b z=>by subst z; exact ⟨e1.fh.free hp,e1.hh.free hp⟩
 ·cases hf
theorem aqkt {g:FAO} (h:DAO X es g):DO X (.List es pos) (oLstO g):=by
 refine PE.imp (aF h) fun σ H Q q=>?_;obtain ⟨F,ρ,d,s,re,hf,k⟩:=q;obtain ⟨os,hd,hf⟩:=bind_some hf;split at hf
 ·rename_i hl
  cases hf;refine ⟨F,ρ,os,s,re,hd,fun vs F1 H1 A e1 r1 n1=>⟨by rw [r1.length]; exact axp hl,fun p hp=>?_⟩⟩;have np:¬ A p:=fun z=>by obtain ⟨u,hu,_⟩:=r1.there p z; rw [hp] at hu; cases hu
  refine k _ F1 _ _ (e1.trans (Ext.laidH e1.fh hp)) (aYa ac np (r1.ext (aqs2.refl _) (gd hp))) fun b z=>?_;rcases z with rfl | z
  ·exact ⟨e1.fh.free hp,e1.hh.free hp⟩
  ·exact n1 b z
 ·cases hf
theorem aqks {x1} {g:FAO} (h:DAO X es g):DO X (.Tuple es x1 pos) (oTupO g):=by
 refine PE.imp (azc h) fun σ H Q q=>?_;obtain ⟨F,ρ,d,s,re,hf,k⟩:=q;obtain ⟨os,hd,hf⟩:=bind_some hf;split at hf
 ·rename_i hl
  cases hf;refine ⟨F,ρ,os,s,re,hd,fun vs F1 H1 A e1 r1 n1=>⟨by rw [r1.length]; exact axp hl,fun p hp=>?_⟩⟩;have np:¬ A p:=fun z=>by obtain ⟨u,hu,_⟩:=r1.there p z; rw [hp] at hu; cases hu
  refine k _ (upd F1 p (.tup vs)) _ A (e1.trans (Ext.laid e1.fh hp)) (.tup ac (r1.ext (gd (e1.fh.free hp)) (gd hp))) fun b z=>?_;obtain ⟨h1,h2⟩:=n1 b z;exact ⟨by rw [ah (by rintro rfl; exact np z)]; exact h1,h2⟩
 ·cases hf
def spO (K:Frag) (n:Nat) (g:List D->Option O):Sp:=fun vs H Q _=>∃ F ds o,aqs2 F H/\Reps K F vs ds/\ds.length=n/\g ds=some o /\
 ∀ v F' H' A,Ext F H F' H'->Own K F' H' v o A->(∀ b,A b->F' b=none/\H b=none)->Q v H'
def CallO (K:Frag) (r:List V->Hp->VK->Prop) (g:List D->Option (List D)):Prop:=∀ ds es F H vs Q,g ds=some es->aqs2 F H->Reps K F vs ds ->
 (∀ a ws F' H',Ext F H F' H'->H' a=some (.lst ws)->F' a=none->H a=none->Reps K F' ws es->Q (.ref a) H')->r vs H Q
def OpO (K:Frag) (r:R2) (g:D->D->Option (List D)):Prop:=∀ x y es F H v u Q,g x y=some es->aqs2 F H->Rep K F v x->Rep K F u y ->
 (∀ a ws F' H',Ext F H F' H'->H' a=some (.lst ws)->F' a=none->H a=none->Reps K F' ws es->Q (.ref a) H')->r v u H Q
variable {k n:Nat} {f:Addr} {fd:Ak} {ps:List Str} {x:Str} {p:Pos}
theorem aqku {g:List D->Option O} {h:FA} (G:FnOk X.prog X.w X.K X.mg X.base CX0 k f fd ps (spO X.K n g)) (hr:Room k X.A) (hg:Gl X x) (hm:X.mg x=some (.ref f)) (hk:Ha X.K (.ref f)=true) (hb:Binds X.K fd ps [])
  (ha:DA X (a :: es) h) (hdb:(x == ("__debug__":Str))=false:=by decide) (he:Ap (a :: es) X.env=(false,eval a X.env) :: Ap es X.env:=by rfl) (hpl:(C2 pos (Ap es X.env)).any (·.1)=false:=by rfl) :
  DO X (.Call (.Name x p) (a :: es) [] pos) (aV6 n g h):=by
 refine PE.imp (au G hr hg hm hk hb .nil aqt ha hdb he hpl) fun σ H Q q=>?_;obtain ⟨F,ρ,d,s,re,hf,k⟩:=q;obtain ⟨ds,hd,hf⟩:=bind_some hf;refine ⟨F,ρ,ds,s,re,hd,fun vs F1 H1 e1 r1=>?_⟩;dsimp only;rw [append_nil];split at hf
 ·rename_i hl
  exact ⟨F1,ds,d,e1.fh,r1,hl,hf,fun v F2 H2 A e2 r2 n2=>k v F2 H2 A (e1.trans e2) r2 fun b z=>⟨(n2 b z).1,e1.hh.free (n2 b z).2⟩⟩
 ·cases hf
theorem aqaa {id:String} {r:List V->Hp->VK->Prop} {g:List D->Option (List D)} {h:FA} (hc:awm X (.builtin id) r) (hr:CallO X.K r g) (hg:Gl X x) (hm:X.mg x=none) (hv:A7 x=some (.builtin id)) (ha:DA X (a :: es) h)
  (hn:x ≠ "__name__":=by decide) (hdb:(x == ("__debug__":Str))=false:=by decide)
  (he:Ap (a :: es) X.env=(false,eval a X.env) :: Ap es X.env:=by rfl) (hpl:(C2 pos (Ap es X.env)).any (·.1)=false:=by rfl):DO X (.Call (.Name x p) (a :: es) [] pos) (aqr8 g h):=by
 refine PE.imp (aqe hc hg hm hv ha hn hdb he hpl) fun σ H Q q=>?_;obtain ⟨F,ρ,o,s,re,hf,k⟩:=q;obtain ⟨zs,hf2,rfl⟩:=map_some hf;obtain ⟨ds,hd,hf⟩:=bind_some hf2;exact ⟨F,ρ,ds,s,re,hd,fun vs F1 H1 e1 r1=>hr ds zs F1 H1 vs Q hf e1.fh r1 fun a ws F' H' e' h1 h2 h3 r'=>k (.ref a) F' H' _ (e1.trans e') (aXi h1 r') fun b z=>by subst z; exact ⟨h2,e1.hh.free h3⟩⟩
theorem aVc {T:String} {r:List V->Hp->VK->Prop} {g:List D->Option (List D)} {h:FA} (hc:awm X (.type T) r) (hr:CallO X.K r g) (hg:Gl X x) (hm:X.mg x=none) (hv:A7 x=some (.type T)) (ha:DA X (a :: es) h)
  (hn:x ≠ "__name__":=by decide) (hdb:(x == ("__debug__":Str))=false:=by decide)
  (he:Ap (a :: es) X.env=(false,eval a X.env) :: Ap es X.env:=by rfl) (hpl:(C2 pos (Ap es X.env)).any (·.1)=false:=by rfl):DO X (.Call (.Name x p) (a :: es) [] pos) (aqr8 g h):=by
 refine PE.imp (ajv hc hg hm hv ha hn hdb he hpl) fun σ H Q q=>?_;obtain ⟨F,ρ,o,s,re,hf,k⟩:=q;obtain ⟨zs,hf2,rfl⟩:=map_some hf;obtain ⟨ds,hd,hf⟩:=bind_some hf2;exact ⟨F,ρ,ds,s,re,hd,fun vs F1 H1 e1 r1=>hr ds zs F1 H1 vs Q hf e1.fh r1 fun a ws F' H' e' h1 h2 h3 r'=>k (.ref a) F' H' _ (e1.trans e') (aXi h1 r') fun b z=>by subst z; exact ⟨h2,e1.hh.free h3⟩⟩
theorem do_op {op:Operator} {r:R2} {g:D->D->Option (List D)} {fa fb:FE} (ho:OpR X (Dr op) r) (hr:OpO X.K r g) (ha:DE X a fa) (hb:DE X b fb):DO X (.BinOp a op b pos) (o2 g fa fb):=by
 refine PE.imp (axz ho ha hb) fun σ H Q q=>?_;obtain ⟨F,ρ,o,s,re,hf,k⟩:=q;obtain ⟨zs,hf2,rfl⟩:=map_some hf;obtain ⟨x,hx,hf⟩:=bind_some hf2;obtain ⟨y,hy,hf⟩:=bind_some hf;exact ⟨F,ρ,x,s,re,hx,fun v F1 H1 e1 r1=>⟨F1,ρ,y,e1.fh,re.mono e1.ff,hy,fun u F2 H2 e2 r2=>hr x y zs F2 H2 v u Q hf e2.fh (r1.mono e2.ff) r2 fun a ws F' H' e' h1 h2 h3 r' =>
  k (.ref a) F' H' _ ((e1.trans e2).trans e') (aXi h1 r') fun b z=>by subst z; exact ⟨h2,(e1.trans e2).hh.free h3⟩⟩⟩
end
end DL
namespace DL
open PySem PySem.Spec PyProof.Rows L2
structure Bs where
 F₀:Hp
 B:Hp
 P:Nat->Bool
 σ₀:St
def OwnT (K:Frag) (B F H:Hp) (σ:St) (ρ:Cs) (A:Nat->AS):Prop :=
 (∀ (i:Nat) (o:O),ρ[i]?=some (some o)->∃ v,σ[i]?=some (some v)/\Own K F H v o (A i))/\(∀ i b,A i b->F b=none/\B b=none/\∃ o,ρ[i]?=some (some o))/\∀ i j b,A i b->A j b->i=j
structure RS (K:Frag) (β:Bs) (F H:Hp) (σ:St) (ρ:Cs):Prop where
 ext:Ext β.F₀ β.B F H
 len:ρ.length=σ.length
 pin:∀ i,β.P i=true->σ[i]?=β.σ₀[i]?
 own:∃ A:Nat->AS,OwnT K β.B F H σ ρ A
section
variable {K:Frag} {β:Bs} {F F' H H':Hp} {σ:St} {ρ:Cs}
abbrev Bs.re (β:Bs) (F:Hp):Bs:=⟨F,β.B,β.P,β.σ₀⟩
theorem RS.rebase (r:RS K β F H σ ρ):RS K (β.re F) F H σ ρ:=⟨⟨aqs2.refl _,r.ext.fh,r.ext.hh,fun _ _ h=>.inl h⟩,r.len,r.pin,r.own⟩
theorem aqkg {F₀ B F1 H1:Hp} (e:Ext F₀ B F H) (r:Ext F B F1 H1):Ext F₀ B F1 H1 :=
 ⟨e.ff.trans r.ff,r.fh,r.hh,fun b o h=>(r.nw b o h).elim (fun z=>e.nw b o z) .inr⟩
theorem RS.unbase (e:Ext β.F₀ β.B F H) {F1 H1:Hp} {σ1:St} {ρ1:Cs} (r:RS K (β.re F) F1 H1 σ1 ρ1):RS K β F1 H1 σ1 ρ1:=⟨aqkg e r.ext,r.len,r.pin,r.own⟩
theorem OwnT.there {B:Hp} {A:Nat->AS} (w:OwnT K B F H σ ρ A) {i:Nat} {b:Addr} (h:A i b):∃ u,H b=some u/\∀ xs,u ≠ .tup xs/\∀ ob w,u ≠ .frz ob w:=by
 obtain ⟨h1,h2,h3⟩:=w;obtain ⟨_,_,o,ho⟩:=h2 i b h;obtain ⟨v,_,z⟩:=h1 i o ho;exact z.there b h
theorem OwnT.ext {B:Hp} {A:Nat->AS} (w:OwnT K B F H σ ρ A) (e:Ext F H F' H'):OwnT K B F' H' σ ρ A:=by
 have th:=fun i b h=>w.there (i:=i) (b:=b) h;obtain ⟨h1,h2,h3⟩:=w;refine ⟨fun i o h=>?_,fun i b h=>?_,h3⟩
 ·obtain ⟨v,e1,e2⟩:=h1 i o h
  exact ⟨v,e1,e2.ext e.ff e.hh⟩
 ·obtain ⟨e1,e2,ho⟩:=h2 i b h
  obtain ⟨u,hu,_⟩:=th i b h;refine ⟨?_,e2,ho⟩;cases q:F' b with
  | none=>rfl
  | some w =>
   rcases e.nw b w q with z | z
   ·rw [e1] at z; cases z
   ·rw [hu] at z; cases z
theorem RS.ext' (r:RS K β F H σ ρ) (e:Ext F H F' H'):RS K β F' H' σ ρ:=⟨r.ext.trans e,r.len,r.pin,r.own.imp fun _ w=>w.ext e⟩
def msk (S:List Bool) (i:Nat):Bool:=S[i]?.getD false
theorem aqke {S:List Bool} {ρ:Cs} {i:Nat} {d:D} (h:(frz S ρ)[i]?=some (some d)):msk S i=true/\∃ o,ρ[i]?=some (some o)/\oD o=some d:=by
 induction S generalizing ρ i with
 | nil=>simp [frz] at h
 | cons b S ih =>
  cases ρ with
  | nil=>simp [frz] at h
  | cons c ρ =>
   cases i with
   | zero =>
    simp [frz] at h;obtain ⟨hb,h⟩:=h;obtain ⟨o,e1,e2⟩:=bind_some h;subst e1;exact ⟨by simp [msk,hb],o,rfl,e2⟩
   | succ i =>
    obtain ⟨h1,h2⟩:=ih (ρ:=ρ) (i:=i) (by simpa [frz] using h);exact ⟨by simpa [msk] using h1,by simpa using h2⟩
theorem aqkd (S:List Bool) (ρ:Cs):(fz S ρ).length=ρ.length:=by
 induction S generalizing ρ with
 | nil=>cases ρ <;> simp [fz]
 | cons b S ih=>cases ρ <;> simp [fz,ih]
theorem aqnh {S:List Bool} {ρ:Cs} {i:Nat} {o:O} (h:(fz S ρ)[i]?=some (some o)) :
  (msk S i=true/\∃ o' d,ρ[i]?=some (some o')/\oD o'=some d/\o=.sh d) \/ (ρ[i]?=some (some o)/\(msk S i=true->oD o=none)):=by
 induction S generalizing ρ i with
 | nil=>cases ρ <;> exact .inr ⟨by simpa [fz] using h,by simp [msk]⟩
 | cons b S ih =>
  cases ρ with
  | nil=>simp [fz] at h
  | cons c ρ =>
   cases i with
   | zero =>
    cases b with
    | true =>
     simp [fz] at h;cases c with
     | none=>cases h
     | some o' =>
      unfold fzc at h;cases q:oD o' with
      | none =>
       simp only [q] at h;cases h;exact .inr ⟨rfl,fun _=>q⟩
      | some d =>
       simp only [q] at h;cases h;exact .inl ⟨by simp [msk],o',d,rfl,q,rfl⟩
    | false=>exact .inr ⟨by simpa [fz] using h,by simp [msk]⟩
   | succ i =>
    rcases ih (ρ:=ρ) (i:=i) (by simpa [fz] using h) with ⟨h1,h2⟩ | ⟨h1,h2⟩
    ·exact .inl ⟨by simpa [msk] using h1,by simpa using h2⟩
    ·exact .inr ⟨by simpa using h1,by simpa [msk] using h2⟩
noncomputable def azl (F H F':Hp):Hp:=fun b=>match F b with | some o=>some o | none=>match H b with | some _=>none | none=>F' b
theorem aqy:aqs2 F (azl F H F'):=fun b o h=>by unfold azl; rw [h]
theorem aYy {b:Addr} {o:HO} (h:azl F H F' b=some o):F b=some o \/ (H b=none/\F' b=some o):=by
 unfold azl at h;cases q:F b with
 | some u=>rw [q] at h; exact .inl h
 | none =>
  rw [q] at h;cases z:H b with
  | some u=>rw [z] at h; cases h
  | none=>rw [z] at h; exact .inr ⟨rfl,h⟩
theorem aQg {b:Addr} (s:aqs2 F H) (h:H b=none):azl F H F' b=F' b:=by
 unfold azl;rw [s.free h,h]
structure aqs9 (F H G:Hp):Prop where
 fg:aqs2 F G
 gh:aqs2 G H
 nt:∀ b u,G b=some u->F b=some u \/ ∀ xs,u ≠ .tup xs/\∀ ob w,u ≠ .frz ob w
section
variable {G:Hp}
theorem aqs9.ext (l:aqs9 F H G) (e:Ext G H F' H') (s:aqs2 F H):Ext F H (azl F H F') H' where
 ff:=aqy
 fh:=fun b o h=>by
  rcases aYy h with h | ⟨_,h⟩
  ·exact e.hh _ _ (s _ _ h)
  ·exact e.fh _ _ h
 hh:=e.hh
 nw:=fun b o h=>by
  rcases aYy h with h | ⟨h,_⟩
  ·exact .inl h
  ·exact .inr h
theorem aqs9.at (l:aqs9 F H G) (e:Ext G H F' H') (s:aqs2 F H) {a:Addr} {u:HO} (h:F' a=some u) (nt:(∃ xs,u=.tup xs) \/ ∃ ob w,u=.frz ob w):azl F H F' a=some u:=by
 rcases e.nw a u h with z | z
 ·rcases l.nt a u z with y | y
  ·unfold azl; rw [y]
  ·rcases nt with ⟨xs,rfl⟩ | ⟨ob,w,rfl⟩
   ·exact absurd rfl (y xs).1
   ·exact absurd rfl ((y []).2 ob w)
 ·rw [aQg s z]; exact h
theorem aqs9.seqT (l:aqs9 F H G) (e:Ext G H F' H') (s:aqs2 F H) {a:Addr} {vs:List V} (h:SqT K F' a vs):SqT K (azl F H F') a vs:=by
 rcases h with (q | ⟨o,q⟩) | q
 ·exact .inl (.inl (l.at e s q (.inl ⟨_,rfl⟩)))
 ·exact .inl (.inr ⟨o,l.at e s q (.inr ⟨_,_,rfl⟩)⟩)
 ·exact .inr q
theorem aYw (l:aqs9 F H G) (e:Ext G H F' H') (s:aqs2 F H):(∀ {v:V} {d:D},Rep K F' v d->imm d=true->Rep K (DL.azl F H F') v d)/\∀ {vs:List V} {ds:List D},Reps K F' vs ds->aqrf ds=true->Reps K (DL.azl F H F') vs ds:=by
 refine ⟨@Rep.rec K F' (fun v d _=>imm d=true->Rep K (DL.azl F H F') v d) (fun v d _=>aqrf d=true->Reps K (DL.azl F H F') v d) (fun _=>.non) (fun b _=>.bl b) (fun i _=>.int i) (fun x _=>.str x) ?a ?b (fun _=>.nil) ?c,@Reps.rec K F' (fun v d _=>imm d=true->Rep K (DL.azl F H F') v d) (fun v d _=>aqrf d=true->Reps K (DL.azl F H F') v d) (fun _=>.non) (fun b _=>.bl b) (fun i _=>.int i) (fun x _=>.str x) ?a ?b (fun _=>.nil) ?c⟩
 case a=>exact fun _ _ _ h=>by simp [imm] at h
 case b=>exact fun q _ ih h=>.tup (l.seqT e s q) (ih (by simpa [imm] using h))
 case c =>
  intro v d vs ds q t ih it h;simp [aqrf] at h;exact .cons (ih h.1) (it h.2)
theorem aqs9.rep (l:aqs9 F H G) (e:Ext G H F' H') (s:aqs2 F H) {v:V} {d:D} (h:imm d=true) (q:Rep K F' v d):Rep K (DL.azl F H F') v d:=(aYw l e s).1 q h
theorem aqs9.reps (l:aqs9 F H G) (e:Ext G H F' H') (s:aqs2 F H) {vs:List V} {ds:List D} (h:aqrf ds=true) (q:Reps K F' vs ds):Reps K (DL.azl F H F') vs ds:=(aYw l e s).2 q h
theorem aqgd (l:aqs9 F H G) (e:Ext G H F' H') (s:aqs2 F H):(∀ {v:V} {o:O} {A:AS},Own K F' H' v o A->oim o=true->Own K (DL.azl F H F') H' v o A)/\∀ {vs:List V} {os:List O} {A:AS},Owns K F' H' vs os A->aqr6 os=true->Owns K (DL.azl F H F') H' vs os A:=by
 refine ⟨@Own.rec K F' H' (fun v o A _=>oim o=true->Own K (DL.azl F H F') H' v o A) (fun v o A _=>aqr6 o=true->Owns K (DL.azl F H F') H' v o A) ?a ?b ?c ?a2 ?d,@Owns.rec K F' H' (fun v o A _=>oim o=true->Own K (DL.azl F H F') H' v o A) (fun v o A _=>aqr6 o=true->Owns K (DL.azl F H F') H' v o A) ?a ?b ?c ?a2 ?d⟩
 case a=>exact fun q hA h=>.sh (l.rep e s (by simpa [oim] using h) q) hA
 case b=>exact fun q n _ hA ih h=>.lst q n (ih (by simpa [oim] using h)) hA
 case c=>exact fun q _ ih h=>.tup (l.at e s q (.inl ⟨_,rfl⟩)) (ih (by simpa [oim] using h))
 case a2=>exact fun hA _=>.nil hA
 case d =>
  intro v o vs os A1 A2 A q t d hA ih it h;simp [aqr6] at h;exact .cons (ih h.1) (it h.2) d hA
theorem aqs9.own (l:aqs9 F H G) (e:Ext G H F' H') (s:aqs2 F H) {v:V} {o:O} {A:AS} (h:oim o=true) (q:Own K F' H' v o A):Own K (DL.azl F H F') H' v o A:=(aqgd l e s).1 q h
end
theorem RS.look (r:RS K β F H σ ρ) (S:List Bool):∃ G,aqs9 F H G/\RE K G σ (frz S ρ)/\RS K β G H σ (fz S ρ):=by
 obtain ⟨A,h1,h2,h3⟩:=r.own
 let Z:AS:=fun b=>∃ i,msk S i=true/\(∃ o d,ρ[i]?=some (some o)/\oD o=some d)/\A i b
 have Zf:∀ b,Z b->F b=none/\β.B b=none:=fun b ⟨i,_,_,q⟩=>⟨(h2 i b q).1,(h2 i b q).2.1⟩;have Zt:∀ b,Z b->∃ u,H b=some u/\∀ xs,u ≠ .tup xs/\∀ ob w,u ≠ .frz ob w:=fun b ⟨i,_,_,q⟩=>by
  obtain ⟨_,_,o,ho⟩:=h2 i b q;obtain ⟨v,_,z⟩:=h1 i o ho;exact z.there b q
 have sF:aqs2 F (aqrx F H Z):=avj fun b z=>(Zf b z).1;refine ⟨aqrx F H Z,⟨sF,aqb0 r.ext.fh,fun b u q=>?_⟩,fun i d h=>?_,⟨aZf r.ext Zf,(aqkd S ρ).trans r.len,r.pin,?_⟩⟩
 ·by_cases z:Z b
  ·rw [axg z] at q
   obtain ⟨u',e1,e2⟩:=Zt b z;rw [q] at e1; cases e1;exact .inr e2
  ·rw [ajg z] at q; exact .inl q
 ·obtain ⟨g1,o,g2,g3⟩:=aqke h
  obtain ⟨v,e1,e2⟩:=h1 i o g2;exact ⟨v,e1,e2.rep sF g3 fun b z=>axg ⟨i,g1,⟨o,d,g2,g3⟩,z⟩⟩
 ·classical
  refine ⟨fun i b=>A i b/\¬ (msk S i=true/\∃ o d,ρ[i]?=some (some o)/\oD o=some d),fun i o h=>?_,fun i b h=>?_,fun i j b x y=>h3 i j b x.1 y.1⟩
  ·rcases aqnh h with ⟨g1,o',d,g2,g3,rfl⟩ | ⟨g1,g2⟩
   ·obtain ⟨v,e1,e2⟩:=h1 i o' g2
    exact ⟨v,e1,.sh (e2.rep sF g3 fun b z=>axg ⟨i,g1,⟨o',d,g2,g3⟩,z⟩) fun b z=>z.2 ⟨g1,o',d,g2,g3⟩⟩
   ·obtain ⟨v,e1,e2⟩:=h1 i o g1
    refine ⟨v,e1,(e2.stay sF (H':=H) fun _ _=>rfl).congr fun b=>⟨fun z=>⟨z,?_⟩,fun z=>z.1⟩⟩;rintro ⟨m,o',d,q1,q2⟩;rw [g1] at q1; cases q1;rw [g2 m] at q2; cases q2
  ·obtain ⟨e1,e2,o,ho⟩:=h2 i b h.1
   refine ⟨(ajg ?_).trans e1,e2,?_⟩
   ·rintro ⟨j,m,q,z⟩
    have:=h3 i j b h.1 z
    subst this;exact h.2 ⟨m,q⟩
   ·
    have hl:i < (fz S ρ).length:=by rw [aqkd]; exact (Ai.mp ho).1
    have hx:∃ c,(fz S ρ)[i]?=some c:=⟨_,getElem?_eq_getElem hl⟩;obtain ⟨c,hc⟩:=hx;cases c with
    | some o'=>exact ⟨o',hc⟩
    | none =>
     exfalso
     have:∀ (S:List Bool) (ρ:Cs) (i:Nat) (o:O),ρ[i]?=some (some o)->(fz S ρ)[i]? ≠ some none:=by
      intro S
      induction S with
      | nil=>intro ρ i o h z; cases ρ <;> simp [fz] at z h; rw [h] at z; cases z
      | cons b S ih =>
       intro ρ i o h z;cases ρ with
       | nil=>simp at h
       | cons c ρ =>
        cases i with
        | zero =>
         simp at h; subst h;cases b with
         | false=>simp [fz] at z
         | true=>simp [fz,fzc] at z; split at z <;> cases z
        | succ i=>exact ih ρ i o (by simpa using h) (by simpa [fz] using z)
     exact this S ρ i o ho hc
theorem aqlc (ρ:Cs):frz (D9 ρ.length true) ρ=all ρ:=by
 induction ρ with
 | nil=>simp [frz,all]
 | cons c ρ ih=>simp [frz,all,Hk] at ih ⊢; exact ih
theorem RS.lookAll (r:RS K β F H σ ρ):∃ G,aqs9 F H G/\RE K G σ (all ρ):=by
 obtain ⟨G,l,re,_⟩:=r.look (D9 ρ.length true);rw [aqlc] at re;exact ⟨G,l,re⟩
theorem RS.back (r:RS K β F H σ ρ) {G:Hp} (l:aqs9 F H G) (e:Ext G H F' H'):RS K β (azl F H F') H' σ ρ:=r.ext' (l.ext e r.ext.fh)
structure RT (K:Frag) (β:Bs) (F H:Hp) (σ:St) (ρ:Cs) (v:V) (o:O):Prop where
 ext:Ext β.F₀ β.B F H
 len:ρ.length=σ.length
 pin:∀ i,β.P i=true->σ[i]?=β.σ₀[i]?
 own:∃ (A:Nat->AS) (T:AS),OwnT K β.B F H σ ρ A/\Own K F H v o T/\(∀ b,T b->F b=none/\β.B b=none)/\∀ i b,A i b->¬ T b
theorem RT.unbase (e:Ext β.F₀ β.B F H) {F1 H1:Hp} {σ1:St} {ρ1:Cs} {v:V} {o:O} (r:RT K (β.re F) F1 H1 σ1 ρ1 v o):RT K β F1 H1 σ1 ρ1 v o:=⟨aqkg e r.ext,r.len,r.pin,r.own⟩
theorem RS.push (r:RS K β F H σ ρ) (e:Ext F H F' H') {v:V} {o:O} {T:AS} (q:Own K F' H' v o T) (n:∀ b,T b->F' b=none/\H b=none):RT K β F' H' σ ρ v o :=
 ⟨r.ext.trans e,r.len,r.pin,by
  obtain ⟨A,w⟩:=r.own;refine ⟨A,T,w.ext e,q,fun b z=>⟨(n b z).1,r.ext.hh.free (n b z).2⟩,fun i b x y=>?_⟩;obtain ⟨u,hu,_⟩:=w.there x;rw [(n b y).2] at hu; cases hu⟩
theorem RS.sh (r:RS K β F H σ ρ) {v:V} {d:D} (q:Rep K F v d):RT K β F H σ ρ v (.sh d) :=
 r.push (Ext.refl r.ext.fh) (T:=fun _=>False) (.sh q fun _ z=>z) fun _ z=>z.elim
theorem aY7 {α:Type} {l:List (Option α)} {i j:Nat} {c:Option α} {c':α} (h:(l.set i c)[j]?=some (some c')):(j=i/\some c'=c/\i < l.length) \/ (j ≠ i/\l[j]?=some (some c')):=by
 by_cases e:j=i
 ·subst e
  have hl:j < l.length:=by
   have:=(Ai.mp h).1
   simpa using this
  rw [getElem?_set_self hl] at h;cases h;exact .inl ⟨rfl,rfl,hl⟩
 ·rw [getElem?_set_ne (Bw e)] at h
  exact .inr ⟨e,h⟩
theorem RT.give {v:V} {o:O} (r:RT K β F H σ ρ v o) (i:Nat) (hi:β.P i=false):RS K β F H (σ.set i (some v)) (ρ.set i (some o)) where
 ext:=r.ext
 len:=by simpa using r.len
 pin:=fun j h=>by
  have ne:j ≠ i:=by rintro rfl; rw [hi] at h; cases h
  rw [getElem?_set_ne (Bw ne)]; exact r.pin j h
 own:=by
  obtain ⟨A,T,⟨h1,h2,h3⟩,q,n,d⟩:=r.own;have hl:=r.len;refine ⟨fun j b=>(j ≠ i/\A j b) \/ (j=i/\i < ρ.length/\T b),fun j o' h=>?_,fun j b h=>?_,fun j k b x y=>?_⟩
  ·rcases aY7 h with ⟨rfl,e,hl'⟩ | ⟨ne,h⟩
   ·cases e
    exact ⟨v,getElem?_set_self (by rw [<- hl]; exact hl'),q.congr fun b=>⟨fun z=>.inr ⟨rfl,hl',z⟩,fun z=>z.elim (fun y=>absurd rfl y.1) (·.2.2)⟩⟩
   ·obtain ⟨v',e1,e2⟩:=h1 j o' h
    exact ⟨v',by rw [getElem?_set_ne (Bw ne)]; exact e1,e2.congr fun b=>⟨fun z=>.inl ⟨ne,z⟩,fun z=>z.elim (·.2) fun y=>absurd y.1 ne⟩⟩
  ·rcases h with ⟨ne,h⟩ | ⟨rfl,hl',h⟩
   ·obtain ⟨e1,e2,o',ho⟩:=h2 j b h
    exact ⟨e1,e2,o',by rw [getElem?_set_ne (Bw ne)]; exact ho⟩
   ·exact ⟨(n b h).1,(n b h).2,o,getElem?_set_self hl'⟩
  ·rcases x with ⟨_,x⟩ | ⟨rfl,_,x⟩ <;> rcases y with ⟨_,y⟩ | ⟨rfl,_,y⟩
   ·exact h3 j k b x y
   ·exact absurd y (d j b x)
   ·exact absurd x (d k b y)
   ·rfl
theorem RS.set_sh (r:RS K β F H σ ρ) (i:Nat) (hi:β.P i=false) {v:V} {d:D} (q:Rep K F v d):RS K β F H (σ.set i (some v)) (ρ.set i (some (.sh d))):=(r.sh q).give i hi
end
def tM (K:Frag) (f:FM):TE:=fun σ H Q=>∃ β F ρ p,RS K β F H σ ρ/\f ρ=some p/\∀ v F' H',aqs2 F F'->aqs2 H H'->RT K β F' H' σ p.2 v p.1->Q v H'
def DM (X:Cx) (e:Expr) (f:FM):Prop:=PE X e (tM X.K f)
section
variable {X:Cx} {e:Expr}
theorem DE.m (S:List Bool) {f:FE} (h:DE X e f):DM X e (mE S f):=by
 refine PE.imp h fun σ H Q q=>?_;obtain ⟨β,F,ρ,p,r,hf,k⟩:=q;obtain ⟨d,hd,rfl⟩:=map_some hf;obtain ⟨G,l,re,rz⟩:=r.look S;refine ⟨G,frz S ρ,d,l.gh,re,hd,fun v F' H' e q=>?_⟩
 by_cases hi:imm d=true
 ·rw [if_pos hi] at k
  exact k v _ H' aqy e.hh ((r.back l e).sh (l.rep e r.ext.fh hi q))
 ·rw [if_neg hi] at k
  exact k v F' H' (l.fg.trans e.ff) e.hh ((rz.ext' e).sh q)
theorem DO.m (S:List Bool) {f:FO} (h:DO X e f):DM X e (mO S f):=by
 refine PE.imp h fun σ H Q q=>?_;obtain ⟨β,F,ρ,p,r,hf,k⟩:=q;obtain ⟨o,ho,rfl⟩:=map_some hf;obtain ⟨G,l,re,rz⟩:=r.look S;refine ⟨G,frz S ρ,o,l.gh,re,ho,fun v F' H' A e q n=>?_⟩
 by_cases hi:oim o=true
 ·rw [if_pos hi] at k
  exact k v _ H' aqy e.hh (r.push (l.ext e r.ext.fh) (l.own e r.ext.fh hi q) fun b z=>⟨(aQg r.ext.fh (n b z).2).trans (n b z).1,(n b z).2⟩)
 ·rw [if_neg hi] at k
  exact k v F' H' (l.fg.trans e.ff) e.hh (rz.push e q n)
end
def EndS (K:Frag) (β:Bs) (E:Ends):Out->Prop
 | .nx ρ'=>∀ F' H' σ',RS K β F' H' σ' ρ'->E.nx σ' H'
 | .bk ρ'=>∀ F' H' σ',RS K β F' H' σ' ρ'->E.bk σ' H'
 | .ct ρ'=>∀ F' H' σ',RS K β F' H' σ' ρ'->E.ct σ' H'
 | .rt o ρ'=>∀ F' H' σ' v,RT K β F' H' σ' ρ' v o->E.rt v H'
 | .ex _ _=>False
def tS (K:Frag) (W:List Nat) (b:Blk):TS:=fun E σ H=>∃ β F ρ o,RS K β F H σ ρ/\(∀ i∈W,β.P i=false)/\b ρ=some o/\EndS K β E o
def DS (X:Cx) (st:Stmt) (W:List Nat) (b:Blk):Prop:=PS X st (tS X.K W b)
def DSs (X:Cx) (st:List Stmt) (W:List Nat) (b:Blk):Prop:=PSs X st (tS X.K W b)
section
variable {X:Cx} {st:Stmt} {aqr2:List Stmt} {a e:Expr} {pos:Pos} {W W1 W2:List Nat}
theorem aqdu {β:Bs} (h:∀ i∈W1++W2,β.P i=false):∀ i∈W1,β.P i=false:=fun i m=>h i (mem_append_left _ m)
theorem mem_r {β:Bs} (h:∀ i∈W1++W2,β.P i=false):∀ i∈W2,β.P i=false:=fun i m=>h i (mem_append_right _ m)
theorem ajo:DSs X [] [] aqrv:=by
 refine PSs.imp aL fun E σ H q=>?_;obtain ⟨β,F,ρ,o,r,_,h,k⟩:=q;cases h;exact k F H σ r
theorem aj {b c:Blk} (h1:DS X st W1 b) (h2:DSs X aqr2 W2 c):DSs X (st :: aqr2) (W1++W2) (aqrt b c):=by
 refine PSs.imp (ak h1 h2) fun E σ H q=>?_;obtain ⟨β,F,ρ,o,r,hw,h,k⟩:=q;unfold aqrt at h;cases hb:b ρ with
 | none=>rw [hb] at h; cases h
 | some o1 =>
  rw [hb] at h;cases o1 with
  | nx ρ'=>exact ⟨β,F,ρ,.nx ρ',r,aqdu hw,hb,fun F' H' σ' r'=>⟨β,F',ρ',o,r',mem_r hw,h,k⟩⟩
  | bk ρ'=>cases h; exact ⟨β,F,ρ,.bk ρ',r,aqdu hw,hb,k⟩
  | ct ρ'=>cases h; exact ⟨β,F,ρ,.ct ρ',r,aqdu hw,hb,k⟩
  | rt d ρ'=>cases h; exact ⟨β,F,ρ,.rt d ρ',r,aqdu hw,hb,k⟩
  | ex d ρ'=>cases h; exact ⟨β,F,ρ,.ex d ρ',r,aqdu hw,hb,k⟩
theorem ao {b:Blk} (h1:DS X st W b):DSs X [st] W b:=el h1
theorem aB (i:Nat) {f:FM} {st:Stmt} (hp:PS X st (tAsg (tM X.K f) (ax9 i))):DS X st [i] (aqrs i f):=by
 refine PS.imp hp fun E σ H q=>?_;obtain ⟨β,F,ρ,o,r,hw,h,k⟩:=q;obtain ⟨p,hd,rfl⟩:=map_some h;exact ⟨β,F,ρ,p,r,hd,fun v F' H' _ _ rt=>k F' H' _ (rt.give i (hw i (by simp)))⟩
theorem cC {f:FM} (h:DM X e f):DS X (.Return (some e) pos) [] (aqru f):=by
 refine PS.imp (aV h) fun E σ H q=>?_;obtain ⟨β,F,ρ,o,r,hw,h,k⟩:=q;obtain ⟨p,hd,rfl⟩:=map_some h;exact ⟨β,F,ρ,p,r,hd,fun v F' H' _ _ rt=>k F' H' σ v rt⟩
theorem aKd {c:Expr} {as bs:List Stmt} {q:FT} {a b:Blk} (hc:DT X c q) (ha:DSs X as W1 a) (hb:DSs X bs W2 b):DS X (.If c as bs pos) (W1++W2) (bIf q a b):=by
 refine PS.imp (ax8 hc ha hb) fun E σ H z=>?_;obtain ⟨β,F,ρ,o,r,hw,h,k⟩:=z;obtain ⟨t,ht,h⟩:=bind_some h;obtain ⟨G,l,re⟩:=r.lookAll;refine ⟨G,DL.all ρ,t,l.gh,re,ht,fun F' H' e=>?_⟩;have r':=r.back l e;cases t with
 | true=>rw [if_pos rfl] at h; exact aqrb ⟨β,_,ρ,o,r',aqdu hw,h,k⟩
 | false=>rw [if_neg Al] at h; exact aqrc ⟨β,_,ρ,o,r',mem_r hw,h,k⟩
theorem aqh2 {st:Stmt}:DS X st [] bNever:=by
 refine PS.imp aqfd fun E σ H q=>?_;obtain ⟨β,F,ρ,o,r,_,h,k⟩:=q;cases h
def tG (K:Frag) (W:List Nat) (g:GD):TG:=fun v σ H Q=>∃ β F ρ d ρ',RS K β F H σ ρ/\(∀ i∈W,β.P i=false)/\Rep K F v d/\g d ρ=some ρ'/\∀ σ',RS K β F H σ' ρ'->Q σ' H
def tGs (K:Frag) (W:List Nat) (g:List D->Cs->Option Cs):TGs:=fun vs σ H Q=>∃ β F ρ ds ρ',RS K β F H σ ρ/\(∀ i∈W,β.P i=false)/\Reps K F vs ds/\g ds ρ=some ρ'/\∀ σ',RS K β F H σ' ρ'->Q σ' H
def DG (X:Cx) (tg:Expr) (W:List Nat) (g:GD):Prop:=PG X tg (tG X.K W g)
theorem axq (i:Nat) {tg:Expr} (h:PG X tg (ax9 i)):DG X tg [i] (gN i):=by
 refine PG.imp h fun v σ H Q q=>?_;obtain ⟨β,F,ρ,d,ρ',r,hw,q,h,k⟩:=q;cases h;exact k _ (r.set_sh i (hw i (by simp)) q)
theorem aqkc:∀ {gs:List GD} {ds:List D} {ρ ρ':Cs},gT gs ds ρ=some ρ'->ds.length=gs.length
 | [],[],_,_,_=>rfl
 | g :: gs,d :: ds,ρ,ρ',h=>by
  obtain ⟨r1,_,h2⟩:=bind_some h;simp [aqkc h2]
 | [],_ :: _,_,_,h=>by simp [gT] at h
 | _ :: _,[],_,_,h=>by simp [gT] at h
def DGs (X:Cx) (ts:List Expr) (W:List Nat) (gs:List GD):Prop:=PGs X ts (tGs X.K W (gT gs))
theorem aqac:DGs X [] [] []:=by
 intro pins s σ H vs us Q I rv q;refine ak4 pins s σ H vs us Q I rv ?_;obtain ⟨β,F,ρ,ds,ρ',r,hw,q,h,k⟩:=q;cases q with
 | nil=>cases h; exact ⟨rfl,k _ r⟩
 | cons=>cases h
theorem azy {t:Expr} {ts:List Expr} {g:GD} {gs:List GD} (h1:DG X t W1 g) (h2:DGs X ts W2 gs)
  (hs:(Bk (t :: ts) X.env).map (·.2)=Jc t X.env :: (Bk ts X.env).map (·.2):=by rfl):DGs X (t :: ts) (W1++W2) (g :: gs):=by
 intro pins s σ H vs us Q I rv q;refine aqw h1 h2 hs pins s σ H vs us Q I rv ?_;obtain ⟨β,F,ρ,ds,ρ',r,hw,q,h,k⟩:=q;cases q with
 | nil=>cases h
 | cons q1 q2 =>
  obtain ⟨ρ1,h1,h2⟩:=bind_some h;exact ⟨_,_,rfl,β,F,ρ,_,ρ1,r,aqdu hw,q1,h1,fun σ' r'=>⟨β,F,ρ1,_,ρ',r',mem_r hw,q2,h2,k⟩⟩
theorem aqh6 {ts:List Expr} {gs:List GD} {kk:Nat} (hc:X.calm=true) (h:DGs X ts W gs) (hn:(Bk ts X.env).length=gs.length:=by rfl) (hst:(Bk ts X.env).findIdx? (·.1)=none:=by rfl):DG X (.Tuple ts kk pos) W (gTp gs):=by
 refine PG.imp (aqbp hc h hn hst) fun v σ H Q q=>?_;obtain ⟨β,F,ρ,d,ρ',r,hw,q,h,k⟩:=q;unfold gTp at h;split at h
 ·rename_i ds
  cases q with
  | tup q t=>exact ⟨_,_,rfl,seqT r.ext.fh q,by rw [t.length]; exact aqkc h,β,F,ρ,ds,ρ',r,hw,t,h,k⟩
 ·cases h
theorem aqgu {K:Frag} {β:Bs} {F H:Hp} {σ:St} {ρ:Cs} {gD:GD} {bD:Blk} {d:D} {aqr2:List D} {o:Out} {E:Ends} {x:V} {N:St->Hp->Prop}
  (r:RS K β F H σ ρ) (hw1:∀ i∈W1,β.P i=false) (hw2:∀ i∈W2,β.P i=false) (q:Rep K F x d) (h:aqrh gD bD (d :: aqr2) ρ=some o) (k:EndS K β E o)
  (hN:∀ F' H' σ' ρ',aqs2 F F'->RS K β F' H' σ' ρ'->aqrh gD bD aqr2 ρ'=some o->N σ' H'):tG K W1 gD x σ H fun σ2 H2=>tS K W2 bD { E with nx:=N,ct:=N,bk:=E.nx } σ2 H2:=by
 obtain ⟨ρ1,h1,h2⟩:=bind_some h;refine ⟨β.re F,F,ρ,d,ρ1,r.rebase,hw1,q,h1,fun σ' r'=>?_⟩;cases hb1:bD ρ1 with
 | none=>rw [hb1] at h2; cases h2
 | some o1 =>
  rw [hb1] at h2;refine ⟨β.re F,F,ρ1,o1,r',hw2,hb1,?_⟩;cases o1 with
  | nx ρ2=>exact fun F' H' σ2 r2=>hN F' H' σ2 ρ2 r2.ext.ff (RS.unbase r.ext r2) h2
  | ct ρ2=>exact fun F' H' σ2 r2=>hN F' H' σ2 ρ2 r2.ext.ff (RS.unbase r.ext r2) h2
  | bk ρ2=>cases h2; exact fun F' H' σ2 r2=>k F' H' σ2 (RS.unbase r.ext r2)
  | rt d ρ2=>cases h2; exact fun F' H' σ2 v r2=>k F' H' σ2 v (RT.unbase r.ext r2)
  | ex d ρ2=>cases h2; exact k
theorem aQl {α:Type} {l:List α} {i:Nat} (h:i < l.length):l.drop i=l[i] :: l.drop (i + 1):=(List.getElem_cons_drop h).symm
theorem aX2 {tg iter:Expr} {body:List Stmt} {S:List Bool} {f:FE} {gD:GD} {bD:Blk} (hp:PassesOwn (model X.prog X.w) X.A X.env X.xe) (hc:X.calm=true) (hi:DE X iter f) (hg:DG X tg W1 gD) (hb:DSs X body W2 bD)
  (hs:∀ x,B7 iter X.env x=pure x:=by intro _; rfl):DS X (.For tg iter body [] pos) (W1++W2) (aqrw S f gD bD):=by
 refine PS.imp (aV2 hp hc (aH hi) hg hb hs) fun E σ H q=>?_;obtain ⟨β,F,ρ,o,r,hw,h,k⟩:=q;obtain ⟨d,hd,h⟩:=bind_some h;rw [aZb] at h;split at h
 ·rename_i ds
  obtain ⟨G,l,re,rz⟩:=r.look S;refine ⟨G,frz S ρ,.lst ds,l.gh,re,hd,fun v F' H' e q=>?_⟩;cases q with
  | lst q t =>
   rename_i a vs;refine ⟨a,rfl,⟨vs,(aqqy e.fh q).l⟩,fun i m σ H=>∃ F ρ,RS X.K β F H σ ρ/\SqE X.K F a vs/\Reps X.K F vs ds/\i <= ds.length/\m=ds.length - i/\aqrh gD bD (ds.drop i) ρ=some o,
    ⟨_,F',fz S ρ,rz.ext' e,q,t,zero_le _,rfl,h⟩,?_⟩
   rintro i m σ1 H1 ⟨F1,ρ1,r1,q1,t1,hi,rfl,h1⟩
   by_cases hl:i < ds.length
   ·have hv:i < vs.length:=by rw [t1.length]; exact hl
    refine .inr ⟨⟨vs,vs[i],(aqqy r1.ext.fh q1).l,by simp [hv]⟩,fun σ' H'=>∃ F ρ,RS X.K β F H' σ' ρ/\SqE X.K F a vs/\Reps X.K F vs ds/\aqrh gD bD (ds.drop (i + 1)) ρ=some o,fun σ' H' ⟨F2,ρ2,r2,q2,t2,h2⟩=>⟨_,by omega,F2,ρ2,r2,q2,t2,hl,rfl,h2⟩,fun x H2 y=>?_⟩;obtain ⟨rfl,y⟩:=y;obtain ⟨d,hd1,hd2⟩:=t1.get (y vs (aqqy r1.ext.fh q1).l);have ed:ds[i]=d:=by rw [getElem?_eq_getElem hl] at hd1; exact Option.some.inj hd1
    rw [aQl hl,ed] at h1;exact aqgu r1 (aqdu hw) (mem_r hw) hd2 h1 k fun F' H' σ' ρ' s r' h'=>⟨F',ρ',r',aqqy s q1,t1.mono s,h'⟩
   ·refine .inl ⟨⟨vs,(aqqy r1.ext.fh q1).l,by rw [t1.length]; omega⟩,?_⟩
    rw [drop_of_length_le (by omega)] at h1;cases h1;exact k F1 H1 σ1 r1
 ·cases h
theorem aX1 {c:Expr} {body:List Stmt} {cD:FT} {bD:Blk} (hp:PassesOwn (model X.prog X.w) X.A X.env X.xe) (hc:DT X c cD) (hb:DSs X body W bD):DS X (.While c body [] pos) W (azk cD bD):=by
 refine PS.imp (aWy hp hc hb) fun E σ H q=>?_;obtain ⟨β,F,ρ,o,r,hw,h,k⟩:=q;obtain ⟨n,h⟩:=aZz h;refine ⟨fun m σ H=>∃ F ρ,RS X.K β F H σ ρ/\aXx cD bD m ρ=some o,⟨n,F,ρ,r,h⟩,?_⟩;rintro m σ1 H1 ⟨F1,ρ1,r1,h1⟩;cases m with
 | zero=>cases h1
 | succ m =>
  unfold aXx at h1;obtain ⟨t,ht,h1⟩:=bind_some h1;obtain ⟨G,l,re⟩:=r1.lookAll;refine ⟨G,DL.all ρ1,t,l.gh,re,ht,fun F' H' e=>?_⟩;have r2:=r1.back l e;cases t with
  | false =>
   rw [if_neg Al] at h1;cases h1;exact aqrc (k _ H' σ1 r2)
  | true =>
   rw [if_pos rfl] at h1;refine aqrb ⟨fun σ' H'=>∃ F ρ,RS X.K β F H' σ' ρ/\aXx cD bD m ρ=some o,fun σ' H' q=>⟨m,lt_succ_self _,q⟩,?_⟩;cases hb1:bD ρ1 with
   | none=>rw [hb1] at h1; cases h1
   | some o1 =>
    rw [hb1] at h1;refine ⟨β,_,ρ1,o1,r2,hw,hb1,?_⟩;cases o1 with
    | nx ρ2=>exact fun F' H' σ2 r2=>⟨F',ρ2,r2,h1⟩
    | ct ρ2=>exact fun F' H' σ2 r2=>⟨F',ρ2,r2,h1⟩
    | bk ρ2=>cases h1; exact k
    | rt d ρ2=>cases h1; exact k
    | ex d ρ2=>cases h1; exact k
end
theorem aqmd {K:Frag} {F H:Hp} {N:List Str} {vs:List V} {ds:List D} (s:aqs2 F H) (r:Reps K F vs ds):RS K ⟨F,H,fun _=>false,[]⟩ F H (L2.start N vs) (ini N.length ds) where
 ext:=Ext.refl s
 len:=by simp [L2.start,ini,r.length]
 pin:=fun i h=>by cases h
 own:=by
  refine ⟨fun _ _=>False,fun i o h=>?_,fun _ _ z=>z.elim,fun _ _ _ z=>z.elim⟩;unfold ini at h
  by_cases hi:i < ds.length
  ·rw [Di (by simpa using hi),getElem?_map] at h
   cases q:ds[i]? with
   | none=>rw [q] at h; cases h
   | some d' =>
    rw [q] at h;cases h;obtain ⟨v,h1,h2⟩:=r.getD q;refine ⟨v,?_,.sh h2 fun _ z=>z⟩;unfold L2.start;rw [Di (by rw [length_map,r.length]; exact hi),getElem?_map,h1];rfl
  ·rw [Ib (by simpa using hi)] at h
   have:=mem_of_getElem? h
   simp at this
section
variable {P:Aj} {w:World} {K:Frag} {mg:Str->Option Value} {base:Heap}
theorem fnO {x qual:Str} {st:Stmt} {f:Addr} {fd:Ak} {N ps:List Str} {k n m:Nat} {W:List Nat} {b:Blk} (F:Fun K x qual st f fd) (S:FnScope N ps (af st)) (hn:ps.length=n) (hm:N.length=m)
  (hb:∀ (cdv:Value) (A:Around) (outer:List Env) (s:Shared) (H:Hp) (E:XK),Room k (A.deeper (F7 qual (af st) s.heap.objs.size f cdv))->DSs (aqrp CX0 P w K mg base N qual (af st) f cdv A outer s H E).nox (aqi st) W b) :
  FnOk P w K mg base CX0 (k + 1) f fd ps (spO K n (aqqz m b)):=by
 subst hn hm;refine F.ok S (fun vs H Q E h=>?_) (fun cdv A outer s H vs Q E hr h=>⟨_,hb cdv A outer s H E hr,?_⟩)
 ·obtain ⟨F,ds,d,_,r,hl,_⟩:=h
  rw [r.length,hl]
 ·obtain ⟨F,ds,o,s,r,hl,h,k⟩:=h
  unfold aqqz at h;cases hb1:b (ini N.length ds) with
  | none=>rw [hb1] at h; cases h
  | some o1 =>
   rw [hb1] at h;refine ⟨_,F,_,o1,aqmd s r,fun _ _=>rfl,hb1,?_⟩;cases o1 with
   | nx ρ=>cases h; exact fun F' H' σ' r'=>k _ F' H' (fun _=>False) r'.ext (.sh .non fun _ z=>z) fun _ z=>z.elim
   | rt o' ρ =>
    cases h;intro F' H' σ' v r';obtain ⟨A,T,_,q,n,_⟩:=r'.own;exact k v F' H' T r'.ext q n
   | bk ρ=>cases h
   | ct ρ=>cases h
   | ex c ρ=>cases h
theorem FnOk.d {f:Addr} {fd:Ak} {ps:List Str} {k n:Nat} {g:List D->Option O} (F:FnOk P w K mg base CX0 k f fd ps (spO K n g)):FnOk P w K mg base CX0 k f fd ps (spD K n fun ds=>(g ds).bind oD) :=
 F.imp fun vs H Q E h=>by
  obtain ⟨F,ds,d,s,r,hl,hg,k⟩:=h;obtain ⟨o,ho,hd⟩:=bind_some hg;exact ⟨F,ds,o,s,r,hl,ho,fun v F' H' A e q hA=>k v (aqrx F' H' A) H' (aZf e hA) (q.rep (avj fun b z=>(hA b z).1) hd fun b z=>axg z)⟩
end
theorem aqn0 {K:Frag} {g:List D->Option D} {H:Hp} {a:Addr} {ns:List Int} (h:g [.lst (ns.map .int)]=some (.bl true)) (hS:SqE K H a (ns.map V.int)):spD K 1 g [.ref a] H (fun v _=>v=.bl true) fun _ _ _=>False :=
 ⟨H,[.lst (ns.map .int)],.bl true,aqs2.refl _,.cons (.lst hS (aq4 ns)) .nil,rfl,h,fun v F' H' _ r=>by cases r; rfl⟩
theorem law_call {P:Aj} {w:World} {K:Frag} {mg mb:Str->Option Value} {CX:CXT} {k:Nat} {fa a:Addr} {fd:Ak} {x:Str} {sp:Sp} {s₁:Shared} {vs:List Value} {ns:List Int}
  (KX:K.In s₁.heap) (hns:s₁.heap.Ns Am mg) (hb:s₁.heap.Ns L7 mb) (hbb:∀ x:Str,x ≠ "__name__"->mb x=A7 x) (hlim:s₁.heap.NoLimit) (hg:s₁.gens=#[])
  (ha:s₁.heap.get? a=some { cls:=.type "list",data:=.seq vs.toArray }) (hi:IntsAre vs ns) (hl:ns.length <= Ag) (hr:Room k Hq)
  (F:∀ base:Heap,K.In base->base.Ns Am mg->FnOk P w K mg base CX k fa fd [x] sp) (hbind:∀ (s:Shared) (u:Value),Iu s fd ⟨[u],[]⟩ [(x,u)])
  (hsp:∀ H:Hp,SqE K H a (ns.map V.int)->sp [.ref a] H (fun v _=>v=.bl true) fun _ _ _=>False)
  (hCX:∀ H e s',CX [] H s₁ (fun _ _ _=>False) e s'->False) :
  Ds (model P w) Hq (.call (.ref fa) ⟨[.ref a],[]⟩) (fun r s'=>r=.ok (.ret (.bool true))/\OldK s₁.heap s'.heap/\s'.os=s₁.os/\Gx s'.gens) s₁:=by
 refine L2.law_call KX hns hb hbb hlim hg ha hi hl hr F hbind (fun H _ hS=>hsp H ?_) hCX;rcases hS with h | ⟨o,its,n,hk,hc,hd,hs,hz,r⟩
 ·exact .inl h
 ·have e:=KX a o hk
  rw [ha] at e;cases e;exact .inr ⟨vs,_,hk,by rw [length_map]; exact hl,awn hi⟩
theorem aqd0 {l:Hb} {n k:Nat} {q:Aj} {loose:List Str} {XP:(Str->Option Value)->Heap->Prop} {YP:World->Heap->Prop} {d:DefRec} {K:Params->Frag} {CX:World->CXT} {sp:World->Sp} {x:Str}
  (hn:l.most=some n) (hn2:n <= Ag) (hdf:d.params.defaults=[]) (hr:Room k Hq)
  (hY:∀ (w:World) (h:Heap),YP w h->(K w.params).In h)
  (F:∀ (w:World) (mg:Str->Option Value) (fa:Addr) (h:Heap),(K w.params).In h->h.Ns Am mg->mg d.name=some (.ref fa) ->
   ∃ fd:Ak,(∀ (s:Shared) (u:Value),Iu s fd ⟨[u],[]⟩ [(x,u)]) /\
    ∀ base:Heap,(K w.params).In base->base.Ns Am mg->FnOk l.prog w (K w.params) mg base (CX w) k fa fd [x] (sp w))
  (hsp:∀ (w:World) (H:Hp) (a:Addr) (ns:List Int),ns.length <= n->SqE (K w.params) H a (ns.map V.int)->sp w [.ref a] H (fun v _=>v=.bl true) fun _ _ _=>False)
  (hCX:∀ (w:World) (H:Hp) (s:Shared) (e:Value) (s':Shared),CX w [] H s (fun _ _ _=>False) e s'->False) :
  Lv q loose XP YP l.row.toRowW d [] (fun f vs=>PySem.call f vs):=by
 refine Att.attach_call hn hdf fun w s₀ s₁ mg mb fa o pm cd doc a vs ns G Y ho hd hcd hmg hobj hints hlen hg=>?_;have KX:=hY w _ Y;obtain ⟨fd,hb,hF⟩:=F w mg fa _ KX G.T.g hmg;exact law_call KX G.T.g G.T.b G.T.builtins G.T.nolimit hg hobj hints (le_trans hlen hn2) hr hF hb (fun H hS=>hsp w H a ns hlen hS) fun H e s'=>hCX w H s₁ e s'
def Fn (P:Aj) (w:World) (K:Frag) (mg:Str->Option Value) (base:Heap) (k:Nat) (x:Str) (ps:List Str) (sp:Sp):Prop :=
 ∃ f fd,FnOk P w K mg base CX0 k f fd ps sp/\mg x=some (.ref f)/\Ha K (.ref f)=true/\Binds K fd ps []
section
variable {X:Cx} {k n:Nat} {x:Str} {ps:List Str} {a:Expr} {es:List Expr} {p pos:Pos}
theorem aq3 {g:List D->Option D} {h:FA} (G:Fn X.prog X.w X.K X.mg X.base k x ps (spD X.K n g)) (hr:Room k X.A) (hg:Gl X x) (ha:DA X (a :: es) h)
  (hdb:(x == ("__debug__":Str))=false:=by decide) (he:Ap (a :: es) X.env=(false,eval a X.env) :: Ap es X.env:=by rfl) (hpl:(C2 pos (Ap es X.env)).any (·.1)=false:=by rfl) :
  DE X (.Call (.Name x p) (a :: es) [] pos) (aqs n g h):=by
 obtain ⟨f,fd,F,hm,hk,hb⟩:=G;exact aqkx F hr hg hm hk hb ha hdb he hpl
theorem aqb5 {g:List D->Option O} {h:FA} (G:Fn X.prog X.w X.K X.mg X.base k x ps (spO X.K n g)) (hr:Room k X.A) (hg:Gl X x) (ha:DA X (a :: es) h)
  (hdb:(x == ("__debug__":Str))=false:=by decide) (he:Ap (a :: es) X.env=(false,eval a X.env) :: Ap es X.env:=by rfl) (hpl:(C2 pos (Ap es X.env)).any (·.1)=false:=by rfl) :
  DO X (.Call (.Name x p) (a :: es) [] pos) (aV6 n g h):=by
 obtain ⟨f,fd,F,hm,hk,hb⟩:=G;exact aqku F hr hg hm hk hb ha hdb he hpl
end
theorem aqo7 {α:Type} (xs:List α) (i:Int):atP xs i=atI xs i:=rfl
theorem aqn6 {n j:Nat} {i:Int} (h:ixP n i=some j):j < n:=(aY1 h).2.1
inductive At (F H:Hp):V->List Stp->V->Prop
 | nil {v:V}:At F H v [] v
 | lst {a:Addr} {vs:List V} {i:Int} {n:Nat} {w v':V} {p:List Stp} (h:H a=some (.lst vs)) (hn:ixP vs.length i=some n) (hv:vs[n]?=some w) (t:At F H w p v'):At F H (.ref a) (.ix i :: p) v'
 | tup {a:Addr} {vs:List V} {i:Int} {n:Nat} {w v':V} {p:List Stp} (h:F a=some (.tup vs)) (hn:ixP vs.length i=some n) (hv:vs[n]?=some w) (t:At F H w p v'):At F H (.ref a) (.ix i :: p) v'
section
variable {K:Frag} {β:Bs} {F F' H H':Hp} {σ:St} {ρ:Cs}
theorem At.mono (sF:aqs2 F F') (sH:aqs2 H H') {v v':V} {p:List Stp} (h:At F H v p v'):At F' H' v p v':=by
 induction h with
 | nil=>exact .nil
 | lst h hn hv _ ih=>exact .lst (sH _ _ h) hn hv ih
 | tup h hn hv _ ih=>exact .tup (sF _ _ h) hn hv ih
theorem At.uniq (s:aqs2 F H) {v v1 v2:V} {p:List Stp} (h:At F H v p v1) (h':At F H v p v2):v1=v2:=by
 induction h with
 | nil=>cases h'; rfl
 | lst h hn hv _ ih =>
  cases h' with
  | lst g gn gv t =>
   rw [h] at g; cases g;rw [hn] at gn; cases gn;rw [hv] at gv; cases gv;exact ih t
  | tup g _ _ _=>have:=s _ _ g; rw [h] at this; cases this
 | tup h hn hv _ ih =>
  cases h' with
  | lst g _ _ _=>have:=s _ _ h; rw [g] at this; cases this
  | tup g gn gv t =>
   rw [h] at g; cases g;rw [hn] at gn; cases gn;rw [hv] at gv; cases gv;exact ih t
theorem At.snoc {v w v':V} {p:List Stp} {s:Stp} (h:At F H v p w) (h':At F H w [s] v'):At F H v (p++[s]) v':=by
 induction h with
 | nil=>exact h'
 | lst h hn hv _ ih=>exact .lst h hn hv (ih h')
 | tup h hn hv _ ih=>exact .tup h hn hv (ih h')
def putO (o':O) (p:List Stp) (o:O):Option O:=atO (fun _=>some o') p o
theorem Own.focus:∀ {p:List Stp} {v:V} {c o:O} {A:AS},Own K F H v c A->aqrg p c=some o ->
  ∃ (v':V) (A1 A2:AS),At F H v p v'/\Own K F H v' o A1/\(∀ b,A b ↔ A1 b \/ A2 b)/\(∀ b,A1 b->¬ A2 b) /\
   ∀ (F' H':Hp) (o':O) (A1':AS),aqs2 F F'->(∀ b,A2 b->H' b=H b)->Own K F' H' v' o' A1'->(∀ b,A1' b->¬ A2 b)->∃ c',putO o' p c=some c'/\Own K F' H' v c' fun b=>A1' b \/ A2 b
 | [],v,c,o,A,h,e=>by
  cases e;exact ⟨v,A,fun _=>False,.nil,h,fun b=>⟨.inl,fun z=>z.elim id Az⟩,fun _ _ z=>z,fun F' H' o' A1' _ _ q _=>⟨o',rfl,q.congr fun b=>⟨.inl,fun z=>z.elim id Az⟩⟩⟩
 | s :: p,v,c,o,A,h,e=>by
  have ex:∃ n k,plc c s=some n/\(kids c)[n]?=some k/\aqrg p k=some o:=by
   unfold aqrg at e;obtain ⟨n,hn,e⟩:=bind_some e;obtain ⟨k,hk,e⟩:=bind_some e;exact ⟨n,k,hn,hk,e⟩
  clear e;obtain ⟨n,k,hn,hk,e⟩:=ex;cases h with
  | sh _ _=>cases s <;> cases hn
  | lst h0 n0 r hA =>
   rename_i a vs os A';cases s with
   | fl x=>cases hn
   | ix i =>
    obtain ⟨w,B1,B2,h1,h2,h3,h4,h5⟩:=r.split (n:=n) (o:=k) hk;obtain ⟨v',A1,A2,g1,g2,g3,g4,g5⟩:=Own.focus (p:=p) h2 e;have hn':ixP vs.length i=some n:=by rw [r.length]; exact hn
    refine ⟨v',A1,fun b=>b=a \/ A2 b \/ B2 b,.lst h0 hn' h1 g1,g2,fun b=>?_,fun b x y=>?_,fun F' H' o' A1' sF kk q dd=>?_⟩
    ·rw [hA b,h3 b,g3 b]
     exact ⟨fun z=>z.elim (fun y=>.inr (.inl y)) fun y=>y.elim (fun x=>x.elim .inl fun w=>.inr (.inr (.inl w))) fun w=>.inr (.inr (.inr w)),fun z=>z.elim (fun y=>.inr (.inl (.inl y))) fun y=>y.elim .inl fun x=>x.elim (fun w=>.inr (.inl (.inr w))) fun w=>.inr (.inr w)⟩
    ·rcases y with rfl | y | y
     ·exact n0 ((h3 b).mpr (.inl ((g3 b).mpr (.inl x))))
     ·exact g4 b x y
     ·exact h4 b ((g3 b).mpr (.inl x)) y
    ·obtain ⟨c',e1,e2⟩:=g5 F' H' o' A1' sF (fun b z=>kk b (.inr (.inl z))) q fun b x y=>dd b x (.inr (.inl y))
     have e3:=h5 F' H' w c' (fun b=>A1' b \/ A2 b) sF (fun b z=>kk b (.inr (.inr z))) e2 fun b x y=>by
      rcases x with x | x
      ·exact dd b x (.inr (.inr y))
      ·exact h4 b ((g3 b).mpr (.inr x)) y
     have ev:vs.set n w=vs:=by
      apply Iy ; intro j
      by_cases hj:j=n
      ·subst hj
       rw [h1,getElem?_set_self (Ai.mp h1).1]
      ·rw [getElem?_set_ne (Bw hj)]
     rw [ev] at e3;refine ⟨.lst (os.set n c'),?_,.lst ((kk a (.inl rfl)).trans h0) (A':=fun b=>(A1' b \/ A2 b) \/ B2 b) ?_ e3 fun b=>?_⟩
     ·have:os[n]?=some k:=hk
      unfold putO at e1 ⊢;simp only [atO,hn,this,e1,Option.bind_some,Option.map_some,reset,kids]
     ·rintro ((z | z) | z)
      ·exact dd a z (.inl rfl)
      ·exact n0 ((h3 a).mpr (.inl ((g3 a).mpr (.inr z))))
      ·exact n0 ((h3 a).mpr (.inr z))
     ·exact ⟨fun z=>z.elim (fun y=>.inr (.inl (.inl y))) fun y=>y.elim .inl fun x=>x.elim (fun w=>.inr (.inl (.inr w))) fun w=>.inr (.inr w),fun z=>z.elim (fun y=>.inr (.inl y)) fun y=>y.elim (fun x=>x.elim .inl fun w=>.inr (.inr (.inl w))) fun w=>.inr (.inr (.inr w))⟩
  | tup h0 r =>
   rename_i a vs os;cases s with
   | fl x=>cases hn
   | ix i =>
    obtain ⟨w,B1,B2,h1,h2,h3,h4,h5⟩:=r.split (n:=n) (o:=k) hk;obtain ⟨v',A1,A2,g1,g2,g3,g4,g5⟩:=Own.focus (p:=p) h2 e;have hn':ixP vs.length i=some n:=by rw [r.length]; exact hn
    refine ⟨v',A1,fun b=>A2 b \/ B2 b,.tup h0 hn' h1 g1,g2,fun b=>?_,fun b x y=>?_,fun F' H' o' A1' sF kk q dd=>?_⟩
    ·rw [h3 b,g3 b,or_assoc]
    ·rcases y with y | y
     ·exact g4 b x y
     ·exact h4 b ((g3 b).mpr (.inl x)) y
    ·obtain ⟨c',e1,e2⟩:=g5 F' H' o' A1' sF (fun b z=>kk b (.inl z)) q fun b x y=>dd b x (.inl y)
     have e3:=h5 F' H' w c' (fun b=>A1' b \/ A2 b) sF (fun b z=>kk b (.inr z)) e2 fun b x y=>by
      rcases x with x | x
      ·exact dd b x (.inr y)
      ·exact h4 b ((g3 b).mpr (.inr x)) y
     have ev:vs.set n w=vs:=by
      apply Iy ; intro j
      by_cases hj:j=n
      ·subst hj
       rw [h1,getElem?_set_self (Ai.mp h1).1]
      ·rw [getElem?_set_ne (Bw hj)]
     rw [ev] at e3;refine ⟨.tup (os.set n c'),?_,.tup (sF _ _ h0) (e3.congr fun b=>or_assoc)⟩
     have:os[n]?=some k:=hk
     unfold putO at e1 ⊢;simp only [atO,hn,this,e1,Option.bind_some,Option.map_some,reset,kids]
theorem aQw {g:O->Option O}:∀ {p:List Stp} {c c':O},atO g p c=some c'->∃ o o',aqrg p c=some o/\g o=some o'/\putO o' p c=some c'
 | [],c,c',h=>⟨c,c',rfl,h,rfl⟩
 | s :: p,c,c',h=>by
  unfold atO at h;obtain ⟨n,hn,h⟩:=bind_some h;obtain ⟨k,hk,h⟩:=bind_some h;obtain ⟨k',h',rfl⟩:=map_some h;obtain ⟨o,o',e1,e2,e3⟩:=aQw h';refine ⟨o,o',by simp only [aqrg,hn,hk,Option.bind_some,e1],e2,?_⟩;unfold putO at e3 ⊢;simp only [atO,hn,hk,e3,Option.bind_some,Option.map_some]
theorem RT.frame {v:V} {o:O} (r:RT K β F H σ ρ v o):∃ B',RS K ⟨β.F₀,B',β.P,β.σ₀⟩ F H σ ρ/\∀ (F' H':Hp) (σ':St) (ρ':Cs),aqs2 F F'->RS K ⟨β.F₀,B',β.P,β.σ₀⟩ F' H' σ' ρ'->RT K β F' H' σ' ρ' v o:=by
 obtain ⟨A,T,⟨h1,h2,h3⟩,q,n,d⟩:=r.own;have hT:∀ b,T b->∃ u,H b=some u:=fun b z=>by obtain ⟨u,h,_⟩:=q.there b z; exact ⟨u,h⟩
 have e:=r.ext;refine ⟨aqrx β.B H T,⟨⟨e.ff,e.fh,aqb0 e.hh,fun b u z=>?_⟩,r.len,r.pin,A,h1,fun i b z=>?_,h3⟩,fun F' H' σ' ρ' sF r'=>⟨⟨r'.ext.ff,r'.ext.fh,fun b u z=>?_,fun b u z=>?_⟩,r'.len,r'.pin,?_⟩⟩
 ·rcases e.nw b u z with y | y
  ·exact .inl y
  ·refine .inr ((ajg fun t=>?_).trans y)
   rw [(n b t).1] at z; cases z
 ·obtain ⟨e1,e2,e3⟩:=h2 i b z
  exact ⟨e1,(ajg (d i b z)).trans e2,e3⟩
 ·refine r'.ext.hh b u ((ajg fun t=>?_).trans z)
  rw [(n b t).2] at z; cases z
 ·rcases r'.ext.nw b u z with y | y
  ·exact .inl y
  ·by_cases t:T b
   ·exact .inr (n b t).2
   ·have y':aqrx β.B H T b=none:=y
    rw [ajg t] at y'; exact .inr y'
 ·obtain ⟨A',g1,g2,g3⟩:=r'.own
  have nB:∀ b,T b->aqrx β.B H T b ≠ none:=fun b t z=>by
   rw [axg t] at z;obtain ⟨u,hu⟩:=hT b t;rw [hu] at z; cases z
  refine ⟨A',T,⟨g1,fun i b z=>?_,g3⟩,q.stay sF fun b t=>?_,fun b t=>⟨?_,(n b t).2⟩,fun i b x t=>nB b t (g2 i b x).2.1⟩
  ·obtain ⟨e1,e2,e3⟩:=g2 i b z
   refine ⟨e1,?_,e3⟩;have e2':aqrx β.B H T b=none:=e2;rw [ajg fun t=>nB b t e2'] at e2';exact e2'
  ·obtain ⟨u,hu⟩:=hT b t
   rw [hu];exact r'.ext.hh b u ((axg t).trans hu)
  ·cases z:F' b with
   | none=>rfl
   | some u =>
    exfalso;rcases r'.ext.nw b u z with y | y
    ·have:=e.ff b u y
     rw [(n b t).1] at this; cases this
    ·exact nB b t y
theorem RT.change {v1:V} {o1:O} (r:RT K β F H σ ρ v1 o1) {i:Nat} {c:O} (hc:ρ[i]?=some (some c)) {p:List Stp} {o:O} (ho:aqrg p c=some o) :
  ∃ (v0 v:V) (A1 T:AS),σ[i]?=some (some v0)/\At F H v0 p v/\Own K F H v o A1/\Own K F H v1 o1 T/\(∀ b,A1 b->¬ T b) /\
   ∀ (x:Addr) (u:HO) (A1':AS) (o' c':O),A1 x->(∀ b,A1' b->A1 b \/ T b)->Own K F (upd H x u) v o' A1'->putO o' p c=some c'->RS K β F (upd H x u) σ (ρ.set i (some c')):=by
 obtain ⟨A,T,⟨h1,h2,h3⟩,qT,hT,hd⟩:=r.own;obtain ⟨v0,e1,q⟩:=h1 i c hc;obtain ⟨v,A1,A2,g1,g2,g3,g4,g5⟩:=q.focus ho;refine ⟨v0,v,A1,T,e1,g1,g2,qT,fun b z=>hd i b ((g3 b).mpr (.inl z)),fun x u A1' o' c' hx hs q' hp=>?_⟩;have xi:A i x:=(g3 x).mpr (.inl hx);have xF:=h2 i x xi;have sH:∀ b w,b ≠ x->H b=some w->upd H x u b=some w:=fun b w ne e=>by rw [ah ne]; exact e
 obtain ⟨c2,f1,f2⟩:=g5 F (upd H x u) o' A1' (aqs2.refl _) (fun b z=>ah (by rintro rfl; exact g4 b hx z)) q' fun b z y=>by
  rcases hs b z with t | t
  ·exact g4 b t y
  ·exact hd i b ((g3 b).mpr (.inr y)) t
 rw [hp] at f1; cases f1;refine ⟨⟨r.ext.ff,fun b w e=>sH b w (ae e xF.1) (r.ext.fh b w e),fun b w e=>sH b w (ae e xF.2.1) (r.ext.hh b w e),r.ext.nw⟩,by simpa using r.len,r.pin,fun j b=>(j ≠ i/\A j b) \/ (j=i/\(A1' b \/ A2 b)),fun j o1 h=>?_,fun j b h=>?_,fun j k b a1 a2=>?_⟩
 ·rcases aY7 h with ⟨rfl,e,_⟩ | ⟨ne,h⟩
  ·cases e
   exact ⟨v0,e1,f2.congr fun b=>⟨fun z=>.inr ⟨rfl,z⟩,fun z=>z.elim (fun y=>absurd rfl y.1) (·.2)⟩⟩
  ·obtain ⟨v',k1,k2⟩:=h1 j o1 h
   refine ⟨v',k1,(k2.stay (aqs2.refl _) (H':=upd H x u) fun b z=>ah ?_).congr fun b=>⟨fun z=>.inl ⟨ne,z⟩,fun z=>z.elim (·.2) fun y=>absurd y.1 ne⟩⟩;rintro rfl;exact ne (h3 j i b z xi)
 ·rcases h with ⟨ne,h⟩ | ⟨rfl,h⟩
  ·obtain ⟨k1,k2,o1,k3⟩:=h2 j b h
   exact ⟨k1,k2,o1,by rw [getElem?_set_ne (Bw ne)]; exact k3⟩
  ·have hb:F b=none/\β.B b=none:=by
    rcases h with h | h
    ·rcases hs b h with t | t
     ·exact ⟨(h2 j b ((g3 b).mpr (.inl t))).1,(h2 j b ((g3 b).mpr (.inl t))).2.1⟩
     ·exact hT b t
    ·exact ⟨(h2 j b ((g3 b).mpr (.inr h))).1,(h2 j b ((g3 b).mpr (.inr h))).2.1⟩
   exact ⟨hb.1,hb.2,c',getElem?_set_self (Ai.mp hc).1⟩
 ·have key:∀ {j b},j ≠ i->A j b->¬ (A1' b \/ A2 b):=fun {j b} ne h z=>by
   rcases z with z | z
   ·rcases hs b z with t | t
    ·exact ne (h3 j i b h ((g3 b).mpr (.inl t)))
    ·exact hd j b h t
   ·exact ne (h3 j i b h ((g3 b).mpr (.inr z)))
  rcases a1 with ⟨n1,a1⟩ | ⟨rfl,a1⟩ <;> rcases a2 with ⟨n2,a2⟩ | ⟨rfl,a2⟩
  ·exact h3 j k b a1 a2
  ·exact absurd a2 (key n1 a1)
  ·exact absurd a1 (key n2 a2)
  ·rfl
end
def tP (K:Frag) (i:Nat) (S:List Bool) (p:FP):TE:=fun σ H Q=>∃ β F ρ q c o,RS K β F H σ ρ/\p (frz S ρ)=some q/\ρ[i]?=some (some c)/\aqrg q c=some o /\
 ∀ v0 v F' H',σ[i]?=some (some v0)->aqs2 F F'->aqs2 H H'->RS K β F' H' σ ρ->At F' H' v0 q v->Q v H'
def DP (X:Cx) (e:Expr) (i:Nat) (S:List Bool) (p:FP):Prop:=PE X e (tP X.K i S p)
section
variable {X:Cx} {e k:Expr} {pos:Pos} {i:Nat} {S:List Bool} {p:FP}
theorem aJl {x:Str} (h:PE X (.Name x pos) (aqqv i)):DP X (.Name x pos) i S pNil:=by
 refine PE.imp h fun σ H Q q=>?_;obtain ⟨β,F,ρ,q,c,o,r,hq,hc,ho,k⟩:=q;cases hq;obtain ⟨A,h1,_⟩:=r.own;obtain ⟨v,e1,_⟩:=h1 i c hc;exact ⟨v,e1,k v v F H e1 (aqs2.refl _) (aqs2.refl _) r .nil⟩
theorem at_of {K:Frag} {β:Bs} {F H F' H':Hp} {σ:St} {ρ:Cs} {v v1:V} {o1 c o:O} {v0:V} {q:List Stp} (rt:RT K β F' H' σ ρ v1 o1) (hc:ρ[i]?=some (some c)) (ho:aqrg q c=some o) (e0:σ[i]?=some (some v0)) (sF:aqs2 F F') (sH:aqs2 H H') (h:At F H v0 q v) :
  ∃ (A1 T:AS),Own K F' H' v o A1/\Own K F' H' v1 o1 T/\(∀ b,A1 b->¬ T b)/\∀ (x:Addr) (u:HO) (A1':AS) (o' c':O),A1 x->(∀ b,A1' b->A1 b \/ T b)->Own K F' (upd H' x u) v o' A1'->putO o' q c=some c'->RS K β F' (upd H' x u) σ (ρ.set i (some c')):=by
 obtain ⟨v0',v',A1,T,e1,a1,q1,q2,d,k⟩:=rt.change hc ho;rw [e0] at e1; cases e1
 have:=(h.mono sF sH).uniq rt.ext.fh a1
 subst this;exact ⟨A1,T,q1,q2,d,k⟩
theorem some_of {c:Option (Option O)} {o:O} (h:c.bind id=some o):c=some (some o):=by
 cases c with
 | none=>cases h
 | some c=>cases c with
  | none=>cases h
  | some o'=>cases h; rfl
theorem aqh3 {f:FM} {st:Stmt} (hp:PS X st (tDrop (tBM X.K "list" aqde (tP X.K i S p) (ako (tM X.K f) aqqw)))):DS X st [] (bMut i S p f gApp):=by
 refine PS.imp hp fun E σ H z=>?_;obtain ⟨β,F,ρ,o,r,hw,h,k⟩:=z;obtain ⟨q,hq,h⟩:=bind_some h;obtain ⟨c0,hc0,h⟩:=bind_some h;have hc0:=some_of hc0;obtain ⟨m0,ho0',h⟩:=bind_some h;split at h
 ·rename_i hm0
  obtain ⟨os0,rfl⟩:∃ os0,m0=.lst os0:=by cases m0 <;> first | exact ⟨_,rfl⟩ | cases hm0
  have ho0:=ho0';obtain ⟨rr,hf,h⟩:=bind_some h;obtain ⟨c1,hc1,h⟩:=bind_some h;obtain ⟨c',hc',rfl⟩:=map_some h;obtain ⟨m,m',g1,g2,g3⟩:=aQw hc';have hc1:=some_of hc1;refine ⟨β,F,ρ,q,c0,.lst os0,r,hq,hc0,ho0,fun v0 v F1 H1 e0 s1 s2 r1 at1=>⟨?_,β,F1,ρ,rr,r1,hf,fun w F2 H2 sF sH rt=>?_⟩⟩
  ·obtain ⟨A,h1,_⟩:=r1.own
   obtain ⟨v0',e0',qq⟩:=h1 i c0 hc0;rw [e0] at e0'; cases e0';obtain ⟨v',Aa,Ab,a1,a2,a3⟩:=qq.focus ho0
   have:=at1.uniq r1.ext.fh a1
   subst this;cases a2 with
   | lst h0 _ _ _=>exact .inl ⟨rfl,_,SqL.of h0⟩
  ·obtain ⟨A1,T,q1,q2,d,fin⟩:=at_of rt hc1 g1 e0 sF sH at1
   unfold gApp at g2;split at g2
   ·rename_i os
    split at g2
    ·rename_i hlen
     cases g2;cases q1 with
     | lst h0 n0 rv hA =>
      rename_i a vs A';have nT:¬ T a:=d a ((hA a).mpr (.inl rfl));refine ⟨a,vs,w,rfl,rfl,h0,by rw [rv.length]; exact lt_of_lt_of_le hlen (axp (le_refl _)),?_⟩;refine k F2 _ σ (fin a _ (fun b=>b=a \/ (A' b \/ T b)) _ c' ((hA a).mpr (.inl rfl)) (fun b z=>?_) (.lst ac (A':=fun b=>A' b \/ T b) (fun z=>z.elim n0 nT) ?_ fun _=>M4) g3)
      ·rcases z with z | z | z
       ·exact .inl ((hA b).mpr (.inl z))
       ·exact .inl ((hA b).mpr (.inr z))
       ·exact .inr z
      ·refine (rv.stay (aqs2.refl _) (H':=upd H2 a (.lst (vs++[w]))) fun b z=>ah (by rintro rfl; exact n0 z)).append (.cons (q2.stay (aqs2.refl _) (H':=upd H2 a (.lst (vs++[w]))) fun b z=>ah (by rintro rfl; exact nT z)) (.nil (A:=fun _=>False) fun _ z=>z) (fun _ _ z=>z) fun b=>⟨.inl,fun z=>z.elim id Az⟩) fun b z y=>?_
       exact d b ((hA b).mpr (.inr z)) y
    ·cases g2
   ·cases g2
 ·cases h
theorem aqnp {kx:FE} {f:FM} {st:Stmt} (hp:PS X st (tAsg (tM X.K f) (gSub (tP X.K i S p) (tD X.K kx) rSetL))):DS X st [] (bPut i S p kx f):=by
 refine PS.imp hp fun E σ H z=>?_;obtain ⟨β,F,ρ,o,r,hw,h,k⟩:=z;obtain ⟨rr,hf,ha⟩:=bind_some h;obtain ⟨q,hq,hb⟩:=bind_some ha;obtain ⟨dk,hdk,hc⟩:=bind_some hb;obtain ⟨c0,hc0',hd⟩:=bind_some hc;have hc0:=some_of hc0';clear h ha hb hc hc0';have h:=hd;clear hd;split at h
 ·rename_i j
  obtain ⟨c',hc',rfl⟩:=map_some h;obtain ⟨m,m',g1,g2,g3⟩:=aQw hc';refine ⟨β,F,ρ,rr,r,hf,fun w F1 H1 _ _ rt=>?_⟩;obtain ⟨B',rs,back⟩:=rt.frame;refine ⟨_,F1,rr.2,q,c0,m,rs,hq,hc0,g1,fun v0 v F2 H2 e0 s1 s2 r2 at2=>?_⟩;obtain ⟨G,l,re,rz⟩:=r2.look S;refine ⟨G,frz S rr.2,_,l.gh,re,hdk,fun y F3 H3 e3 q3=>?_⟩;cases q3;have r3:=r2.back l e3;have rt3:=back _ H3 σ rr.2 (s1.trans aqy) r3;obtain ⟨A1,T,q1,q2,d,fin⟩:=at_of rt3 hc0 g1 e0 (aqy (F:=F2) (H:=H2) (F':=F3)) e3.hh at2;unfold gSetI at g2;split at g2
  ·rename_i os
   obtain ⟨n,hn,rfl⟩:=map_some g2;cases q1 with
   | lst h0 n0 rv hA =>
    rename_i a vs A';have nT:¬ T a:=d a ((hA a).mpr (.inl rfl));have hn':ixP vs.length j=some n:=by rw [rv.length]; exact hn
    have hlt:n < os.length:=aqn6 hn;obtain ⟨w0,B1,B2,b1,b2,b3,b4,b5⟩:=rv.split (n:=n) (o:=os[n]) (getElem?_eq_getElem hlt);refine ⟨a,vs,j,n,rfl,rfl,h0,hn',?_⟩;have own':=b5 (azl F2 H2 F3) (upd H3 a (.lst (vs.set n w))) w rr.1 T (aqs2.refl _) (fun b z=>ah (by rintro rfl; exact n0 ((b3 b).mpr (.inr z)))) (q2.stay (aqs2.refl _) fun b z=>ah (by rintro rfl; exact nT z)) fun b z y=>d b ((hA b).mpr (.inr ((b3 b).mpr (.inr y)))) z;refine k (azl F2 H2 F3) _ σ (fin a _ (fun b=>b=a \/ (T b \/ B2 b)) _ c' ((hA a).mpr (.inl rfl)) (fun b z=>?_) (.lst ac (A':=fun b=>T b \/ B2 b) ?_ own' fun _=>M4) g3)
    ·rcases z with z | z | z
     ·exact .inl ((hA b).mpr (.inl z))
     ·exact .inr z
     ·exact .inl ((hA b).mpr (.inr ((b3 b).mpr (.inr z))))
    ·rintro (z | z)
     ·exact nT z
     ·exact n0 ((b3 a).mpr (.inr z))
  ·cases g2
 ·cases h
end
end DL
namespace DL
open PySem PySem.Spec PyProof.Rows L2 PySem.SeqAt
theorem aqkz {g:Int->Int->Int} {x y d:D} (h:dI g x y=some d):∃ i j,x=.int i/\y=.int j/\d=.int (g i j):=by
 unfold dI at h;split at h
 ·cases h; exact ⟨_,_,rfl,rfl,rfl⟩
 ·cases h
theorem aql0 {g:Int->Int->Bool} {x y d:D} (h:dB g x y=some d):∃ i j,x=.int i/\y=.int j/\d=.bl (g i j):=by
 unfold dB at h;split at h
 ·cases h; exact ⟨_,_,rfl,rfl,rfl⟩
 ·cases h
section
variable {K:Frag} {X:Cx}
theorem aqml {g:Int->Int->Int}:OpD K (rI0 fun i j=>.int (g i j)) (dI g):=by
 intro x y d F H v u Q h s rx ry k;obtain ⟨i,j,rfl,rfl,rfl⟩:=aqkz h;cases rx; cases ry;exact ⟨i,j,rfl,rfl,k _ F H (Ext.refl s) (.int _)⟩
theorem aqfo {g:Int->Int->Bool}:OpD K (rI0 fun i j=>.bl (g i j)) (dB g):=by
 intro x y d F H v u Q h s rx ry k;obtain ⟨i,j,rfl,rfl,rfl⟩:=aql0 h;cases rx; cases ry;exact ⟨i,j,rfl,rfl,k _ F H (Ext.refl s) (.bl _)⟩
def rAddD:R2:=fun x y H Q=>(∃ i j,x=.int i/\y=.int j/\Q (.int (i + j)) H) \/ ∃ i j,x=.str i/\y=.str j/\i.length + j.length <= Ag/\Q (.str (i++j)) H
theorem aZy:OpR X (Dr .Add) rAddD:=OpR.or aw9 avx
theorem aZt:OpD K rAddD dAdd:=by
 intro x y d F H v u Q h s rx ry k;unfold dAdd at h;split at h
 ·cases h; cases rx; cases ry
  exact .inl ⟨_,_,rfl,rfl,k _ F H (Ext.refl s) (.int _)⟩
 ·split at h
  ·rename_i hl
   cases h; cases rx; cases ry;exact .inr ⟨_,_,rfl,rfl,axp hl,k _ F H (Ext.refl s) (.str _)⟩
  ·cases h
 ·cases h
theorem aZq:OpD K (rI0 fun i j=>.int (i - j)) dSub:=aqml
theorem aqbt:OpD K (rI0 fun i j=>.bl (decide (i < j))) dLt:=aqfo
theorem aqiz:OpD K (rI0 fun i j=>.bl (decide (i <= j))) dLe:=aqfo
theorem aqj0:OpD K (rI0 fun i j=>.bl (decide (j <= i))) dGe:=aqfo
theorem aqe9 {i:Int} (h:i.natAbs < BIG):Lo i <= 1000001:=by
 unfold BIG at h;exact Nat.le_succ_of_le (intBits_le_iff.mpr h)
theorem aJr {i:Int} (h:i.natAbs < SHORT):Lo i <= 64:=by
 unfold SHORT at h;exact Nat.le_succ_of_le (intBits_le_iff.mpr h)
theorem aqg6 {i j:Int} (h:aqg7 i j):IntMulOk i j:=by
 rcases h with h | h | h
 ·exact IntMulOk.of_le (aqe9 h.1) (aqe9 h.2) (by decide)
 ·exact IntMulOk.of_left (aJr h)
 ·exact IntMulOk.of_right (aJr h)
theorem aJ:OpR X (Dr .Mult) (rI aqg7 fun i j=>.int (i * j)) :=
 opI fun i j _ _ _ _ _ hc q=>mul_int q (aqg6 hc)
theorem aZw:OpR X (Dr .FloorDiv) (rI (fun i j=>j ≠ 0/\j.natAbs < BIGD) fun i j=>.int (i.fdiv j)) :=
 opI fun i j _ _ _ _ _ hc q=>floordiv_int hc.1 q (.inl (PyProof.noPylong_of_log2 (by
  have h:=hc.2;unfold BIGD at h
  by_cases hz:j.natAbs=0
  ·rw [hz]; decide
  ·exact (Nat.log2_lt hz).mpr h)))
theorem aI:OpD K (rI aqg7 fun i j=>.int (i * j)) aqrm:=by
 intro x y d F H v u Q h s rx ry k;unfold aqrm at h;split at h
 ·split at h
  ·rename_i hc
   cases h; cases rx; cases ry;exact ⟨_,_,rfl,rfl,hc,k _ F H (Ext.refl s) (.int _)⟩
  ·cases h
 ·cases h
theorem aZs:OpD K (rI (fun i j=>j ≠ 0/\j.natAbs < BIGD) fun i j=>.int (i.fdiv j)) aqro:=by
 intro x y d F H v u Q h s rx ry k;unfold aqro at h;split at h
 ·split at h
  ·rename_i hc
   cases h; cases rx; cases ry;exact ⟨_,_,rfl,rfl,hc,k _ F H (Ext.refl s) (.int _)⟩
  ·cases h
 ·cases h
theorem aYc:OpD K (rI (fun _ j=>j ≠ 0) fun i j=>.int (i.fmod j)) dMod:=by
 intro x y d F H v u Q h s rx ry k;unfold dMod at h;split at h
 ·split at h
  ·rename_i hc
   cases h; cases rx; cases ry;exact ⟨_,_,rfl,rfl,hc,k _ F H (Ext.refl s) (.int _)⟩
  ·cases h
 ·cases h
theorem aqd1:UnD K (rU fun i=>.int (-i)) dNeg:=by
 intro x d F H v Q h s rx k;unfold dNeg at h;split at h
 ·cases h; cases rx
  exact ⟨_,rfl,k _ F H (Ext.refl s) (.int _)⟩
 ·cases h
mutual
def toP:D->PyData
 | .non=>.none
 | .bl b=>.bool b
 | .int i=>.int i
 | .str x=>.str x
 | .lst ds=>.list (aqqu ds)
 | .tup ds=>.tuple (aqqu ds)
def aqqu:List D->List PyData
 | []=>[]
 | d :: ds=>toP d :: aqqu ds
end
mutual
theorem aqdx:∀ {n:Nat} {d:D},shp n d=true->(toP d).canLay0=true/\(toP d).depth <= n
 | n,.non,_=>by simp [toP,E4,PyData.depth]
 | n,.bl _,_=>by simp [toP,E4,PyData.depth]
 | n,.int _,_=>by simp [toP,E4,PyData.depth]
 | n,.str x,h=>by
  refine ⟨?_,by simp [toP,PyData.depth]⟩;unfold shp at h;simpa [toP,E4,PyData.strOk] using h
 | 0,.lst _,h=>by simp [shp] at h
 | n + 1,.lst xs,h=>by
  obtain ⟨h1,h2⟩:=ax3 (n:=n) (ds:=xs) (by simpa [shp] using h);exact ⟨by simpa [toP,E4] using h1,by simpa [toP,PyData.depth] using h2⟩
 | 0,.tup _,h=>by simp [shp] at h
 | n + 1,.tup xs,h=>by
  obtain ⟨h1,h2⟩:=ax3 (n:=n) (ds:=xs) (by simpa [shp] using h);exact ⟨by simpa [toP,E4] using h1,by simpa [toP,PyData.depth] using h2⟩
theorem ax3:∀ {n:Nat} {ds:List D},aqqx n ds=true->Iz (aqqu ds)=true/\Kb (aqqu ds) <= n
 | n,[],_=>by simp [aqqu,Iz,Kb]
 | n,d :: ds,h=>by
  have h':shp n d=true/\aqqx n ds=true:=by simpa [aqqx] using h
  obtain ⟨a1,a2⟩:=aqdx h'.1;obtain ⟨b1,b2⟩:=ax3 h'.2;exact ⟨by simp [aqqu,Iz,a1,b1],by simp [aqqu,Kb]; omega⟩
end
theorem aY {d:D} (h:shp 20 d=true):SeqAt.shaped (toP d)=true:=by
 obtain ⟨h1,h2⟩:=aqdx h;unfold SeqAt.shaped;simp [h1]; omega
mutual
theorem aVa:∀ {n m:Nat} {x y:D},shp n x=true->shp m y=true->Gu (toP x) (toP y)=eqD x y
 | n,m,x,y,hx,hy=>by
  cases x with
  | lst xs =>
   cases y with
   | lst ys =>
    cases n with
    | zero=>simp [shp] at hx
    | succ n=>cases m with
     | zero=>simp [shp] at hy
     | succ m =>
      simp only [toP,Gu,eqD];exact aXy (n:=n) (m:=m) (by simpa [shp] using hx) (by simpa [shp] using hy)
   | _=>simp [toP,Gu,eqD]
  | tup xs =>
   cases y with
   | tup ys =>
    cases n with
    | zero=>simp [shp] at hx
    | succ n=>cases m with
     | zero=>simp [shp] at hy
     | succ m =>
      simp only [toP,Gu,eqD];exact aXy (n:=n) (m:=m) (by simpa [shp] using hx) (by simpa [shp] using hy)
   | _=>simp [toP,Gu,eqD]
  | _ =>
   cases y with
   | _=>simp [toP,Gu,eqD]
theorem aXy:∀ {n m:Nat} {xs ys:List D},aqqx n xs=true->aqqx m ys=true->Gy (aqqu xs) (aqqu ys)=aqrl xs ys
 | n,m,[],[],_,_=>by simp [aqqu,Gy,aqrl]
 | n,m,[],_ :: _,_,_=>by simp [aqqu,Gy,aqrl]
 | n,m,_ :: _,[],_,_=>by simp [aqqu,Gy,aqrl]
 | n,m,x :: xs,y :: ys,hx,hy=>by
  have hx':shp n x=true/\aqqx n xs=true:=by simpa [aqqx] using hx
  have hy':shp m y=true/\aqqx m ys=true:=by simpa [aqqx] using hy
  simp only [aqqu,Gy,aqrl];rw [aVa hx'.1 hy'.1,aXy hx'.2 hy'.2]
end
def rEqD (K:Frag) (neg:Bool):R2:=fun x y H Q=>∃ F dx dy,aqs2 F H/\Rep K F x dx/\Rep K F y dy/\shp 20 dx=true/\shp 20 dy=true/\Q (.bl (if neg=true then !eqD dx dy else eqD dx dy)) H
variable {pins:List (Addr × Obj)} {σ:L2.St} {H F:Hp} {s:Shared}
theorem aZn (I:Inv X pins σ H s) (e:aqs2 F H):(∀ {v:V} {d:D},Rep X.K F v d->∀ {n:Nat},shp n d=true->∀ {u:Value},aqs3 v u->∃ as,Reads s.heap u (toP d) as)/\∀ {vs:List V} {ds:List D},Reps X.K F vs ds->∀ {n:Nat},aqqx n ds=true->∀ {us:List Value},aqs0 vs us->∃ as,N1 s.heap us (aqqu ds) as:=by
 refine ⟨@Rep.rec X.K F (fun v d _=>∀ {n:Nat},shp n d=true->∀ {u:Value},aqs3 v u->∃ as,Reads s.heap u (toP d) as) (fun v d _=>∀ {n:Nat},aqqx n d=true->∀ {us:List Value},aqs0 v us->∃ as,N1 s.heap us (aqqu d) as) ?n ?b ?i ?s ?l ?t ?m ?c,@Reps.rec X.K F (fun v d _=>∀ {n:Nat},shp n d=true->∀ {u:Value},aqs3 v u->∃ as,Reads s.heap u (toP d) as) (fun v d _=>∀ {n:Nat},aqqx n d=true->∀ {us:List Value},aqs0 v us->∃ as,N1 s.heap us (aqqu d) as) ?n ?b ?i ?s ?l ?t ?m ?c⟩
 case n=>intro n _ u r; cases r; exact ⟨_,.none⟩
 case b=>intro b n _ u r; cases r; exact ⟨_,.bool b⟩
 case i=>intro i n _ u r; obtain ⟨t,rfl⟩:=r; exact ⟨_,.int i t⟩
 case s=>intro x n _ u r; obtain ⟨t,rfl⟩:=r; exact ⟨_,.str x t⟩
 case l =>
  intro a vs ds h q ih n hs u r;cases n with
  | zero=>simp [shp] at hs
  | succ n =>
   cases r;obtain ⟨its,_,rv,h1,_⟩:=Inv.listE I (aqqy e h);obtain ⟨as,z⟩:=ih (n:=n) (by simpa [shp] using hs) rv;exact ⟨_,.list h1 rfl rfl (by simpa using z)⟩
 case t =>
  intro a vs ds h q ih n hs u r;cases n with
  | zero=>simp [shp] at hs
  | succ n =>
   cases r;obtain ⟨its,rv,⟨o,h1,h2,_,h3⟩,_⟩:=I.tuple (seqT e h);obtain ⟨as,z⟩:=ih (n:=n) (by simpa [shp] using hs) rv;exact ⟨_,.tuple h1 h2 h3 (by simpa using z)⟩
 case m=>intro n _ us r; cases r; exact ⟨_,.nil⟩
 case c =>
  intro v d vs ds h q ih it n hs us r;cases r with
  | cons r1 r2 =>
   have hs':shp n d=true/\aqqx n ds=true:=by simpa [aqqx] using hs
   obtain ⟨as,z⟩:=ih hs'.1 r1;obtain ⟨bs,z2⟩:=it hs'.2 r2;exact ⟨_,.cons z z2⟩
theorem Rep.reads (I:Inv X pins σ H s) (e:aqs2 F H) {v:V} {d:D} {n:Nat} (h:Rep X.K F v d) (hs:shp n d=true) {u:Value} (r:aqs3 v u):∃ as,Reads s.heap u (toP d) as:=(aZn I e).1 h hs r
theorem Reps.reads (I:Inv X pins σ H s) (e:aqs2 F H) {vs:List V} {ds:List D} {n:Nat} (h:Reps X.K F vs ds) (hs:aqqx n ds=true) {us:List Value} (r:aqs0 vs us):∃ as,N1 s.heap us (aqqu ds) as:=(aZn I e).2 h hs r
theorem aw8 (hu:X.A.units + 64 < cLine):OpR X (Bn .Eq) (rEqD X.K false):=by
 intro pins s σ H x y v u Q I rx ry h;obtain ⟨F,dx,dy,e,r1,r2,h1,h2,q⟩:=h;obtain ⟨as,z1⟩:=r1.reads I e h1 rx;obtain ⟨bs,z2⟩:=r2.reads I e h2 ry;exact eq_dataH z1 z2 (aY h1) (aY h2) hu (by rw [aVa h1 h2]; exact ⟨.bl _,H,I,rfl,q⟩)
theorem aYg (hu:X.A.units + 64 < cLine):OpR X (Bn .NotEq) (rEqD X.K true):=by
 intro pins s σ H x y v u Q I rx ry h;obtain ⟨F,dx,dy,e,r1,r2,h1,h2,q⟩:=h;obtain ⟨as,z1⟩:=r1.reads I e h1 rx;obtain ⟨bs,z2⟩:=r2.reads I e h2 ry;exact ne_dataH z1 z2 (aY h1) (aY h2) hu (by rw [aVa h1 h2]; exact ⟨.bl _,H,I,rfl,q⟩)
theorem aYe:OpD K (rEqD K false) dEq:=by
 intro x y d F H v u Q h s rx ry k;unfold dEq at h;split at h
 ·rename_i hc
  cases h;exact ⟨F,x,y,s,rx,ry,hc.1,hc.2,k _ F H (Ext.refl s) (.bl _)⟩
 ·cases h
theorem aqmi:OpD K (rEqD K true) dNe:=by
 intro x y d F H v u Q h s rx ry k;unfold dNe at h;split at h
 ·rename_i hc
  cases h;exact ⟨F,x,y,s,rx,ry,hc.1,hc.2,k _ F H (Ext.refl s) (.bl _)⟩
 ·cases h
theorem akm {n m:Nat} {x:D} (hx:shp n x=true):∀ {ds:List D},aqqx m ds=true->(aqqu ds).any (fun y=>Gu y (toP x))=ds.any fun y=>eqD y x
 | [],_=>by simp [aqqu]
 | d :: ds,h=>by
  have h':shp m d=true/\aqqx m ds=true:=by simpa [aqqx] using h
  simp only [aqqu,any_cons];rw [aVa h'.1 hx,akm hx h'.2]
def rInD (K:Frag) (neg:Bool):R2:=fun x y H Q=>∃ F dx ds b,aqs2 F H/\Rep K F x dx/\Rep K F y (if b=true then .tup ds else .lst ds)/\shp 20 dx=true/\shp 20 (if b=true then D.tup ds else .lst ds)=true/\Q (.bl (if neg=true then !(ds.any fun y=>eqD y dx) else ds.any fun y=>eqD y dx)) H
theorem aXj (hu:X.A.units + 64 + 1 < cLine):OpR X (Bn .In) (rInD X.K false):=by
 intro pins s σ H x y v u Q I rx ry h;obtain ⟨F,dx,ds,b,e,r1,r2,h1,h2,q⟩:=h;obtain ⟨as,z1⟩:=r1.reads I e h1 rx;obtain ⟨bs,z2⟩:=r2.reads I e h2 ry;cases b with
 | false =>
  have h2':aqqx 19 ds=true:=by simpa [shp] using h2
  have z2':Reads s.heap u (.list (aqqu ds)) bs:=by simpa [toP] using z2
  exact in_list_reads z2' z1 (ax3 h2').1 (Ee (aY h1)) (Ic (aY h1) (by omega)) (by rw [akm h1 h2']; exact ⟨.bl _,H,I,rfl,q⟩)
 | true =>
  have h2':aqqx 19 ds=true:=by simpa [shp] using h2
  have z2':Reads s.heap u (.tuple (aqqu ds)) bs:=by simpa [toP] using z2
  exact in_tuple_reads z2' z1 (ax3 h2').1 (Ee (aY h1)) (Ic (aY h1) (by omega)) (by rw [akm h1 h2']; exact ⟨.bl _,H,I,rfl,q⟩)
theorem aZu (hu:X.A.units + 64 + 1 < cLine):OpR X (Bn .NotIn) (rInD X.K true):=by
 intro pins s σ H x y v u Q I rx ry h;obtain ⟨F,dx,ds,b,e,r1,r2,h1,h2,q⟩:=h;obtain ⟨as,z1⟩:=r1.reads I e h1 rx;obtain ⟨bs,z2⟩:=r2.reads I e h2 ry;cases b with
 | false =>
  have h2':aqqx 19 ds=true:=by simpa [shp] using h2
  have z2':Reads s.heap u (.list (aqqu ds)) bs:=by simpa [toP] using z2
  exact notIn_list_reads z2' z1 (ax3 h2').1 (Ee (aY h1)) (Ic (aY h1) (by omega)) (by rw [akm h1 h2']; exact ⟨.bl _,H,I,rfl,q⟩)
 | true =>
  have h2':aqqx 19 ds=true:=by simpa [shp] using h2
  have z2':Reads s.heap u (.tuple (aqqu ds)) bs:=by simpa [toP] using z2
  exact notIn_tuple_reads z2' z1 (ax3 h2').1 (Ee (aY h1)) (Ic (aY h1) (by omega)) (by rw [akm h1 h2']; exact ⟨.bl _,H,I,rfl,q⟩)
theorem aqbu:OpD K (rInD K false) dIn:=by
 intro x y d F H v u Q h s rx ry k;unfold dIn at h;split at h
 ·split at h
  ·rename_i hc
   cases h;exact ⟨F,_,_,false,s,rx,ry,hc.1,hc.2,k _ F H (Ext.refl s) (.bl _)⟩
  ·cases h
 ·split at h
  ·rename_i hc
   cases h;exact ⟨F,_,_,true,s,rx,ry,hc.1,hc.2,k _ F H (Ext.refl s) (.bl _)⟩
  ·cases h
 ·cases h
theorem aZr:OpD K (rInD K true) avc:=by
 intro x y d F H v u Q h s rx ry k;unfold avc at h;split at h
 ·split at h
  ·rename_i hc
   cases h;exact ⟨F,_,_,false,s,rx,ry,hc.1,hc.2,k _ F H (Ext.refl s) (.bl _)⟩
  ·cases h
 ·split at h
  ·rename_i hc
   cases h;exact ⟨F,_,_,true,s,rx,ry,hc.1,hc.2,k _ F H (Ext.refl s) (.bl _)⟩
  ·cases h
 ·cases h
def rIsB:R2:=fun x y H Q=>(∃ a b,x=.bl a/\y=.bl b/\Q (.bl (a == b)) H) \/ (y=.non/\Q (.bl (decide (x=.non))) H)
def rIsNB:R2:=fun x y H Q=>(∃ a b,x=.bl a/\y=.bl b/\Q (.bl (a != b)) H) \/ (y=.non/\Q (.bl (!decide (x=.non))) H)
theorem aqmm:OpR X (Bn .Is) rIsB:=by
 intro pins s σ H x y v u Q I rx ry h;rcases h with ⟨a,b,rfl,rfl,q⟩ | h
 ·cases rx; cases ry
  exact is_bool ⟨.bl _,H,I,rfl,q⟩
 ·exact aqj3 pins s σ H x y v u Q I rx ry h
theorem aZv:OpR X (Bn .IsNot) rIsNB:=by
 intro pins s σ H x y v u Q I rx ry h;rcases h with ⟨a,b,rfl,rfl,q⟩ | h
 ·cases rx; cases ry
  exact isnot_bool ⟨.bl _,H,I,rfl,q⟩
 ·exact aqj1 pins s σ H x y v u Q I rx ry h
theorem aqdd {v:V} {d:D} (r:Rep K F v d):decide (v=.non)=(match d with | .non=>true | _=>false):=by
 cases r <;> simp
theorem aqmk:OpD K rIsB dIs:=by
 intro x y d F H v u Q h s rx ry k;unfold dIs at h;split at h
 ·cases h; cases rx; cases ry
  exact .inl ⟨_,_,rfl,rfl,k _ F H (Ext.refl s) (.bl _)⟩
 ·cases ry
  refine .inr ⟨rfl,?_⟩;rw [aqdd rx];split at h
  ·cases h; exact k _ F H (Ext.refl s) (.bl _)
  ·rename_i hx
   cases h;cases x with
   | non=>exact absurd rfl hx
   | _=>exact k _ F H (Ext.refl s) (.bl _)
 ·cases h
theorem aYd:OpD K rIsNB dIsN:=by
 intro x y d F H v u Q h s rx ry k;unfold dIsN at h;split at h
 ·cases h; cases rx; cases ry
  exact .inl ⟨_,_,rfl,rfl,k _ F H (Ext.refl s) (.bl _)⟩
 ·cases ry
  refine .inr ⟨rfl,?_⟩;rw [aqdd rx];split at h
  ·cases h; exact k _ F H (Ext.refl s) (.bl _)
  ·rename_i hx
   cases h;cases x with
   | non=>exact absurd rfl hx
   | _=>exact k _ F H (Ext.refl s) (.bl _)
 ·cases h
def rIxD (K:Frag):R2:=fun x y H Q=>rIxL K x y H Q \/ rIxT K x y H Q
theorem ix_D:IxR X (rIxD X.K):=av5.or aKc
theorem aqec {vs:List V} {ds:List D} {i:Int} {d:D} (r:Reps K F vs ds) (h:atP ds i=some d):∃ v,atI vs i=some v/\Rep K F v d:=by
 rw [aqo7] at h;unfold atI at h ⊢;rw [r.length];obtain ⟨j,h1,h2⟩:=bind_some h;obtain ⟨v,h3,h4⟩:=r.getD h2;exact ⟨v,by rw [h1]; exact h3,h4⟩
theorem aqmj:OpD K (rIxD K) dIx:=by
 intro x y d F H v u Q h s rx ry k;unfold dIx at h;split at h
 ·cases rx with
  | lst q r =>
   cases ry;obtain ⟨w,h1,h2⟩:=aqec r h;exact .inl ⟨_,_,_,w,rfl,rfl,(aqqy s q).l,h1,k w F H (Ext.refl s) h2⟩
 ·cases rx with
  | tup q r =>
   cases ry;obtain ⟨w,h1,h2⟩:=aqec r h;exact .inr ⟨_,_,_,w,rfl,rfl,seqT s q,h1,k w F H (Ext.refl s) h2⟩
 ·cases h
theorem aqu {a b:Expr} {pos:Pos} {fa fb:FE} (ha:DE X a fa) (hb:DE X b fb) (hs:aqed b):DE X (.Subscript a b pos) (f2 dIx fa fb) :=
 PE.imp (aks ix_D ha hb hs) fun _ _ _ q=>d_op aqmj q
section
variable {a b c:Expr} {pos:Pos} {op op':CmpOp} {r r':R2} {g g':D->D->Option D} {fa fb fc:FE}
end
theorem aq8:aqlk K (fun xs H Q=>∃ p ys,xs=[.ref p]/\(SqL K H p ys \/ SqT K H p ys)/\Q (.int ys.length) H) aqrn:=by
 intro ds d F H vs Q h s r k;unfold aqrn at h;split at h
 ·cases h
  cases r with | cons r r' =>
  cases r';cases r with | lst q t=>exact ⟨_,_,rfl,.inl (aqqy s q).l,k _ F H (Ext.refl s) (by rw [t.length]; exact .int _)⟩
 ·cases h
  cases r with | cons r r' =>
  cases r';cases r with | tup q t=>exact ⟨_,_,rfl,.inr (seqT s q),k _ F H (Ext.refl s) (by rw [t.length]; exact .int _)⟩
 ·cases h
theorem aVl:aqlk K (fun xs H Q=>∃ i,xs=[.int i]/\Q (.int (if i < 0 then -i else i)) H) dAbs:=by
 intro ds d F H vs Q h s r k;unfold dAbs at h;split at h
 ·cases h
  cases r with | cons r r' =>
  cases r'; cases r;exact ⟨_,rfl,k _ F H (Ext.refl s) (.int _)⟩
 ·cases h
theorem aJo:CallO K (fun xs H Q=>∃ p ys,xs=[.ref p]/\(SqL K H p ys \/ SqT K H p ys)/\∀ l,H l=none->Q (.ref l) (upd H l (.lst ys))) aqc8:=by
 intro ds es F H vs Q h s r k;unfold aqc8 at h;split at h
 ·cases h
  cases r with | cons r r' =>
  cases r';cases r with | lst q t=>exact ⟨_,_,rfl,.inl (aqqy s q).l,fun l hl=>k l _ F _ (Ext.laidH s hl) ac (s.free hl) hl t⟩
 ·cases h
  cases r with | cons r r' =>
  cases r';cases r with | tup q t=>exact ⟨_,_,rfl,.inr (seqT s q),fun l hl=>k l _ F _ (Ext.laidH s hl) ac (s.free hl) hl t⟩
 ·cases h
def rCatE (K:Frag):R2:=fun x y H Q=>∃ l b xs zs,x=.ref l/\y=.ref b/\SqE K H l xs/\SqE K H b zs/\xs.length + zs.length <= Ag/\∀ p,H p=none->Q (.ref p) (upd H p (.lst (xs++zs)))
theorem aZx:OpR X (Dr .Add) (rCatE X.K):=by
 intro pins s σ H x y v u Q I rx ry h;obtain ⟨l,b,xs,zs,rfl,rfl,hH,hB,hz,q⟩:=h;cases rx;cases ry;obtain ⟨its,n,r,e,z⟩:=Inv.listE I hH;obtain ⟨its2,n2,r2,e2,z2⟩:=Inv.listE I hB;have hl:=r.length;have hl2:=r2.length;refine PySem.P.add_list e e2 ?_ (by rw [size_toArray,size_toArray]; omega);have ea:its.toArray++its2.toArray=(its++its2).toArray:=by simp
 rw [ea];exact ⟨.ref _,_,I.lnew (t':=s.toks) (r.append r2) (by rw [length_append]; omega),rfl,q _ I.fresh⟩
theorem aYb:OpO K (rCatE K) dCat:=by
 intro x y es F H v u Q h s rx ry k;unfold dCat at h;split at h
 ·split at h
  ·rename_i hl
   cases h;cases rx with
   | lst q1 t1 =>
    cases ry with
    | lst q2 t2=>exact ⟨_,_,_,_,rfl,rfl,aqqy s q1,aqqy s q2,by rw [t1.length,t2.length]; exact axp hl,fun p hp=>k p _ F _ (Ext.laidH s hp) ac (s.free hp) hp (t1.append t2)⟩
  ·cases h
 ·cases h
theorem PO.imp {e:Option Expr} {t t':TO} (h:PO X e t) (i:∀ σ H Q,t' σ H Q->t σ H Q):PO X e t':=fun pins s σ H Q I q=>h pins s σ H Q I (i σ H Q q)
end
end DL
set_option maxHeartbeats 2000000
namespace DL
open PySem PySem.Spec PyProof.Rows L2
theorem aX6 {prog:Aj} {w:World} {A:Around} {R:L8->Shared->Prop} {s:Shared} {elt target iter:Expr} {ifs:List Expr} {scope:Scope} {pos:Pos} {it acc:Value} {env:Env} (I:Nat->Shared->Prop)
  (turn:∀ n s,I n s->wpAny (model prog w) A (D8 it) (fun r s₁=>match r with
   | none=>R (.ok .next) s₁
   | some v=>wpAny (model prog w) A (G9 target it v) (fun _ s₀=>wpAny (model prog w) A (Jc target env v) (fun _ s₂ =>
     wpAny (model prog w) A (forIn ifs true fun c r=>if r=true then do let ok <- Nz c env (eval c env); pure (ForInStep.yield ok) else pure (ForInStep.yield r)) (fun ok s₃ =>
      if ok=true then wpAny (model prog w) A (eval elt env) (fun x s₄ =>
       wpAny (model prog w) A (call (.builtin "list.append") [acc,x]) (fun _ s₅=>∃ m,m < n/\I m s₅) (fun _ _=>False) s₄) (fun _ _=>False) s₃
      else ∃ m,m < n/\I m s₃) (fun _ _=>False) s₂) (fun _ _=>False) s₀) (fun _ _=>False) s₁) (fun _ _=>False) s)
  (n:Nat) (h:I n s) :
  Ds (model prog w) A (.compLoop (.ListComp elt [⟨target,iter,ifs,0⟩] scope pos) 0 it acc env) R s:=by
 refine codeAny_loop rfl I (fun n s hI=>?_) n h;show wpAny _ A ((compTurn (.ListComp elt [⟨target,iter,ifs,0⟩] scope pos) 0 it acc env).onRaise (fun x=>do noteFrame x env; theTreesLotGoes x)) _ _ s;refine wpAny_noted (A9 (E:=fun _ _=>False) ?_ (fun _ _ q=>q) fun _ _ z=>z.elim);rw [compTurn_list];refine Ac (Jd (Ac (A9 (turn n s hI) (fun r s₁ h₁=>?_) fun _ _ h'=>h')));cases r with
 | none=>exact Ad h₁
 | some v =>
  refine Ac (A9 h₁ (fun _ s₀ h₀=>?_) fun _ _ h'=>h');refine Ac (A9 h₀ (fun _ s₂ h₂=>Ac (A9 h₂ (fun ok s₃ h₃=>?_) fun _ _ h'=>h')) fun _ _ h'=>h');cases ok with
  | false=>exact Ad ⟨rfl,h₃⟩
  | true =>
   exact Ac (Ac (A9 h₃ (fun x s₄ h₄=>Ac (A9 h₄ (fun _ s₅ h₅=>Ad (Ad ⟨rfl,h₅⟩)) fun _ _ h'=>h')) fun _ _ h'=>h'))
def aO (X:Cx) (N':List Str) (scope:Scope) (cl:List (Str × Addr)) (C:Addr) (s₀:Shared) (H₀:Hp) (ex:List Addr) (pn:List (Addr × Obj)):Cx :=
 { X with N:=N',s₀:=s₀,H₀:=H₀,env:=N2 scope cl C X.env,outer:=X.stack,stack:=X.stack,ex:=ex,fn:=fun _=>false,pn:=pn,xe:=fun _ _=>False }
def ax7 (X:Cx) (scope:Scope) (cl:List (Str × Addr)):List (Option Nat)->List Str->Prop
 | [],[]=>True
 | none :: js,_ :: N=>ax7 X scope cl js N
 | some j :: js,x :: N=>(X.N[j]?=some x/\(X.env.kindOf x=some .cell \/ X.env.kindOf x=some .free)/\cl.lookup x=X.env.cells.lookup x/\((Cw scope X.env).names.lookup x=some .cell \/ (Cw scope X.env).names.lookup x=some .free))/\ax7 X scope cl js N
 | _,_=>False
def mkS {α:Type} (js:List (Option Nat)) (σ:List (Option α)):List (Option α):=js.map fun o=>o.bind fun j=>(σ[j]?).bind id
theorem ax7.len {X:Cx} {scope:Scope} {cl:List (Str × Addr)}:∀ {js:List (Option Nat)} {N:List Str},ax7 X scope cl js N->js.length=N.length
 | [],[],_=>rfl
 | none :: js,_ :: N,h=>by simp [ax7.len (js:=js) (N:=N) h]
 | some j :: js,x :: N,h=>by simp [ax7.len h.2]
 | [],_ :: _,h=>h.elim
 | none :: _,[],h=>h.elim
 | some _ :: _,[],h=>h.elim
theorem ax7.get {X:Cx} {scope:Scope} {cl:List (Str × Addr)}:∀ {js:List (Option Nat)} {N:List Str} {i j:Nat} {x:Str},ax7 X scope cl js N->js[i]?=some (some j)->N[i]?=some x ->
  X.N[j]?=some x/\(X.env.kindOf x=some .cell \/ X.env.kindOf x=some .free)/\cl.lookup x=X.env.cells.lookup x/\((Cw scope X.env).names.lookup x=some .cell \/ (Cw scope X.env).names.lookup x=some .free)
 | [],_,_,_,_,_,h,_=>by simp at h
 | none :: js,_ :: N,0,_,_,_,h,_=>by simp at h
 | none :: js,_ :: N,i + 1,_,_,f,h,h'=>ax7.get (js:=js) (N:=N) (i:=i) f (by simpa using h) (by simpa using h')
 | some j :: js,x :: N,0,_,_,f,h,h'=>by simp at h h'; subst h h'; exact f.1
 | some j :: js,x :: N,i + 1,_,_,f,h,h'=>ax7.get (js:=js) (N:=N) (i:=i) f.2 (by simpa using h) (by simpa using h')
 | none :: _,[],_,_,_,f,_,_=>f.elim
 | some _ :: _,[],_,_,_,f,_,_=>f.elim
def aqbb (wi:TI) (g:TG) (tc:TT) (te:TE) (js:List (Option Nat)):TE:=fun σ H Q=>wi σ H fun J H1=>∀ l,H1 l=none->∃ W:Nat->Nat->St->Hp->Prop,(∃ m,W 0 m (mkS js σ) (upd H1 l (.lst [])))/\∀ i m σ H,W i m σ H ->
 (J.stop i H/\Q (.ref l) H) \/ (J.go i H/\∀ x H',J.yld i H x H'->g x σ H' fun σ2 H2=>tc σ2 H2 fun b H3 =>
  if b=true then te σ2 H3 fun y H4=>∃ acc,H4 l=some (.lst acc)/\acc.length < Ag/\∃ m',m' < m/\W (i + 1) m' σ2 (upd H4 l (.lst (acc++[y]))) else ∃ m',m' < m/\W (i + 1) m' σ2 H3)
def aJu:TT:=fun _ H Q=>Q true H
def PIfs (X:Cx) (ifs:List Expr) (t:TT):Prop:=(ifs=[]/\∀ σ H Q,t σ H Q->Q true H) \/ ∃ c,ifs=[c]/\PT X c t
theorem aJm {X:Cx} {pins:List (Addr × Obj)} {σ:St} {H2:Hp} {s2:Shared} {E:Value->Shared->Prop} {elt target iter:Expr} {ifs:List Expr} {scope:Scope} {pos:Pos} {cl:List (Str × Addr)} {N':List Str} {js:List (Option Nat)}
  {g:TG} {tc:TT} {te:TE} {it:Addr} {fp:List Addr} {tn:Nat->Heap->Prop} {J:It} {RR:Value->Addr->L8->Shared->Prop} {Q:VK}
  (hc:X.calm=true) (hfr:ax7 X scope cl js N') (hcl:∀ x c,cl.lookup x=some c->X.env.cells.lookup x=some c)
  (hhas:∀ x,((Cw scope X.env).names.lookup x=some .cell \/ (Cw scope X.env).names.lookup x=some .free)->∃ c,cl.lookup x=some c)
  (hcell:∀ y∈scope.names,y.2 ≠ .cell) (hkind:scope.kind=.function)
  (hg:∀ C s₀ H₀ ex pn,PG (aO X N' scope cl C s₀ H₀ ex pn) target g) (ht:∀ C s₀ H₀ ex pn,PIfs (aO X N' scope cl C s₀ H₀ ex pn) ifs tc) (he:∀ C s₀ H₀ ex pn,PE (aO X N' scope cl C s₀ H₀ ex pn) elt te)
  (I2:Inv X pins σ H2 s2) (T:Turn X.prog X.w X.K target J fp it tn) (st2:tn 0 s2.heap) (f2:∀ b∈fp,FpOk X pins H2 b)
  (h:∀ l,H2 l=none->∃ W:Nat->Nat->St->Hp->Prop,(∃ m,W 0 m (mkS js σ) (upd H2 l (.lst [])))/\∀ i m σ H,W i m σ H ->
   (J.stop i H/\Q (.ref l) H) \/ (J.go i H/\∀ x H',J.yld i H x H'->g x σ H' fun σ2 H2=>tc σ2 H2 fun b H3 =>
    if b=true then te σ2 H3 fun y H4=>∃ acc,H4 l=some (.lst acc)/\acc.length < Ag/\∃ m',m' < m/\W (i + 1) m' σ2 (upd H4 l (.lst (acc++[y]))) else ∃ m',m' < m/\W (i + 1) m' σ2 H3))
  (hRR:∀ D C s' H' m',Inv X pins σ H' s'->s'.heap.Ns C m'->H' C=none->s2.heap.objs.size <= C->Q (.ref D) H'->RR (.ref D) C (.ok .next) s') :
  wpAny (model X.prog X.w) X.A (Nv []) (fun acc s₃=>wpAny (model X.prog X.w) X.A (newFunctionEnv scope X.env.globals cl [] X.env.qual none .none (some X.env)) (fun cenv s₄ =>
   Ds (model X.prog X.w) X.A (.compStart (.ListComp elt [⟨target,iter,ifs,0⟩] scope pos) 0 (.ref it) acc { cenv with scope:=Cw scope X.env }) (RR acc cenv.locals) s₄) E s₃) E s2:=by
 refine A6 (wpAny_newFunctionEnv hcell (by intro y hy; simp at hy) (fun h₁ hns₁ hsb₁=>?_) hkind);dsimp only at hns₁ hsb₁ ⊢;generalize hS3:({ s2 with heap:=s2.heap.push { cls:=.type "list",dict:=none,data:=.seq ([]:List Value).toArray } }:Shared)=s3;have hH3:s3.heap=s2.heap.push { cls:=.type "list",dict:=none,data:=.seq ([]:List Value).toArray }:=by rw [<- hS3]
 rw [<- hH3] at hns₁ hsb₁ ⊢;have hC:s3.heap.objs.size=s2.heap.objs.size + 1:=by rw [hH3,Bu]
 have hDn:H2 s2.heap.objs.size=none:=I2.hok.fresh (le_refl _);obtain ⟨W,⟨m0,w0⟩,turn⟩:=h s2.heap.objs.size hDn;have old3:∀ b o,s3.heap.get? b=some o->h₁.get? b=some o:=fun b o e=>hsb₁.extBut b o (ne_of_lt (Af e)) (Ae _ e);have old2:∀ b o,s2.heap.get? b=some o->s3.heap.get? b=some o:=fun b o e=>by rw [hH3]; exact Ae _ e
 have I3:Inv X pins σ (upd H2 s2.heap.objs.size (.lst [])) s3:=by rw [<- hS3]; exact I2.lnew (its:=[]) (ys:=[]) (t':=s2.toks) .nil (zero_le _)
 have blk:∀ tk,Inv (aO X N' scope cl s3.heap.objs.size s3 (upd H2 s2.heap.objs.size (.lst [])) fp (X.pn++pins)) [] (mkS js σ) (upd H2 s2.heap.objs.size (.lst [])) { s3 with heap:=h₁,toks:=tk }:=fun tk=>by
  have hCn:(upd H2 s2.heap.objs.size (.lst [])) s3.heap.objs.size=none:=I3.hok.fresh (le_refl _);have cellOld:∀ x c,cl.lookup x=some c->∃ v,s3.heap.IsCell c v:=fun x c e=>I3.cell x c (hcl x c e);have fsSub:∀ b∈frs X.stack,b ≠ s3.heap.objs.size:=fun b hb e=>by
   rcases Ao.mp (I3.stkSub b hb) with z | z
   ·exact absurd I3.lt (by rw [<- z,e]; exact lt_irrefl _)
   ·exact I3.nofs (le_refl _) (e ▸ z)
  refine ⟨⟨I3.ok.mod,hkind,I3.ok.glob,I3.ok.blt,le_refl _,fun x y c h1 h2=>I3.ok.inj x y c (hcl x c h1) (hcl y c h2),fun x hx=>hhas x hx,fun x c hf _=>absurd hf (by simp [aO]),I3.ok.hd,I3.ok.frames,.inl rfl,fun b hb=>⟨?_,fun x c e z=>?_⟩,
   I3.bs,le_trans I3.ok.bsz I3.sz,fun b o e hb=>?_,fun b hb hb2=>?_,I3.stack,I3.stkFree⟩,rfl,I3.bare,Un.kept old3,⟨_,hns₁,fun i x v h1 h2 h3=>?_⟩,fun x c e=>?_,hCn,fun x c e=>?_,fun p hp=>?_,I3.hok.kept old3,?_⟩
  ·
   obtain ⟨o,ho,_⟩:=T.obj 0 _ st2 b hb;intro z;exact absurd (Af (old2 b o ho)) (by rw [z]; exact lt_irrefl _)
  ·obtain ⟨_,_,_,_,f5,_⟩:=f2 b hb
   exact f5 x c (hcl x c e) z
  ·
   have q:=(I2.bs b o e);obtain ⟨_,_,_,f4,_,_⟩:=f2 b hb;rcases f4 with z | z
   ·exact I2.ok.noex b o e z
   ·exact absurd (lt_of_lt_of_le (Af (I2.ok.bs b o e).1) z) (lt_irrefl _)
  ·obtain ⟨_,f1,f3,_⟩:=f2 b hb
   rcases Ao.mp (I3.stkSub b hb2) with z | z
   ·exact f1 z
   ·exact f3 z
  ·
   have hj:∃ j,js[i]?=some (some j)/\σ[j]?=some (some v):=by
    unfold mkS at h2;rw [getElem?_map] at h2;cases q:js[i]? with
    | none=>rw [q] at h2; cases h2
    | some oj =>
     rw [q] at h2;cases oj with
     | none=>simp at h2
     | some j =>
      refine ⟨j,rfl,?_⟩;cases z:σ[j]? with
      | none=>simp [z] at h2
      | some ov=>simp [z] at h2; rw [h2]
   obtain ⟨j,hj,hv⟩:=hj;obtain ⟨g1,g2,g3,g4⟩:=hfr.get hj (show N'[i]?=some x from h1);obtain ⟨m,hn,hl⟩:=I3.loc;have vis:Vis X.env.scope x:=by
    rcases g2 with z | z
    ·exact .inr (.inl z)
    ·exact .inr (.inr z)
   obtain ⟨u,r,lk⟩:=hl j x v g1 hv vis;refine ⟨u,r,?_⟩;rcases lk with ⟨kl,_⟩ | ⟨_,c,e,z⟩
   ·rcases g2 with z | z
    ·rw [z] at kl; cases kl
    ·rw [z] at kl; cases kl
   ·obtain ⟨o,ho,hd⟩:=z
    exact .inr ⟨g4,c,g3.trans e,o,old3 c o ho,hd⟩
  ·obtain ⟨v,o,ho,hd⟩:=cellOld x c e
   exact ⟨v,o,old3 c o ho,hd⟩
  ·exact I3.freeC x c (hcl x c e)
  ·have hp':p∈X.pn++pins:=by
    have:p∈(X.pn++pins)++[]:=hp
    simpa using this
   obtain ⟨e,n,ne,nf,d⟩:=I3.pin p hp';refine ⟨old3 _ _ e,n,ne_of_lt (Af e),fun hb=>?_,d⟩;rcases Ao.mp (I3.stkSub _ hb) with z | z
   ·exact ne z
   ·exact nf z
  ·show (mkS js σ).length=N'.length
   rw [<- hfr.len]; simp [mkS]
 have fpX:∀ {H':Hp} {ps:List (Addr × Obj)},(∀ b∈fp,H' b=none)->(∀ p∈ps,∀ b∈fp,p.1 ≠ b)->∀ b∈fp,FpOk (aO X N' scope cl s3.heap.objs.size s3 (upd H2 s2.heap.objs.size (.lst [])) fp (X.pn++pins)) ps H' b:=fun {H' ps} hn hps b hb=>by
  obtain ⟨_,f1,f3,f4,f5,f6⟩:=f2 b hb;obtain ⟨o,ho,_⟩:=T.obj 0 _ st2 b hb;refine ⟨hn b hb,fun z=>absurd (Af (old2 b o ho)) (by rw [z]; exact lt_irrefl _),fun hb2=>?_,.inl hb,fun x c e=>f5 x c (hcl x c e),fun p hp=>?_⟩
  ·rcases Ao.mp (I3.stkSub b hb2) with z | z
   ·exact f1 z
   ·exact f3 z
  ·have hp':p∈(X.pn++pins)++ps:=hp
   rcases Fk.mp hp' with z | z
   ·exact f6 p z
   ·exact hps p z b hb
 have st4:tn 0 h₁:=T.keep 0 _ _ st2 fun b _ o e=>old3 b o (old2 b o e);have fr4:∀ b∈fp,(upd H2 s2.heap.objs.size (.lst [])) b=none:=fun b hb=>by
  obtain ⟨o,ho,_⟩:=T.obj 0 _ st2 b hb;rw [ah (ne_of_lt (Af ho))];exact (f2 b hb).1
 have loop:∀ s4:Shared,s4.heap=h₁->Inv (aO X N' scope cl s3.heap.objs.size s3 (upd H2 s2.heap.objs.size (.lst [])) fp (X.pn++pins)) [] (mkS js σ) (upd H2 s2.heap.objs.size (.lst [])) s4 ->
   Ds (model X.prog X.w) X.A (.compLoop (.ListComp elt [⟨target,iter,ifs,0⟩] scope pos) 0 (.ref it) (.ref s2.heap.objs.size) (N2 scope cl s3.heap.objs.size X.env)) (RR (.ref s2.heap.objs.size) s3.heap.objs.size) s4:=by
  intro s4 e4 I4;refine aX6 (fun n s'=>∃ i σ' H',Inv (aO X N' scope cl s3.heap.objs.size s3 (upd H2 s2.heap.objs.size (.lst [])) fp (X.pn++pins)) [] σ' H' s'/\tn i s'.heap/\(∀ b∈fp,H' b=none)/\W i n σ' H') ?_ m0
   ⟨0,_,_,I4,by rw [e4]; exact st4,fr4,w0⟩
  rintro n s5 ⟨i,σ5,H5,I5,st5,fr5,w5⟩;rcases turn i n σ5 H5 w5 with ⟨stop,q⟩ | ⟨go,step⟩
  ·refine thn (T.done (aO X N' scope cl s3.heap.objs.size s3 (upd H2 s2.heap.objs.size (.lst [])) fp (X.pn++pins)) rfl rfl rfl hc i [] s5 _ H5 _ I5 (fpX fr5 (by simp)) st5 stop) fun r s6 hQ=>?_
   obtain ⟨hr,I6⟩:=hQ;subst hr;have un:Un (frs X.stack) fp H2 H5 s2.heap s6.heap:=by
    have u:=I6.base;refine ⟨fun b o e n hb hx=>u.keep b o (old2 b o e) (by show upd H2 _ _ b=none; rw [ah (ne_of_lt (Af e))]; exact n) hb hx,fun b o e n hb hx=>u.slot b o (old2 b o e) (by show upd H2 _ _ b=none; rw [ah (ne_of_lt (Af e))]; exact n) hb hx,
     fun b o e n hx=>u.free b o (old2 b o e) (by show upd H2 _ _ b=none; rw [ah (ne_of_lt (Af e))]; exact n) hx,fun b o e hx=>u.there b o (old2 b o e) hx,fun b xs e=>u.tups b xs (by show upd H2 _ _ b=_; rw [ah (ae e hDn)]; exact e),
     fun b o u' e=>u.frzs b o u' (by show upd H2 _ _ b=_; rw [ah (ae e hDn)]; exact e),fun b ps e=>u.tbls b ps (by show upd H2 _ _ b=_; rw [ah (ae e hDn)]; exact e)⟩
   have os:s6.os=s2.os:=by rw [I6.os]; show s3.os=s2.os; rw [<- hS3]
   have Iout:Inv X pins σ H5 s6:=I2.call' (ch:=fp) os un I6.hok I6.bare fun b hb=>by
    obtain ⟨_,f1,_,f4,f5,f6⟩:=f2 b hb;exact ⟨f4,f1,f5,f6⟩
   obtain ⟨m',hn',_⟩:=I6.loc;exact hRR _ _ s6 H5 m' Iout hn' I6.free (by rw [hC]; exact le_succ _) q
  ·refine thn (T.item (aO X N' scope cl s3.heap.objs.size s3 (upd H2 s2.heap.objs.size (.lst [])) fp (X.pn++pins)) rfl rfl rfl hc i [] s5 _ H5 _ I5 (fpX fr5 (by simp)) st5 go) fun r s6 hQ=>?_
   obtain ⟨u,hr,h6⟩:=hQ;subst hr;refine thn h6 fun _ s7 hQ=>?_;obtain ⟨x,H7,I7,r7,y7,st7,fr7⟩:=hQ;have I7':=I7.pinned (fpX fr7 (by simp)) (T.obj _ _ st7);have keepT:∀ {σ':St} {H':Hp} {s':Shared},Inv (aO X N' scope cl s3.heap.objs.size s3 (upd H2 s2.heap.objs.size (.lst [])) fp (X.pn++pins)) ([]++aXe fp s7.heap) σ' H' s'->tn (i + 1) s'.heap/\∀ b∈fp,H' b=none:=fun {σ' H' s'} I'=>by
    refine ⟨T.keep _ _ _ st7 fun b hb o e=>(I'.pin (b,o) (mem_append_right _ (mem_append_right _ (aze hb e)))).1,fun b hb=>?_⟩;obtain ⟨o,e,d⟩:=T.obj _ _ st7 b hb;exact (I'.pin (b,o) (mem_append_right _ (mem_append_right _ (aze hb e)))).2.1
   have again:∀ {σ':St} {H':Hp} {s':Shared},Inv (aO X N' scope cl s3.heap.objs.size s3 (upd H2 s2.heap.objs.size (.lst [])) fp (X.pn++pins)) ([]++aXe fp s7.heap) σ' H' s'->(∃ m',m' < n/\W (i + 1) m' σ' H') ->
     ∃ m,m < n/\∃ i σ' H',Inv (aO X N' scope cl s3.heap.objs.size s3 (upd H2 s2.heap.objs.size (.lst [])) fp (X.pn++pins)) [] σ' H' s'/\tn i s'.heap/\(∀ b∈fp,H' b=none)/\W i m σ' H':=fun {σ' H' s'} I' ⟨m',hm,w'⟩=>by
    obtain ⟨k1,k2⟩:=keepT I';exact ⟨m',hm,i + 1,σ',H',I'.unpinned,k1,k2,w'⟩
   refine thn (hg _ _ _ _ _ _ s7 σ5 H7 x u _ I7' r7 (step x H7 y7)) fun _ s8 hQ=>?_;obtain ⟨σ8,H8,I8,q8⟩:=hQ;have test:wpAny (model X.prog X.w) X.A (forIn ifs true fun c r=>if r=true then do let ok <- Nz c (N2 scope cl s3.heap.objs.size X.env) (eval c (N2 scope cl s3.heap.objs.size X.env)); pure (ForInStep.yield ok) else pure (ForInStep.yield r))
     (fun ok s9=>∃ H9,Inv (aO X N' scope cl s3.heap.objs.size s3 (upd H2 s2.heap.objs.size (.lst [])) fp (X.pn++pins)) ([]++aXe fp s7.heap) σ8 H9 s9/\(if ok=true then te σ8 H9 fun y H4=>∃ acc,H4 s2.heap.objs.size=some (.lst acc)/\acc.length < Ag/\∃ m',m' < n/\W (i + 1) m' σ8 (upd H4 s2.heap.objs.size (.lst (acc++[y]))) else ∃ m',m' < n/\W (i + 1) m' σ8 H9)) (fun _ _=>False) s8:=by
    rcases ht s3.heap.objs.size s3 (upd H2 s2.heap.objs.size (.lst [])) fp (X.pn++pins) with ⟨e1,e2⟩ | ⟨c,e1,e2⟩
    ·subst e1
     exact wpAny_tests_nil ⟨H8,I8,e2 _ _ _ q8⟩
    ·subst e1
     exact wpAny_tests_one (e2 _ s8 σ8 H8 _ I8 q8)
   refine thn test fun ok s9 hQ=>?_;obtain ⟨H9,I9,q9⟩:=hQ;cases ok with
   | false =>
    rw [if_neg Al] at q9 ⊢;exact again I9 q9
   | true =>
    rw [if_pos rfl] at q9 ⊢;refine thn (he _ _ _ _ _ _ s9 σ8 H9 _ I9 q9) fun y s10 hQ=>?_;obtain ⟨yv,H10,I10,r10,acc,a1,a2,a3⟩:=hQ;refine thn (axl (X:=aO X N' scope cl s3.heap.objs.size s3 (upd H2 s2.heap.objs.size (.lst [])) fp (X.pn++pins)) _ s10 σ8 H10 (.ref s2.heap.objs.size) [yv] (.ref s2.heap.objs.size) [y] (fun _ H'=>∃ m',m' < n/\W (i + 1) m' σ8 H') I10 rfl (.cons r10 .nil) ⟨_,acc,yv,rfl,rfl,a1,a2,a3⟩) fun _ s11 hQ=>?_;obtain ⟨_,H11,I11,_,q11⟩:=hQ;exact again I11 q11
 have e4:∀ tk,({ s2 with heap:=h₁,toks:=tk }:Shared)={ s3 with heap:=h₁,toks:=tk }:=fun tk=>by rw [<- hS3]
 exact codeAny_compStart_list (loop _ rfl (by rw [e4]; exact blk _)) (T.self _ 0 _ _ _ st4 (loop _ rfl (by rw [e4]; exact blk _)))
theorem Inv.letgo {X:Cx} {pins:List (Addr × Obj)} {σ:St} {H2 H':Hp} {s2 s':Shared} {C:Addr} {h':Heap} (I2:Inv X pins σ H2 s2) {σ':St} (I:Inv X pins σ' H' s') (hn:H' C=none) (hC:s2.heap.objs.size <= C) (hs:Heap.SameBut C s'.heap h'):Inv X pins σ' H' { s' with heap:=h' } :=
 I.turned (t':=s'.toks) (fun b o hb e=>hs.extBut b o hb e) hn (ne_of_gt (lt_of_lt_of_le I2.lt hC)) (.inr (le_trans I2.sz hC)) (fun x c e z=>by
  obtain ⟨v,q⟩:=I2.cell x c e;exact absurd (lt_of_lt_of_le q.lt (by rw [z]; exact hC)) (lt_irrefl _)) (fun p hp z=>absurd (lt_of_lt_of_le (Af (I2.pin p hp).1) (by rw [z]; exact hC)) (lt_irrefl _))
section
variable {X:Cx} {elt target iter:Expr} {ifs:List Expr} {scope:Scope} {pos:Pos} {cl:List (Str × Addr)} {N':List Str} {js:List (Option Nat)} {wi:TI} {g:TG} {tc:TT} {te:TE}
theorem aqdl (hc:X.calm=true) (hi:PI X target iter wi) (hclos:Mf scope X.env=pure cl) (hfr:ax7 X scope cl js N') (hcl:∀ x c,cl.lookup x=some c->X.env.cells.lookup x=some c)
  (hhas:∀ x,((Cw scope X.env).names.lookup x=some .cell \/ (Cw scope X.env).names.lookup x=some .free)->∃ c,cl.lookup x=some c)
  (hcell:∀ y∈scope.names,y.2 ≠ .cell) (hkind:scope.kind=.function) (hnames:∀ x∈scope.names,x.2=.local->scope.names.lookup x.1=some .local)
  (hg:∀ C s₀ H₀ ex pn,PG (aO X N' scope cl C s₀ H₀ ex pn) target g) (ht:∀ C s₀ H₀ ex pn,PIfs (aO X N' scope cl C s₀ H₀ ex pn) ifs tc) (he:∀ C s₀ H₀ ex pn,PE (aO X N' scope cl C s₀ H₀ ex pn) elt te)
  (hs:∀ x,B7 iter X.env x=pure x:=by intro _; rfl) :
  PE X (.ListComp elt [⟨target,iter,ifs,0⟩] scope pos) (aqbb wi g tc te js):=by
 intro pins s σ H Q I h;rw [eval_ListComp];refine Ji (use:=none) rfl hs hclos hkind hnames (thn (hi pins s σ H _ I h) fun v s1 h1=>thn h1 fun itv s2 h2=>?_);obtain ⟨it,fp,tn,J,H2,rfl,I2,T,st2,f2,q⟩:=h2;refine aJm (RR:=fun acc C=>compPost (model X.prog X.w) X.A X.xe none (EP X pins σ Q) acc C) hc hfr hcl hhas hcell hkind hg ht he I2 T st2 f2 q ?_;intro D C s' H' m' I' hn hC hle q';exact ⟨m',hn,fun h' hs'=>⟨.ref D,H',Inv.letgo I2 I' hC hle hs',rfl,q'⟩⟩
theorem aqdi {i:Nat} {y:Str} {py spos:Pos} (hN:X.N.Nodup) (hi':X.N[i]?=some y) (hy:X.env.scope.names.lookup y=some .local)
  (hsw:Hw (.ListComp elt [⟨target,iter,ifs,0⟩] scope pos) (some (.Name y py)) spos.line X.env=pure true)
  (hc:X.calm=true) (hi:PI X target iter wi) (hclos:Mf scope X.env=pure cl) (hfr:ax7 X scope cl js N') (hcl:∀ x c,cl.lookup x=some c->X.env.cells.lookup x=some c)
  (hhas:∀ x,((Cw scope X.env).names.lookup x=some .cell \/ (Cw scope X.env).names.lookup x=some .free)->∃ c,cl.lookup x=some c)
  (hcell:∀ y∈scope.names,y.2 ≠ .cell) (hkind:scope.kind=.function) (hnames:∀ x∈scope.names,x.2=.local->scope.names.lookup x.1=some .local)
  (hg:∀ C s₀ H₀ ex pn,PG (aO X N' scope cl C s₀ H₀ ex pn) target g) (ht:∀ C s₀ H₀ ex pn,PIfs (aO X N' scope cl C s₀ H₀ ex pn) ifs tc) (he:∀ C s₀ H₀ ex pn,PE (aO X N' scope cl C s₀ H₀ ex pn) elt te)
  (hs:∀ x,B7 iter X.env x=pure x:=by intro _; rfl) :
  PS X (.Assign [.Name y py] (.ListComp elt [⟨target,iter,ifs,0⟩] scope pos) spos) (tAsg (aqbb wi g tc te js) (ax9 i)):=by
 intro pins s σ H E I h;rw [exec_Assign_Name_used _ _ _ _ hsw];refine Ac (Jd (Ac ?_));show wpAny _ X.A (do let _ <- comprehension (.ListComp elt [⟨target,iter,ifs,0⟩] scope pos) scope X.env _ (Nv []) false (eval iter X.env) (some (Jc (.Name y py) X.env))) _ _ s;refine Ac (A9 (Ji (use:=some (Jc (.Name y py) X.env)) (Q:=fun _ s'=>SP X pins E .next s') rfl hs hclos hkind hnames
  (thn (hi pins s σ H _ I h) fun v s1 h1=>thn h1 fun itv s2 h2=>?_)) (fun _ s' hq=>Ad (Ad hq)) fun _ _ e=>e)
 obtain ⟨it,fp,tn,J,H2,rfl,I2,T,st2,f2,q⟩:=h2;refine aJm (RR:=fun acc C=>compPost (model X.prog X.w) X.A X.xe (some (Jc (.Name y py) X.env)) (fun _ s'=>SP X pins E .next s') acc C) (Q:=fun x H1=>ax9 i x σ H1 E.nx) hc hfr hcl hhas hcell hkind hg ht he I2 T st2 f2 q ?_;intro D C s' H' m' I' hn hC hle q';show wpAny _ X.A (Jc (.Name y py) X.env (.ref D)) _ _ _;refine wpAny_assign_Name (aZj I' hN hi' (.inl hy) (v:=.ref D) rfl (fun s'' I'' hQ=>?_) (.inr hy));obtain ⟨a,hsb,ha⟩:=hQ;have hCa:C ≠ a:=by
  rintro rfl;rcases ha with z | z
  ·exact absurd (lt_of_lt_of_le I2.lt (by rw [<- z]; exact hle)) (lt_irrefl _)
  ·obtain ⟨v,q⟩:=I2.cell _ _ z
   exact absurd (lt_of_lt_of_le q.lt hle) (lt_irrefl _)
 exact ⟨m',hn.sameBut hsb hCa,fun h' hs'=>⟨_,H',Inv.letgo I2 I'' hC hle hs',q'⟩⟩
end
def tGE (K:Frag) (g:GE):TG:=fun v σ H Q=>∃ F ρ d ρ',aqs2 F H/\RE K F σ ρ/\ρ.length=σ.length/\Rep K F v d/\g d ρ=some ρ'/\∀ σ',RE K F σ' ρ'->ρ'.length=σ'.length->Q σ' H
def tGEs (K:Frag) (g:List D->aqsd->Option aqsd):TGs:=fun vs σ H Q=>∃ F ρ ds ρ',aqs2 F H/\RE K F σ ρ/\ρ.length=σ.length/\Reps K F vs ds/\g ds ρ=some ρ'/\∀ σ',RE K F σ' ρ'->ρ'.length=σ'.length->Q σ' H
def DGE (X:Cx) (tg:Expr) (g:GE):Prop:=PG X tg (tGE X.K g)
def DGEs (X:Cx) (ts:List Expr) (gs:List GE):Prop:=PGs X ts (tGEs X.K (geT gs))
section
variable {X:Cx} {pos:Pos}
theorem aw (i:Nat) {tg:Expr} (h:PG X tg (ax9 i)):DGE X tg (geN i):=by
 refine PG.imp h fun v σ H Q q=>?_;obtain ⟨F,ρ,d,ρ',s,re,hl,q,h,k⟩:=q;cases h;refine k _ (fun j d' h=>?_) (by simpa using hl);rcases aY7 h with ⟨rfl,e,hl'⟩ | ⟨ne,h⟩
 ·cases e
  exact ⟨v,getElem?_set_self (by rw [<- hl]; exact hl'),q⟩
 ·rw [getElem?_set_ne (Bw ne)]
  exact re j d' h
theorem aqe1:∀ {gs:List GE} {ds:List D} {ρ ρ':aqsd},geT gs ds ρ=some ρ'->ds.length=gs.length
 | [],[],_,_,_=>rfl
 | g :: gs,d :: ds,ρ,ρ',h=>by
  obtain ⟨r1,_,h2⟩:=bind_some h;simp [aqe1 h2]
 | [],_ :: _,_,_,h=>by simp [geT] at h
 | _ :: _,[],_,_,h=>by simp [geT] at h
theorem aQn:DGEs X [] []:=by
 intro pins s σ H vs us Q I rv q;refine ak4 pins s σ H vs us Q I rv ?_;obtain ⟨F,ρ,ds,ρ',s,re,hl,q,h,k⟩:=q;cases q with
 | nil=>cases h; exact ⟨rfl,k _ re hl⟩
 | cons=>cases h
theorem aq7 {t:Expr} {ts:List Expr} {g:GE} {gs:List GE} (h1:DGE X t g) (h2:DGEs X ts gs)
  (hs:(Bk (t :: ts) X.env).map (·.2)=Jc t X.env :: (Bk ts X.env).map (·.2):=by rfl):DGEs X (t :: ts) (g :: gs):=by
 intro pins s σ H vs us Q I rv q;refine aqw h1 h2 hs pins s σ H vs us Q I rv ?_;obtain ⟨F,ρ,ds,ρ',s,re,hl,q,h,k⟩:=q;cases q with
 | nil=>cases h
 | cons q1 q2 =>
  obtain ⟨ρ1,h1,h2⟩:=bind_some h;exact ⟨_,_,rfl,F,ρ,_,ρ1,s,re,hl,q1,h1,fun σ' re' hl'=>⟨F,ρ1,_,ρ',s,re',hl',q2,h2,k⟩⟩
theorem aVd {ts:List Expr} {gs:List GE} {kk:Nat} (hc:X.calm=true) (h:DGEs X ts gs) (hn:(Bk ts X.env).length=gs.length:=by rfl) (hst:(Bk ts X.env).findIdx? (·.1)=none:=by rfl):DGE X (.Tuple ts kk pos) (geTp gs):=by
 refine PG.imp (aqbp hc h hn hst) fun v σ H Q q=>?_;obtain ⟨F,ρ,d,ρ',s,re,hl,q,h,k⟩:=q;unfold geTp at h;split at h
 ·rename_i ds
  cases q with
  | tup q t=>exact ⟨_,_,rfl,seqT s q,by rw [t.length]; exact aqe1 h,F,ρ,ds,ρ',s,re,hl,t,h,k⟩
 ·cases h
end
theorem re_mk {K:Frag} {F F1:Hp} {σ:L2.St} {ρ:aqsd} {js:List (Option Nat)} (re:RE K F σ ρ) (e1:aqs2 F F1):RE K F1 (mkS js σ) (mkD js ρ):=fun i d h=>by
 unfold mkD at h;rw [getElem?_map] at h;cases q:js[i]? with
 | none=>rw [q] at h; cases h
 | some oj =>
  rw [q] at h;cases oj with
  | none=>simp at h
  | some j =>
   have hj:ρ[j]?=some (some d):=by
    cases z:ρ[j]? with
    | none=>simp [z] at h
    | some od=>cases od with
     | none=>simp [z] at h
     | some d'=>simp [z] at h; rw [h]
   obtain ⟨v,h1,h2⟩:=re j d hj;refine ⟨v,?_,h2.mono e1⟩;unfold mkS;rw [getElem?_map,q];simp [h1]
structure CI (K:Frag) (F1 H1 F H:Hp) (σ:L2.St) (ρ:aqsd) (l:Addr) (done:List O):Prop where
 ext:Ext F1 H1 F H
 re:RE K F σ ρ
 len:ρ.length=σ.length
 fl:F l=none
 hl:∃ acc A,H l=some (.lst acc)/\Owns K F H acc done A/\∀ b,A b->F b=none/\H1 b=none/\b ≠ l
theorem CI.more {K:Frag} {F1 H1 F H F' H':Hp} {σ:L2.St} {ρ:aqsd} {l:Addr} {done:List O} (c:CI K F1 H1 F H σ ρ l done) (e:Ext F H F' H'):CI K F1 H1 F' H' σ ρ l done:=by
 obtain ⟨acc,A,h1,h2,h3⟩:=c.hl;have keep:∀ b,F b=none->(∃ u,H b=some u)->F' b=none:=fun b hf ⟨u,hu⟩=>by
  cases z:F' b with
  | none=>rfl
  | some o =>
   rcases e.nw b o z with y | y
   ·rw [hf] at y; cases y
   ·rw [hu] at y; cases y
 refine ⟨c.ext.trans e,c.re.mono e.ff,c.len,keep l c.fl ⟨_,h1⟩,acc,A,e.hh _ _ h1,h2.ext e.ff e.hh,fun b z=>?_⟩;obtain ⟨g1,g2,g3⟩:=h3 b z;obtain ⟨u,hu,_⟩:=h2.there b z;exact ⟨keep b g1 ⟨u,hu⟩,g2,g3⟩
theorem aVf {K:Frag} {F1 H1 F H:Hp} {σ:L2.St} {ρ:aqsd} {g:GE} {c:FT} {e:FO} {d:D} {aqr2:List D} {done ys:List O} {x:V} {l:Addr} {N:L2.St->Hp->Prop}
  (ci:CI K F1 H1 F H σ ρ l done) (hB:H1 l=none) (q:Rep K F x d) (hz:done.length < Ag)
  (h:akb g c e (d :: aqr2) ρ=some ys)
  (hN:∀ F' H' σ' ρ' new ys',aqs2 F F'->CI K F1 H1 F' H' σ' ρ' l (done++new)->new.length <= 1->akb g c e aqr2 ρ'=some ys'->ys=new++ys'->N σ' H') :
  tGE K g x σ H fun σ2 H2=>tDT K c σ2 H2 fun b H3=>if b=true then tO K e σ2 H3 fun y H4=>∃ acc,H4 l=some (.lst acc)/\acc.length < Ag/\N σ2 (upd H4 l (.lst (acc++[y]))) else N σ2 H3:=by
 obtain ⟨ρ1,h1,h⟩:=bind_some h;obtain ⟨b,hb,h⟩:=bind_some h;refine ⟨F,ρ,d,ρ1,ci.ext.fh,ci.re,ci.len,q,h1,fun σ2 re2 hl2=>?_⟩;have ci2:CI K F1 H1 F H σ2 ρ1 l done:=⟨ci.ext,re2,hl2,ci.fl,ci.hl⟩;refine ⟨F,ρ1,b,ci.ext.fh,re2,hb,fun F3 H3 e3=>?_⟩;have ci3:=ci2.more e3;cases b with
 | false =>
  rw [if_neg Al] at h;exact aqrc (hN F3 H3 σ2 ρ1 [] ys e3.ff (by simpa using ci3) (by simp) h (by simp))
 | true =>
  rw [if_pos rfl] at h;refine aqrb ?_;obtain ⟨y,hy,h⟩:=bind_some h;obtain ⟨ys',hys,rfl⟩:=map_some h;refine ⟨F3,ρ1,y,e3.fh,ci3.re,hy,fun v F4 H4 A4 e4 r4 n4=>?_⟩;have ci4:=ci3.more e4;obtain ⟨acc3,A3,k1,k2,k3⟩:=ci3.hl;have t4:H4 l=some (.lst acc3):=e4.hh _ _ k1;have k2':=k2.ext e4.ff e4.hh;refine ⟨acc3,t4,by rw [k2.length]; exact hz,?_⟩;have nl:¬ A4 l:=fun z=>by have:=(n4 l z).2; rw [k1] at this; cases this
  have h1l:∀ b u,H1 b=some u->b ≠ l:=fun b u hb=>ae hb hB;refine hN F4 _ σ2 ρ1 [y] ys' (e3.ff.trans e4.ff) ⟨⟨ci4.ext.ff,fun b u hb=>by rw [ah (ae hb ci4.fl)]; exact ci4.ext.fh _ _ hb,fun b u hb=>by rw [ah (h1l b u hb)]; exact ci4.ext.hh _ _ hb,ci4.ext.nw⟩,ci4.re,ci4.len,ci4.fl,acc3++[v],fun b=>A3 b \/ A4 b,ac,?_,fun b z=>?_⟩ (by simp) hys (by simp)
  ·refine (k2'.stay (aqs2.refl _) (H':=upd H4 l (.lst (acc3++[v]))) fun b z=>ah (k3 b z).2.2).append (.cons (r4.stay (aqs2.refl _) (H':=upd H4 l (.lst (acc3++[v]))) fun b z=>ah (by rintro rfl; exact nl z)) (.nil (A:=fun _=>False) fun _ z=>z) (fun _ _ z=>z) fun b=>⟨.inl,fun z=>z.elim id Az⟩) fun b z y=>?_
   obtain ⟨u,hu,_⟩:=k2.there b z;rw [(n4 b y).2] at hu; cases hu
  ·rcases z with z | z
   ·obtain ⟨g1,g2,g3⟩:=k3 b z
    obtain ⟨u,hu,_⟩:=k2.there b z;refine ⟨?_,g2,g3⟩;cases w:F4 b with
    | none=>rfl
    | some o =>
     rcases e4.nw b o w with y | y
     ·rw [g1] at y; cases y
     ·rw [hu] at y; cases y
   ·exact ⟨(n4 b z).1,ci3.ext.hh.free (n4 b z).2,by rintro rfl; exact nl z⟩
theorem CI.own {K:Frag} {F1 H1 F H:Hp} {σ:L2.St} {ρ:aqsd} {l:Addr} {done:List O} (c:CI K F1 H1 F H σ ρ l done) (hB:H1 l=none):∃ A,Own K F H (.ref l) (.lst done) A/\∀ b,A b->F b=none/\H1 b=none:=by
 obtain ⟨acc,A,h1,h2,h3⟩:=c.hl;refine ⟨_,aYa h1 (fun z=>(h3 l z).2.2 rfl) h2,fun b z=>?_⟩;rcases z with rfl | z
 ·exact ⟨c.fl,hB⟩
 ·exact ⟨(h3 b z).1,(h3 b z).2.1⟩
theorem aqaj {K:Frag} {F H F1 H1:Hp} {σ:L2.St} {ρ:aqsd} {js:List (Option Nat)} {l:Addr} (re:RE K F σ ρ) (e1:Ext F H F1 H1) (hl:H1 l=none):CI K F1 H1 F1 (upd H1 l (.lst [])) (mkS js σ) (mkD js ρ) l [] :=
 ⟨Ext.laidH e1.fh hl,re_mk re e1.ff,by simp [mkD,mkS],e1.fh.free hl,[],fun _=>False,ac,.nil fun _ z=>z,fun _ z=>z.elim⟩
section
variable {X:Cx} {js:List (Option Nat)} {g:GE} {c:FT} {e:FO}
theorem az {K:Frag} {f:FE} {σ:L2.St} {H:Hp} {Q:VK} (h:tO K (ava js f g c e) σ H Q):aqbb (aqk8 K (tD K f)) (tGE K g) (tDT K c) (tO K e) js σ H Q:=by
 obtain ⟨F,ρ,total,s,re,hf,k⟩:=h;obtain ⟨d,hd,hf⟩:=bind_some hf;rw [aZb] at hf;split at hf
 ·rename_i xs
  split at hf
  ·rename_i hlen
   obtain ⟨total,hf2,rfl⟩:=map_some hf;have hf:=hf2;clear hf2;refine ⟨F,ρ,.lst xs,s,re,hd,fun v F1 H1 e1 r1=>?_⟩;cases r1 with
   | lst q t =>
    rename_i a vs;refine ⟨a,rfl,⟨vs,(aqqy e1.fh q).l⟩,fun l hl=>⟨fun i m σ' H'=>∃ F' ρ' done ys,CI K F1 H1 F' H' σ' ρ' l done/\SqE K F' a vs/\Reps K F' vs xs/\i <= xs.length/\m=xs.length - i/\done.length <= i/\akb g c e (xs.drop i) ρ'=some ys/\total=done++ys,
     ⟨_,F1,mkD js ρ,[],total,aqaj re e1 hl,q,t,zero_le _,rfl,le_refl _,hf,rfl⟩,?_⟩⟩
    rintro i m σ' H' ⟨F',ρ',done,ys,ci,q',t',hi,rfl,hdn,hc,ht⟩
    by_cases hlt:i < xs.length
    ·have hv:i < vs.length:=by rw [t'.length]; exact hlt
     refine .inr ⟨⟨vs,vs[i],(aqqy ci.ext.fh q').l,by simp [hv]⟩,fun x H2 y=>?_⟩;obtain ⟨rfl,y⟩:=y;obtain ⟨d,hd1,hd2⟩:=t'.get (y vs (aqqy ci.ext.fh q').l);have ed:xs[i]=d:=by rw [getElem?_eq_getElem hlt] at hd1; exact Option.some.inj hd1
     rw [aQl hlt,ed] at hc;refine aVf (N:=fun σ2 H2=>∃ m',m' < xs.length - i/\_) ci hl hd2 (lt_of_lt_of_le (lt_of_le_of_lt hdn hlt) (axp hlen)) hc fun F2 H2 σ2 ρ2 new ys' s2 ci2 hn2 hc2 he2=>?_;exact ⟨_,by omega,F2,ρ2,done++new,ys',ci2,aqqy s2 q',t'.mono s2,hlt,rfl,by simp; omega,hc2,by rw [ht,he2]; simp⟩
    ·refine .inl ⟨⟨vs,(aqqy ci.ext.fh q').l,by rw [t'.length]; omega⟩,?_⟩
     rw [drop_of_length_le (by omega)] at hc;cases hc
     have:total=done:=by simpa using ht
     subst this;obtain ⟨A,o1,o2⟩:=ci.own hl;exact k (.ref l) F' H' A (e1.trans ci.ext) o1 fun b z=>⟨(o2 b z).1,e1.hh.free (o2 b z).2⟩
  ·cases hf
 ·cases hf
end
def DIfs (X:Cx) (ifs:List Expr) (c:FT):Prop:=PIfs X ifs (tDT X.K c)
theorem azx {X:Cx} {e:Expr} {c:FT} (h:DT X e c):DIfs X [e] c:=.inr ⟨e,rfl,h⟩
theorem aqo {X:Cx}:DIfs X [] qT:=.inl ⟨rfl,fun σ H Q q=>by
 obtain ⟨F,ρ,b,s,re,hf,k⟩:=q;cases hf;exact k F H (Ext.refl s)⟩
def clo (env:Env):List (Str × NameKind)->List (Str × Addr)->Option (List (Str × Addr))
 | [],cs=>some cs
 | (n,k) :: r,cs=>if (k == .free)=true then (env.cells.lookup n).bind fun c=>clo env r ((n,c) :: cs) else clo env r cs
theorem aqai {env:Env}:∀ {ns:List (Str × NameKind)} {cs cl:List (Str × Addr)},clo env ns cs=some cl->(forIn (m:=Sem) ns cs fun (x:Str × NameKind) cs=>if (x.2 == .free)=true then do let c <- cellOf env x.1; pure (ForInStep.yield ((x.1,c) :: cs)) else pure (ForInStep.yield cs))=pure cl
 | [],cs,cl,h=>by cases h; rfl
 | (n,k) :: r,cs,cl,h=>by
  unfold clo at h;rw [forIn_cons]
  by_cases hk:(k == .free)=true
  ·rw [if_pos hk] at h
   obtain ⟨c,hc,h⟩:=bind_some h;have e:cellOf env n=pure c:=by unfold cellOf; rw [hc]
   simp only [hk,if_true,e,pure_bind];exact aqai h
  ·rw [if_neg hk] at h
   simp only [hk,if_false,pure_bind];exact aqai h
theorem axn {scope:Scope} {env:Env} {cl:List (Str × Addr)} (h:clo env scope.names []=some cl):Mf scope env=pure cl:=by
 have:=aqai h
 simp only [Mf];rw [this];rfl
theorem aVh {env:Env}:∀ {ns:List (Str × NameKind)} {cs cl:List (Str × Addr)},clo env ns cs=some cl->∀ x c,(x,c)∈cl->(x,c)∈cs \/ env.cells.lookup x=some c
 | [],cs,cl,h,x,c,hx=>by cases h; exact .inl hx
 | (n,k) :: r,cs,cl,h,x,c,hx=>by
  unfold clo at h
  by_cases hk:(k == .free)=true
  ·rw [if_pos hk] at h
   obtain ⟨a,ha,h⟩:=bind_some h;rcases aVh h x c hx with z | z
   ·rcases Ao.mp z with y | y
    ·cases y; exact .inr ha
    ·exact .inl y
   ·exact .inr z
  ·rw [if_neg hk] at h
   exact aVh h x c hx
theorem aVi {env:Env}:∀ {ns:List (Str × NameKind)} {cs cl:List (Str × Addr)},clo env ns cs=some cl->(∀ x c,(x,c)∈cs->(x,c)∈cl)/\∀ x,(x,NameKind.free)∈ns->∃ c,(x,c)∈cl
 | [],cs,cl,h=>by cases h; exact ⟨fun _ _ z=>z,fun x z=>by simp at z⟩
 | (n,k) :: r,cs,cl,h=>by
  unfold clo at h
  by_cases hk:(k == .free)=true
  ·rw [if_pos hk] at h
   obtain ⟨a,ha,h⟩:=bind_some h;obtain ⟨h1,h2⟩:=aVi h;refine ⟨fun x c z=>h1 x c (mem_cons_of_mem _ z),fun x z=>?_⟩;rcases Ao.mp z with y | y
   ·cases y; exact ⟨a,h1 _ _ mem_cons_self⟩
   ·exact h2 x y
  ·rw [if_neg hk] at h
   obtain ⟨h1,h2⟩:=aVi h;refine ⟨h1,fun x z=>?_⟩;rcases Ao.mp z with y | y
   ·cases y; exact absurd rfl hk
   ·exact h2 x y
theorem aqx {α:Type}:∀ {l:List (Str × α)} {x:Str} {c:α},l.lookup x=some c->(x,c)∈l
 | [],_,_,h=>by cases h
 | (y,d) :: l,x,c,h=>by
  unfold Dt at h;split at h
  ·rename_i e
   cases h;rw [beq_iff_eq] at e;subst e;exact mem_cons_self
  ·exact mem_cons_of_mem _ (aqx h)
theorem av4 {α:Type}:∀ {l:List (Str × α)} {x:Str} {c:α},(x,c)∈l->∃ d,l.lookup x=some d
 | (y,d) :: l,x,c,h=>by
  by_cases e:(x == y)=true
  ·exact ⟨d,by unfold Dt; rw [e]⟩
  ·rcases Ao.mp h with z | z
   ·cases z; simp at e
   ·obtain ⟨d',hd⟩:=av4 z
    refine ⟨d',?_⟩;unfold Dt;cases q:x == y with
    | true=>exact absurd q e
    | false=>exact hd
theorem aXb {scope:Scope} {env:Env} (hcell:∀ y∈scope.names,y.2 ≠ .cell) {x:Str} (h:(Cw scope env).names.lookup x=some .cell \/ (Cw scope env).names.lookup x=some .free):(x,NameKind.free)∈scope.names:=by
 have h':∃ k,(x,k)∈(Cw scope env).names/\(k=.cell \/ k=.free):=by
  rcases h with h | h
  ·exact ⟨_,aqx h,.inl rfl⟩
  ·exact ⟨_,aqx h,.inr rfl⟩
 obtain ⟨k,hk,hkk⟩:=h';unfold Cw at hk;obtain ⟨⟨n,k'⟩,hm,he⟩:=Bf.mp hk;dsimp only at he;split at he
 ·rename_i hc
  cases he;simp only [C8,beq_iff_eq] at hc;rw [<- hc.1.1]; exact hm
 ·cases he
  rcases hkk with rfl | rfl
  ·exact absurd rfl (hcell _ hm)
  ·exact hm
section
variable {X:Cx} {elt target iter:Expr} {ifs:List Expr} {scope:Scope} {pos:Pos} {cl:List (Str × Addr)} {N':List Str} {js:List (Option Nat)} {g:GE} {c:FT} {e:FO}
structure CompOk (X:Cx) (scope:Scope) (cl:List (Str × Addr)) (N':List Str) (js:List (Option Nat)):Prop where
 calm:X.calm=true
 clo:clo X.env scope.names []=some cl
 free:ax7 X scope cl js N'
 cell:∀ y∈scope.names,y.2 ≠ .cell
 kind:scope.kind=.function
 names:∀ x∈scope.names,x.2=.local->scope.names.lookup x.1=some .local
theorem CompOk.hcl (k:CompOk X scope cl N' js):∀ x c,cl.lookup x=some c->X.env.cells.lookup x=some c:=fun x c h=>by
 rcases aVh k.clo x c (aqx h) with z | z
 ·simp at z
 ·exact z
theorem CompOk.hhas (k:CompOk X scope cl N' js):∀ x,((Cw scope X.env).names.lookup x=some .cell \/ (Cw scope X.env).names.lookup x=some .free)->∃ c,cl.lookup x=some c:=fun x h=>by
 obtain ⟨c,hc⟩:=(aVi k.clo).2 x (aXb k.cell h);exact av4 hc
theorem aqmz {K:Frag} {S:List Bool} {f:FO} {σ:L2.St} {H:Hp} {Q:VK} (q:tM K (mO S f) σ H Q):tO K f σ H Q:=by
 obtain ⟨β,F,ρ,p,r,hf,k⟩:=q;obtain ⟨o,ho,rfl⟩:=map_some hf;obtain ⟨G,l,re,rz⟩:=r.look S;refine ⟨G,frz S ρ,o,l.gh,re,ho,fun v F' H' A e q n=>?_⟩
 by_cases hi:oim o=true
 ·rw [if_pos hi] at k
  exact k v _ H' aqy e.hh (r.push (l.ext e r.ext.fh) (l.own e r.ext.fh hi q) fun b z=>⟨(aQg r.ext.fh (n b z).2).trans (n b z).1,(n b z).2⟩)
 ·rw [if_neg hi] at k
  exact k v F' H' (l.fg.trans e.ff) e.hh (rz.push e q n)
section
variable {wi:TI} {f:FO} (k:CompOk X scope cl N' js) (hi:PI X target iter wi) (hw:∀ σ H Q,tO X.K f σ H Q->aqbb wi (tGE X.K g) (tDT X.K c) (tO X.K e) js σ H Q)
 (hg:∀ C s₀ H₀ ex pn,DGE (aO X N' scope cl C s₀ H₀ ex pn) target g) (ht:∀ C s₀ H₀ ex pn,DIfs (aO X N' scope cl C s₀ H₀ ex pn) ifs c) (he:∀ C s₀ H₀ ex pn,DO (aO X N' scope cl C s₀ H₀ ex pn) elt e)
include k hi hw hg ht he
theorem cN (hs:∀ x,B7 iter X.env x=pure x:=by intro _; rfl):DO X (.ListComp elt [⟨target,iter,ifs,0⟩] scope pos) f :=
 PE.imp (aqdl (g:=tGE X.K g) (tc:=tDT X.K c) (te:=tO X.K e) k.calm hi (axn k.clo) k.free k.hcl k.hhas k.cell k.kind k.names hg ht he hs) hw
theorem aqa8 {i:Nat} {S:List Bool} {y:Str} {py spos:Pos} (hN:X.N.Nodup) (hi':X.N[i]?=some y) (hy:X.env.scope.names.lookup y=some .local)
  (hsw:Hw (.ListComp elt [⟨target,iter,ifs,0⟩] scope pos) (some (.Name y py)) spos.line X.env=pure true) (hs:∀ x,B7 iter X.env x=pure x:=by intro _; rfl) :
  DS X (.Assign [.Name y py] (.ListComp elt [⟨target,iter,ifs,0⟩] scope pos) spos) [i] (aqrs i (mO S f)) :=
 aB i (PS.imp (aqdi (g:=tGE X.K g) (tc:=tDT X.K c) (te:=tO X.K e) hN hi' hy hsw k.calm hi (axn k.clo) k.free k.hcl k.hhas k.cell k.kind k.names hg ht he hs) fun E σ H q=>hw _ _ _ (aqmz q))
end
end
end DL
set_option maxHeartbeats 1000000
namespace DL
open PySem PySem.Spec PyProof.Rows L2
theorem aqb4 {k:Nat} {A:Around} (r:Room k A):A.units + 64 + 1 < cLine:=by have:=r.un; omega
section
variable {X:Cx} {K:Frag} {F:Hp}
theorem aqfg {α β:Type} {R:α->β->Prop} {xs:List α} {ys:List β} (hl:xs.length=ys.length) (is:List Nat) (h:∀ (i:Nat) (a:α),xs[i]?=some a->∃ b,ys[i]?=some b/\R a b):Paired R (is.filterMap (xs[·]?)) (is.filterMap (ys[·]?)):=by
 induction is with
 | nil=>exact .nil
 | cons i is ih =>
  rw [filterMap_cons,filterMap_cons];cases q:xs[i]? with
  | none =>
   have:ys[i]?=none:=by rw [Fc] at q ⊢; omega
   rw [this]; exact ih
  | some a =>
   obtain ⟨b,hb,r⟩:=h i a q;rw [hb]; exact .cons r ih
theorem aqo1 (lo hi st:Option Int) (n:Nat):bndP lo hi st n=E2 lo hi st n:=rfl
theorem aqii (a b c:Int):rngP a b c=sliceRange a b c:=rfl
theorem aqbn {xs:List V} {its:List Value} (r:aqs0 xs its) (lo hi st:Option Int):aqs0 (aqhn xs lo hi st) (Li its.toArray lo hi st).toList:=by
 unfold aqhn Li;rw [aqo1,aqii,r.length];simp only [size_toArray,Ki,Lp];exact aqfg r.length _ fun i a h=>r.get h
def rSl3 (K:Frag) (x:V) (lo hi st:Option Int) (H:Hp) (Q:VK):Prop:=∃ a xs,x=.ref a/\SqL K H a xs/\st ≠ some 0/\(aqhn xs lo hi st).length <= Ag/\∀ p,H p=none->Q (.ref p) (upd H p (.lst (aqhn xs lo hi st)))
theorem aqbq {e st:Expr} {lo hi:Option Expr} {te:TE} {tl th tk:TO} {p2 pos:Pos} (he:PE X e te) (hl:PO X lo tl) (hu:PO X hi th) (hk:PO X (some st) tk) :
  PE X (.Subscript e (.Slice lo hi (some st) p2) pos) (fun σ H Q=>te σ H fun x H1=>tl σ H1 fun l H2=>th σ H2 fun u H3=>tk σ H3 fun k H4=>rSl3 X.K x l u k H4 Q):=by
 intro pins s σ H Q I h;refine Mb (thn (he pins s σ H _ I h) fun v s1 hQ=>?_);obtain ⟨x,H1,I1,r1,q1⟩:=hQ;refine wpAny_Slice (thn (hl pins s1 σ H1 _ I1 q1) fun vl s2 ⟨l,H2,I2,pl,q2⟩=>thn (hu pins s2 σ H2 _ I2 q2) fun vu s3 ⟨u,H3,I3,pu,q3⟩=>thn (hk pins s3 σ H3 _ I3 q3) fun vk s4 hQ=>?_);obtain ⟨k,H4,I4,pk,q4⟩:=hQ;have I5:Inv X pins σ H4 { s4 with heap:=s4.heap.push { cls:=.type "slice",data:=.fields #[vl,vu,vk] } }:=I4.kept (t':=s4.toks) fun b ob q=>Ae _ q;obtain ⟨a,xs,rfl,hx,h0,hz,q⟩:=q4;cases r1;obtain ⟨its,r,ht,hz0⟩:=I5.list hx;have hlen:=r.length;show wpAny (model X.prog X.w) X.A (Jg e (.Slice lo hi (some st) p2) (.ref a) (.ref s4.heap.objs.size)) (EP X pins σ Q) X.xe { s4 with heap:=s4.heap.push { cls:=.type "slice",data:=.fields #[vl,vu,vk] } };refine tail_any (ops:=[.ref a,.ref s4.heap.objs.size]) ht.isList.typeIs Iw.lookup ?_ (by with_unfolding_all rfl);refine Jh ht.isList (Mc ..) pl pu pk h0 ?_ (by rw [size_toArray] <;> omega);have rp:=aqbn r l u k;refine ⟨.ref _,_,I5.lnew (t':=s4.toks) (its:=(Li its.toArray l u k).toList) rp hz,rfl,q _ I5.fresh⟩
theorem aQq (hc:X.calm=true):awm X (.builtin "sum") (fun xs H Q=>∃ (p:Addr) (ns:List Int),xs=[.ref p]/\SqL X.K H p (ns.map V.int)/\Q (.int ns.sum) H):=by
 intro pins s σ H xs us Q I r h;obtain ⟨p,ns,rfl,hq,q⟩:=h;cases r with
 | cons r1 r =>
  cases r;cases r1;obtain ⟨its,rv,ht,hz⟩:=I.list hq;have ia:=ajm rv;have hall:=ia.allInts;obtain ⟨ys,hys⟩:=hall.items;have hl:=ht.isList;rw [hys] at hl;refine sum_intListG (I.ok.hd hc) hl fun h' tk t' hk=>?_;have en:(ys.toList.map (·.1))=ns:=by rw [<- nums_intItems,<- hys]; simpa using ia.numsOf
  rw [preSum_eq,Ef (by simp),en];exact ⟨.int _,H,I.kept (t':=tk) hk,⟨_,rfl⟩,q⟩
theorem aqia (ns:List Int) (a:Int):sumD (ns.map D.int) a=some (a + ns.sum):=by
 induction ns generalizing a with
 | nil=>simp [sumD]
 | cons n ns ih=>simp [sumD,ih,Int.add_assoc]
theorem aZi:∀ {ds:List D} {a b:Int},sumD ds a=some b->∃ ns:List Int,ds=ns.map D.int
 | [],_,_,_=>⟨[],rfl⟩
 | d :: ds,a,b,h=>by
  cases d with
  | int i =>
   obtain ⟨ns,e⟩:=aZi (ds:=ds) (a:=a + i) (b:=b) h;exact ⟨i :: ns,by rw [e]; rfl⟩
  | _=>simp [sumD] at h
theorem aqa:∀ {vs:List V} {ns:List Int},Reps K F vs (ns.map D.int)->vs=ns.map V.int
 | [],[],_=>rfl
 | [],_ :: _,r=>by cases r
 | _ :: _,[],r=>by cases r
 | v :: vs,n :: ns,r=>by
  cases r with
  | cons h t=>cases h; rw [aqa t]; rfl
theorem aQp:aqlk K (fun xs H Q=>∃ (p:Addr) (ns:List Int),xs=[.ref p]/\SqL K H p (ns.map V.int)/\Q (.int ns.sum) H) dSum:=by
 intro ds d F H vs Q h s r k;unfold dSum at h;split at h
 ·obtain ⟨n,hn,rfl⟩:=map_some h
  obtain ⟨ns,rfl⟩:=aZi hn;rw [aqia] at hn;cases hn;cases r with | cons r r' =>
  cases r';cases r with | lst q t =>
  have:=aqa t
  subst this;exact ⟨_,ns,rfl,(aqqy s q).l,k _ F H (Ext.refl s) (by rw [F8]; exact .int _)⟩
 ·cases h
theorem blVals:∀ {bs:List Bool} {us:List Value},aqs0 (bs.map V.bl) us->us=bs.map Value.bool
 | [],_,r=>by cases r; rfl
 | b :: bs,_,r=>by
  cases r with
  | cons h t=>cases h; rw [blVals t]; rfl
theorem aqgm {A:Around} {E:Value->Shared->Prop} {s:Shared} {l:Addr} {its:Array Value} {Q:Value->Shared->Prop} {prog:Aj} {w:World} (hl:s.heap.IsList l its)
  (h:∀ s₂:Shared,(∀ b o,s.heap.get? b=some o->s₂.heap.get? b=some o)->s₂.toks=s.toks->s₂.os=s.os->s₂.gens=s.gens->s₂={ s with heap:=s₂.heap }->(s₂.heap.IsListIter s.heap.objs.size l 0/\s₂.heap.IsList l its)->l ≠ s.heap.objs.size->Q (.ref s.heap.objs.size) s₂) :
  wpAny (model prog w) A (Kn (.ref l)) Q E s:=by
 have hlt:l < s.heap.objs.size:=by obtain ⟨_,e,_⟩:=hl; exact Af e
 exact Iq hl (h _ (fun b o e=>Ae _ e) rfl rfl rfl rfl ⟨⟨_,Ah _ rfl,rfl,rfl⟩,hl.push _⟩ (ne_of_lt hlt))
theorem aVx {prog:Aj} {w:World} {A:Around} (bs:List Bool):TruthOf prog w A (fun i v=>(bs.map Value.bool).toArray[i]?=some v) fun i=>bs.getD i false:=by
 intro i v s Q E hP hQ;rw [Ki,getElem?_map] at hP;obtain ⟨b,hb,rfl⟩:=map_some hP
 have:bs.getD i false=b:=by simp [List.getD,hb]
 exact Dq (by rw [<- this]; exact hQ)
theorem aqbm (bs:List Bool):((Ax bs.length).all fun i=>bs.getD i false)=bs.all id:=by
 rw [Bg]; simp only [Gv,Bt];constructor
 ·intro h b hb
  obtain ⟨i,hi,rfl⟩:=List.mem_iff_getElem.mp hb;simpa [hi] using h i hi
 ·intro h i hi
  have:=h bs[i] (getElem_mem hi)
  simpa [hi] using this
theorem aQr (hc:X.calm=true):awm X (.builtin "all") (fun xs H Q=>∃ (p:Addr) (bs:List Bool),xs=[.ref p]/\SqL X.K H p (bs.map V.bl)/\Q (.bl (bs.all id)) H):=by
 intro pins s σ H xs us Q I r h;obtain ⟨p,bs,rfl,hq,q⟩:=h;cases r with
 | cons r1 r =>
  cases r;cases r1;obtain ⟨its,rv,ht,hz⟩:=I.list hq;obtain rfl:=blVals rv;refine call_all_walk (aqgm ht.isList fun s₂ ks et eo eg es st ne=>?_);refine ⟨_,_,_,_,_,_,fun i=>bs.getD i false,rfl,Walks.list (A:=X.A.in1) (I.ok.hd hc) _ p ne (bs.map Value.bool).toArray,st,aVx bs,fun h' tk hk=>?_⟩;have e:(bs.map Value.bool).toArray.size=bs.length:=by simp
  rw [e,aqbm];rw [es];refine ⟨.bl _,H,I.kept (t':=tk) (h':=h') fun b o eb=>hk b o ?_ (ks b o eb),rfl,q⟩;intro hb;simp at hb;subst hb;exact absurd (Af eb) (lt_irrefl _)
theorem aJq:∀ {ds:List D} {bs:List Bool},aql3 ds=some bs->ds=bs.map D.bl
 | [],_,h=>by cases h; rfl
 | d :: ds,bs,h=>by
  cases d with
  | bl b =>
   obtain ⟨r,hr,rfl⟩:=map_some (show (aql3 ds).map (fun r=>b :: r)=some bs from h);rw [aJq hr]; rfl
  | _=>simp [aql3] at h
theorem ak1:∀ {vs:List V} {ns:List Bool},Reps K F vs (ns.map D.bl)->vs=ns.map V.bl
 | [],[],_=>rfl
 | [],_ :: _,r=>by cases r
 | _ :: _,[],r=>by cases r
 | v :: vs,n :: ns,r=>by
  cases r with
  | cons h t=>cases h; rw [ak1 t]; rfl
theorem aVk:aqlk K (fun xs H Q=>∃ (p:Addr) (bs:List Bool),xs=[.ref p]/\SqL K H p (bs.map V.bl)/\Q (.bl (bs.all id)) H) dAll:=by
 intro ds d F H vs Q h s r k;unfold dAll at h;split at h
 ·obtain ⟨bs,hb,rfl⟩:=map_some h
  have e:=aJq hb;subst e;cases r with | cons r r' =>
  cases r';cases r with | lst q t =>
  have:=ak1 t
  subst this;exact ⟨_,bs,rfl,(aqqy s q).l,k _ F H (Ext.refl s) (.bl _)⟩
 ·cases h
end
theorem Inv.turnedT {X:Cx} {pins:List (Addr × Obj)} {σ:L2.St} {H:Hp} {s:Shared} {h':Heap} {t':Nat} {fp:List Addr} {T:Addr} {o:HO} (I:Inv X pins σ H s) (k:∀ b u,b ∉ fp->s.heap.get? b=some u->h'.get? b=some u) (hf:∀ b∈fp,FpOk X pins H b)
  (hT:s.heap.objs.size <= T) (new:axu X.prog X.w (upd H T o) h' T o):Inv X pins σ (upd H T o) { s with heap:=h',toks:=t' }:=by
 have hn:H T=none:=I.hok.fresh hT;have lt:∀ b u,s.heap.get? b=some u->b ≠ T:=fun b u e z=>absurd (Af e) (by rw [z]; exact Mg.mpr hT);have nfp:∀ b u,H b=some u->b ∉ fp:=fun b u e z=>by rw [(hf b z).1] at e; cases e
 refine I.step (g':=s.gens) (d':=s.drawn) (ch:=fp) (fun b hb=>?_) (fun b u _ _ hc e _=>k b u hc e) (fun b u _ _ hc e _=>⟨u.slots,k b u hc e⟩) (fun b u _ e n=>by rw [ah (lt b u e)]; exact n)
  (fun b u hc e=>⟨u,k b u hc e⟩) (fun b xs e=>by rw [ah (ae e hn)]; exact e) (fun b u w e=>by rw [ah (ae e hn)]; exact e) (fun b ps e=>⟨#[],by rw [ah (ae e hn),e]; simp⟩) (fun m hm=>?_) (fun b u e=>?_) I.bare
 ·obtain ⟨f0,f1,f2,f3,f4,f5⟩:=hf b hb
  exact ⟨f3,f1,f4,f5⟩
 ·obtain ⟨u,es,ep,ho,r⟩:=hm
  refine ⟨u,es,ep,k _ u (fun z=>(hf _ z).2.1 rfl) ho,r⟩
 ·by_cases hb:b=T
  ·subst hb; rw [ac] at e; cases e; exact new
  ·rw [ah hb] at e
   refine (I.hok b u e).stay (fun c v hc q=>k c v ?_ q) (fun c q=>by rw [ah (ae q hn)]; exact q) fun c xs q=>by rw [ah (ae q hn)]; exact q
   rcases hc with z | z
   ·rw [z]; exact nfp b u e
   ·exact nfp c _ z
theorem Inv.turnedL {X:Cx} {pins:List (Addr × Obj)} {σ:L2.St} {H:Hp} {s:Shared} {h':Heap} {t':Nat} {fp:List Addr} (I:Inv X pins σ H s) (k:∀ b u,b ∉ fp->s.heap.get? b=some u->h'.get? b=some u) (hf:∀ b∈fp,FpOk X pins H b):Inv X pins σ H { s with heap:=h',toks:=t' }:=by
 have nfp:∀ b u,H b=some u->b ∉ fp:=fun b u e z=>by rw [(hf b z).1] at e; cases e
 refine I.step (g':=s.gens) (d':=s.drawn) (ch:=fp) (fun b hb=>?_) (fun b u _ _ hc e _=>k b u hc e) (fun b u _ _ hc e _=>⟨u.slots,k b u hc e⟩) (fun b u _ e n=>n)
  (fun b u hc e=>⟨u,k b u hc e⟩) (fun b xs e=>e) (fun b u w e=>e) (fun b ps e=>⟨#[],by rw [e]; simp⟩) (fun m hm=>?_) (fun b u e=>?_) I.bare
 ·obtain ⟨f0,f1,f2,f3,f4,f5⟩:=hf b hb
  exact ⟨f3,f1,f4,f5⟩
 ·obtain ⟨u,es,ep,ho,r⟩:=hm
  refine ⟨u,es,ep,k _ u (fun z=>(hf _ z).2.1 rfl) ho,r⟩
 ·refine (I.hok b u e).stay (fun c v hc q=>k c v ?_ q) (fun c q=>q) fun c xs q=>q
  rcases hc with z | z
  ·rw [z]; exact nfp b u e
  ·exact nfp c _ z
def Ite (K:Frag) (a:Addr):It :=
 ⟨fun i H=>∃ xs x,SqL K H a xs/\xs[i]?=some x,fun i H x H'=>∃ T v,x=.ref T/\H T=none/\H'=upd H T (.tup [.int (i:Int),v])/\∀ xs,SqL K H a xs->xs[i]?=some v,fun i H=>∃ xs,SqL K H a xs/\xs.length=i⟩
theorem aqb8 {P:Aj} {w:World} {K:Frag} {elts:List Expr} {kk:Nat} {tp:Pos} (a e it:Addr) (hei:e ≠ it) (hae:a ≠ e) (hai:a ≠ it):Turn P w K (.Tuple elts kk tp) (Ite K a) [e,it] e (fun i h=>(∃ old,IsEnum h e it i old)/\h.IsListIter it a i) where
 mem:=by simp
 obj:=fun i h st b hb=>by
  obtain ⟨⟨old,he⟩,⟨o,eo,c,d⟩⟩:=st;have hb':b=e \/ b=it:=by simpa using hb
  rcases hb' with rfl | rfl
  ·exact ⟨_,he,fun v z=>by cases z⟩
  ·exact ⟨o,eo,fun v z=>by rw [d] at z; cases z⟩
 keep:=fun i h h' st k=>by
  obtain ⟨⟨old,he⟩,hi⟩:=st;exact ⟨⟨old,k e (by simp) _ he⟩,hi.at fun o q=>k it (by simp) o q⟩
 item:=by
  intro X hP hw hK hc i pins s σ H E I hf st hg;subst hP hw hK;obtain ⟨xs,x,hq,hx⟩:=hg;obtain ⟨its,rv,p,hz⟩:=I.list hq;obtain ⟨u,hu,ru⟩:=rv.get hx;have W:=WalksT.enumerateD (prog:=X.prog) (w:=X.w) (A:=X.A) (Draws.list (A:=X.A.in1) (I.ok.hd hc) it a hai its.toArray) e hei (by simp; exact ⟨hei,Bw hae⟩) (by simp);have hlt:i < its.toArray.size:=by simp; exact (Ai.mp hu).1
  refine W.item i s _ E hlt ⟨st.1,st.2,p.isList⟩ fun T vals h' tk hP hT htup hmid hk=>⟨.ref T,rfl,?_⟩;refine W.go elts kk tp i T _ _ E hmid fun h'' hst'' hk''=>?_;obtain ⟨t,x',hx',rfl⟩:=hP;have ex:x'=u:=by
   have h1:its[i]?=some x':=by simpa using hx'
   rw [hu] at h1; cases h1; rfl
  subst ex;have nT:T ∉ [e,it]:=W.apart i T h' hmid;obtain ⟨oT,hoT,hcT,nT2,hdT⟩:=id htup;have kall:∀ b u,b ∉ [e,it]->s.heap.get? b=some u->h''.get? b=some u:=fun b u hb e=>hk'' b u hb (hk b u hb e);have new:axu X.prog X.w (upd H T (.tup [.int (i:Int),x])) h'' T (.tup [.int (i:Int),x]):=by
   refine ⟨by simp [Au],[.int (i:Int) t,x'],.cons ⟨_,rfl⟩ (.cons ru .nil),?_⟩;exact ⟨oT,hk'' T oT nT hoT,hcT,nT2,hdT⟩
  have I2:=DL.Inv.turnedT I (h':=h'') (t':=tk) kall hf hT new;refine ⟨.ref T,_,I2,rfl,⟨T,x,rfl,I.hok.fresh hT,rfl,fun ys hy=>by rw [I.list_inj hy hq]; exact hx⟩,⟨hst''.1,hst''.2.1⟩,fun b hb=>?_⟩;rw [ah (by rintro rfl; exact nT hb)];exact (hf b hb).1
 done:=by
  intro X hP hw hK hc i pins s σ H E I hf st hg;subst hP hw hK;obtain ⟨xs,hq,hx⟩:=hg;obtain ⟨its,rv,p,hz⟩:=I.list hq;have W:=WalksT.enumerateD (prog:=X.prog) (w:=X.w) (A:=X.A) (Draws.list (A:=X.A.in1) (I.ok.hd hc) it a hai its.toArray) e hei (by simp; exact ⟨hei,Bw hae⟩) (by simp);have hl:its.toArray.size=i:=by rw [<- hx,rv.length]; simp
  refine W.done s _ E (by rw [hl]; exact ⟨st.1,st.2,p.isList⟩) fun h' tk hk=>⟨rfl,DL.Inv.turnedL I (fp:=[e,it]) hk hf⟩
 self:=fun _ _ _ _ _ st h=>by
  obtain ⟨⟨old,he⟩,_⟩:=st;exact wpAny_pyIter_enum he h
section
variable {X:Cx} {elts:List Expr} {kk:Nat} {tp p pos:Pos} {a b:Expr}
theorem sq_lt {pins:List (Addr × Obj)} {σ:L2.St} {H:Hp} {s:Shared} {l:Addr} {xs:List V} (I:Inv X pins σ H s) (h:SqL X.K H l xs):l < s.heap.objs.size:=by
 obtain ⟨its,rv,p,hz⟩:=I.list h;obtain ⟨o,e,_⟩:=p.isList;exact Af e
def iEnum (K:Frag) (tl:TE):TI:=fun σ H R=>tl σ H fun x H1=>∃ a,x=.ref a/\(∃ xs,SqL K H1 a xs)/\R (Ite K a) H1
theorem aW2 {tl:TE} (hg:Gl X "enumerate") (hm:X.mg "enumerate"=none) (hl:PE X a tl) (hs:Ap [a] X.env=[(false,eval a X.env)]:=by rfl):PI X (.Tuple elts kk tp) (.Call (.Name "enumerate" p) [a] [] pos) (iEnum X.K tl):=by
 intro pins s σ H R I h;refine Call_ (aQc I hg hm aZa (B5 (thn ((aa hl bg (by rw [hs]; rfl)) pos pins s σ H (fun vs H1=>∃ x,vs=[x]/\∃ a,x=.ref a/\(∃ xs,SqL X.K H1 a xs)/\R (Ite X.K a) H1) I (by
  show tl σ H fun x H1=>_;exact (show (fun x H1=>∃ a,x=V.ref a/\(∃ xs,SqL X.K H1 a xs)/\R (Ite X.K a) H1)=(fun x H1=>∃ x',[x]=[x']/\∃ a,x'=V.ref a/\(∃ xs,SqL X.K H1 a xs)/\R (Ite X.K a) H1) from by
   funext x H1
   apply propext;exact ⟨fun z=>⟨x,rfl,z⟩,fun ⟨x',e,z⟩=>by cases e; exact z⟩) ▸ h)) fun us s1 ⟨vs,H1,I1,r1,q1⟩=>?_) hs rfl))
 obtain ⟨x,rfl,l,rfl,⟨xs,hq⟩,q⟩:=q1;cases r1 with
 | cons r rr =>
  cases rr;cases r;obtain ⟨its,rv,pl,hz⟩:=I1.list hq;refine call_enumerate_list pl.isList fun h' he hit hsz hk=>?_;have hlt:=sq_lt I1 hq;refine wpAny_pyIter_enum he ?_;have I2:Inv X pins σ H1 { s1 with heap:=h' }:=I1.kept (t':=s1.toks) hk;refine ⟨s1.heap.objs.size + 1,[s1.heap.objs.size + 1,s1.heap.objs.size],_,_,H1,rfl,I2,aqb8 l _ _ (Nat.succ_ne_self _) (ne_of_lt (lt_succ_of_lt hlt)) (ne_of_lt hlt),⟨⟨_,by simpa using he⟩,hit⟩,fun b hb=>?_,q⟩;have hb':b=s1.heap.objs.size + 1 \/ b=s1.heap.objs.size:=by simpa using hb
  rcases hb' with rfl | rfl
  ·exact I1.fpOk (le_succ _) (I1.hok.fresh (le_succ _))
  ·exact I1.fpOk (le_refl _) (I1.hok.fresh (le_refl _))
theorem aX0 {ds:List D}:(aqht ds).length=ds.length:=by simp [aqht]
theorem aqgx {ds:List D} {i:Nat} (h:i < ds.length):(aqht ds)[i]'(by rw [aX0]; exact h)=.tup [.int (i:Int),ds[i]]:=by simp [aqht]
variable {js:List (Option Nat)} {g:GE} {c:FT} {e:FO}
theorem aVg {K:Frag} {f:FE} {σ:L2.St} {H:Hp} {Q:VK} (h:tO K (aqg3 js f g c e) σ H Q):aqbb (iEnum K (tD K f)) (tGE K g) (tDT K c) (tO K e) js σ H Q:=by
 obtain ⟨F,ρ,total,s,re,hf,k⟩:=h;obtain ⟨d,hd,hf⟩:=bind_some hf;rw [aZb] at hf;split at hf
 ·rename_i xs
  split at hf
  ·rename_i hlen
   obtain ⟨total,hf2,rfl⟩:=map_some hf;have hf:=hf2;clear hf2;refine ⟨F,ρ,.lst xs,s,re,hd,fun v F1 H1 e1 r1=>?_⟩;cases r1 with
   | lst q t =>
    rename_i a vs;refine ⟨a,rfl,⟨vs,(aqqy e1.fh q).l⟩,fun l hl=>⟨fun i m σ' H'=>∃ F' ρ' done ys,CI K F1 H1 F' H' σ' ρ' l done/\SqE K F' a vs/\Reps K F' vs xs/\i <= xs.length/\m=xs.length - i/\done.length <= i/\akb g c e ((aqht xs).drop i) ρ'=some ys/\total=done++ys,
     ⟨_,F1,mkD js ρ,[],total,aqaj re e1 hl,q,t,zero_le _,rfl,le_refl _,hf,rfl⟩,?_⟩⟩
    rintro i m σ' H' ⟨F',ρ',done,ys,ci,q',t',hi,rfl,hdn,hc,ht⟩
    by_cases hlt:i < xs.length
    ·have hv:i < vs.length:=by rw [t'.length]; exact hlt
     refine .inr ⟨⟨vs,vs[i],(aqqy ci.ext.fh q').l,by simp [hv]⟩,fun x H2 y=>?_⟩;obtain ⟨T,v',rfl,hT,rfl,y⟩:=y;obtain ⟨d,hd1,hd2⟩:=t'.get (y vs (aqqy ci.ext.fh q').l);have ed:xs[i]=d:=by rw [getElem?_eq_getElem hlt] at hd1; exact Option.some.inj hd1
     rw [aQl (by rw [aX0]; exact hlt),aqgx hlt,ed] at hc;have hFT:=ci.ext.fh.free hT;have eT:=Ext.laid (o:=.tup [.int (i:Int),v']) ci.ext.fh hT;refine aVf (N:=fun σ2 H2=>∃ m',m' < xs.length - i/\_) (ci.more eT) hl (.tup (.inl (.inl ac)) (.cons (.int _) (.cons (hd2.mono (gd hFT)) .nil))) (lt_of_lt_of_le (lt_of_le_of_lt hdn hlt) (axp hlen)) hc fun F2 H2 σ2 ρ2 new ys' s2 ci2 hn2 hc2 he2=>?_;exact ⟨_,by omega,F2,ρ2,done++new,ys',ci2,aqqy (eT.ff.trans s2) q',t'.mono (eT.ff.trans s2),hlt,rfl,by simp; omega,hc2,by rw [ht,he2]; simp⟩
    ·refine .inl ⟨⟨vs,(aqqy ci.ext.fh q').l,by rw [t'.length]; omega⟩,?_⟩
     rw [drop_of_length_le (by rw [aX0]; omega)] at hc;cases hc
     have:total=done:=by simpa using ht
     subst this;obtain ⟨A,o1,o2⟩:=ci.own hl;exact k (.ref l) F' H' A (e1.trans ci.ext) o1 fun b z=>⟨(o2 b z).1,e1.hh.free (o2 b z).2⟩
  ·cases hf
 ·cases hf
end
section
variable {X:Cx} {elts:List Expr} {kk:Nat} {tp p pos:Pos} {a b:Expr}
theorem aqm7 (n l1 l2:Nat) (h1:l1 < n) (h2:l2 < n):Kr (n + 4) (n + 2) (n + 3) n (n + 1) l1 l2:=by
 constructor <;> (show (_:Nat) ≠ _; omega)
variable {js:List (Option Nat)} {g:GE} {c:FT} {e:FO}
end
end DL
namespace DL
open PySem
def aqb3:List D->Option (List Int)
 | []=>some []
 | .int n :: ds=>(aqb3 ds).map (n :: ·)
 | _=>none
theorem axd:∀ {ds:List D} {ns:List Int},aqb3 ds=some ns->ds=ns.map D.int
 | [],_,h=>by cases h; rfl
 | d :: ds,ns,h=>by
  cases d with
  | int i =>
   simp only [aqb3] at h;cases q:aqb3 ds with
   | none=>rw [q] at h; cases h
   | some ms=>rw [q] at h; cases h; rw [axd q]; rfl
  | _=>cases h
@[simp] theorem aqci:∀ (ns:List Int),aqb3 (ns.map D.int)=some ns
 | []=>rfl
 | n :: ns=>by simp [aqb3,aqci ns]
def insU (x:Int):List Int->List Int
 | []=>[x]
 | y :: ys=>if x < y then x :: y :: ys else if x=y then y :: ys else y :: insU x ys
def aqd (ns:List Int):List Int:=ns.foldr insU []
theorem aXq (x z:Int):∀ l:List Int,z∈insU x l ↔ z=x \/ z∈l
 | []=>by simp [insU]
 | y :: ys=>by
  unfold insU;split
  ·simp
  ·split
   ·rename_i e; subst e; simp
   ·simp [aXq x z ys]
    constructor
    ·rintro (h | h | h)
     ·exact .inr (.inl h)
     ·exact .inl h
     ·exact .inr (.inr h)
    ·rintro (h | h | h)
     ·exact .inr (.inl h)
     ·exact .inl h
     ·exact .inr (.inr h)
theorem aQ4 (x:Int):∀ l:List Int,l.Pairwise (· < ·)->(insU x l).Pairwise (· < ·)
 | [],_=>by simp [insU]
 | y :: ys,h=>by
  rw [pairwise_cons] at h;unfold insU;split
  ·rename_i hx
   rw [pairwise_cons];refine ⟨fun z hz=>?_,Fp.mpr h⟩;rcases Ao.mp hz with rfl | hz
   ·exact hx
   ·exact Int.lt_trans hx (h.1 z hz)
  ·split
   ·exact Fp.mpr h
   ·rename_i h1 h2
    rw [pairwise_cons];refine ⟨fun z hz=>?_,aQ4 x ys h.2⟩;rcases (aXq x z ys).mp hz with rfl | hz
    ·omega
    ·exact h.1 z hz
theorem azt (z:Int):∀ ns:List Int,z∈aqd ns ↔ z∈ns
 | []=>by simp [aqd]
 | n :: ns=>by
  have:=azt z ns
  simp only [aqd] at this;simp only [aqd,List.foldr_cons,aXq,mem_cons,this]
theorem aj9:∀ ns:List Int,(aqd ns).Pairwise (· < ·)
 | []=>by simp [aqd]
 | n :: ns=>by
  have:=aj9 ns
  simp only [aqd] at this ⊢;exact aQ4 n _ this
theorem awh:∀ {l m:List Int},l.Pairwise (· < ·)->m.Pairwise (· < ·)->(∀ x,x∈l ↔ x∈m)->l=m
 | [],[],_,_,_=>rfl
 | [],y :: ys,_,_,h=>absurd ((h y).mpr (by simp)) (by simp)
 | x :: xs,[],_,_,h=>absurd ((h x).mp (by simp)) (by simp)
 | x :: xs,y :: ys,h1,h2,h=>by
  rw [pairwise_cons] at h1 h2;have e:x=y:=by
   rcases Ao.mp ((h x).mp (by simp)) with e | e
   ·exact e
   ·rcases Ao.mp ((h y).mpr (by simp)) with e' | e'
    ·exact e'.symm
    ·have a1:=h2.1 x e
     have a2:=h1.1 y e';omega
  subst e;rw [awh h1.2 h2.2 fun z=>?_];constructor
  ·intro hz
   rcases Ao.mp ((h z).mp (mem_cons_of_mem _ hz)) with e | e
   ·subst e; exact absurd (h1.1 z hz) (Int.lt_irrefl _)
   ·exact e
  ·intro hz
   rcases Ao.mp ((h z).mpr (mem_cons_of_mem _ hz)) with e | e
   ·subst e; exact absurd (h2.1 z hz) (Int.lt_irrefl _)
   ·exact e
def aXu:List D->Option (List D)
 | [.lst xs]=>(aqb3 xs).bind fun ns=>if ns.length < 4000/\(aqd ns).length < 64 then some ((aqd ns).map .int) else none
 | _=>none
def insL (x:Int):List Int->List Int
 | []=>[x]
 | y :: ys=>if x <= y then x :: y :: ys else y :: insL x ys
def aqda (ns:List Int):List Int:=ns.foldr insL []
theorem aw5 (x:Int):∀ l:List Int,(insL x l).Perm (x :: l)
 | []=>.refl _
 | y :: ys=>by
  unfold insL;split
  ·exact .refl _
  ·exact ((aw5 x ys).cons y).trans (List.Perm.swap _ _ _)
theorem avw:∀ ns:List Int,(aqda ns).Perm ns
 | []=>.refl _
 | n :: ns=>(aw5 n _).trans ((avw ns).cons n)
theorem aQ6 (x:Int):∀ l:List Int,l.Pairwise (· <= ·)->(insL x l).Pairwise (· <= ·)
 | [],_=>by simp [insL]
 | y :: ys,h=>by
  rw [pairwise_cons] at h;unfold insL;split
  ·rename_i hx
   rw [pairwise_cons];refine ⟨fun z hz=>?_,Fp.mpr h⟩;rcases Ao.mp hz with rfl | hz
   ·exact hx
   ·exact Int.le_trans hx (h.1 z hz)
  ·rename_i hx
   rw [pairwise_cons];refine ⟨fun z hz=>?_,aQ6 x ys h.2⟩;rcases Ao.mp ((aw5 x ys).mem_iff.mp hz) with rfl | hz
   ·omega
   ·exact h.1 z hz
theorem ak0:∀ ns:List Int,(aqda ns).Pairwise (· <= ·)
 | []=>.nil
 | n :: ns=>aQ6 n _ (ak0 ns)
theorem aXz {ns ns':List Int} (hp:ns'.Perm ns) (hs:ns'.Pairwise (· <= ·)):ns'=aqda ns :=
 Jj (fun _ _ _ _ a b=>Int.le_antisymm a b) hs (ak0 ns) (hp.trans (avw ns).symm)
def aqjz:List D->Option (List D)
 | [.lst xs]=>(aqb3 xs).bind fun ns=>if ns.length < 64 then some ((aqda ns).map .int) else none
 | _=>none
end DL
namespace SetW
open PySem
def Ris (xs:Array Nat):Prop:=∀ (i k:Nat),i < k->∀ (a b:Nat),xs[i]?=some a->xs[k]?=some b->a < b
theorem aqkb {xs:Array Nat} {i d a:Nat} (h:xs[i]?=some a):xs.getD i d=a:=by
 rw [Eu,h]; rfl
theorem akj {xs:Array Nat} {i:Nat} (h:i < xs.size):∃ a,xs[i]?=some a:=⟨xs[i],by rw [Dj h]⟩
theorem aZc {xs:Array Nat} {j:Nat} (hx:Ris xs):∀ (fuel lo hi:Nat),hi - lo <= fuel->lo <= hi->hi <= xs.size->(∀ i a,i < lo->xs[i]?=some a->a < j)->(∀ i a,hi <= i->xs[i]?=some a->j <= a) ->
  F9 xs j fuel lo hi <= xs.size/\(∀ i a,i < F9 xs j fuel lo hi->xs[i]?=some a->a < j)/\(∀ i a,F9 xs j fuel lo hi <= i->xs[i]?=some a->j <= a)
 | 0,lo,hi,h1,h2,h3,h4,h5=>by
  have:lo=hi:=by omega
  subst this;exact ⟨h3,h4,h5⟩
 | fuel + 1,lo,hi,h1,h2,h3,h4,h5=>by
  unfold F9
  by_cases hl:lo < hi
  ·rw [if_pos hl]
   obtain ⟨m,hm⟩:∃ m,xs[(lo + hi) / 2]?=some m:=akj (by omega);dsimp only;rw [aqkb hm]
   by_cases hj:m < j
   ·rw [if_pos hj]
    refine aZc hx fuel _ hi (by omega) (by omega) h3 (fun i a hi' ha=>?_) h5
    by_cases e:i=(lo + hi) / 2
    ·subst e; rw [hm] at ha; cases ha; exact hj
    ·exact lt_trans (hx i _ (by omega) a m ha hm) hj
   ·rw [if_neg hj]
    refine aZc hx fuel lo _ (by omega) (by omega) (by omega) h4 (fun i a hi' ha=>?_)
    by_cases e:i=(lo + hi) / 2
    ·subst e; rw [hm] at ha; cases ha; omega
    ·have:=hx _ i (by omega) m a hm ha; omega
  ·rw [if_neg hl]
   have:lo=hi:=by omega
   subst this;exact ⟨h3,h4,h5⟩
theorem akg {xs:Array Nat} (hx:Ris xs) (j:Nat):SetTable.below xs j <= xs.size/\(∀ i a,i < SetTable.below xs j->xs[i]?=some a->a < j)/\(∀ i a,SetTable.below xs j <= i->xs[i]?=some a->j <= a) :=
 aZc hx xs.size 0 xs.size (by omega) (by omega) (le_refl _) (fun i a h=>absurd h (Nat.not_lt_zero _)) fun i a h ha=>by
  rw [getElem?_eq_none h] at ha; cases ha
theorem aqaq {xs:Array Nat} (hx:Ris xs) {i a:Nat} (h:xs[i]?=some a):SetTable.below xs (a + 1)=i + 1:=by
 obtain ⟨h1,h2,h3⟩:=akg hx (a + 1);have hi:i < xs.size:=by
  by_cases c:i < xs.size
  ·exact c
  ·rw [getElem?_eq_none (by omega)] at h; cases h
 generalize SetTable.below xs (a + 1)=r at h1 h2 h3;have g1:i < r:=by
  by_cases c:i < r
  ·exact c
  ·have:=h3 i a (by omega) h; omega
 by_cases g2:i + 1 < r
 ·obtain ⟨b,hb⟩:=akj (xs:=xs) (i:=i + 1) (by omega)
  have c1:=h2 (i + 1) b g2 hb;have c2:=hx i (i + 1) (by omega) a b h hb;omega
 ·omega
theorem aqap {xs:Array Nat} (hx:Ris xs):SetTable.below xs 0=0:=by
 obtain ⟨h1,h2,h3⟩:=akg hx 0;generalize SetTable.below xs 0=r at h1 h2 h3;cases r with
 | zero=>rfl
 | succ r =>
  obtain ⟨a,ha⟩:=akj (xs:=xs) (i:=0) (by omega)
  have:=h2 0 a (by omega) ha
  omega
theorem aqbl {xs:Array Nat}:Ris xs ↔ xs.toList.Pairwise (· < ·):=by
 rw [Bo];constructor
 ·intro h i j hi hj hij
  exact h i j hij _ _ (by rw [<- getElem?_toList]; exact getElem?_eq_getElem hi) (by rw [<- getElem?_toList]; exact getElem?_eq_getElem hj)
 ·intro h i k hik a b ha hb
  rw [<- getElem?_toList] at ha hb;obtain ⟨hi,rfl⟩:=Ai.mp ha;obtain ⟨hk,rfl⟩:=Ai.mp hb;exact h i k hi hk hik
theorem aqik:Ris #[]:=by intro i k _ a b h; simp at h
theorem aqbk (n:Nat):Ris (Array.range n):=by
 rw [aqbl,Array.toList_range]; exact Ga
theorem aqij {xs:Array Nat} (hx:Ris xs) {j:Nat} (hj:xs[SetTable.below xs j]? ≠ some j):Ris (SetTable.insertAt xs (SetTable.below xs j) j):=by
 obtain ⟨h1,h2,h3⟩:=akg hx j;generalize SetTable.below xs j=r at h1 h2 h3 hj;have hp:=aqbl.mp hx;rw [aqbl,SetTable.toList_insertAt,List.pairwise_append,pairwise_cons];have hd:∀ b∈xs.toList.drop r,j < b:=by
  intro b hb;obtain ⟨k,hk⟩:=Ks hb;rw [Mh,getElem?_toList] at hk;have c1:=h3 (r + k) b (by omega) hk;cases k with
  | zero =>
   have:b ≠ j:=by rintro rfl; exact hj hk
   omega
  | succ k =>
   have hlt:r + (k + 1) < xs.size:=by
    by_cases c:r + (k + 1) < xs.size
    ·exact c
    ·rw [getElem?_eq_none (by omega)] at hk; cases hk
   obtain ⟨m,hm⟩:=akj (xs:=xs) (i:=r) (by omega);have c2:=h3 r m (le_refl _) hm;have c3:=hx r (r + (k + 1)) (by omega) m b hm hk;omega
 have ht:∀ a∈xs.toList.take r,a < j:=by
  intro a ha;obtain ⟨k,hk⟩:=Ks ha;have hkr:k < r:=by
   by_cases c:k < r
   ·exact c
   ·rw [Mi,if_neg c] at hk; cases hk
  rw [Mi,if_pos hkr,getElem?_toList] at hk;exact h2 k a hkr hk
 refine ⟨hp.sublist (List.take_sublist _ _),⟨hd,hp.sublist (List.drop_sublist _ _)⟩,fun a ha b hb=>?_⟩;rcases Ao.mp hb with rfl | hb
 ·exact ht a ha
 ·exact lt_trans (ht a ha) (hd b hb)
theorem aqbf {t:SetTable} {j:Nat} (h:∀ i,t.slot j ≠ .live i):t.place[SetTable.below t.place j]? ≠ some j:=by
 intro e;refine h (SetTable.below t.place j) ?_;simp [SetTable.slot,e]
theorem avu {t:SetTable} {f:Nat->Int} {h:Int}:∀ (fuel:Nat) (p:SetTable.Probe),(∀ d,p.dummy=some d->∀ i,t.slot d ≠ .live i)->∀ j d,SetTable.probe.go t f h fuel p=some (.empty j d)->∀ i,t.slot (d.getD j) ≠ .live i
 | 0,p,_,j,d,e=>by cases e
 | fuel + 1,p,hp,j,d,e=>by
  have had:∀ q:SetTable.Probe,(t.advance q).dummy=q.dummy:=by
   intro q; unfold SetTable.advance; split <;> rfl
  unfold SetTable.probe.go at e;split at e
  ·rename_i hs
   cases e;cases hd:p.dummy with
   | none=>intro i; rw [getD_none,hs]; exact Im
   | some d=>rw [Option.getD_some]; exact hp d hd
  ·rename_i hs
   refine avu fuel _ (fun d hd=>?_) j d e;rw [had] at hd;cases hd;intro i; rw [hs]; exact Im
  ·split at e
   ·cases e
   ·exact avu fuel _ (fun d hd=>hp d (by rw [had] at hd; exact hd)) j d e
def akx (led:Bool) (t:SetTable):Prop:=Ris t.place/\t.led=led
theorem akx.standIn {led:Bool} {t:SetTable} (h:akx led t) (n:Nat):akx led (t.standIn n):=⟨aqbk n,h.2⟩
theorem akx.plainOff {led:Bool} {t:SetTable} (h:akx led t):akx led { t with plain:=false }:=h
theorem akx.lay {led:Bool} {t:SetTable} (h:akx led t) (es:Array (Int × Value)) (n:Int) (x:Value):akx led (layNew t es n x).2.1:=by
 unfold layNew;split
 ·rename_i slot wd hf
  have hs:t.place[SetTable.below t.place slot]? ≠ some slot:=by
   unfold SetTable.freeSlot at hf;split at hf
   ·rename_i j d hq
    cases hf;exact aqbf (avu _ _ (fun d e=>by cases e) _ _ hq)
   ·cases hf
  have hput:akx led (t.put slot).1:=⟨aqij h.1 hs,h.2⟩;dsimp only;unfold SetTable.orStandIn;split
  ·exact hput
  ·exact hput.standIn _
 ·exact h.standIn _
theorem fm_pw {f:Nat->Option (Nat × Nat)} (hf:∀ j q,f j=some q->q.1=j):∀ (l:List Nat),l.Pairwise (· < ·)->((l.filterMap f).map (·.1)).Pairwise (· < ·)
 | [],_=>.nil
 | a :: l,h=>by
  rw [pairwise_cons] at h;rw [filterMap_cons];split
  ·exact fm_pw hf l h.2
  ·rename_i q hq
   rw [map_cons,pairwise_cons];refine ⟨fun b hb=>?_,fm_pw hf l h.2⟩;obtain ⟨z,hz,rfl⟩:=Bf.mp hb;obtain ⟨k,hk,hz'⟩:=C9.mp hz;rw [hf _ _ hq,hf _ _ hz'];exact h.1 k hk
theorem akx.relay {led:Bool} {t:SetTable} (h:akx led t) (es:Array (Int × Value)) (n:Nat):akx led (Kt t es n).2.1:=by
 unfold Kt;split
 ·rename_i t' order hr
  dsimp only;split
  ·unfold SetTable.relaid SetTable.laid at hr
   cases ho:SetTable.layClean (SetTable.sizeAbove n - 1) (es.map (·.1)) with
   | none=>rw [ho] at hr; cases hr
   | some owner =>
    rw [ho] at hr;have hr':=Option.some.inj hr;have e:=congrArg Prod.fst hr';dsimp only at e;rw [<- e];refine ⟨?_,h.2⟩;rw [aqbl,Lp];refine fm_pw (fun j q hq=>?_) _ Ga;obtain ⟨z,_,rfl⟩:=Jy.mp hq;rfl
  ·exact h.standIn _
 ·exact h.standIn _
theorem akx.fresh (led:Bool):akx led (.fresh 0 0 led):=⟨aqik,rfl⟩
end SetW
namespace SetW
open PySem PySem.Spec PyProof.Rows
def aqrq (w:World):Bool:=w.params.followText "set-order"
section
variable {prog:Aj} {w:World} {A:Around} {E:Value->Shared->Prop} {s:Shared}
def aQx (prog:Aj) (w:World) (h:Heap) (a:Addr) (S:Int->Bool) (n:Nat):Prop :=
 ∃ o es ep t,h.get? a=some o/\o.ExactSet/\o.data=.set es ep t/\Nw (Ck prog w) es.toList/\(∀ k,S k=true ↔ ∃ e∈es.toList,(Ck prog w).is k e.2=true)
 /\es.size < E9/\t.fits es.size=true/\es.size=n/\akx (!aqrq w) t
theorem aQx.congr {h:Heap} {a:Addr} {S S':Int->Bool} {n n':Nat} (hS:aQx prog w h a S n) (e:∀ k,S k=S' k) (en:n=n'):aQx prog w h a S' n':=by
 have:S=S':=funext e
 subst this; subst en; exact hS
theorem aQx.at {h h':Heap} {a:Addr} {S:Int->Bool} {n:Nat} (hS:aQx prog w h a S n) (e:∀ o,h.get? a=some o->h'.get? a=some o):aQx prog w h' a S n:=by
 obtain ⟨o,es,ep,t,ho,r⟩:=hS;exact ⟨o,es,ep,t,e o ho,r⟩
theorem aQx.store {h:Heap} {a:Addr} {o:Obj} {es:Array (Int × Value)} {ep:Nat} {t:SetTable} (ho:h.get? a=some o) (hex:o.ExactSet) (hd:o.data=.set es ep t)
  {es':Array (Int × Value)} {t':SetTable} {S':Int->Bool} (hel:Nw (Ck prog w) es'.toList) (hmem:∀ k,S' k=true ↔ ∃ e∈es'.toList,(Ck prog w).is k e.2=true) (hb:es'.size < E9) (hf:t'.fits es'.size=true) (ht:akx (!aqrq w) t') :
  (h.update a (Obj.putSet es' t')).get? a=some { o with data:=.set es' (ep + 1) t' }/\aQx prog w (h.update a (Obj.putSet es' t')) a S' es'.size:=by
 have q:=(SetOf_store (knd:=Ck prog w) ho hex hd hel hmem hb hf).1;exact ⟨q,_,es',ep + 1,t',q,hex,rfl,hel,hmem,hb,hf,rfl,ht⟩
theorem aqbg {a:Addr} {S:Int->Bool} {n:Nat} {k:Int} {x:Value} {Q:Bool->Shared->Prop} (hkey:(Ck prog w).is k x=true) (hsc:x.scannable=true) (hS:aQx prog w s.heap a S n)
  (hroom:n + 1 < E9)
  (h:∀ h',Heap.SameBut a s.heap h'->aQx prog w h' a (fun k'=>S k' || decide (k'=k)) (if S k then n else n + 1)->Q (!S k) { s with heap:=h' }) :
  wpAny (model prog w) A (setAddHashed a x ((Ck prog w).hash k)) Q E s:=by
 obtain ⟨o,es,ep,t,ho,hex,hd,hel,hmem,hb,hf,hn,ht⟩:=hS;unfold setAddHashed setAddHashedIn;refine A5 (Ac (Br ho hd hf ?_));dsimp only;rw [byScan_of hsc hb hel];simp only [↓reduceIte];unfold setAddByScan;refine Ac (Ac (Eg (Ac (wpAny_setScan_of hkey ho hd hf hel ?_))));cases hr:List.findIdx? (fun e=>(Ck prog w).is k e.2) es.toList with
 | some j =>
  dsimp only;obtain ⟨hj,hpj,_⟩:=List.findIdx?_eq_some_iff_getElem.mp hr;have hSk:S k=true:=(hmem k).mpr ⟨es.toList[j],getElem_mem hj,hpj⟩;refine Ad (Ad ?_)
  have:=h s.heap (Heap.SameBut.refl a s.heap) ⟨o,es,ep,t,ho,hex,hd,hel,fun k'=>by
   rw [Kc,decide_eq_true_eq,<- hmem k'];exact ⟨fun hk=>hk.elim id (fun e=>e ▸ hSk),.inl⟩,hb,hf,by rw [hSk]; exact hn,ht⟩
  rw [hSk] at this;exact this
 | none =>
  dsimp only;have hSk:S k=false:=by
   cases hk:S k with
   | false=>rfl
   | true=>obtain ⟨e,he,hp⟩:=(hmem k).mp hk; have:=List.findIdx?_eq_none_iff.mp hr e he; rw [hp] at this; exact Bool.noConfusion this
  have hperm:=layNew_perm t es ((Ck prog w).hash k) x;have hfits:=layNew_fits t es ((Ck prog w).hash k) x;have hok:=ht.lay es ((Ck prog w).hash k) x;generalize hL:layNew t es ((Ck prog w).hash k) x=L at hperm hfits hok ⊢;obtain ⟨es1,t1,wasDummy,gave⟩:=L;dsimp only at hperm hfits hok ⊢;rw [Array.toList_push] at hperm;have hel1:Nw (Ck prog w) es1.toList:=(hel.push hkey hsc).perm hperm;have hmem1:∀ k',(S k' || decide (k'=k))=true ↔ ∃ e∈es1.toList,(Ck prog w).is k' e.2=true:=mem_push_iff hkey hmem hperm;have hsz1:es1.size=n + 1:=by rw [<- length_toList,hperm.length_eq,length_append,length_toList,hn]; rfl
  have hb1:es1.size < E9:=by rw [hsz1]; exact hroom
  have hgw:∀ (b:Bool) {s₁:Shared} {Q':Unit->Shared->Prop},Q' () s₁->wpAny (model prog w) A (match b with | true=>rule "set.scan.the-table-gave-way" | false=>pure ()) Q' E s₁ :=
   fun b s₁ Q' hq=>by cases b <;> first | exact Ad hq | exact Eg hq
  have hend:∀ h',Heap.SameBut a s.heap h'->aQx prog w h' a (fun k'=>S k' || decide (k'=k)) es1.size->Q true { s with heap:=h' }:=by
   intro h' hsb hS'
   have:=h h' hsb
   rw [hSk] at this;rw [hsz1] at hS';exact this hS'
  refine Ac (hgw _ ?_);have fin:∀ t2:SetTable,t2.fits es1.size=true->akx (!aqrq w) t2->∀ (g:Bool->Sem Unit),(∀ (b:Bool) (s₁:Shared) (Q':Unit->Shared->Prop),Q' () s₁->wpAny (model prog w) A (g b) Q' E s₁) ->
    wpAny (model prog w) A (do
     storeSet a es1 t2
     if (!wasDummy && t2.tooFull) = true then do
         g (Kt t2 es1 (Ea es1.size)).2.2
         storeSet a (Kt t2 es1 (Ea es1.size)).1 (Kt t2 es1 (Ea es1.size)).2.1
         pure (some true)
      else pure (some true)) (fun r s'=>wpAny (model prog w) A (match r with | some added=>pure added | none=>setAddHashedIn a x ((Ck prog w).hash k) 99999) Q E s') E s:=by
   intro t2 f2 k2 g hg;refine Ac (wpAny_storeSet_of ho hd ?_ (fits_of_scanBound hb1));obtain ⟨ho1,hS1⟩:=aQx.store (prog:=prog) ho hex hd hel1 hmem1 hb1 f2 k2;have hsb1:=Ca s.heap a (Obj.putSet es1 t2);split
   ·have hp:=relayAll_perm t2 es1 (Ea es1.size)
    have hfr:=relayAll_fits t2 es1 (Ea es1.size);have hkr:=k2.relay es1 (Ea es1.size);generalize hRl:Kt t2 es1 (Ea es1.size)=Rl at hp hfr hkr ⊢;obtain ⟨es2,t3,gave2⟩:=Rl;dsimp only at hp hfr hkr ⊢;have hel2:Nw (Ck prog w) es2.toList:=hel1.perm hp;have hmem2:∀ k',(S k' || decide (k'=k))=true ↔ ∃ e∈es2.toList,(Ck prog w).is k' e.2=true:=fun k'=>(hmem1 k').trans ⟨fun ⟨e,he,q⟩=>⟨e,hp.mem_iff.mpr he,q⟩,fun ⟨e,he,q⟩=>⟨e,hp.mem_iff.mp he,q⟩⟩;have hsz:es2.size=es1.size:=by rw [<- length_toList,hp.length_eq,length_toList]
    have hb2:es2.size < E9:=by rw [hsz]; exact hb1
    refine Ac (hg _ _ _ ?_);refine Ac (wpAny_storeSet_of ho1 rfl ?_ (fits_of_scanBound hb2));obtain ⟨_,hS2⟩:=aQx.store (prog:=prog) ho1 hex rfl hel2 hmem2 hb2 hfr hkr;rw [hsz] at hS2;exact Ad (Ad (hend _ (hsb1.trans (Ca _ a _)) hS2))
   ·exact Ad (Ad (hend _ hsb1 hS1))
  split
  ·refine Ac ?_
   rw [hashByValue_scannable 8 hsc];refine Ad ?_;refine fin _ ?_ ?_ _ ?_
   ·split
    ·exact hfits
    ·exact SetTable.fits_plain_off hfits
   ·split
    ·exact hok
    ·exact hok.plainOff
   ·intro b s₁ Q' hq; cases b <;> first | exact Ad hq | exact Eg hq
  ·refine Ac (Ad ?_)
   simp only [↓reduceIte];refine fin _ hfits hok _ ?_;intro b s₁ Q' hq; cases b <;> first | exact Ad hq | exact Eg hq
theorem aqb6 {R:L8->Shared->Prop} {I:Addr} {fp wr:List Addr} {G:Array Ny->Array Ny->Prop} {n:Nat} {P:Nat->Value->Prop} {St:Nat->Shared->Prop} (W:WalksS prog w A.in1 I fp wr G n P St) (S:Addr) (hSf:S ∉ fp)
  (val:Nat->Int) (hval:∀ i v,P i v->∃ t,v=.int (val i) t) (hb:n + 1 < E9) :
  ∀ (k i:Nat) (s:Shared),n - i=k->i <= n->St i s->aQx prog w s.heap S (fun k'=>(firstMet val i).any (· == k')) (firstMet val i).length ->
   (∀ s',Moved (S :: wr) G s s'->aQx prog w s'.heap S (fun k'=>(firstMet val n).any (· == k')) (firstMet val n).length->R (.ok (.ret .none)) s') ->
   Ds (model prog w) A (.builtin "set.update.loop" ⟨[.ref S,.ref I],[]⟩) R s:=by
 have hSw:S ∉ wr:=fun h=>hSf (W.sub _ h);have hsub:∀ b∈wr,b∈S :: wr:=fun b hb=>mem_cons_of_mem _ hb;intro k
 induction k with
 | zero =>
  intro i s hk hi hst hS hR;have hin:i=n:=by omega
  subst hin;refine Bh Jn ?_;rw [Bb Fv _];show wpAny _ A.in1 (D8 (.ref I) >>= _) _ _ s;refine Ac (W.done s _ _ hst fun s' hm=>?_);show wpAny _ A.in1 (ret Value.none) _ _ s';exact Ad (hR s' (hm.mono hsub) (hS.at fun o e=>hm.heap S _ hSw e))
 | succ k ih =>
  intro i s hk hi hst hS hR;have hlt:i < n:=by omega
  refine Bh Jn ?_;rw [Bb Fv _];show wpAny _ A.in1 (D8 (.ref I) >>= _) _ _ s;refine Ac (W.item i s _ _ hlt hst fun v s' hP hst' hm=>?_);obtain ⟨t,rfl⟩:=hval i v hP;have hS':=hS.at (h':=s'.heap) fun o e=>hm.heap S _ hSw e;show wpAny _ A.in1 (Jv [Value.int (val i) t] (setAdd S (.int (val i) t)) >>= _) _ _ s';refine Ac (A5 ?_);unfold setAdd;refine A5 ?_;refine Ac ((Ck prog w).pyHash (k:=val i) (intKind_is _ _ _ _) ?_);have hroom:(firstMet val i).length + 1 < E9:=by have:=firstMet_length_le val i; omega
  refine aqbg (s:={ s' with toks:=s'.toks + 1 }) (intKind_is _ _ _ _) rfl hS' hroom fun h' hsb hS2=>?_;have hSi:aQx prog w h' S (fun k'=>(firstMet val (i + 1)).any (· == k')) (firstMet val (i + 1)).length :=
   hS2.congr (fun k'=>by rw [Lw,step_any]) (by rw [Lw,step_length])
  refine Ad ⟨C6 Fv _,ih (i + 1) _ (by omega) hlt (W.frame _ s' _ _ hst' (le_succ _) fun b hb o e=>?_) hSi fun s'' hm'' hS''=>?_⟩
  ·rw [hsb.2 b (fun h:b=S=>hSf (by rw [<- h]; exact hb))]; exact e
  ·refine hR s'' (Moved.trans W.gtrans ((hm.mono hsub).then_heap (le_succ _) fun b o hb e=>?_) hm'') hS''
   rw [hsb.2 b (fun h:b=S=>hb (by rw [h]; exact mem_cons_self))]; exact e
end
section
variable {prog:Aj} {w:World} {A:Around} {E:Value->Shared->Prop} {s:Shared}
theorem aWg (a:Value) {Q₁:Value->Shared->Prop}
  (h:Q₁ (.ref s.heap.objs.size) { s with heap:=s.heap.push { cls:=.type "set",dict:=none,data:=.set #[] 0 (.fresh 0 0 (!aqrq w)) } }) :
  Ds (model prog w) A (.call (.builtin "set.__new__") ⟨[.type "set",a],[]⟩) (wants Q₁ E) s:=by
 refine codeAny_of_tree ?_;show wpAny _ A.in1 (do Jo "set.__new__" ⟨[.type "set",a],[]⟩; again (.builtin "set.__new__" ⟨[.type "set",a],[]⟩)) _ _ s;refine Ac (Ku (F.newCall_set_1 a) (Ad ⟨C6 F.plain_set_new _,Bh F.entry_set_new ?_⟩));rw [Bb F.plain_set_new _];unfold Builtin.«set.__new__» Builtin.Frozenset.newClass;have hsub:=sub_set_self;obtain ⟨hp,g,d,tk,os⟩:=s;dsimp only
 wp_walk
 refine Ce (Ad ?_);dsimp only;simp only [newObj];refine Ac (wpAny_alloc (Ad ?_));exact Ad h
set_option maxHeartbeats 3200000 in
theorem aKk {l:Addr} {items:Array Value} {ns:List Int} {Q:Value->Shared->Prop}
  (hh:A.handled=none) (hl:s.heap.IsList l items) (hi:PyProof.Rows.IntsAre items.toList ns) (hb:items.size + 1 < E9)
  (h:∀ (h':Heap) (tk:Nat),aQx prog w h' s.heap.objs.size (fun k'=>(Dh (fun i=>ns.getD i 0) items.size).any (· == k')) (Dh (fun i=>ns.getD i 0) items.size).length ->
   (∀ b o,b < s.heap.objs.size->s.heap.get? b=some o->h'.get? b=some o)->Q (.ref s.heap.objs.size) { s with heap:=h',toks:=tk }) :
  wpAny (model prog w) A (call (.type "set") [.ref l]) Q E s:=by
 obtain ⟨c,tl,hmro⟩:=Eh.mro;have hmade:=Eh.made;have hsub:=Eh.sub;refine wpAny_call (codeAny_of_tree ?_);show wpAny _ _ (callAny (.type "set") _) _ _ _;refine Ad ⟨Mj _ (by decide +kernel),Bh F.entry_type_call ?_⟩;rw [Around.under_plain (weight_type_call_type "set" [.ref l] []) rfl];have h1:=Eh.notType;have h2:=Eh.canCreate;have hct:=F.typeCall_set_1 (.ref l)
 repeat (any_goals (first | assumption | wp_step))
 refine Co (aWg (.ref l) (E:=E) (Q₁:=fun obj s₁=>obj=.ref s.heap.objs.size/\s₁={ s with heap:=s.heap.push { cls:=.type "set",dict:=none,data:=.set #[] 0 (.fresh 0 0 (!aqrq w)) } }) ⟨rfl,rfl⟩) fun r s₁ hr=>?_;cases r with
 | error e=>exact hr
 | ok fl =>
  cases fl with
  | ret obj =>
   obtain ⟨rfl,rfl⟩:=hr;have hS:(s.heap.push { cls:=.type "set",dict:=none,data:=.set #[] 0 (.fresh 0 0 (!aqrq w)) }).get? s.heap.objs.size=some { cls:=.type "set",dict:=none,data:=.set #[] 0 (.fresh 0 0 (!aqrq w)) }:=Ah _ rfl;have hT:Gz { s with heap:=s.heap.push { cls:=.type "set",dict:=none,data:=.set #[] 0 (.fresh 0 0 (!aqrq w)) } } (.ref s.heap.objs.size) "set":=⟨_,hS,rfl⟩;have hli:=Eh.init.lookup;have hbi:=Eh.init.bind (.ref s.heap.objs.size)
   repeat (any_goals (first | assumption | wp_step))
   refine Co (G5 (R:=wants (fun r s₂=>r=.none/\∃ h' tk,s₂={ s with heap:=h',toks:=tk } /\
     aQx prog w h' s.heap.objs.size (fun k'=>(Dh (fun i=>ns.getD i 0) items.size).any (· == k')) (Dh (fun i=>ns.getD i 0) items.size).length /\
     (∀ b o,b < s.heap.objs.size->s.heap.get? b=some o->h'.get? b=some o)) E) Eh.init.plain F.entry_set_init (check_set_init_1 hT ?_)) fun r₂ s₂ hr₂=>?_
   ·obtain ⟨ol,hol,hcl,nl,hdl⟩:=hl
    obtain ⟨ocls,odict,odata,oslots⟩:=ol;simp only at hcl hdl;subst hcl; subst hdl;have hol':(s.heap.push { cls:=.type "set",dict:=none,data:=.set #[] 0 (.fresh 0 0 (!aqrq w)) }).get? l=some { cls:=.type "list",dict:=odict,data:=.seq items nl,slots:=oslots }:=Ae _ hol;have hsls:=F.sub_list_set;have hslf:=F.sub_list_frozenset;have hne:(Value.type "list" == Value.type "dict")=false:=by decide
    have hl1:(s.heap.push { cls:=.type "set",dict:=none,data:=.set #[] 0 (.fresh 0 0 (!aqrq w)) }).IsList l items:=⟨_,hol',rfl,nl,rfl⟩;unfold Builtin.«set.__init__» noKeywords Builtin.Frozenset.updateFrom;generalize hPI:Kn=PI
    wp_walk
    subst hPI;refine Iq hl1 ?_;refine Ac (Ie ?_);have hlS:l < s.heap.objs.size:=Af hol;have hh3:A.in1.in1.in1.handled=none:=by simp [hh]
    have hneI:l ≠ (s.heap.push { cls:=.type "set",dict:=none,data:=.set #[] 0 (.fresh 0 0 (!aqrq w)) }).objs.size:=by
     rw [Bu]; exact ne_of_lt (lt_succ_of_lt hlS)
    have hSf:s.heap.objs.size ∉ [(s.heap.push { cls:=.type "set",dict:=none,data:=.set #[] 0 (.fresh 0 0 (!aqrq w)) }).objs.size,l]:=by
     rw [Bu]; simp only [mem_cons,A0,not_mem_nil,or_false,not_or];exact ⟨ne_of_lt (lt_succ_self _),ne_of_gt hlS⟩
    have hval:∀ (i:Nat) (v:Value),items[i]?=some v->∃ t,v=.int ((fun i=>ns.getD i 0) i) t:=fun i v hv =>
     PyProof.Rows.IntsAre.int_at hi i v (by rw [getElem?_toList]; exact hv)
    refine aqb6 ((Walks.list hh3 _ l hneI items).toS) s.heap.objs.size
     hSf (fun i=>ns.getD i 0) hval hb (items.size - 0) 0 _ (by omega) (zero_le _)
     ⟨⟨_,Ah _ rfl,rfl,rfl⟩,(hl1.push _)⟩ ?hS0 ?hR
    case hS0 =>
     have hget:((s.heap.push { cls:=.type "set",dict:=none,data:=.set #[] 0 (.fresh 0 0 (!aqrq w)) }).push { cls:=.type "list_iterator",data:=.fields #[.ref l,.int 0 0] }).get? s.heap.objs.size
      =some { cls:=.type "set",dict:=none,data:=.set #[] 0 (.fresh 0 0 (!aqrq w)) }:=Ae _ hS
     exact ⟨_,#[],0,_,hget,⟨rfl,rfl,rfl⟩,rfl,fun e he=>by simp at he,fun k=>by simp [Dh],by unfold E9; decide,by rfl,rfl,akx.fresh _⟩
    case hR =>
     intro s' hm hS';obtain ⟨h',g',d',tk',os'⟩:=s';have eg:g'=s.gens:=hm.gens;have ed:d'=s.drawn:=hm.drawn;have eo:os'=s.os:=hm.os;subst eg; subst ed; subst eo;show wpAny _ _ _ _ _ _;refine Ad ?_;show wpAny _ _ (ret Value.none) _ _ _;refine Ad ⟨rfl,h',tk',rfl,hS',fun b o hb e=>?_⟩;have hb1:b ≠ s.heap.objs.size:=ne_of_lt hb;have hb2:b ≠ (s.heap.push { cls:=.type "set",dict:=none,data:=.set #[] 0 (.fresh 0 0 (!aqrq w)) }).objs.size:=by
      rw [Bu]; exact ne_of_lt (lt_succ_of_lt hb)
     exact hm.heap b o (by simp only [mem_cons,A0,not_mem_nil,or_false,not_or]; exact ⟨hb1,hb2⟩) (Ae _ (Ae _ e))
   ·cases r₂ with
    | error e=>exact hr₂
    | ok fl₂ =>
     cases fl₂ with
     | ret r =>
      obtain ⟨rfl,h',tk,rfl,hS',hk'⟩:=hr₂
      repeat (any_goals (first | assumption | wp_step))
      exact h _ _ hS' hk'
     | next=>exact Az hr₂
     | brk=>exact Az hr₂
     | cont=>exact Az hr₂
  | next=>exact Az hr
  | brk=>exact Az hr
  | cont=>exact Az hr
end
theorem aka {α:Type}:∀ {l:List α} {i:Nat} (h:i < l.length),(l[i] :: l.eraseIdx i).Perm l
 | a :: l,0,h=>.refl _
 | a :: l,i + 1,h=>by
  have:=aka (l:=l) (i:=i) (by simpa using h)
  simp only [List.getElem_cons_succ,Fw];exact (List.Perm.swap _ _ _).trans (this.cons a)
theorem avv {α:Type} (next:Nat->Nat):∀ (fuel k:Nat) (left:List α) (out:Array α),left.length=fuel->(M5 next fuel k left out).toList.Perm (out.toList++left)
 | 0,k,left,out,h=>by
  have:left=[]:=Cy.mp h
  subst this;simp [M5]
 | fuel + 1,k,left,out,h=>by
  unfold M5;have hlt:next k % left.length < left.length:=mod_lt _ (by omega);rw [getElem?_eq_getElem hlt];dsimp only;refine (avv next fuel (k + 1) _ _ (by rw [Ig hlt]; omega)).trans ?_;rw [Array.toList_push,List.append_assoc];exact List.Perm.append_left _ (aka hlt)
theorem aw3 {α:Type} (next:Nat->Nat) (xs:Array α):(pickOrder next xs).toList.Perm xs.toList:=by
 have:=avv next xs.size 0 xs.toList #[] (by simp)
 simpa [pickOrder] using this
section
variable {prog:Aj} {w:World} {A:Around} {E:Value->Shared->Prop} {s:Shared}
theorem aJw {src:Source} {n:Nat} {Q:Nat->Shared->Prop} (hn:n ≠ 0) (h:∀ i,i < n->Q i { s with drawn:=s.drawn.bump src }):wpAny (model prog w) A (choose src n) Q E s:=by
 intro Γ p hΓ;unfold choose;rw [Sem.wp_choose];exact ⟨hn,h _ (mod_lt _ (Ml hn))⟩
theorem az7 {α:Type}:∀ (n:Nat) (xs:List α) (s:Shared) (Q:List α->Shared->Prop),xs.length=n->(∀ ys d,ys.Perm xs->Q ys { s with drawn:=d })->wpAny (model prog w) A (drawOrder n xs) Q E s
 | 0,xs,s,Q,hl,h=>by
  have:xs=[]:=Cy.mp hl
  subst this;exact Ad (h [] s.drawn (.refl _))
 | n + 1,[],s,Q,hl,h=>by cases hl
 | n + 1,x :: xs,s,Q,hl,h=>by
  show wpAny _ _ (choose .order (x :: xs).length >>= _) _ _ s;refine Ac (aJw (by simp) fun i hi=>?_);rw [getElem?_eq_getElem hi];dsimp only;refine Ac (az7 n _ _ _ (by rw [Ig hi]; omega) fun ys d hp=>Ad ?_);exact h _ d ((hp.cons _).trans (aka hi))
def aZg (h:Heap) (a:Addr) (es:Array (Int × Value)) (ep:Nat) (t:SetTable):Prop:=∃ o,h.get? a=some o/\o.ExactSet/\o.data=.set es ep t/\t.fits es.size=true
def aqsb (h:Heap) (I a:Addr) (first:Value) (i n ep:Nat):Prop:=∃ o,h.get? I=some o/\o.cls=.type "set_iterator"/\o.data=.fields #[first,.int i 0,.ref a,.int n 0,.int ep 0]
variable {es:Array (Int × Value)} {ep:Nat} {t:SetTable} {a I:Addr} {first:Value} {i n:Nat}
theorem aZg.at {h h':Heap} (x:aZg h a es ep t) (e:∀ o,h.get? a=some o->h'.get? a=some o):aZg h' a es ep t:=let ⟨o,ho,r⟩:=x; ⟨o,e o ho,r⟩
theorem aqsb.at {h h':Heap} (x:aqsb h I a first i n ep) (e:∀ o,h.get? I=some o->h'.get? I=some o):aqsb h' I a first i n ep:=let ⟨o,ho,r⟩:=x; ⟨o,e o ho,r⟩
theorem aqsb.typeIs (x:aqsb s.heap I a first i n ep):s.TypeIs (.ref I) "set_iterator":=let ⟨o,ho,hc,_⟩:=x; ⟨o,ho,hc⟩
theorem aZg.typeIs (x:aZg s.heap a es ep t):s.TypeIs (.ref a) "set":=let ⟨o,ho,hc,_⟩:=x; ⟨o,ho,hc.1⟩
theorem av:Slot "set_iterator" "__next__" "set_iterator.__next__" :=
 .of (owner:="set_iterator") (n:="__next__") (by rw [Hd,Er]; kernel_rfl) (by decide +kernel) (by decide +kernel) (by decide +kernel)
  (by first | exact .inl (by decide +kernel) | exact .inr (by decide +kernel)) (by rw [Ih]; kernel_rfl)
theorem aq6:N3 table "set_iterator.__next__"=some Builtin.«set_iterator.__next__»:=entryFor_of_tree (by kernel_rfl)
theorem aW8:Manifest.owners.lookup (String.ofList ['r','o','t','a','r','e','t','i','_','t','e','s'].reverse)=some Manifest.sig_set_iterator:=by kernel_rfl
theorem aj2 (a:Value):argsOk "set_iterator.__next__" ⟨[a],[]⟩:=by
 unfold argsOk; rw [signature?_of (id:="set_iterator.__next__") (n:=['_','_','t','x','e','n','_','_']) (o:=['r','o','t','a','r','e','t','i','_','t','e','s']) (by kernel_rfl) aW8]; kernel_rfl
theorem avo:Slot "set_iterator" "__iter__" "set_iterator.__iter__" :=
 .of (owner:="set_iterator") (n:="__iter__") (by rw [Hd,Er]; kernel_rfl) (by decide +kernel) (by decide +kernel) (by decide +kernel)
  (by first | exact .inl (by decide +kernel) | exact .inr (by decide +kernel)) (by rw [Ih]; kernel_rfl)
theorem aJk:N3 table "set_iterator.__iter__"=some Builtin.«dict_keyiterator.__iter__» :=
 Kv (id':="dict_keyiterator.__iter__") (by kernel_rfl) rfl (by decide +kernel) (by kernel_rfl)
theorem aZe (a:Value):argsOk "set_iterator.__iter__" ⟨[a],[]⟩:=by
 unfold argsOk; rw [signature?_of (id:="set_iterator.__iter__") (n:=['_','_','r','e','t','i','_','_']) (o:=['r','o','t','a','r','e','t','i','_','t','e','s']) (by kernel_rfl) aW8]; kernel_rfl
theorem akv:N3 table "set.__iter__"=some Builtin.«frozenset.__iter__» :=
 Kv (id':="frozenset.__iter__") (by kernel_rfl) rfl (by decide +kernel) (by kernel_rfl)
theorem aZ6 {Q:Value->Shared->Prop} (x:aqsb s.heap I a first i n ep) (h:Q (.ref I) s):wpAny (model prog w) A (Kn (.ref I)) Q E s:=by
 refine Ew x.typeIs avo (Ay avo x.typeIs aJk ?_ (aZe _));show wpAny _ _ (ret (.ref I)) _ _ s;exact Ad ⟨_,rfl,"set_iterator",_,x.typeIs,av.lookup,h⟩
def aqs1 (w:World) (a:Addr) (es:Array (Int × Value)) (ep:Nat):List (Int × Value):=if aqrq w=true then (pickOrder (w.params.setOrder a ep) es).toList else es.toList
def At (w:World) (t:SetTable) (i sl:Nat):Prop:=aqrq w=true \/ SetTable.below t.place sl=i
def Plain (w:World) (es:Array (Int × Value)) (t:SetTable):Prop:=aqrq w=true \/ (¬ (!t.plain && decide (es.size > 1))=true/\Ris t.place/\t.led=true)
theorem aqcl (h:t.fits es.size=true):t.place.size=es.size:=by
 simp [SetTable.fits] at h; exact h.1
theorem aqjv (p3:t.led=true) {Q:Unit->Shared->Prop} (h:Q () s):wpAny (model prog w) A (if (!t.led && !es.isEmpty)=true then I0 "set:maker-not-led" else pure ()) Q E s:=by
 rw [p3];exact Ad h
theorem aqc1 (S:aZg s.heap a es ep t) (pl:Plain w es t) {sl:Nat} (g:At w t i sl) {e:Int × Value} (he:(aqs1 w a es ep)[i]?=some e) {Q:Option (Value × Nat)->Shared->Prop}
  (h:∀ sl',At w t (i + 1) sl'->Q (some (e.2,sl')) s):wpAny (model prog w) A (setNext a sl i ep) Q E s:=by
 obtain ⟨o,ho,hex,hd,hf⟩:=S;unfold setNext;refine Ac (Br ho hd hf ?_);refine Ac ?_;unfold Jz;refine Ac (Ce (Ad ?_));dsimp only;unfold aqs1 at he
 by_cases hb:aqrq w=true
 ·rw [if_pos hb] at he
  rw [if_pos (show (model prog w).w.params.followText "set-order"=true from hb)];refine Ar (fun hab=>absurd hab (by simp)) fun _=>?_;unfold setWalk;refine Ac (Ac (Br ho hd hf ?_));refine Ac ?_;unfold Jz;refine Ac (Ce (Ad ?_));dsimp only;rw [if_pos (show (model prog w).w.params.followText "set-order"=true from hb)];refine Ac (Ce (Ad ?_));refine Ad ?_;rw [<- getElem?_toList]
  have:(pickOrder ((model prog w).w.params.setOrder a ep) es).toList[i]?=some e:=he
  rw [this];exact h sl (.inl hb)
 ·rw [if_neg hb] at he
  rw [if_neg (show ¬ (model prog w).w.params.followText "set-order"=true from hb)];obtain ⟨p1,p2,p3⟩:=pl.resolve_left hb;have g':=g.resolve_left hb;refine Ar (fun hab=>absurd hab p1) fun _=>?_;refine Ac (aqjv p3 ?_);have hlt:i < es.size:=by
   by_cases c:i < es.size
   ·exact c
   ·rw [Kj (by simpa using c)] at he; cases he
  obtain ⟨j,hj⟩:=akj (xs:=t.place) (i:=i) (by rw [aqcl hf]; exact hlt);rw [getElem?_toList] at he;rw [g',he,hj];exact Ad (h (j + 1) (.inr (aqaq p2 hj)))
theorem aqc2 (S:aZg s.heap a es ep t) (pl:Plain w es t) {sl:Nat} (g:At w t i sl) (he:(aqs1 w a es ep)[i]?=none) {Q:Option (Value × Nat)->Shared->Prop}
  (h:Q none s):wpAny (model prog w) A (setNext a sl i ep) Q E s:=by
 obtain ⟨o,ho,hex,hd,hf⟩:=S;unfold setNext;refine Ac (Br ho hd hf ?_);refine Ac ?_;unfold Jz;refine Ac (Ce (Ad ?_));dsimp only;unfold aqs1 at he
 by_cases hb:aqrq w=true
 ·rw [if_pos hb] at he
  rw [if_pos (show (model prog w).w.params.followText "set-order"=true from hb)];refine Ar (fun hab=>absurd hab (by simp)) fun _=>?_;unfold setWalk;refine Ac (Ac (Br ho hd hf ?_));refine Ac ?_;unfold Jz;refine Ac (Ce (Ad ?_));dsimp only;rw [if_pos (show (model prog w).w.params.followText "set-order"=true from hb)];refine Ac (Ce (Ad ?_));refine Ad ?_;rw [<- getElem?_toList]
  have:(pickOrder ((model prog w).w.params.setOrder a ep) es).toList[i]?=none:=he
  rw [this];exact h
 ·rw [if_neg hb] at he
  rw [if_neg (show ¬ (model prog w).w.params.followText "set-order"=true from hb)];obtain ⟨p1,p2,p3⟩:=pl.resolve_left hb;have g':=g.resolve_left hb;refine Ar (fun hab=>absurd hab p1) fun _=>?_;refine Ac (aqjv p3 ?_);rw [getElem?_toList] at he;rw [g',he];exact Ad h
end
section
variable {prog:Aj} {w:World} {A:Around} {E:Value->Shared->Prop} {s:Shared}
variable {es:Array (Int × Value)} {ep:Nat} {t:SetTable} {a I:Addr} {first:Value} {i n:Nat}
theorem aqsb.set {h:Heap} (x:aqsb h I a first i n ep) {k:Nat} {v first':Value} {i':Nat} (e:(#[first,.int i 0,.ref a,.int n 0,.int ep 0]:Array Value).setIfInBounds k v=#[first',.int i' 0,.ref a,.int n 0,.int ep 0]):aqsb (h.update I (Cp (·.setIfInBounds k v))) I a first' i' n ep:=by
 obtain ⟨o,ho,hc,hd⟩:=x;exact ⟨_,Bc _ ho (Gj (Ei hd _)),(Obj.cls_mapFields ..).trans hc,by rw [Ei hd,e]⟩
theorem aKz (hh:A.handled=none) {h':Heap} {Q:Option Value->Shared->Prop} (hQ:∀ h'',(∀ b o,h'.get? b=some o->h''.get? b=some o)->Q none { s with heap:=h'' }) (P:Fin->Shared->Prop) :
  wpAny (model prog w) A.in1 (N4 (.type "StopIteration") [] >>= fun e=>(N5 e:Sem Fin)) P
   (fun e s'=>wpAny (model prog w) A (do let b <- J0 e (.type "StopIteration"); if b=true then pure none else throw e) Q E s') { s with heap:=h' }:=by
 refine Ac ?_;simp only [N4,newTuple];refine Ac (A6 ?_ (by size_fits));refine Ac (m:=E5 _ _) (Ku (a:=Value.none) (by first | rfl | (simp only [E5]; rfl)) ?_);refine A6 ?_ (by size_fits);simp only [N5];refine Ac (Lx ?_);rw [show A.in1.handled=none from hh];refine Ac (Ad (Nq ?_));refine Ac (Fb (T:="StopIteration") (b:=true) ⟨_,Ah _ rfl,rfl⟩ isSubtype_stop ?_);exact Ad (hQ _ fun b o e=>Ae _ (Ae _ e))
theorem aKr (hh:A.handled=none) (hne:a ≠ I) (pl:Plain w es t) (hs:(aqs1 w a es ep).length=es.size) :
  Walks prog w A I [I,a] [I] (aqs1 w a es ep).length (fun i v=>∃ e,(aqs1 w a es ep)[i]?=some e/\v=e.2) (fun i h=>∃ sl:Nat,aqsb h I a (.int sl 0) i es.size ep/\aZg h a es ep t/\At w t i sl) where
 sub:=fun b hb=>by simp at hb; simp [hb]
 frame:=fun _ _ _ ⟨sl,x,y,g⟩ hk=>⟨sl,x.at fun o e=>hk I (by simp) o e,y.at fun o e=>hk a (by simp) o e,g⟩
 item:=fun i s Q E hi ⟨sl,x,y,g⟩ hQ=>by
  obtain ⟨e,he⟩:∃ e,(aqs1 w a es ep)[i]?=some e:=⟨_,getElem?_eq_getElem hi⟩;obtain ⟨o,ho,hc,hd⟩:=id x;obtain ⟨oS,hoS,hex,hdS,hf⟩:=id y;unfold D8;refine Ac (En (Bi (name:=C3 "__next__") x.typeIs av (Ay av x.typeIs aq6 ?_ (aj2 _))));unfold Builtin.«set_iterator.__next__»;refine Ac (Ad ?_);refine Ac (Dd ho hd ?_);refine Ac (D6 hoS hdS hf ?_);dsimp only;refine Ar (fun hab=>absurd hab (by simp)) fun _=>?_;rw [A8,A8,A8];refine Ac (aqc1 y pl g he fun sl' g'=>?_);dsimp only;refine Ac (B8 ho hd (by simp) ?_);have x1:=x.set (k:=0) (v:=Bz (sl':Int)) (first':=.int sl' 0) (i':=i) (by simp [Bz]);obtain ⟨o1,ho1,hc1,hd1⟩:=id x1;refine Ac (B8 (s:={ s with heap:=s.heap.update I (Cp (·.setIfInBounds 0 (Bz (sl':Int)))) }) ho1 hd1 (by simp) ?_);have x2:=x1.set (k:=1) (v:=Bz ((i:Int) + 1)) (first':=.int sl' 0) (i':=i + 1) (by simp [Bz]);have hk:∀ b o,b ∉ [I]->s.heap.get? b=some o->((s.heap.update I (Cp (·.setIfInBounds 0 (Bz (sl':Int))))).update I (Cp (·.setIfInBounds 1 (Bz ((i:Int) + 1))))).get? b=some o:=fun b o hb e =>
   (Av _ _ (fun h=>hb (by simp [h]))).trans ((Av _ _ (fun h=>hb (by simp [h]))).trans e)
  refine Ad ⟨_,rfl,Ad (hQ _ _ s.toks ⟨e,he,rfl⟩ ⟨sl',x2,y.at fun o e=>hk a o (by simp [hne]) e,g'⟩ hk)⟩
 done:=fun s Q E ⟨sl,x,y,g⟩ hQ=>by
  have he:(aqs1 w a es ep)[(aqs1 w a es ep).length]?=none:=by simp
  obtain ⟨o,ho,hc,hd⟩:=id x;obtain ⟨oS,hoS,hex,hdS,hf⟩:=id y;unfold D8;refine Ac (En (Bi (name:=C3 "__next__") x.typeIs av (Ay av x.typeIs aq6 ?_ (aj2 _))));unfold Builtin.«set_iterator.__next__»;refine Ac (Ad ?_);refine Ac (Dd ho hd ?_);refine Ac (D6 hoS hdS hf ?_);dsimp only;refine Ar (fun hab=>absurd hab (by simp)) fun _=>?_;rw [A8,A8,A8];refine Ac (aqc2 y pl g he ?_);dsimp only;refine Ac (B8 ho hd (by simp) ?_);exact aKz hh (fun h'' k=>hQ h'' s.toks fun b o hb e=>k b o ((Av _ _ (fun h=>hb (by simp [h]))).trans e)) _
 self:=fun _ _ _ _ ⟨sl,x,y,g⟩ hQ=>aZ6 x hQ
def Drw (es:Array (Int × Value)) (p:List Nat):List (Int × Value):=p.map fun k=>es.getD k (0,.none)
def TuAt (h:Heap) (T:Addr) (p:List Nat):Prop:=∃ o,h.get? T=some o/\o.data=.seq (p.map fun (i:Nat)=>Bz i).toArray 0
theorem aqa9 (y:aZg s.heap a es ep t) {k:Nat} {e:Int × Value} (he:es[k]?=some e) {Q:Value->Shared->Prop} (h:Q e.2 s):wpAny (model prog w) A (setNextDrawn a k ep) Q E s:=by
 obtain ⟨oS,hoS,hex,hdS,hf⟩:=y;unfold setNextDrawn;refine Ac (Br hoS hdS hf ?_);dsimp only;refine Ar (fun hab=>absurd hab (by simp)) fun _=>?_;rw [he];exact Ad h
theorem aKs (hh:A.handled=none) {T:Addr} (hne:a ≠ I) (hT:T ≠ I) {p:List Nat} (hp:∀ k∈p,k < es.size) :
  Walks prog w A I [I,a,T] [I] (Drw es p).length (fun i v=>∃ e,(Drw es p)[i]?=some e/\v=e.2) (fun i h=>aqsb h I a (.ref T) i es.size ep/\aZg h a es ep t/\TuAt h T p) where
 sub:=fun b hb=>by simp at hb; simp [hb]
 frame:=fun _ _ _ ⟨x,y,z⟩ hk=>⟨x.at fun o e=>hk I (by simp) o e,y.at fun o e=>hk a (by simp) o e,let ⟨o,ho,r⟩:=z; ⟨o,hk T (by simp) o ho,r⟩⟩
 item:=fun i s Q E hi ⟨x,y,z⟩ hQ=>by
  have hi':i < p.length:=by simpa [Drw] using hi
  obtain ⟨k,hk⟩:∃ k,p[i]?=some k:=⟨_,getElem?_eq_getElem hi'⟩;have hkl:=hp k (mem_of_getElem? hk);obtain ⟨e,he⟩:∃ e,es[k]?=some e:=⟨es[k],by rw [Dj hkl]⟩;have hD:(Drw es p)[i]?=some e:=by simp [Drw,hk,Eu,he]
  obtain ⟨o,ho,hc,hd⟩:=id x;obtain ⟨oS,hoS,hex,hdS,hf⟩:=id y;obtain ⟨oT,hoT,hdT⟩:=id z;unfold D8;refine Ac (En (Bi (name:=C3 "__next__") x.typeIs av (Ay av x.typeIs aq6 ?_ (aj2 _))));unfold Builtin.«set_iterator.__next__»;refine Ac (Ad ?_);refine Ac (Dd ho hd ?_);refine Ac (D6 hoS hdS hf ?_);dsimp only;refine Ar (fun hab=>absurd hab (by simp)) fun _=>?_;refine Ac ?_;unfold seqItems?;refine Ac (Gs hoT ?_);rw [hdT];refine Ad ?_;dsimp only;have hpl:(p.map fun (i:Nat)=>Bz i).toArray[((i:Nat):Int).toNat]?=some (Bz k):=by simp [hk]
  rw [hpl];dsimp only [Bz];rw [A8,A8];refine Ac (aqa9 y he ?_);refine Ac (B8 ho hd (by simp) ?_);have x2:=x.set (k:=1) (v:=Bz ((i:Int) + 1)) (first':=.ref T) (i':=i + 1) (by simp [Bz]);have hkp:∀ b o,b ∉ [I]->s.heap.get? b=some o->(s.heap.update I (Cp (·.setIfInBounds 1 (Bz ((i:Int) + 1))))).get? b=some o:=fun b o hb e =>
   (Av _ _ (fun h=>hb (by simp [h]))).trans e
  exact Ad ⟨_,rfl,Ad (hQ _ _ s.toks ⟨e,hD,rfl⟩ ⟨x2,y.at fun o e=>hkp a o (by simp [hne]) e,oT,hkp T oT (by simp [hT]) hoT,hdT⟩ hkp)⟩
 done:=fun s Q E ⟨x,y,z⟩ hQ=>by
  obtain ⟨o,ho,hc,hd⟩:=id x;obtain ⟨oS,hoS,hex,hdS,hf⟩:=id y;obtain ⟨oT,hoT,hdT⟩:=id z;unfold D8;refine Ac (En (Bi (name:=C3 "__next__") x.typeIs av (Ay av x.typeIs aq6 ?_ (aj2 _))));unfold Builtin.«set_iterator.__next__»;refine Ac (Ad ?_);refine Ac (Dd ho hd ?_);refine Ac (D6 hoS hdS hf ?_);dsimp only;refine Ar (fun hab=>absurd hab (by simp)) fun _=>?_;refine Ac ?_;unfold seqItems?;refine Ac (Gs hoT ?_);rw [hdT];refine Ad ?_;dsimp only;have hpl:(p.map fun (i:Nat)=>Bz i).toArray[(((Drw es p).length:Nat):Int).toNat]?=none:=by simp [Drw]
  rw [hpl];dsimp only;refine Ac (B8 ho hd (by simp) ?_);have hd1:=Ei hd (·.setIfInBounds 0 (Bz 0));have ho1:=Bc (Cp (·.setIfInBounds 0 (Bz 0))) ho (Gj hd1);refine Ac (B8 (s:={ s with heap:=s.heap.update I (Cp (·.setIfInBounds 0 (Bz 0))) }) ho1 hd1 (by simp) ?_);exact aKz hh (fun h'' k=>hQ h'' s.toks fun b o hb e=>k b o ((Av _ _ (fun h=>hb (by simp [h]))).trans ((Av _ _ (fun h=>hb (by simp [h]))).trans e))) _
 self:=fun _ _ _ _ ⟨x,y,z⟩ hQ=>aZ6 x hQ
theorem aqh4 {p:List Nat} (hp:p.Perm (Ax es.size)):(Drw es p).Perm es.toList:=by
 have e:(Ax es.size).map (fun k=>es.getD k (0,.none))=es.toList:=by
  apply ext_getElem
  ·simp
  ·intro i h1 h2
   simp at h1;simp [Eu,h1]
 rw [<- e];exact hp.map _
theorem aqgk (hh:A.handled=none) (y:aZg s.heap a es ep t) (ok:akx (!aqrq w) t) (hz:es.size <= Ag) {Q:Value->Shared->Prop}
  (h:∀ (I:Addr) (fp:List Addr) (St:Nat->Heap->Prop) (order:List (Int × Value)) (s':Shared),order.Perm es.toList->Walks prog w A I fp [I] order.length (fun i v=>∃ e,order[i]?=some e/\v=e.2) St->St 0 s'.heap ->
   (∀ b o,s.heap.get? b=some o->s'.heap.get? b=some o)->s.heap.objs.size <= I->(∀ b∈fp,b=a \/ s.heap.objs.size <= b)->(∃ h' d',s'={ s with heap:=h',drawn:=d' })->Q (.ref I) s') :
  wpAny (model prog w) A (Kn (.ref a)) Q E s:=by
 obtain ⟨oS,hoS,hex,hdS,hf⟩:=id y;have hlt:a < s.heap.objs.size:=Af hoS;refine Ew y.typeIs F.slot_set_iter (Ay F.slot_set_iter y.typeIs akv ?_ (F.args_set_iter_1 _));unfold Builtin.«frozenset.__iter__»;refine Ac (Ad ?_);refine Ac ?_;unfold Builtin.Frozenset.sizeOf;refine Ac (D6 hoS hdS hf (Ad ?_));refine Ac ?_;unfold setDrawn;refine Ac (Br hoS hdS hf ?_);dsimp only;refine Ac ?_;unfold Jz;refine Ac (Ce (Ad ?_));refine Ad ?_;refine Ar (fun hab=>?_) fun hab=>?_
 ·refine Ac (az7 _ _ _ _ (by simp) fun p d hp=>?_)
  refine Ac (Gf ?_ (by rw [length_map,hp.length_eq,List.length_range]; exact hz));have hoS1:=Ae { cls:=.type "tuple",data:=.seq (p.map fun (i:Nat)=>Bz i).toArray } hoS;refine Ac ?_;unfold setEpoch;refine Ac (Br hoS1 hdS hf (Ad ?_));refine Ac ?_;unfold newFields;refine A6 (Ad ⟨_,rfl,"set_iterator",_,⟨_,Ah _ rfl,rfl⟩,av.lookup,?_⟩);have hI:s.heap.objs.size < (s.heap.push { cls:=.type "tuple",data:=.seq (p.map fun (i:Nat)=>Bz i).toArray }).objs.size:=by rw [Bu]; exact lt_succ_self _
  refine h _ _ _ (Drw es p) _ (aqh4 hp) (aKs (t:=t) (ep:=ep) hh (T:=s.heap.objs.size) (ne_of_lt (lt_trans hlt hI)) (ne_of_lt hI) fun k hk=>by
   have:=hp.mem_iff.mp hk
   simpa using this) ?_ (fun b o e=>Ae _ (Ae _ e)) (le_of_lt hI) (fun b hb=>?_) ⟨_,_,rfl⟩
  ·exact ⟨⟨_,Ah _ rfl,rfl,by simp [Bz]⟩,⟨_,Ae _ hoS1,hex,hdS,hf⟩,_,Ae _ (Ah _ rfl),rfl⟩
  ·simp only [mem_cons,not_mem_nil,or_false] at hb
   rcases hb with rfl | rfl | rfl
   ·exact .inr (le_of_lt hI)
   ·exact .inl rfl
   ·exact .inr (le_refl _)
 ·refine Ac (Ad ?_)
  refine Ac ?_;unfold setEpoch;refine Ac (Br hoS hdS hf (Ad ?_));refine Ac ?_;unfold newFields;refine A6 (Ad ⟨_,rfl,"set_iterator",_,⟨_,Ah _ rfl,rfl⟩,av.lookup,?_⟩);have pl:Plain w es t:=by
   by_cases hb:aqrq w=true
   ·exact .inl hb
   ·have hb':aqrq w=false:=by simpa using hb
    refine .inr ⟨fun hd=>hab ?_,ok.1,by rw [ok.2,hb']; rfl⟩;show (!aqrq w && (!t.plain && decide (es.size > 1)))=true;rw [hb',hd]; rfl
  have hord:(aqs1 w a es ep).Perm es.toList:=by
   unfold aqs1;split
   ·exact aw3 _ _
   ·exact .refl _
  refine h _ _ _ (aqs1 w a es ep) _ hord (aKr (t:=t) (ep:=ep) hh (ne_of_lt hlt) pl (by rw [hord.length_eq,length_toList])) ?_ (fun b o e=>Ae _ e) (le_refl _) (fun b hb=>?_) ⟨_,_,rfl⟩
  ·refine ⟨0,⟨_,Ah _ rfl,rfl,by simp [Bz]⟩,⟨_,Ae _ hoS,hex,hdS,hf⟩,?_⟩
   by_cases hb:aqrq w=true
   ·exact .inl hb
   ·exact .inr (aqap ok.1)
  ·simp only [mem_cons,not_mem_nil,or_false] at hb
   rcases hb with rfl | rfl
   ·exact .inr (le_refl _)
   ·exact .inl rfl
theorem aqgo {Q:Bool->Shared->Prop} (hT:s.TypeIs (.ref a) "set") (h:Q false s):wpAny (model prog w) A (C4 (.ref a)) Q E s:=by
 unfold C4;refine Ac (He hT PySem.F.slot_set_len.lookup ?_);generalize hid:("set.__len__":String)=id0
 wp_delta
 rw [show splitId id0=some ("set","__len__") from by subst hid; decide +kernel];subst hid;refine Ac (Fb (T:="set") (b:=true) hT (by rw [Ih]; kernel_rfl) ?_);refine Ar (fun hab=>absurd hab (by decide)) (fun _=>?_);refine Ar (fun _=>?_) (fun hab=>absurd (by decide +kernel) hab);refine Ac (M6 hT ?_);exact Ad h
theorem aKj (hh:A.handled=none) (y:aZg s.heap a es ep t) (ok:akx (!aqrq w) t) (hz:es.size <= Ag) {Q:List Value->Shared->Prop}
  (h:∀ (order:List (Int × Value)) (s':Shared) ,order.Perm es.toList->(∀ b o,s.heap.get? b=some o->s'.heap.get? b=some o)->s.heap.objs.size < s'.heap.objs.size->(∃ h' d' tk,s'={ s with heap:=h',drawn:=d',toks:=tk })->Q (order.map (·.2)) s') :
  wpAny (model prog w) A (M7 (.ref a)) Q E s:=by
 have hlt:a < s.heap.objs.size:=let ⟨o,ho,_⟩:=y; Af ho;unfold M7;refine Ac (Ie (Bh G6 ?_));rw [Bb Ex _];show wpAny _ A.in1 (Nv [] >>= fun l=>again (.builtin "list.__iadd__" ⟨[l,.ref a],[]⟩)) _ _ s;refine Ac (A6 ?_);refine Ad ⟨C6 B3 _,Bh Jp ?_⟩;rw [Bb B3 _];have hS₁:(s.heap.push { cls:=.type "list",data:=.seq ([]:List Value).toArray }).get? s.heap.objs.size=some { cls:=.type "list",data:=.seq #[] }:=Ah _ rfl;show wpAny _ A.in1 (B6 (.ref s.heap.objs.size) (.ref a) (.ref s.heap.objs.size)) _ _ _;have y1:aZg (s.heap.push { cls:=.type "list",data:=.seq ([]:List Value).toArray }) a es ep t:=y.at fun o e=>Ae _ e;unfold B6;refine Ac (M6 (T:="set") (aZg.typeIs (s:={ s with heap:=s.heap.push { cls:=.type "list",data:=.seq ([]:List Value).toArray } }) y1) ?_);have h1:D0 (.ref s.heap.objs.size) (.ref a)=false:=by simp [D0]; exact ne_of_gt hlt
 simp only [h1,show (Value.type "set" == Value.type "list")=false from by decide,show (Value.type "set" == Value.type "tuple")=false from by decide,Lu,Aw,if_false];refine Ac (aqgk (A:=A.in1) (s:={ s with heap:=s.heap.push { cls:=.type "list",data:=.seq ([]:List Value).toArray } }) hh y1 ok hz fun I fp St order s1 hord W st hk hI hfp hs1=>?_);obtain ⟨h1',d1',rfl⟩:=hs1;have hsz1:(s.heap.push { cls:=.type "list",data:=.seq ([]:List Value).toArray }).objs.size=s.heap.objs.size + 1:=Bu ..;have hSf:s.heap.objs.size ∉ fp:=fun hm=>by
  rcases hfp _ hm with e | e
  ·exact absurd hlt (by rw [e]; exact lt_irrefl _)
  ·exact absurd (show s.heap.objs.size + 1 <= s.heap.objs.size from hsz1 ▸ e) (Nat.not_succ_le_self _)
 have hbI:∀ b o,s.heap.get? b=some o->b ∉ s.heap.objs.size :: [I]:=fun b o e hm=>by
  have hb:=Af e;rcases Ao.mp hm with e' | hm
  ·exact absurd hb (by rw [e']; exact lt_irrefl _)
  ·have e2:b=I:=A0.mp hm
   have:s.heap.objs.size + 1 <= I:=hsz1 ▸ hI
   rw [e2] at hb;exact absurd (lt_trans hb (Nat.lt_of_succ_le this)) (lt_irrefl _)
 have hno:order.length <= Ag:=by rw [hord.length_eq,length_toList]; exact hz
 have key:∀ (s1:Shared) (c₁:Nat),(∃ h d tk,s1={ s with heap:=h,drawn:=d,toks:=tk })->St 0 s1.heap->(∀ b o,s.heap.get? b=some o->s1.heap.get? b=some o) ->
   s1.heap.get? s.heap.objs.size=some { cls:=.type "list",data:=.seq #[] c₁ } ->
   Ds (model prog w) A (.builtin "list.extend.loop" ⟨[.ref s.heap.objs.size,.ref I,.ref s.heap.objs.size],[]⟩)
    (fun q s'=>∃ acc' c',q=.ok (.ret (.ref s.heap.objs.size))/\(∃ h' d' tk,s'={ s with heap:=h',drawn:=d',toks:=tk })/\(∀ b o,s.heap.get? b=some o->s'.heap.get? b=some o) /\
     s'.heap.get? s.heap.objs.size=some { cls:=.type "list",dict:=none,data:=.seq acc' c',slots:=#[] }/\acc'.toList=order.map (·.2)) s1:=by
  intro s1 c₁ hs1 hst hk1 hS1;refine codeAny_extend_loopS W.toS hno s.heap.objs.size hSf (.ref s.heap.objs.size) order.length 0 _ #[] c₁ rfl (zero_le _) hst hS1 (ItemsOf.nil _) fun s' acc' c' hm hS' hacc=>?_;refine ⟨acc',c',rfl,?_,fun b o e=>hm.heap b o (hbI b o e) (hk1 b o e),hS',?_⟩
  ·obtain ⟨h,d,tk,rfl⟩:=hs1
   rw [Moved.eq_with hm];exact ⟨_,_,_,rfl⟩
  ·apply ext_getElem
   ·rw [length_toList,length_map]; exact hacc.1
   ·intro j h1 h2
    obtain ⟨e,he,hv⟩:=hacc.2 j acc'.toList[j] (by rw [<- getElem?_toList,getElem?_eq_getElem h1]);rw [hv];rw [length_map] at h2;rw [getElem?_eq_getElem h2] at he;cases he
    simp
 refine Ac (A5 (aqgo (aZg.typeIs (y1.at fun o e=>hk a o e)) ?_));have fin:∀ (s1:Shared) (c₁:Nat),(∃ h d tk,s1={ s with heap:=h,drawn:=d,toks:=tk })->St 0 s1.heap->(∀ b o,s.heap.get? b=some o->s1.heap.get? b=some o) ->
   s1.heap.get? s.heap.objs.size=some { cls:=.type "list",data:=.seq #[] c₁ } ->
   Ds (model prog w) A (.builtin "list.extend.loop" ⟨[.ref s.heap.objs.size,.ref I,.ref s.heap.objs.size],[]⟩)
    (fun q s'=>match q with
     | .ok (.ret v)=>wpAny (model prog w) A (match v with
      | .ref a=>do
       let o <- load a
       match o.data with
       | .seq xs _=>pure xs.toList
       | _=>I0 "internal:collect"
      | _=>I0 "internal:collect") Q E s'
     | .ok _=>False
     | .error e=>E e s') s1:=by
  intro s1 c₁ a1 a2 a3 a4;refine Co (key s1 c₁ a1 a2 a3 a4) fun q s' hQ=>?_;obtain ⟨acc',c',hq,hs',hk',hS',hacc⟩:=hQ;subst hq;show wpAny _ A (load s.heap.objs.size >>= _) _ _ _;refine Ac (Gs hS' ?_);show wpAny _ A (pure acc'.toList) _ _ _;rw [hacc];exact Ad (h order s' hord hk' (Af hS') hs')
 have hS2:=hk _ _ hS₁;refine Ar (fun _=>?_) (fun _=>Ad ⟨C6 Bp _,?_⟩)
 ·refine Ac (Eg ?_)
  refine Ac ?_;show wpAny _ _ (Nj s.heap.objs.size (·.push .none) >>= fun _=>Nj s.heap.objs.size (·.pop)) _ _ _;refine Ac (Hf hS2 rfl ?_);have hS₂:=Bc (Be (·.push Value.none)) hS2 rfl;refine Hf (hz:=by seq_fits) hS₂ rfl ?_;have hS₃:=Bc (Be (·.pop)) hS₂ rfl;have oth:∀ b o,b ≠ s.heap.objs.size->h1'.get? b=some o->((h1'.update s.heap.objs.size (Be (·.push Value.none))).update s.heap.objs.size (Be (·.pop))).get? b=some o:=fun b o hb e =>
   (Av _ _ (Bw hb)).trans ((Av _ _ (Bw hb)).trans e)
  refine Ad ⟨C6 Bp _,?_⟩;refine Co (fin _ _ ⟨_,_,_,rfl⟩ ?_ (fun b o e=>oth b o (ne_of_lt (Af e)) (hk b o (Ae _ e))) hS₃) fun q s' x=>x;exact W.frame 0 _ _ st fun b hb o e=>oth b o (fun h=>hSf (h ▸ hb)) e
 ·exact Co (fin _ _ ⟨_,_,_,rfl⟩ st (fun b o e=>hk b o (Ae _ e)) hS2) fun q s' x=>x
end
end SetW
namespace DL
open PySem PySem.Spec PyProof.Rows L2
section
variable {X:Cx} {K:Frag} {F:Hp}
def aWx (K:Frag):V->List V->Hp->VK->Prop:=fun x vs H Q=>∃ l b xs zs,x=.ref l/\vs=[.ref b]/\H l=some (.lst xs)/\SqE K H b zs/\xs.length + zs.length <= Ag/\Q .non (upd H l (.lst (xs++zs)))
theorem aYr:MtM X "list.extend" (aWx X.K):=by
 intro pins s σ H x vs v us Q I rx rv h;obtain ⟨l,b,xs,zs,rfl,rfl,hH,hB,hz,q⟩:=h;cases rx;obtain ⟨u,rfl,ru⟩:=rv.one;cases ru;obtain ⟨z,its,n,r,hl,e⟩:=I.lstM hH;obtain ⟨its2,n2,r2,e2,z2⟩:=Inv.listE I hB;have hl2:=r2.length;have hsz:its.toArray.size + its2.toArray.size <= Ag:=by rw [size_toArray,size_toArray]; omega
 have hlong:¬ (!its.toArray.isEmpty && Ff (its.toArray.size + its2.toArray.size))=true:=by
  rw [notLongL hsz,Bool.and_false];exact Al
 refine call_meets F.slot_list_extend ⟨_,e,rfl⟩ F.entry_list_extend (F.args_list_extend_2 _ _)
  (AutoSeq1.list_extend_list_list_0 l its.toArray n b its2.toArray n2 hlong (by rw [size_toArray]; omega) (by omega)) ⟨e,e2,?_⟩
 refine ⟨.non,_,I.lset (its':=its++its2) hH e (by simp) (r.append r2) ?_,rfl,q⟩;rw [length_append];omega
theorem aqnq {i:Nat} {S:List Bool} {p:FP} {f:FE} {st:Stmt} (hp:PS X st (tDrop (tBM X.K "list" (aWx X.K) (tP X.K i S p) (ako (tD X.K f) aqqw)))):DS X st [] (bExt i S p f):=by
 refine PS.imp hp fun E σ H z=>?_;obtain ⟨β,F,ρ,o,r,hw,h,k⟩:=z;obtain ⟨q,hq,h⟩:=bind_some h;obtain ⟨d,hd,h⟩:=bind_some h;obtain ⟨c,hc,h⟩:=bind_some h;have hc:=some_of hc;split at h
 ·rename_i ds
  split at h
  ·rename_i hi
   obtain ⟨c',hc',rfl⟩:=map_some h;obtain ⟨m,m',g1,g2,g3⟩:=aQw hc';unfold gExt at g2;split at g2
   ·rename_i os
    split at g2
    ·rename_i hlen
     cases g2;refine ⟨β,F,ρ,q,c,.lst os,r,hq,hc,g1,fun v0 v F1 H1 e0 s1 s2 r1 at1=>⟨?_,?_⟩⟩
     ·obtain ⟨A,h1,_⟩:=r1.own
      obtain ⟨v0',e0',qq⟩:=h1 i c hc;rw [e0] at e0'; cases e0';obtain ⟨v',Aa,Ab,a1,a2,a3⟩:=qq.focus g1
      have:=at1.uniq r1.ext.fh a1
      subst this;cases a2 with
      | lst h0 _ _ _=>exact .inl ⟨rfl,_,SqL.of h0⟩
     ·obtain ⟨G,l,re,rz⟩:=r1.look S
      refine ⟨G,frz S ρ,_,l.gh,re,hd,fun y F2 H2 e2 q2=>?_⟩;have r2:=r1.back l e2;have at2:=at1.mono (aqy (F:=F1) (H:=H1) (F':=F2)) e2.hh;obtain ⟨A1,T,q1,qn,dj,fin⟩:=at_of (r2.sh .non) hc g1 e0 (aqs2.refl _) (aqs2.refl _) at2;cases q2 with
      | lst hq2 t =>
       have t2:=l.reps e2 r1.ext.fh hi t;cases q1 with
       | lst h0 n0 rv hA =>
        rename_i b zs a vs A';refine ⟨a,b,vs,zs,rfl,rfl,h0,aqqy e2.fh hq2,by rw [rv.length,t.length]; exact axp hlen,?_⟩;refine k _ _ σ (fin a _ (fun b=>b=a \/ A' b) _ c' ((hA a).mpr (.inl rfl)) (fun b z=>.inl ((hA b).mpr z)) (.lst ac (A':=A') n0 ?_ fun _=>M4) g3);have o1:=rv.stay (aqs2.refl _) (H':=upd H2 a (.lst (vs++zs))) fun b z=>ah (by rintro rfl; exact n0 z);exact (o1.append (aqdn t2) fun _ _ z=>z).congr fun b=>⟨fun z=>z.elim id Az,.inl⟩
    ·cases g2
   ·cases g2
  ·cases h
 ·cases h
end
theorem Inv.drawn {pins:List (Addr × Obj)} {σ:St} {H:Hp} {s:Shared} {d':Drawn} {X:Cx} (I:Inv X pins σ H s):Inv X pins σ H { s with drawn:=d' } :=
 ⟨I.ok,I.os,I.bare,I.base,I.loc,I.cell,I.free,I.freeC,I.pin,I.hok,I.len⟩
theorem aK0 {σ:List Int} {v:Int} (h:σ.Nodup):(step_dedup σ v).Nodup:=by
 unfold step_dedup;split
 ·exact h
 ·rename_i hn
  refine List.nodup_append.mpr ⟨h,by simp,fun a ha b hb=>?_⟩;have e:b=v:=by simpa using hb
  rintro rfl;exact hn (by rw [any_eq_true]; exact ⟨a,ha,by simp [e]⟩)
theorem ajy (val:Nat->Int):∀ i,(firstMet val i).Nodup
 | 0=>by rw [firstMet_zero]; exact nodup_nil
 | i + 1=>by rw [Lw]; exact aK0 (ajy val i)
theorem ak5:∀ {σ l:List Int},σ.Nodup->(∀ x∈σ,x∈l)->l.length=σ.length->l.Perm σ
 | [],l,_,_,h=>by
  have:l=[]:=Cy.mp (by simpa using h)
  subst this; exact .refl _
 | x :: σ,l,hn,hs,h=>by
  rw [nodup_cons] at hn;have hx:=hs x (by simp);have p:=Kw hx;refine p.trans ((ak5 hn.2 (fun y hy=>?_) ?_).cons x)
  ·exact (Ky (by rintro rfl; exact hn.1 hy)).mpr (hs y (mem_cons_of_mem _ hy))
  ·have:=p.length_eq
   simp at this h ⊢;omega
theorem ak6:∀ {l σ:List Int},l.Nodup->σ.Nodup->(∀ x,x∈l ↔ x∈σ)->l.Perm σ
 | l,[],_,_,h=>by
  have:l=[]:=List.eq_nil_iff_forall_not_mem.mpr fun x hx=>absurd ((h x).mp hx) (by simp)
  subst this; exact .refl _
 | l,x :: σ,hl,hn,h=>by
  rw [nodup_cons] at hn;have p:=Kw ((h x).mpr (by simp));refine p.trans ((ak6 (hl.erase x) hn.2 fun y=>?_).cons x);rw [hl.mem_erase_iff,h y];constructor
  ·rintro ⟨a,b⟩
   exact (Ao.mp b).resolve_left a
  ·intro hy
   exact ⟨by rintro rfl; exact hn.1 hy,mem_cons_of_mem _ hy⟩
theorem av7 {prog:Aj} {w:World}:∀ {l:List (Int × Value)},Nw (Ck prog w) l->∃ ks:List Int,IntsAre (l.map (·.2)) ks/\∀ k,(∃ e∈l,(Ck prog w).is k e.2=true) ↔ k∈ks
 | [],_=>⟨[],.nil,fun k=>by simp⟩
 | e :: l,h=>by
  obtain ⟨ks,h1,h2⟩:=av7 h.tail;obtain ⟨⟨k,hk,_⟩,_⟩:=h.head;obtain ⟨t,ht⟩:=Value.isInt_shape hk;refine ⟨k :: ks,by rw [map_cons,ht]; exact .cons k t h1,fun j=>?_⟩;rw [mem_cons,<- h2 j];constructor
  ·rintro ⟨e',he',hj⟩
   rcases Ao.mp he' with rfl | he'
   ·exact .inl ((Ck prog w).inj _ _ _ hj hk)
   ·exact .inr ⟨e',he',hj⟩
  ·rintro (rfl | ⟨e',he',hj⟩)
   ·exact ⟨e,by simp,hk⟩
   ·exact ⟨e',mem_cons_of_mem _ he',hj⟩
theorem aZ8 {vs:List Value} {ns:List Int} (h:IntsAre vs ns):vs.map (fun v=>match v with | .int k _=>k | _=>0)=ns:=by
 induction h with
 | nil=>rfl
 | cons n t hr ih=>rw [map_cons,ih]
theorem axv:∀ {us:List Value} {ns:List Int},IntsAre us ns->aqs0 (ns.map V.int) us
 | _,_,.nil=>.nil
 | _,_,.cons n t hr=>.cons ⟨t,rfl⟩ (axv hr)
theorem awq {prog:Aj} {w:World} {A:Around} {E:Value->Shared->Prop} {s:Shared} {a:Addr} {ns:List Int} (hh:A.handled=none)
  (hS:SetW.aQx prog w s.heap a (fun k'=>(firstMet (fun i=>ns.getD i 0) ns.length).any (· == k')) (firstMet (fun i=>ns.getD i 0) ns.length).length) (h64:(aqd ns).length < 64) {Q:Value->Shared->Prop}
  (h:∀ (D:Addr) (out:List Value) (n:Nat) (s':Shared),IntsAre out (aqd ns)->s.heap.objs.size <= D->s'.heap.get? D=some { cls:=.type "list",data:=.seq out.toArray n }->(∀ b o,s.heap.get? b=some o->s'.heap.get? b=some o) ->
   (∃ h' d' tk,s'={ s with heap:=h',drawn:=d',toks:=tk })->Q (.ref D) s') :
  wpAny (model prog w) A (call (.builtin "sorted") [.ref a]) Q E s:=by
 obtain ⟨o,es,ep,t,ho,hex,hd,hel,hmem,hb,hf,hn,ht⟩:=hS;obtain ⟨ks,hI,hks⟩:=av7 hel;have hmet:∀ k,k∈firstMet (fun i=>ns.getD i 0) ns.length ↔ k∈ns:=by
  intro k;have e:=firstMet_any (fun i=>ns.getD i 0) ns.length k;have e2:(Ax ns.length).map (fun i=>ns.getD i 0)=ns:=by
   apply ext_getElem
   ·simp
   ·intro i h1 h2; simp at h1; simp [h1]
  rw [e2] at e
  have:=Bg.mp e
  simpa [any_eq_true] using this
 have hk2:∀ k,k∈ks ↔ k∈firstMet (fun i=>ns.getD i 0) ns.length:=by
  intro k;rw [<- hks k,<- hmem k];simp [any_eq_true]
 have hlen:ks.length=(firstMet (fun i=>ns.getD i 0) ns.length).length:=by
  rw [<- hI.length,length_map,length_toList,hn]
 have hkp:ks.Perm (firstMet (fun i=>ns.getD i 0) ns.length):=ak5 (ajy _ _) (fun x hx=>(hk2 x).mpr hx) hlen;have hkn:ks.Nodup:=hkp.symm.nodup (ajy _ _);have fin:∀ ns':List Int,ns'.Perm ks->ns'.Pairwise (· <= ·)->ns'=aqd ns:=by
  intro ns' hp hs;refine awh ?_ (aj9 ns) fun x=>?_
  ·have hnd:ns'.Nodup:=hp.symm.nodup hkn
   have:=List.Pairwise.and hs hnd
   exact this.imp fun ⟨a,b⟩=>by omega
  ·rw [hp.mem_iff,hk2,hmet,azt]
 have hsize:es.size=(aqd ns).length:=by
  have:(aqd ns).Perm ks:=ak6 ((aj9 ns).imp fun h=>M8 h) hkn fun x=>by rw [azt,hk2,hmet]
  rw [this.length_eq,hlen,hn]
 refine Dk Nr M9 Na (Nb _) ?_;unfold Builtin.«sorted»;refine Ac (m:=checkCount "sorted" 1 1 _) (Ad ?_);refine Ac (SetW.aKj (A:=A.in1) hh ⟨o,ho,hex,hd,hf⟩ ht (by rw [hsize,Au]; omega) fun order s1 hord hk1 hsz1 hs1=>?_);obtain ⟨h1,d1,tk1,rfl⟩:=hs1;have hio:∃ ks',IntsAre (order.map (·.2)) ks'/\ks'.Perm ks:=by
  obtain ⟨ks',g1,g2⟩:=av7 (hel.perm hord);refine ⟨ks',g1,?_⟩;have e1:=aZ8 g1;have e2:=aZ8 hI;rw [<- e1,<- e2];exact (hord.map _).map _
 obtain ⟨ks',g1,g2⟩:=hio;have hol:(order.map (·.2)).length < 64:=by rw [length_map,hord.length_eq,length_toList,hsize]; exact h64
 refine Ac (G0 ?_ (by rw [Au]; omega));have hoL:(h1.push (Bm "list" (order.map (·.2)).toArray 0)).get? h1.objs.size=some (Bm "list" (order.map (·.2)).toArray 0):=Ah _ rfl;refine Ac (A5 (Ay Kz ⟨_,hoL,rfl⟩ Kd (list_sort_tree hoL g1 hol fun out ns' a1 a2 a3=>⟨_,rfl,?_⟩) (La _)));refine Ad ⟨_,rfl,?_⟩;obtain ⟨e,he⟩:=Ly (out:=out) hoL;have hsz:s.heap.objs.size <= h1.objs.size:=le_of_lt hsz1;refine h _ out.toList e _ (by rw [<- fin ns' (a2.trans g2) a3]; exact a1) hsz (by simpa [Bm] using he) (fun b o' hb'=>?_) ⟨_,_,_,rfl⟩;have hb1:=hk1 b o' hb';have hlt:=Af hb1;rw [Lb (ne_of_lt hlt) (by rw [J1]; exact lt_succ_of_lt hlt)];exact Ae _ hb1
theorem aXg {X:Cx} {e:Expr} {te:TE} {p p2 p3 pos:Pos} (hc:X.calm=true) (hg1:Gl X "sorted") (hg2:Gl X "set") (hm1:X.mg "sorted"=none) (hm2:X.mg "set"=none) (he:PE X e te) (hs:Ap [e] X.env=(false,eval e X.env) :: Ap [] X.env:=by rfl) :
  PE X (.Call (.Name "sorted" p) [.Call (.Name "set" p2) [e] [] p3] [] pos) (fun σ H Q=>te σ H fun x H1=>∃ (a:Addr) (ns:List Int),x=.ref a/\SqL X.K H1 a (ns.map V.int)/\ns.length < 4000/\(aqd ns).length < 64 /\
   ∀ l,H1 l=none->Q (.ref l) (upd H1 l (.lst ((aqd ns).map V.int)))):=by
 intro pins s σ H Q I h;refine B0 (aQc I hg1 hm1 azh ?_ (by decide) (by decide));refine callWith_builtin1 ?_ rfl rfl;show wpAny _ _ (spliced ((false,eval (.Call (.Name "set" p2) [e] [] p3) X.env) :: C2 pos (Ap [] X.env))) _ _ s;refine Cd ?_;refine B0 (aQc I hg2 hm2 aqo0 ?_ (by decide) (by decide));have ha:=(aa he bg hs) p3 pins s σ H (fun xs H1=>∃ (a:Addr) (ns:List Int),xs=[.ref a]/\SqL X.K H1 a (ns.map V.int)/\ns.length < 4000/\(aqd ns).length < 64 /\
   ∀ l,H1 l=none->Q (.ref l) (upd H1 l (.lst ((aqd ns).map V.int)))) I (by
  refine (?_:te σ H _);refine cast (congrArg (te σ H) (funext fun x=>funext fun H1=>?_)) h;simp [aqqw])
 refine B5 (thn ha fun us s1 hQ=>?_) hs rfl;obtain ⟨vs,H1,I1,r1,a,ns,ev,hq,hl4,h64,q⟩:=hQ;subst ev;obtain ⟨u,rfl,ru⟩:=r1.one;cases ru;obtain ⟨its,rv,ht,hz⟩:=I1.list hq;have ia:=ajm rv;have hil:its.length=ns.length:=ia.length;refine SetW.aKk (items:=its.toArray) (ns:=ns) (I1.ok.hd hc) ht.isList (by simpa using ia) (by rw [size_toArray,hil]; unfold E9; omega) fun h' tk hS hk=>?_;refine Et ?_;have hk':∀ b o,s1.heap.get? b=some o->h'.get? b=some o:=fun b o e=>hk b o (Af e) e;have hsz0:s1.heap.objs.size < h'.objs.size:=let ⟨o,_,_,_,ho,_⟩:=hS; Af ho;rw [show its.toArray.size=ns.length by rw [size_toArray,hil]] at hS;refine awq (s:={ s1 with heap:=h',toks:=tk }) (I1.ok.hd hc) hS h64 fun D out n s' hout hD hget hk2 hs'=>?_;obtain ⟨h2,d2,tk2,rfl⟩:=hs';have hDs:s1.heap.objs.size <= D:=le_trans (le_of_lt hsz0) hD;have I2:=Inv.drawn (d':=d2) (I1.laid (h':=h2) (t':=tk2) (a:=D) (o:=.lst ((aqd ns).map V.int)) (fun b u e=>hk2 b u (hk' b u e)) hDs ⟨by rw [length_map,Au]; omega,out,n,axv hout,hget⟩);exact ⟨.ref D,_,I2,rfl,q D (I1.hok.fresh hDs)⟩
theorem aX4 {X:Cx} {e:Expr} {f:FE} {p p2 p3 pos:Pos} (hc:X.calm=true) (hg1:Gl X "sorted") (hg2:Gl X "set") (hm1:X.mg "sorted"=none) (hm2:X.mg "set"=none) (he:DE X e f) (hs:Ap [e] X.env=(false,eval e X.env) :: Ap [] X.env:=by rfl) :
  DO X (.Call (.Name "sorted" p) [.Call (.Name "set" p2) [e] [] p3] [] pos) (aqr8 aXu (cn f aqry)):=by
 refine PE.imp (aXg hc hg1 hg2 hm1 hm2 he hs) fun σ H Q q=>?_;obtain ⟨F,ρ,o,s,re,hf,kk⟩:=q;obtain ⟨zs,hf2,rfl⟩:=map_some hf;obtain ⟨ds,hd,hf⟩:=bind_some hf2;obtain ⟨d,hd1,hd⟩:=bind_some hd;obtain ⟨ds',hd2,rfl⟩:=map_some hd;cases hd2;refine ⟨F,ρ,d,s,re,hd1,fun v F1 H1 e1 r1=>?_⟩;unfold aXu at hf;split at hf
 ·rename_i xs heq
  cases heq;obtain ⟨ns,hns,hf⟩:=bind_some hf;split at hf
  ·rename_i hcnd
   cases hf
   have:=axd hns
   subst this;cases r1 with
   | lst q t =>
    have hv:=aqa t;subst hv;refine ⟨_,ns,rfl,(aqqy e1.fh q).l,hcnd.1,hcnd.2,fun l hl=>kk (.ref l) F1 _ _ (e1.trans (Ext.laidH e1.fh hl)) (aXi ac ?_) fun b z=>by subst z; exact ⟨e1.fh.free hl,e1.hh.free hl⟩⟩;exact aq4 _
  ·cases hf
 ·cases hf
section
variable {X:Cx} {K:Frag} {F:Hp}
theorem ake:awm X (.builtin "sorted") (fun xs H Q=>∃ (p:Addr) (ns:List Int),xs=[.ref p]/\SqL X.K H p (ns.map V.int)/\ns.length < 64/\∀ l,H l=none->Q (.ref l) (upd H l (.lst ((aqda ns).map V.int)))):=by
 intro pins s σ H xs us Q I r h;obtain ⟨p,ns,rfl,hq,h64,q⟩:=h;cases r with
 | cons r1 r =>
  cases r;cases r1;obtain ⟨its,rv,ht,hz⟩:=I.list hq;have ia:=ajm rv;have hil:its.length=ns.length:=ia.length;refine sorted_ints ht.isList ia (by rw [hil]; exact h64) fun out ns' a1 a2 a3=>?_;obtain ⟨e,he⟩:=sortedAll_at s.heap its out;have e':=aXz a2 a3;subst e';have hlen:(aqda ns).length=ns.length:=(avw ns).length_eq;exact ⟨.ref _,_,I.laid (t':=s.toks) (o:=.lst ((aqda ns).map V.int)) (fun b u e=>sortedAll_old e) (le_succ _) ⟨by rw [length_map,hlen,Au]; omega,out.toList,e,axv a1,by simpa [Bm] using he⟩,rfl,q _ (I.hok.fresh (le_succ _))⟩
theorem akd:CallO K (fun xs H Q=>∃ (p:Addr) (ns:List Int),xs=[.ref p]/\SqL K H p (ns.map V.int)/\ns.length < 64/\∀ l,H l=none->Q (.ref l) (upd H l (.lst ((aqda ns).map V.int)))) aqjz:=by
 intro ds es F H vs Q h s r k;unfold aqjz at h;split at h
 ·obtain ⟨ns,hns,h⟩:=bind_some h
  split at h
  ·rename_i h64
   cases h
   have:=axd hns
   subst this;cases r with
   | cons r r' =>
    cases r';cases r with
    | lst q t =>
     have hv:=aqa t;subst hv;exact ⟨_,ns,rfl,(aqqy s q).l,h64,fun l hl=>k l _ F _ (Ext.laidH s hl) ac (s.free hl) hl (aq4 _)⟩
  ·cases h
 ·cases h
end
section
variable {X:Cx} {K:Frag} {F:Hp}
end
section
variable {prog:Aj} {w:World} {A:Around} {E:Value->Shared->Prop} {s:Shared}
end
section
variable {X:Cx} {K:Frag} {F:Hp}
end
section
variable {X:Cx} {K:Frag} {F:Hp}
end
end DL
namespace DL
open PySem
end DL
namespace DL
open PySem PySem.Spec PyProof.Rows L2
variable {X:Cx}
end DL
namespace DL
open PySem
def lexP (p q:Int × Int):Bool:=if p.1=q.1 then decide (p.2 < q.2) else decide (p.1 < q.1)
theorem aXt {p q:Int × Int}:lexP p q=true ↔ p.1 < q.1 \/ p.1=q.1/\p.2 < q.2:=by
 unfold lexP;split <;> simp <;> omega
def insP (x:Int × Int):List (Int × Int)->List (Int × Int)
 | []=>[x]
 | y :: ys=>if lexP x y=true then x :: y :: ys else y :: insP x ys
def akp (ps:List (Int × Int)):List (Int × Int):=ps.foldr insP []
theorem aw4 (x:Int × Int):∀ l:List (Int × Int),(insP x l).Perm (x :: l)
 | []=>.refl _
 | y :: ys=>by
  unfold insP;split
  ·exact .refl _
  ·exact ((aw4 x ys).cons y).trans (List.Perm.swap _ _ _)
theorem azb:∀ ps:List (Int × Int),(akp ps).Perm ps
 | []=>.refl _
 | n :: ns=>(aw4 n _).trans ((azb ns).cons n)
theorem aQ5 (x:Int × Int):∀ l:List (Int × Int),l.Pairwise (fun a b=>lexP a b=true)->x ∉ l->(insP x l).Pairwise (fun a b=>lexP a b=true)
 | [],_,_=>by simp [insP]
 | y :: ys,h,hn=>by
  rw [pairwise_cons] at h;unfold insP;split
  ·rename_i hx
   rw [pairwise_cons];refine ⟨fun z hz=>?_,Fp.mpr h⟩;rcases Ao.mp hz with rfl | hz
   ·exact hx
   ·have h2:=h.1 z hz
    rw [aXt] at *;omega
  ·rename_i hx
   rw [pairwise_cons];refine ⟨fun z hz=>?_,aQ5 x ys h.2 (fun m=>hn (by simp [m]))⟩;rcases Ao.mp ((aw4 x ys).mem_iff.mp hz) with rfl | hz
   ·have hne:z ≠ y:=fun e=>hn (by simp [e])
    rw [aXt] at *
    have:¬ (z.1=y.1/\z.2=y.2):=fun e=>hne (Prod.ext e.1 e.2)
    omega
   ·exact h.1 z hz
theorem akz:∀ ps:List (Int × Int),ps.Nodup->(akp ps).Pairwise (fun a b=>lexP a b=true)
 | [],_=>.nil
 | n :: ns,h=>by
  rw [nodup_cons] at h;exact aQ5 n _ (akz ns h.2) fun m=>h.1 ((azb ns).mem_iff.mp m)
theorem aqgw {ps ps':List (Int × Int)} (hn:ps.Nodup) (hp:ps'.Perm ps) (hs:ps'.Pairwise (fun a b=>lexP a b=true)):ps'=akp ps :=
 Jj (fun a b _ _ h1 h2=>by rw [aXt] at h1 h2; omega) hs (akz ps hn) (hp.trans (azb ps).symm)
def pairD (p:Int × Int):D:=.tup [.int p.1,.int p.2]
def aQd:List D->Option (List D)
 | [.lst xs,.lst ys]=>(aqb3 xs).bind fun ns=>(aqb3 ys).bind fun ms=>if ns.length=ms.length/\1 <= ns.length/\ns.length < 64/\(ns.zip ms).Nodup then some ((akp (ns.zip ms)).map pairD) else none
 | _=>none
end DL
namespace DL
open PySem PySem.Spec PyProof.Rows L2
variable {X:Cx} {tg:Expr}
variable {X:Cx}
section
variable {K:Frag} {β:Bs} {F H:Hp} {σ:St} {ρ:Cs}
end
section
variable {X:Cx} {pos:Pos} {W2:List Nat}
end
end DL
set_option maxHeartbeats 2000000
namespace DL
open PySem PySem.Spec PyProof.Rows L2
section
variable {X:Cx} {elt target iter:Expr} {ifs:List Expr} {scope:Scope} {pos:Pos} {cl:List (Str × Addr)} {kx:Str} {N':List Str} {js:List (Option Nat)}
structure CompOk2 (X:Cx) (scope:Scope) (kx:Str) (cl:List (Str × Addr)) (N':List Str) (js:List (Option Nat)):Prop where
 calm:X.calm=true
 clo:clo X.env scope.names []=some cl
 free:ax7 X scope cl js N'
 cf:∀ (n:Nat) (acc:List (Str × Addr)),Nh n scope.names acc=(kx,n) :: acc
 pc:∀ h:Heap,pushCells h scope.names=h.push { cls:=.type "cell",data:=.cell none }
 kN:∀ p∈js.zip N',p.1=none \/ p.2 ≠ kx
 cell:∀ y∈scope.names,y.2=.cell->y.1=kx
 kind:scope.kind=.function
 names:∀ x∈scope.names,x.2=.local->scope.names.lookup x.1=some .local
theorem CompOk2.hcl (k:CompOk2 X scope kx cl N' js):∀ x c,cl.lookup x=some c->X.env.cells.lookup x=some c:=fun x c h=>by
 rcases aVh k.clo x c (aqx h) with z | z
 ·simp at z
 ·exact z
theorem CompOk2.hhas (k:CompOk2 X scope kx cl N' js):∀ x,((Cw scope X.env).names.lookup x=some .cell \/ (Cw scope X.env).names.lookup x=some .free)->x=kx \/ ∃ c,cl.lookup x=some c:=fun x h=>by
 have h':∃ k,(x,k)∈(Cw scope X.env).names/\(k=.cell \/ k=.free):=by
  rcases h with h | h
  ·exact ⟨_,aqx h,.inl rfl⟩
  ·exact ⟨_,aqx h,.inr rfl⟩
 obtain ⟨kk,hk,hkk⟩:=h';unfold Cw at hk;obtain ⟨⟨n,k'⟩,hm,he⟩:=Bf.mp hk;dsimp only at he;have fin:(x,NameKind.free)∈scope.names->x=kx \/ ∃ c,cl.lookup x=some c:=fun z=>by
  obtain ⟨c,hc⟩:=(aVi k.clo).2 x z;exact .inr (av4 hc)
 split at he
 ·rename_i hc
  cases he;simp only [C8,beq_iff_eq] at hc;rw [hc.1.1] at hm;exact fin hm
 ·cases he
  rcases hkk with rfl | rfl
  ·exact .inl (k.cell _ hm rfl)
  ·exact fin hm
end
section
variable {env:Env} {es:List Expr} {p:Pos}
end
section
variable {X:Cx} {a:Expr} {es:List Expr} {pos:Pos} {x1:Nat} {f:FE} {g:FA} {o:FO} {u:FAO}
end
section
variable {X:Cx} {a e:Expr} {pos pos':Pos} {o:FO}
end
section
variable {P:Aj} {w:World} {K:Frag} {mg:Str->Option Value} {base:Heap}
end
end DL
set_option maxHeartbeats 1000000
namespace SortW
open PySem PySem.W PyProof.Rows
def aqr0 {α:Type} (lt:Nat->Nat->Bool):KasT α->α
 | .ret a=>a
 | .ask i j k=>aqr0 lt (k (lt i j))
theorem axj {α β:Type} (lt:Nat->Nat->Bool):∀ (t:KasT α) (f:α->KasT β),aqr0 lt (t.bind f)=aqr0 lt (f (aqr0 lt t))
 | .ret a,f=>by simp [Nk,aqr0]
 | .ask i j k,f=>by
  rw [Nk];show aqr0 lt ((k (lt i j)).bind f)=_;rw [axj lt (k (lt i j)) f];rfl
def at0 (p:Array Nat) (i:Nat):Nat:=p.getD i 0
theorem akl (p:Array Nat) (i:Nat):at0 p i=(p[i]?).getD 0:=by simp [at0]
structure Ord (n:Nat) (lt:Nat->Nat->Bool):Prop where
 trans:∀ a b c,lt a b=true->lt b c=true->lt a c=true
 asym:∀ a b,lt a b=true->lt b a=false
 total:∀ a b,a < n->b < n->a ≠ b->lt a b=false->lt b a=true
def SP (lt:Nat->Nat->Bool) (p:Array Nat) (k:Nat):Prop:=∀ i j,i < j->j < k->lt (at0 p i) (at0 p j)=true
section
variable {n:Nat} {lt:Nat->Nat->Bool} (O:Ord n lt)
def PA (n:Nat) (p:Array Nat):Prop:=p.Perm (Ax n).toArray
theorem PA.size {p:Array Nat} (h:PA n p):p.size=n:=by
 have:=h.size_eq
 simpa using this
theorem PA.bd {p:Array Nat} (h:PA n p) {i:Nat} (hi:i < n):at0 p i < n:=by
 have hs:i < p.size:=by rw [h.size]; exact hi
 have:p[i]∈(Ax n).toArray:=(Array.Perm.mem_iff h).mp (Array.getElem_mem hs)
 have e:at0 p i=p[i]:=by simp [at0,hs]
 rw [e];simpa using this
theorem PA.ne {p:Array Nat} (h:PA n p) {i j:Nat} (hi:i < n) (hj:j < n) (hij:i ≠ j):at0 p i ≠ at0 p j:=by
 have hl:p.toList.Perm (Ax n):=by simpa using h.toList
 have hn:p.toList.Nodup:=hl.nodup_iff.mpr List.nodup_range;have hsi:i < p.toList.length:=by rw [length_toList,h.size]; exact hi
 have hsj:j < p.toList.length:=by rw [length_toList,h.size]; exact hj
 have ei:at0 p i=p.toList[i]:=by simp [at0,show i < p.size by simpa using hsi]
 have ej:at0 p j=p.toList[j]:=by simp [at0,show j < p.size by simpa using hsj]
 rw [ei,ej];exact fun e=>hij ((getElem_inj hn).mp e)
include O
theorem flip {p:Array Nat} (h:PA n p) {i j:Nat} (hi:i < n) (hj:j < n) (hij:i ≠ j) (hf:lt (at0 p i) (at0 p j)=false):lt (at0 p j) (at0 p i)=true:=O.total _ _ (h.bd hi) (h.bd hj) (h.ne hi hj hij) hf
theorem SP.succ {p:Array Nat} {k:Nat} (hs:SP lt p k) (h1:1 <= k) (hl:lt (at0 p (k - 1)) (at0 p k)=true):SP lt p (k + 1):=by
 intro i j hij hj
 by_cases e:j=k
 ·subst e
  by_cases e2:i=j - 1
  ·subst e2; exact hl
  ·exact O.trans _ _ _ (hs i (j - 1) (by omega) (by omega)) hl
 ·exact hs i j hij (by omega)
theorem aqhh {p:Array Nat} (h:PA n p):∀ (f x:Nat),1 <= x->x + f <= n->SP lt p x->x <= aqr0 lt (Du p f x)/\aqr0 lt (Du p f x) <= x + f/\SP lt p (aqr0 lt (Du p f x))/\(aqr0 lt (Du p f x) < x + f->lt (at0 p (aqr0 lt (Du p f x))) (at0 p (aqr0 lt (Du p f x) - 1))=true)
 | 0,x,h1,h2,hs=>by
  rw [Du];exact ⟨le_refl _,le_refl _,hs,fun z=>by simp [aqr0] at z⟩
 | f + 1,x,h1,h2,hs=>by
  rw [Du];show _ <= aqr0 lt (if lt (at0 p x) (at0 p (x - 1))=true then KasT.ret x else Du p f (x + 1))/\aqr0 lt (if lt (at0 p x) (at0 p (x - 1))=true then KasT.ret x else Du p f (x + 1)) <= _/\SP lt p (aqr0 lt (if lt (at0 p x) (at0 p (x - 1))=true then KasT.ret x else Du p f (x + 1)))/\(aqr0 lt (if lt (at0 p x) (at0 p (x - 1))=true then KasT.ret x else Du p f (x + 1)) < _->lt (at0 p (aqr0 lt (if lt (at0 p x) (at0 p (x - 1))=true then KasT.ret x else Du p f (x + 1)))) (at0 p (aqr0 lt (if lt (at0 p x) (at0 p (x - 1))=true then KasT.ret x else Du p f (x + 1)) - 1))=true);cases hc:lt (at0 p x) (at0 p (x - 1)) with
  | true =>
   simp only [if_true,aqr0];exact ⟨le_refl _,by omega,hs,fun _=>hc⟩
  | false =>
   simp only [Aw,if_false];have hl:=flip O h (i:=x) (j:=x - 1) (by omega) (by omega) (by omega) hc;obtain ⟨a,b,c,d⟩:=aqhh h f (x + 1) (by omega) (by omega) (SP.succ O hs h1 hl);exact ⟨by omega,by omega,c,fun z=>d (by omega)⟩
def DP (lt:Nat->Nat->Bool) (p:Array Nat) (k:Nat):Prop:=∀ i j,i < j->j < k->lt (at0 p j) (at0 p i)=true
theorem aqe3 {p:Array Nat} (h:PA n p):∀ (f k:Nat),1 <= k->k + f <= n->DP lt p k->∃ m,aqr0 lt (G7 f p k 0)=(p,m,0)/\k <= m/\m <= k + f/\DP lt p m
 | 0,k,h1,h2,hd=>⟨k,by rw [G7]; rfl,le_refl _,le_refl _,hd⟩
 | f + 1,k,h1,h2,hd=>by
  rw [G7];show ∃ m,aqr0 lt (if lt (at0 p k) (at0 p (k - 1))=true then if 0 > 0 then _ else G7 f p (k + 1) 0 else KasT.ask (at0 p (k - 1)) (at0 p k) fun d=>if d=true then KasT.ret (p,k,0) else G7 f p (k + 1) (0 + 1))=_/\_;cases hc:lt (at0 p k) (at0 p (k - 1)) with
  | true =>
   simp only [if_true,lt_irrefl,gt_iff_lt,if_false];have hd':DP lt p (k + 1):=by
    intro i j hij hj
    by_cases e:j=k
    ·subst e
     by_cases e2:i=j - 1
     ·subst e2; exact hc
     ·exact O.trans _ _ _ hc (hd i (j - 1) (by omega) (by omega))
    ·exact hd i j hij (by omega)
   obtain ⟨m,m1,m2,m3,m4⟩:=aqe3 h f (k + 1) (by omega) (by omega) hd';exact ⟨m,m1,by omega,by omega,m4⟩
  | false =>
   simp only [Aw,if_false];have hl:=flip O h (i:=k) (j:=k - 1) (by omega) (by omega) (by omega) hc;refine ⟨k,?_,le_refl _,by omega,hd⟩;show aqr0 lt (if lt (at0 p (k - 1)) (at0 p k)=true then KasT.ret (p,k,0) else G7 f p (k + 1) (0 + 1))=_;rw [hl];rfl
omit O in
theorem aqil {p:Array Nat} {m:Nat} (hm:m <= p.size) (k:Nat):at0 (Nx p 0 m) k=if k < m then at0 p (m - 1 - k) else at0 p k:=by
 rw [akl,akl,akl];unfold Nx;rw [getElem?_mirror_all hm];simp only [zero_le,true_and,Nat.zero_add];split <;> rfl
theorem aqi6 {p:Array Nat} (h:PA n p) {m:Nat} (h1:1 <= m) (hm:m <= n) (hd:DP lt p m):∃ c q,aqr0 lt (Nl m n p)=(c,q)/\PA n q/\1 <= c/\c <= n/\SP lt q c:=by
 have hq:PA n (Nx p 0 m):=(mirror_perm _ _ _ _).trans h;have hs:SP lt (Nx p 0 m) m:=by
  intro i j hij hj;have hz:m <= p.size:=by rw [h.size]; exact hm
  rw [aqil hz,aqil hz,if_pos (by omega),if_pos hj];exact hd _ _ (by omega) (by omega)
 obtain ⟨a,b,c,_⟩:=aqhh O hq (n - m) m h1 (by omega) hs;refine ⟨_,_,?_,hq,?_,?_,c⟩
 ·unfold Nl
  rw [axj];rfl
 ·omega
 ·omega
theorem aqh8 {p:Array Nat} (h:PA n p) (h1:1 <= n):∃ c q,aqr0 lt (Nm n p)=(c,q)/\PA n q/\1 <= c/\c <= n/\SP lt q c:=by
 have hs1:SP lt p 1:=fun i j hij hj=>by omega
 obtain ⟨a,b,c,d⟩:=aqhh O h (n - 1) 1 (le_refl _) (by omega) hs1;unfold Nm;rw [axj];generalize aqr0 lt (Du p (n - 1) 1)=m at *
 by_cases e:m=n
 ·rw [if_pos (by simpa using e)]
  exact ⟨m,p,rfl,h,a,by omega,c⟩
 ·rw [if_neg (by simpa using e)]
  by_cases e2:m > 1
  ·rw [if_pos e2]
   have hl:=c 0 (m - 1) (by omega) (by omega);refine ⟨m,p,?_,h,a,by omega,c⟩;show aqr0 lt (if lt (at0 p 0) (at0 p (m - 1))=true then _ else _)=_;rw [hl];rfl
  ·rw [if_neg e2]
   have em:m=1:=by omega
   subst em;have hl:=d (by omega);have hd:DP lt p 2:=fun i j hij hj=>by
    have:i=0/\j=1:=by omega
    obtain ⟨rfl,rfl⟩:=this;exact hl
   obtain ⟨m,m1,m2,m3,m4⟩:=aqe3 O h (n - (1 + 1)) (1 + 1) (by omega) (by omega) hd;unfold Nc;rw [axj,m1];simp only [gt_iff_lt,lt_irrefl,if_false];exact aqi6 O h (by omega) (by omega) m4
theorem aXc {p:Array Nat} (h:PA n p) {k:Nat} (hk:k < n) (hs:SP lt p k):∀ (f lo hi:Nat),lo <= hi->hi <= k->hi - lo <= f->(∀ i,i < lo->lt (at0 p i) (at0 p k)=true)->(∀ i,hi <= i->i < k->lt (at0 p k) (at0 p i)=true) ->
  aqr0 lt (Fx p k f lo hi) <= k/\(∀ i,i < aqr0 lt (Fx p k f lo hi)->lt (at0 p i) (at0 p k)=true)/\(∀ i,aqr0 lt (Fx p k f lo hi) <= i->i < k->lt (at0 p k) (at0 p i)=true)
 | 0,lo,hi,h1,h2,h3,ha,hb=>by
  rw [Fx]
  have:lo=hi:=by omega
  subst this;exact ⟨h2,ha,hb⟩
 | f + 1,lo,hi,h1,h2,h3,ha,hb=>by
  rw [Fx]
  by_cases e:lo ≥ hi
  ·rw [if_pos e]
   have:lo=hi:=by omega
   subst this;exact ⟨h2,ha,hb⟩
  ·rw [if_neg e]
   have hmid:(lo + hi) / 2 < hi/\lo <= (lo + hi) / 2:=by omega
   show aqr0 lt (if lt (at0 p k) (at0 p ((lo + hi) / 2))=true then _ else _) <= _/\_;simp only [aqr0];have eqd:lt (p.getD k 0) (p.getD ((lo + hi) / 2) 0)=lt (at0 p k) (at0 p ((lo + hi) / 2)):=rfl;rw [eqd];cases hc:lt (at0 p k) (at0 p ((lo + hi) / 2)) with
   | true =>
    simp only [if_true];refine aXc h hk hs f lo ((lo + hi) / 2) hmid.2 (by omega) (by omega) ha fun i hi1 hi2=>?_
    by_cases e2:i=(lo + hi) / 2
    ·subst e2; exact hc
    ·exact O.trans _ _ _ hc (hs _ _ (by omega) hi2)
   | false =>
    simp only [Aw,if_false];have hl:=flip O h (i:=k) (j:=(lo + hi) / 2) hk (by omega) (by omega) hc;refine aXc h hk hs f ((lo + hi) / 2 + 1) hi (by omega) h2 (by omega) (fun i hi1=>?_) hb
    by_cases e2:i=(lo + hi) / 2
    ·subst e2; exact hl
    ·exact O.trans _ _ _ (hs i ((lo + hi) / 2) (by omega) (by omega)) hl
theorem aql4:∀ (f:Nat) (p:Array Nat) (x:Nat),PA n p->x + f=n->SP lt p x->PA n (aqr0 lt (Lj f p x))/\SP lt (aqr0 lt (Lj f p x)) n
 | 0,p,x,h,hx,hs=>by
  rw [Lj]
  have:x=n:=by omega
  subst this;exact ⟨h,hs⟩
 | f + 1,p,x,h,hx,hs=>by
  rw [Lj,axj];obtain ⟨l1,l2,l3⟩:=aXc O h (k:=x) (by omega) hs x 0 x (by omega) (le_refl _) (by omega) (fun i hi=>by omega) (fun i h1 h2=>by omega);generalize aqr0 lt (Fx p x x 0 x)=l at *;have hsz:x < p.size:=by rw [h.size]; omega
  have hat:∀ k,at0 (bubble p x (x - l)) k=if k=l then at0 p x else if l < k/\k <= x then at0 p (k - 1) else at0 p k:=by
   intro k;rw [akl,akl,akl,akl,getElem?_bubble hsz (x - l) (by omega),show x - (x - l)=l by omega];split
   ·rfl
   ·split <;> rfl
  refine aql4 f (bubble p x (x - l)) (x + 1) ((bubble_perm _ _ _).trans h) (by omega) fun i j hij hj=>?_;rw [hat,hat]
  by_cases ei:i=l
  ·rw [if_pos ei,if_neg (by omega),if_pos (by omega)]
   exact l3 _ (by omega) (by omega)
  ·rw [if_neg ei]
   by_cases ej:j=l
   ·rw [if_pos ej,if_neg (by omega)]
    exact l2 i (by omega)
   ·rw [if_neg ej]
    by_cases ci:l < i/\i <= x
    ·rw [if_pos ci,if_pos (by omega)]
     exact hs _ _ (by omega) (by omega)
    ·rw [if_neg ci]
     by_cases cj:l < j/\j <= x
     ·rw [if_pos cj]
      exact hs _ _ (by omega) (by omega)
     ·rw [if_neg cj]
      exact hs _ _ hij (by omega)
theorem aqd8 (h1:1 <= n):PA n (aqr0 lt (Ii n))/\SP lt (aqr0 lt (Ii n)) n:=by
 have h0:PA n (Ax n).toArray:=Array.Perm.refl _;obtain ⟨c,q,e,hq,c1,c2,hs⟩:=aqh8 O h0 h1;unfold Ii;rw [axj,e];dsimp only
 by_cases hc:c < n
 ·rw [if_pos hc,show max c 1=c by omega]
  exact aql4 O (n - c) q c hq (by omega) hs
 ·rw [if_neg hc]
  have:c=n:=by omega
  subst this;exact ⟨hq,hs⟩
end
section
variable {prog:Aj} {w:World} {A:Around} {E:Value->Shared->Prop} {s:Shared}
theorem az4 {a:Addr} {vs:List Value} {n:Nat} {P:Nn->Shared->Prop} (ho:s.heap.get? a=some (Bm "list" vs.toArray n)) (h64:vs.length < 64) (h2:2 <= vs.length)
  (h:wpAny (model prog w) A (keyKind' vs.toArray) (fun κ s'=>Mm (kas_ask prog w A κ vs) (Ii vs.length) (fun p s''=>s''=s'/\s'={ s with heap:=((s.heap.update a (Be fun _=>#[])).push (Bm "tuple" vs.toArray 0)).push (Bm "list" #[] 0) }/\P (.done (.ret .none)) { s with heap:=J2 s.heap a vs ((p.toList.map fun i=>vs.getD i .none).toArray) }) s') (fun _ _=>False) { s with heap:=((s.heap.update a (Be fun _=>#[])).push (Bm "tuple" vs.toArray 0)).push (Bm "list" #[] 0) }) :
  wpAny (model prog w) A (Builtin.«list.sort» { pos:=[Value.ref a] }) P E s:=by
 rw [list_sort_plain a];have ha:=Af ho;refine Ac (Nd ho rfl (Ac (G4 ho rfl ?_)));obtain ⟨e1,ho1⟩:∃ e1,(s.heap.update a (Be fun _=>#[])).get? a=some (Bm "list" #[] e1):=⟨_,Ke ho fun _=>#[]⟩;refine Ac (Lc ho1 rfl (Ac (Gf (Ac (G0 (A5 ?_))))));have ho6:(((s.heap.update a (Be fun _=>#[])).push (Bm "tuple" vs.toArray 0)).push (Bm "list" #[] 0)).get? a=some (Bm "list" #[] e1):=by
  rw [Ey _ _ _ (by rw [J1,Cg]; exact ne_of_lt (lt_succ_of_lt ha)),Ey _ _ _ (by rw [Cg]; exact ne_of_lt ha)];exact ho1
 have hsz:¬ vs.toArray.size < 2:=by simp; omega
 refine (?_:wpAny (model prog w) A (if vs.toArray.size < 2 then _ else _) P E { s with heap:=((s.heap.update a (Be fun _=>#[])).push (Bm "tuple" vs.toArray 0)).push (Bm "list" #[] 0) });rw [if_neg hsz];refine Ac (A9 h (fun κ s' hk=>?_) (fun _ _ z=>z.elim));rw [if_neg hsz];refine Ac (A9 (kat_run (ks:=vs) (vs:=vs) (E:=E) (Q:=fun st' s''=>∃ p:Array Nat,p.size=vs.length/\arrOf st'=Lk (kas_item (vs.toArray.zip vs.toArray)) p/\failedOf st'=none/\_) rfl h2 h64 (fun p st' s'' hp harr hfail hG=>⟨p,hp,harr,hfail,hG⟩) hk) (fun r s'' hQ=>?_) (fun _ _ z=>z));obtain ⟨p,hps,harr,hfail,rfl,rfl,hP⟩:=hQ;have hs:=kat_snds (vs:=vs) (ks:=vs) rfl harr;obtain ⟨u,st'⟩:=r;dsimp only at hs harr hfail ⊢;refine Ac (Lc ho6 rfl ?_);have hz1:(Lk (fun x=>x.snd) (arrOf st')).size <= Ag + 1:=by rw [hs]; simp [hps,Au]; omega
 refine Ac (G4 ho6 rfl ?_ (by simp) hz1);simp only [hfail,bne_self_eq_false,Aw,if_false];refine Ad ?_;rw [hs];exact hP
end
def inR {α:Type} (n:Nat) (G:α->Prop):KasT α->Prop
 | .ret a=>G a
 | .ask i j k=>i < n/\j < n/\∀ b,inR n G (k b)
theorem azv {α β:Type} {n:Nat} {G:α->Prop} {G':β->Prop}:∀ (t:KasT α) (f:α->KasT β),inR n G t->(∀ a,G a->inR n G' (f a))->inR n G' (t.bind f)
 | .ret a,f,h,k=>by rw [Nk]; exact k a h
 | .ask i j g,f,h,k=>by
  rw [Nk];exact ⟨h.1,h.2.1,fun b=>azv (g b) f (h.2.2 b) k⟩
theorem PA.all {n:Nat} {p:Array Nat} (h:PA n p) (hn:1 <= n) (i:Nat):p.getD i 0 < n:=by
 by_cases hi:i < n
 ·exact h.bd hi
 ·have:p.getD i 0=0:=by
   have hs:=h.size;simp [Array.getD,show ¬ i < p.size by omega]
  rw [this]; omega
section
variable {n:Nat} (hn:1 <= n)
include hn
theorem aqhi {p:Array Nat} (h:PA n p):∀ (f x:Nat),inR n (fun _=>True) (Du p f x)
 | 0,x=>by rw [Du]; trivial
 | f + 1,x=>by
  rw [Du];refine ⟨h.all hn _,h.all hn _,fun b=>?_⟩;cases b
  ·simpa using aqhi h f (x + 1)
  ·trivial
theorem aWv {p:Array Nat} (h:PA n p) (i j:Nat):PA n (Nx p i j):=(mirror_perm _ _ _ _).trans h
theorem aVe:∀ (f:Nat) (p:Array Nat) (k e:Nat),PA n p->inR n (fun r=>PA n r.1) (G7 f p k e)
 | 0,p,k,e,h=>by rw [G7]; exact h
 | f + 1,p,k,e,h=>by
  rw [G7];refine ⟨h.all hn _,h.all hn _,fun b=>?_⟩;cases b
  ·refine ⟨h.all hn _,h.all hn _,fun d=>?_⟩
   cases d
   ·simpa using aVe f p (k + 1) (e + 1) h
   ·exact h
  ·by_cases c:e > 0
   ·simp only [if_true,if_pos c]
    exact aVe f _ _ _ (aWv hn h _ _)
   ·simp only [if_true,if_neg c]
    exact aVe f _ _ _ h
theorem aqd2 {p:Array Nat} (h:PA n p) (m nrem:Nat):inR n (fun r=>PA n r.2) (Nl m nrem p):=by
 unfold Nl;exact azv _ _ (aqhi hn (aWv hn h _ _) _ _) fun a _=>aWv hn h _ _
theorem awi {p:Array Nat} (h:PA n p) (m nrem:Nat):inR n (fun r=>PA n r.2) (Nc m nrem p):=by
 unfold Nc;refine azv _ _ (aVe hn _ _ _ _ h) fun r hr=>?_;split
 ·exact aqd2 hn (aWv hn hr _ _) _ _
 ·exact aqd2 hn hr _ _
theorem aqh9 {p:Array Nat} (h:PA n p) (nrem:Nat):inR n (fun r=>PA n r.2) (Nm nrem p):=by
 unfold Nm;refine azv _ _ (aqhi hn h _ _) fun m _=>?_;split
 ·exact h
 ·split
  ·refine ⟨h.all hn _,h.all hn _,fun b=>?_⟩
   cases b
   ·simpa using awi hn (aWv hn h _ _) _ _
   ·exact h
  ·exact awi hn h _ _
theorem aXd {p:Array Nat} (h:PA n p) (k:Nat):∀ (f lo hi:Nat),inR n (fun _=>True) (Fx p k f lo hi)
 | 0,lo,hi=>by rw [Fx]; trivial
 | f + 1,lo,hi=>by
  rw [Fx];split
  ·trivial
  ·refine ⟨h.all hn _,h.all hn _,fun b=>?_⟩
   cases b
   ·simpa using aXd h k f ((lo + hi) / 2 + 1) hi
   ·simpa using aXd h k f lo ((lo + hi) / 2)
theorem aql5:∀ (f:Nat) (p:Array Nat) (x:Nat),PA n p->inR n (fun r=>PA n r) (Lj f p x)
 | 0,p,x,h=>by rw [Lj]; exact h
 | f + 1,p,x,h=>by
  rw [Lj];exact azv _ _ (aXd hn h _ _ _ _) fun l _=>aql5 f _ _ ((bubble_perm _ _ _).trans h)
theorem aqd9:inR n (fun r=>PA n r) (Ii n):=by
 have h0:PA n (Ax n).toArray:=Array.Perm.refl _;unfold Ii;refine azv _ _ (aqh9 hn h0 _) fun r hr=>?_;split
 ·exact aql5 hn _ _ _ hr
 ·exact hr
end
theorem aXw {α:Type} {n:Nat} {lt:Nat->Nat->Bool} {cmp:Nat->Nat->(Bool->Shared->Prop)->Shared->Prop} {s:Shared} (hc:∀ i j C,i < n->j < n->C (lt i j) s->cmp i j C s) {G':α->Prop} {G:α->Shared->Prop}:∀ (t:KasT α),inR n G' t->G (aqr0 lt t) s->Mm cmp t G s
 | .ret a,_,h=>by rw [Mm]; exact h
 | .ask i j k,hi,h=>by
  rw [Mm];exact hc i j _ hi.1 hi.2.1 (aXw hc (k (lt i j)) (hi.2.2 _) h)
def lexB (p q:Int × Int):Bool:=if p.1=q.1 then decide (p.2 < q.2) else decide (p.1 < q.1)
section
variable {prog:Aj} {w:World} {A:Around} {E:Value->Shared->Prop} {s:Shared}
theorem aqiy {x y:Addr} {ox oy:Obj} {n k:Nat} {a b c d:Int} {t1 t2 t3 t4:Tok} {C:Bool->Shared->Prop} (hx:s.heap.get? x=some ox) (dx:ox.data=.seq #[.int a t1,.int b t2] n) (hy:s.heap.get? y=some oy) (dy:oy.data=.seq #[.int c t3,.int d t4] k) (h:C (lexB (a,b) (c,d)) s) :
  wpAny (model prog w) A (keyLt' (tuples' true) (.ref x) (.ref y)) C E s:=by
 refine kat_lt hx dx hy dy ?_;show KatLex prog w A true _ C [(Value.int a t1,Value.int c t3),(Value.int b t2,Value.int d t4)] 0 s;rw [KatLex];refine E7 ?_;unfold lexB at h
 by_cases e1:a=c
 ·rw [if_pos (by simpa using e1),KatLex]
  simp only [e1,if_true] at h;refine E7 ?_
  by_cases e2:b=d
  ·rw [if_pos (by simpa using e2),KatLex]
   subst e2;simpa using h
  ·rw [if_neg (by simpa using e2)]
   refine kat_one _ _ ?_;exact Hl h
 ·rw [if_neg (by simpa using e1)]
  simp only [e1,if_false] at h;exact oneLt_int h
def aKo (h:Heap) (v:Value) (p:Int × Int):Prop:=∃ (x:Addr) (o:Obj) (n:Nat) (t1 t2:Tok),v=.ref x/\h.get? x=some o/\o.cls=.type "tuple"/\o.data=.seq #[.int p.1 t1,.int p.2 t2] n
theorem aqgh {n:Nat} {key:Nat->Int × Int} (hinj:∀ i j,i < n->j < n->key i=key j->i=j):Ord n fun i j=>lexB (key i) (key j) where
 trans:=by
  intro a b c h1 h2;unfold lexB at *;generalize key a=x at *;generalize key b=y at *;generalize key c=z at *;split at h1 <;> split at h2 <;> split <;> simp at * <;> omega
 asym:=by
  intro a b h1;unfold lexB at *;generalize key a=x at *;generalize key b=y at *;split at h1 <;> split <;> simp at * <;> omega
 total:=by
  intro a b ha hb hab h1;have hne:key a ≠ key b:=fun e=>hab (hinj a b ha hb e);unfold lexB at *;generalize key a=x at *;generalize key b=y at *;obtain ⟨x1,x2⟩:=x;obtain ⟨y1,y2⟩:=y;simp at hne;split at h1 <;> split <;> simp at * <;> omega
theorem aqcz {vs:List Value} {ps:List (Int × Int)} (hl:ps.length=vs.length) (hp:∀ i,i < vs.length->aKo s.heap (vs.getD i .none) (ps.getD i (0,0))) (i j:Nat) (C:Bool->Shared->Prop) (hi:i < vs.length) (hj:j < vs.length) (h:C (lexB (ps.getD i (0,0)) (ps.getD j (0,0))) s):kas_ask prog w A (tuples' true) vs i j C s:=by
 unfold kas_ask;obtain ⟨x,ox,n,t1,t2,e1,e2,_,e3⟩:=hp i hi;obtain ⟨y,oy,m,t3,t4,f1,f2,_,f3⟩:=hp j hj;rw [e1,f1];exact aqiy e2 e3 f2 f3 h
end
section
variable {prog:Aj} {w:World} {A:Around} {E:Value->Shared->Prop} {s:Shared}
def aqrz (h:Heap) (z TI TO:Addr) (T:Nat) (b:Bool):Prop:=h.get? z=some { cls:=.type "zip",data:=.fields #[Bz (T:Int),.bool b,.bool false,.ref TI,.ref TO] }
theorem aqej {M:Model} {a:Addr} {Q:Option Obj->Shared->Prop} (h:Q (s.heap.get? a) s):wpAny M A (Nt a) Q E s:=fun Γ p i=>by
 unfold Nt;rw [Sem.wp_loadIfAlive];exact (Ad (M:=M) (A:=A) (E:=E) h) Γ p i
theorem aqrz.flag {h:Heap} {z TI TO:Addr} {T:Nat} {b:Bool} (hz:aqrz h z TI TO T b):aqrz (h.update z (Cp fun f=>f.setIfInBounds 1 (.bool true))) z TI TO T true:=by
 unfold aqrz at *;rw [Bc _ hz rfl];rfl
theorem aYp {z TI TO T:Addr} {fb:Bool} {oT:Obj} {Q:Bool->Shared->Prop} (hz:aqrz s.heap z TI TO T fb) (hT:s.heap.get? T=some oT)
  (hQ:∀ h':Heap,aqrz h' z TI TO T true->h'.objs.size=s.heap.objs.size->(∀ c,c ≠ z->h'.get? c=s.heap.get? c)->Q false { s with heap:=h' }):wpAny (model prog w) A (Fg (.ref z)) Q E s:=by
 unfold Fg;refine Ac (Dv hz rfl rfl ?_);refine (?_:wpAny (model prog w) A (Nt ((T:Int).toNat) >>= _) Q E s);refine Ac (aqej ?_);rw [A8,hT];refine Ar (fun h=>by simp at h) fun _=>?_;refine Ac (Dv hz rfl rfl ?_);refine Ar (fun _=>?_) (fun h=>?_)
 ·refine Ac (B8 hz rfl (by simp) ?_)
  exact Ad (hQ _ hz.flag (by rw [Cg]) fun c hc=>Av _ _ (Bw hc))
 ·refine Ad ?_
  have e:fb=true:=by
   cases fb with
   | true=>rfl
   | false=>exact absurd rfl h
  subst e;exact hQ s.heap hz rfl fun _ _=>rfl
theorem aqef {z TI TO i1 i2 l1 l2 T:Addr} {fb:Bool} {oT:Obj} {k1 k2:Nat} {xs ys:Array Value} {x y:Value} {Q:Value->Shared->Prop} (ap:Kr z TI TO i1 i2 l1 l2) (hz:aqrz s.heap z TI TO T fb) (hT:s.heap.get? T=some oT)
  (hTI:Gw s.heap TI (.ref i1) (.ref i2)) (h1:s.heap.IsListIter i1 l1 k1) (h2:s.heap.IsListIter i2 l2 k2) (hl1:s.heap.IsList l1 xs) (hl2:s.heap.IsList l2 ys) (hx:xs[k1]?=some x) (hy:ys[k2]?=some y)
  (hQ:∀ h':Heap,aqrz h' z TI TO T true->h'.IsListIter i1 l1 (k1 + 1)->h'.IsListIter i2 l2 (k2 + 1)->Gw h' s.heap.objs.size x y->h'.objs.size=s.heap.objs.size + 1->(∀ c o,c ≠ z->c ≠ i1->c ≠ i2->s.heap.get? c=some o->h'.get? c=some o) ->
   Q (.ref s.heap.objs.size) { s with heap:=h' }) :
  wpAny (model prog w) A (Builtin.«zip.__next__» { pos:=[.ref z] }) (fun fin s'=>∃ v,fin=.done (.ret v)/\Q v s') E s:=by
 unfold Builtin.«zip.__next__»;refine Ac (Ad ?_);dsimp only;refine Ac (Dv hz rfl rfl ?_);refine Ac (Dv hz rfl rfl ?_);refine Ac (wpAny_seqItems hTI rfl ?_);refine Ar (fun h=>absurd h (by simp)) fun _=>?_;refine Ac (aYp hz hT fun h0 hz0 hsz0 hk0=>?_);refine Ar (fun h=>absurd h (by simp)) fun _=>?_;have h10:h0.IsListIter i1 l1 k1:=h1.at fun o e=>by rw [hk0 _ ap.i1z]; exact e
 have h20:h0.IsListIter i2 l2 k2:=h2.at fun o e=>by rw [hk0 _ ap.i2z]; exact e
 have hl10:h0.IsList l1 xs:=hl1.at fun o e=>by rw [hk0 _ ap.l1z]; exact e
 have hl20:h0.IsList l2 ys:=hl2.at fun o e=>by rw [hk0 _ ap.l2z]; exact e
 refine Ac ?_;rw [<- Mn];show wpAny _ _ (forIn [Value.ref i1,Value.ref i2] _ _) _ _ _;rw [forIn_cons];refine Ac (Ac (A5 ?_));change wpAny _ _ (if _=true then _ else (Fe (.ref i1) >>= fun v=>pure (some v))) _ _ _;refine Ar (fun h=>(Al h).elim) fun _=>?_;refine Ac (J3 (s:={ s with heap:=h0 }) h10 hl10 hx fun hA itA sbA=>Ad ?_);refine Ad ?_;show wpAny _ _ (forIn [Value.ref i2] _ _) _ _ _;rw [forIn_cons];have hkA:∀ c,c ≠ i1->hA.get? c=h0.get? c:=fun c hc=>sbA.2 c hc;have h2A:hA.IsListIter i2 l2 k2:=h20.at fun o e=>by rw [hkA _ ap.i12.symm]; exact e
 have hl2A:hA.IsList l2 ys:=hl20.at fun o e=>by rw [hkA _ ap.l2i1]; exact e
 refine Ac (Ac (A5 ?_));change wpAny _ _ (if _=true then _ else (Fe (.ref i2) >>= fun v=>pure (some v))) _ _ _;refine Ar (fun h=>(Al h).elim) fun _=>?_;refine Ac (J3 (s:={ s with heap:=hA }) h2A hl2A hy fun hB itB sbB=>Ad ?_);refine Ad ?_;show wpAny _ _ (forIn ([]:List Value) _ _) _ _ _;rw [List.forIn_nil];refine Ad ?_;have hkB:∀ c,c ≠ i2->hB.get? c=hA.get? c:=fun c hc=>sbB.2 c hc;refine Ac (Gf ?_ (by simp [Au]));refine Ad ⟨_,rfl,?_⟩;have hsz:hB.objs.size=s.heap.objs.size:=by
  have a1:=sbA.1;have a2:=sbB.1;rw [a2,a1]; exact hsz0
 rw [hsz];have all:∀ c,c ≠ z->c ≠ i1->c ≠ i2->hB.get? c=s.heap.get? c:=fun c c1 c2 c3=>by rw [hkB c c3,hkA c c2,hk0 c c1]
 have ltz:z < s.heap.objs.size:=Af hz;have lt1:i1 < s.heap.objs.size:=let ⟨o,ho,_⟩:=h1; Af ho;have lt2:i2 < s.heap.objs.size:=let ⟨o,ho,_⟩:=h2; Af ho;have np:∀ c,c < s.heap.objs.size->∀ o,(hB.push o).get? c=hB.get? c:=fun c hc o=>Ey _ _ _ (by rw [hsz]; exact ne_of_lt hc);refine hQ _ ?_ ?_ ?_ ?_ ?_ ?_
 ·unfold aqrz
  rw [np z ltz,hkB z ap.i2z.symm,hkA z ap.i1z.symm];exact hz0
 ·exact itA.at fun o e=>by
   rw [np i1 lt1,hkB i1 ap.i12]; exact e
 ·exact itB.at fun o e=>by rw [np i2 lt2]; exact e
 ·rw [<- hsz]
  exact Ah _ rfl
 ·rw [Bu,hsz]
 ·intro c o c1 c2 c3 e
  rw [np c (Af e),all c c1 c2 c3];exact e
end
section
variable {prog:Aj} {w:World} {A:Around} {E:Value->Shared->Prop} {s:Shared}
theorem aJv {z TI TO i1 i2 l1 l2 T:Addr} {fb:Bool} {oT:Obj} {k1:Nat} {xs:Array Value} {Q:Nn->Shared->Prop} (hh:A.handled=none) (ap:Kr z TI TO i1 i2 l1 l2) (hz:aqrz s.heap z TI TO T fb) (hT:s.heap.get? T=some oT)
  (hTI:Gw s.heap TI (.ref i1) (.ref i2)) (h1:s.heap.IsListIter i1 l1 k1) (hl1:s.heap.IsList l1 xs) (hx:xs[k1]?=none)
  (hE:∀ (h':Heap) (e:Addr),(∀ c o,c ≠ z->c ≠ i1->s.heap.get? c=some o->h'.get? c=some o)->(∃ o,h'.get? e=some o/\o.cls=.type "StopIteration")->E (.ref e) { s with heap:=h' }) :
  wpAny (model prog w) A (Builtin.«zip.__next__» { pos:=[.ref z] }) Q E s:=by
 unfold Builtin.«zip.__next__»;refine Ac (Ad ?_);dsimp only;refine Ac (Dv hz rfl rfl ?_);refine Ac (Dv hz rfl rfl ?_);refine Ac (wpAny_seqItems hTI rfl ?_);refine Ar (fun h=>absurd h (by simp)) fun _=>?_;refine Ac (aYp hz hT fun h0 hz0 hsz0 hk0=>?_);refine Ar (fun h=>absurd h (by simp)) fun _=>?_;have h10:h0.IsListIter i1 l1 k1:=h1.at fun o e=>by rw [hk0 _ ap.i1z]; exact e
 have hl10:h0.IsList l1 xs:=hl1.at fun o e=>by rw [hk0 _ ap.l1z]; exact e
 refine Ac ?_;rw [<- Mn];show wpAny _ _ (forIn [Value.ref i1,Value.ref i2] _ _) _ _ _;rw [forIn_cons];refine Ac (Ac (A5 ?_));change wpAny _ _ (if _=true then _ else (Fe (.ref i1) >>= fun v=>pure (some v))) _ _ _;refine Ar (fun h=>(Al h).elim) fun _=>?_;refine Ac (wpAny_nextOf_list_end (s:={ s with heap:=h0 }) hh h10 hl10 hx fun hA e ex st=>?_);exact hE hA e (fun c o c1 c2 q=>ex c o c2 (by rw [hk0 c c1]; exact q)) st
theorem av6:isSubtype (.type "StopIteration") (.type "StopIteration")=pure true:=by rw [Ih]; kernel_rfl
theorem ak8 {z:Addr} {Q:Option Value->Shared->Prop} (ht:s.TypeIs (.ref z) "zip")
  (h:wpAny (model prog w) A.in1 (Builtin.«zip.__next__» { pos:=[.ref z] }) (fun fin s'=>∃ v,fin=.done (.ret v)/\Q (some v) s') (fun e s'=>s'.TypeIs e "StopIteration"/\Q none s') s) :
  wpAny (model prog w) A (D8 (.ref z)) Q E s:=by
 unfold D8;refine Ac (En (Bi (name:=C3 "__next__") ht F.slot_zip_next (Ay F.slot_zip_next ht F.entry_zip_next ?_ (F.args_zip_next_1 _))));refine A9 h (fun fin s' hq=>?_) (fun e s' hq=>?_)
 ·obtain ⟨v,rfl,hq⟩:=hq
  exact ⟨v,rfl,Ad hq⟩
 ·obtain ⟨t,hq⟩:=hq
  refine Ac (Fb (T:="StopIteration") (b:=true) t av6 ?_);exact Ad hq
end
section
variable {prog:Aj} {w:World} {A:Around} {E:Value->Shared->Prop} {s:Shared}
theorem aXs:Ma (.type "zip") "__len__"=pure none:=by rw [Hd,Er]; kernel_rfl
theorem aJf:Ma (.type "zip") "__length_hint__"=pure none:=by rw [Hd,Er]; kernel_rfl
theorem aqgn {r:Addr} {Q:Bool->Shared->Prop} (hT:s.TypeIs (.ref r) "zip") (h:Q true s):wpAny (model prog w) A (C4 (.ref r)) Q E s:=by
 unfold C4;refine Ac (He hT aXs ?_);dsimp only;refine Ar (fun hab=>absurd hab (by decide)) (fun _=>?_);refine Ar (fun hab=>absurd hab (by decide)) (fun _=>?_);refine Ac (He hT aJf ?_);exact Ad h
theorem az1 {a b:Addr} {n:Nat} (h1:n > a) (h2:n <= b):b ≠ a:=fun e=>absurd h1 (Mg.mpr (e ▸ h2))
structure ZSt (h:Heap) (z TI TO i1 i2 l1 l2 S:Addr) (xs ys:Array Value) (N0:Nat) (Ts:List Addr) (c:Nat):Prop where
 zs:(Ts=[]/\IsZip h z TI TO .none/\∃ a b,Gw h TO a b) \/ (∃ T fb oT,aqrz h z TI TO T fb/\h.get? T=some oT/\N0 <= T)
 ti:Gw h TI (.ref i1) (.ref i2)
 a1:h.IsListIter i1 l1 Ts.length
 a2:h.IsListIter i2 l2 Ts.length
 la1:h.IsList l1 xs
 la2:h.IsList l2 ys
 ls:h.get? S=some { cls:=.type "list",data:=.seq (Ts.map Value.ref).toArray c }
 tup:∀ (j:Nat) (T:Addr),Ts[j]?=some T->N0 <= T/\∃ x y,xs[j]?=some x/\ys[j]?=some y/\Gw h T x y
theorem ZSt.type {h:Heap} {z TI TO i1 i2 l1 l2 S:Addr} {xs ys:Array Value} {N0:Nat} {Ts:List Addr} {c:Nat} (q:ZSt h z TI TO i1 i2 l1 l2 S xs ys N0 Ts c) (hs:s.heap=h):s.TypeIs (.ref z) "zip":=by
 subst hs;rcases q.zs with ⟨_,h,_⟩ | ⟨T,fb,oT,h,_⟩
 ·exact ⟨_,h,rfl⟩
 ·exact ⟨_,h,rfl⟩
theorem aqgv {z TI TO i1 i2 l1 l2 S:Addr} {xs ys:Array Value} {N0 n:Nat} {res:Value} {R:L8->Shared->Prop} (hh:A.handled=none) (ap:Kr z TI TO i1 i2 l1 l2) (hxs:xs.size=n) (hys:ys.size=n) (hn:n <= 1000) (h1n:1 <= n)
  (hS:S ≠ z/\S ≠ TI/\S ≠ TO/\S ≠ i1/\S ≠ i2/\S ≠ l1/\S ≠ l2) (hlt:N0 > z/\N0 > TO/\N0 > i1/\N0 > i2/\N0 > S) :
  ∀ (k:Nat) (s:Shared) (Ts:List Addr) (c:Nat),n - Ts.length=k->Ts.length <= n->N0 <= s.heap.objs.size->ZSt s.heap z TI TO i1 i2 l1 l2 S xs ys N0 Ts c ->
  (∀ (h':Heap) (Ts':List Addr) (c':Nat),Ts'.length=n->h'.get? S=some { cls:=.type "list",data:=.seq (Ts'.map Value.ref).toArray c' }->(∀ (j:Nat) (T:Addr),Ts'[j]?=some T->N0 <= T/\∃ x y,xs[j]?=some x/\ys[j]?=some y/\Gw h' T x y)->(∀ b o,b ∉ [S,z,TO,i1,i2]->s.heap.get? b=some o->h'.get? b=some o)->R (.ok (.ret res)) { s with heap:=h' }) ->
  Ds (model prog w) A (.builtin "list.extend.loop" ⟨[.ref S,.ref z,res],[]⟩) R s:=by
 intro k
 induction k with
 | zero =>
  intro s Ts c hk hle hsz q hR;have hTn:Ts.length=n:=by omega
  refine Bh Lq ?_;rw [Bb Bp _];show wpAny _ A.in1 (D8 (.ref z) >>= _) _ _ s;refine Ac (ak8 (A:=A.in1) (q.type rfl) ?_);have hx:xs[Ts.length]?=none:=by simp [hTn,hxs]
  rcases q.zs with ⟨e,_⟩ | ⟨T,fb,oT,hz,hT,hNT⟩
  ·subst e; simp at hTn; omega
  ·refine aJv (A:=A.in1.in1) hh ap hz hT q.ti q.a1 q.la1 hx fun h' e hk' st=>⟨?_,?_⟩
   ·obtain ⟨o,ho,hc⟩:=st
    exact ⟨o,ho,hc⟩
   ·refine Ad ?_
    refine hR h' Ts c hTn (hk' S _ hS.1 hS.2.2.2.1 q.ls) (fun j T' hj=>?_) (fun b o hb e=>hk' b o (fun z=>hb (by simp [z])) (fun z=>hb (by simp [z])) e);obtain ⟨g1,x,y,g2,g3,g4⟩:=q.tup j T' hj;exact ⟨g1,x,y,g2,g3,hk' T' _ (az1 hlt.1 g1) (az1 hlt.2.2.1 g1) g4⟩
 | succ k ih =>
  intro s Ts c hk hle hsz q hR;have hlt':Ts.length < n:=by omega
  obtain ⟨x,hx⟩:∃ x,xs[Ts.length]?=some x:=⟨xs[Ts.length]'(by omega),by simp [hxs,hlt']⟩;obtain ⟨y,hy⟩:∃ y,ys[Ts.length]?=some y:=⟨ys[Ts.length]'(by omega),by simp [hys,hlt']⟩;refine Bh Lq ?_;rw [Bb Bp _];show wpAny _ A.in1 (D8 (.ref z) >>= _) _ _ s;refine Ac (ak8 (A:=A.in1) (q.type rfl) ?_);have step:∀ h':Heap,(∃ T fb oT,aqrz h' z TI TO T fb/\h'.get? T=some oT/\N0 <= T)->h'.IsListIter i1 l1 (Ts.length + 1)->h'.IsListIter i2 l2 (Ts.length + 1)->Gw h' s.heap.objs.size x y->h'.objs.size=s.heap.objs.size + 1 ->
    (∀ b o,b ≠ z->b ≠ TO->b ≠ i1->b ≠ i2->s.heap.get? b=some o->h'.get? b=some o) ->
    wpAny (model prog w) A.in1 (match some (Value.ref s.heap.objs.size) with | none=>ret res | some x=>do Builtin.List.listUpdate (.ref S) fun x_1=>x_1.push x; again (.builtin "list.extend.loop" ⟨[.ref S,.ref z,res],[]⟩)) (fun fin s'=>match fin with | .done f=>R (.ok f) s' | .again c'=>c'.quiet=true/\Ds (model prog w) A c' R s') (fun e s'=>R (.error e) s') { s with heap:=h' }:=by
   intro h' hzs b1 b2 bp bsz bk;have hS':h'.get? S=some { cls:=.type "list",data:=.seq (Ts.map Value.ref).toArray c }:=bk S _ hS.1 hS.2.2.1 hS.2.2.2.1 hS.2.2.2.2.1 q.ls;refine Ac (G4 (s:={ s with heap:=h' }) hS' rfl ?_ (by simp [Au]; omega) (by simp [Au]; omega));refine Ad ⟨C6 Bp _,?_⟩;have oth:∀ b,b ≠ S->(h'.update S (Be fun a=>a.push (.ref s.heap.objs.size))).get? b=h'.get? b:=fun b hb=>Av _ _ (Bw hb);obtain ⟨c2,hS2⟩:∃ c2,(h'.update S (Be fun a=>a.push (.ref s.heap.objs.size))).get? S=some { cls:=.type "list",data:=.seq ((Ts++[s.heap.objs.size]).map Value.ref).toArray c2 }:=by
    have e:((Ts++[s.heap.objs.size]).map Value.ref).toArray=(Ts.map Value.ref).toArray.push (.ref s.heap.objs.size):=by simp
    rw [e];exact ⟨_,Ke (n:=c) hS' fun a=>a.push (.ref s.heap.objs.size)⟩
   have sel:S ≠ s.heap.objs.size:=(az1 hlt.2.2.2.2 hsz).symm;refine ih _ (Ts++[s.heap.objs.size]) c2 (by simp; omega) (by simp; omega) (by show N0 <= (h'.update S _).objs.size; rw [Cg,bsz]; omega) ⟨.inr ?_,?_,?_,?_,?_,?_,?_,fun j T hj=>?_⟩ fun h2 Ts2 c3 hl hs2 ht2 hk2=>?_
   ·obtain ⟨T,fb,oT,g1,g2,g3⟩:=hzs
    exact ⟨T,fb,oT,by unfold aqrz at *; rw [oth z hS.1.symm]; exact g1,by rw [oth T (az1 hlt.2.2.2.2 g3)]; exact g2,g3⟩
   ·rw [Gw,oth TI hS.2.1.symm]
    exact bk TI _ ap.TIz ap.TITO ap.TIi1 ap.TIi2 q.ti
   ·simpa using b1.at fun o e=>by rw [oth i1 hS.2.2.2.1.symm]; exact e
   ·simpa using b2.at fun o e=>by rw [oth i2 hS.2.2.2.2.1.symm]; exact e
   ·exact q.la1.at fun o e=>by rw [oth l1 hS.2.2.2.2.2.1.symm]; exact bk l1 o ap.l1z ap.l1TO ap.l1i1 ap.l1i2 e
   ·exact q.la2.at fun o e=>by rw [oth l2 hS.2.2.2.2.2.2.symm]; exact bk l2 o ap.l2z ap.l2TO ap.l2i1 ap.l2i2 e
   ·exact hS2
   ·by_cases hj':j < Ts.length
    ·rw [Di hj'] at hj
     obtain ⟨g1,x,y,g2,g3,g4⟩:=q.tup j T hj;refine ⟨g1,x,y,g2,g3,?_⟩;rw [Gw,oth T (az1 hlt.2.2.2.2 g1)];exact bk T _ (az1 hlt.1 g1) (az1 hlt.2.1 g1) (az1 hlt.2.2.1 g1) (az1 hlt.2.2.2.1 g1) g4
    ·have:j=Ts.length:=by
      have:=(Ai.mp hj).1
      simp at this; omega
     subst this;have hT:T=s.heap.objs.size:=by simpa using hj.symm
     subst hT;exact ⟨hsz,x,y,hx,hy,by rw [Gw,oth _ sel.symm]; exact bp⟩
   ·refine hR h2 Ts2 c3 hl hs2 ht2 fun b o hb e=>hk2 b o hb ?_
    simp only [mem_cons,not_mem_nil,or_false,not_or] at hb;show (h'.update S _).get? b=some o;rw [oth b hb.1];exact bk b o hb.2.1 hb.2.2.1 hb.2.2.2.1 hb.2.2.2.2 e
  rcases q.zs with ⟨e,hz,a,b,hTO⟩ | ⟨T,fb,oT,hz,hT,hNT⟩
  ·refine zip_next_item (A:=A.in1.in1) ap hz q.ti hTO q.a1 q.a2 q.la1 q.la2 hx hy fun h' z1 z2 z3 z4 z5 z6 z7=>?_
   exact step h' ⟨s.heap.objs.size,false,_,z1,z5,hsz⟩ z3 z4 z5 z6 fun b o b1 b2 b3 b4 e=>z7 b o b1 b2 b3 b4 e
  ·refine aqef (A:=A.in1.in1) ap hz hT q.ti q.a1 q.a2 q.la1 q.la2 hx hy fun h' z1 z3 z4 z5 z6 z7=>?_
   exact step h' ⟨T,true,oT,z1,z7 T oT (az1 hlt.1 hNT) (az1 hlt.2.2.1 hNT) (az1 hlt.2.2.2.1 hNT) hT,hNT⟩ z3 z4 z5 z6 fun b o b1 b2 b3 b4 e=>z7 b o b1 b3 b4 e
end
section
variable {prog:Aj} {w:World} {A:Around} {E:Value->Shared->Prop} {s:Shared}
structure ZNew (h:Heap) (z TI TO i1 i2 l1 l2:Addr) (xs ys:Array Value):Prop where
 zs:IsZip h z TI TO .none
 ti:Gw h TI (.ref i1) (.ref i2)
 to:∃ a b,Gw h TO a b
 a1:h.IsListIter i1 l1 0
 a2:h.IsListIter i2 l2 0
 la1:h.IsList l1 xs
 la2:h.IsList l2 ys
theorem aKh {z TI TO i1 i2 l1 l2:Addr} {xs ys:Array Value} {n:Nat} (hh:A.handled=none) (ap:Kr z TI TO i1 i2 l1 l2) (q:ZNew s.heap z TI TO i1 i2 l1 l2 xs ys) (hxs:xs.size=n) (hys:ys.size=n) (hn:n <= 1000) (h1n:1 <= n) {Q:List Value->Shared->Prop}
  (h:∀ (h':Heap) (Ts:List Addr),Ts.length=n->(∀ (j:Nat) (T:Addr),Ts[j]?=some T->s.heap.objs.size <= T/\∃ x y,xs[j]?=some x/\ys[j]?=some y/\Gw h' T x y)->s.heap.objs.size < h'.objs.size->(∀ b o,b ∉ [z,TO,i1,i2]->s.heap.get? b=some o->h'.get? b=some o)->Q (Ts.map Value.ref) { s with heap:=h' }) :
  wpAny (model prog w) A (M7 (.ref z)) Q E s:=by
 have ltz:z < s.heap.objs.size:=Af q.zs;have ltTI:TI < s.heap.objs.size:=Af q.ti;have ltTO:TO < s.heap.objs.size:=let ⟨a,b,h⟩:=q.to; Af h;have lt1:i1 < s.heap.objs.size:=let ⟨o,ho,_⟩:=q.a1; Af ho;have lt2:i2 < s.heap.objs.size:=let ⟨o,ho,_⟩:=q.a2; Af ho;have ltl1:l1 < s.heap.objs.size:=let ⟨o,ho,_⟩:=q.la1; Af ho;have ltl2:l2 < s.heap.objs.size:=let ⟨o,ho,_⟩:=q.la2; Af ho;unfold M7;refine Ac (Ie (Bh G6 ?_));rw [Bb Ex _];show wpAny _ A.in1 (Nv [] >>= fun l=>again (.builtin "list.__iadd__" ⟨[l,.ref z],[]⟩)) _ _ s;refine Ac (A6 ?_);refine Ad ⟨C6 B3 _,Bh Jp ?_⟩;rw [Bb B3 _];have hS₁:(s.heap.push { cls:=.type "list",data:=.seq ([]:List Value).toArray }).get? s.heap.objs.size=some { cls:=.type "list",data:=.seq #[] }:=Ah _ rfl;show wpAny _ A.in1 (B6 (.ref s.heap.objs.size) (.ref z) (.ref s.heap.objs.size)) _ _ _;have kp:∀ b o,s.heap.get? b=some o->(s.heap.push { cls:=.type "list",data:=.seq ([]:List Value).toArray }).get? b=some o:=fun b o e=>Ae _ e;have hz1:=kp _ _ q.zs;have tz:Gz { s with heap:=s.heap.push { cls:=.type "list",data:=.seq ([]:List Value).toArray } } (.ref z) "zip":=⟨_,hz1,rfl⟩;unfold B6;refine Ac (M6 (T:="zip") tz ?_);have h1:D0 (.ref s.heap.objs.size) (.ref z)=false:=by simp [D0]; exact ne_of_gt ltz
 simp only [h1,show (Value.type "zip" == Value.type "list")=false from by decide,show (Value.type "zip" == Value.type "tuple")=false from by decide,Lu,Aw,if_false];refine Ac (wpAny_pyIter_zip hz1 ?_);refine Ac (A5 (aqgn tz ?_));have hsz1:(s.heap.push { cls:=.type "list",data:=.seq ([]:List Value).toArray }).objs.size=s.heap.objs.size + 1:=Bu ..;have ne:∀ a:Addr,a < s.heap.objs.size->s.heap.objs.size ≠ a:=fun a h=>ne_of_gt h;have key:∀ (h1':Heap) (c₁:Nat),h1'.objs.size=s.heap.objs.size + 1->(∀ b o,s.heap.get? b=some o->h1'.get? b=some o)->h1'.get? s.heap.objs.size=some { cls:=.type "list",data:=.seq #[] c₁ } ->
   Ds (model prog w) A (.builtin "list.extend.loop" ⟨[.ref s.heap.objs.size,.ref z,.ref s.heap.objs.size],[]⟩)
    (fun r s'=>match r with
     | .ok (.ret v)=>wpAny (model prog w) A (match v with
      | .ref a=>do
       let o <- load a
       match o.data with
       | .seq xs _=>pure xs.toList
       | _=>I0 "internal:collect"
      | _=>I0 "internal:collect") Q E s'
     | .ok _=>False
     | .error e=>E e s') { s with heap:=h1' }:=by
  intro h1' c₁ hsz hk1 hS1;refine aqgv (N0:=s.heap.objs.size + 1) (n:=n) (S:=s.heap.objs.size) hh ap hxs hys hn h1n ⟨ne _ ltz,ne _ ltTI,ne _ ltTO,ne _ lt1,ne _ lt2,ne _ ltl1,ne _ ltl2⟩ ⟨lt_succ_of_lt ltz,lt_succ_of_lt ltTO,lt_succ_of_lt lt1,lt_succ_of_lt lt2,lt_succ_self _⟩ (n - 0) _ [] c₁ rfl (zero_le _) (by show _ <= h1'.objs.size; omega)
   ⟨.inl ⟨rfl,hk1 _ _ q.zs,let ⟨a,b,h⟩:=q.to; ⟨a,b,hk1 _ _ h⟩⟩,hk1 _ _ q.ti,q.a1.at fun o e=>hk1 _ _ e,q.a2.at fun o e=>hk1 _ _ e,q.la1.at fun o e=>hk1 _ _ e,q.la2.at fun o e=>hk1 _ _ e,hS1,fun j T hj=>by simp at hj⟩ fun h2 Ts c2 hl hs2 ht2 hk2=>?_
  show wpAny _ A (load s.heap.objs.size >>= _) _ _ _;refine Ac (Gs (s:={ s with heap:=h2 }) hs2 ?_);refine Ad (h h2 Ts hl (fun j T hj=>?_) (Af hs2) (fun b o hb e=>hk2 b o ?_ (hk1 b o e)))
  ·obtain ⟨g1,g2⟩:=ht2 j T hj
   exact ⟨Nat.le_of_succ_le g1,g2⟩
  ·simp only [mem_cons,not_mem_nil,or_false,not_or] at hb ⊢
   exact ⟨ne_of_lt (Af e),hb⟩
 refine Ar (fun _=>?_) (fun hab=>absurd rfl hab);refine Ac (Eg ?_);refine Ac ?_;show wpAny _ _ (Nj s.heap.objs.size (·.push .none) >>= fun _=>Nj s.heap.objs.size (·.pop)) _ _ _;refine Ac (Hf hS₁ rfl ?_);have hS₂:=Bc (Be (·.push Value.none)) hS₁ rfl;refine Hf (hz:=by seq_fits) hS₂ rfl ?_;have hS₃:=Bc (Be (·.pop)) hS₂ rfl;refine Ad ⟨C6 Bp _,?_⟩;refine Co (key _ _ ?_ (fun b o e=>?_) hS₃) fun q s' x=>x
 ·rw [Cg,Cg,hsz1]
 ·exact (Av _ _ (Bw (ne_of_lt (Af e)))).trans ((Av _ _ (Bw (ne_of_lt (Af e)))).trans (kp b o e))
end
section
variable {prog:Aj} {w:World} {A:Around} {E:Value->Shared->Prop} {s:Shared}
theorem az3 {a:Addr} {v:Value} {n:Nat} {P:Nn->Shared->Prop} (ho:s.heap.get? a=some (Bm "list" #[v] n))
  (h:P (.done (.ret .none)) { s with heap:=J2 s.heap a [v] #[v] }) :
  wpAny (model prog w) A (Builtin.«list.sort» { pos:=[Value.ref a] }) P E s:=by
 rw [list_sort_plain a];have ha:=Af ho;refine Ac (Nd ho rfl (Ac (G4 ho rfl ?_)));obtain ⟨e1,ho1⟩:∃ e1,(s.heap.update a (Be fun _=>#[])).get? a=some (Bm "list" #[] e1):=⟨_,Ke ho fun _=>#[]⟩;refine Ac (Lc ho1 rfl (Ac (Gf (Ac (G0 (A5 ?_))))));have ho6:(((s.heap.update a (Be fun _=>#[])).push (Bm "tuple" #[v] 0)).push (Bm "list" #[] 0)).get? a=some (Bm "list" #[] e1):=by
  rw [Ey _ _ _ (by rw [J1,Cg]; exact ne_of_lt (lt_succ_of_lt ha)),Ey _ _ _ (by rw [Cg]; exact ne_of_lt ha)];exact ho1
 have hsz:(#[v]:Array Value).size < 2:=by simp
 refine (?_:wpAny (model prog w) A (if (#[v]:Array Value).size < 2 then _ else _) P E { s with heap:=((s.heap.update a (Be fun _=>#[])).push (Bm "tuple" #[v] 0)).push (Bm "list" #[] 0) });rw [if_pos hsz];refine Ac (Ad ?_);dsimp only;rw [if_pos hsz];refine Ac ?_;refine (?_:wpAny _ _ (pure ((),_)) _ _ _);refine Ad ?_;have hs:Lk (fun x=>x.snd) (arrOf ((),SortSt.mk' Nf (#[v].zip #[v]) #[] 7 none).snd)=#[v]:=by
  show Lk (fun x=>x.snd) (#[v].zip #[v])=#[v]
  simp
 refine Ac (Lc ho6 rfl ?_);refine Ac (G4 ho6 rfl ?_ (by simp) (by rw [hs]; simp [Au]));have hf:failedOf ((),SortSt.mk' Nf (#[v].zip #[v]) #[] 7 none).snd=none:=rfl;simp only [hf,bne_self_eq_false,Aw,if_false];refine Ad ?_;have hs':Lk (fun x=>x.snd) (arrOf (SortSt.mk' Nf (#[v].zip #[v]) #[] 7 none))=#[v]:=hs;rw [hs'];exact h
theorem aqla:∀ {vs:List Value} {ps:List (Int × Int)},vs.length=ps.length->(∀ i,i < vs.length->aKo s.heap (vs.getD i .none) (ps.getD i (0,0)))->∃ fs,KatTups s.heap vs fs/\fs.length=vs.length/\∀ v∈fs,∃ k t,v=Value.int k t
 | [],[],_,_=>⟨[],KatTups.nil ..,rfl,by simp⟩
 | [],_ :: _,h,_=>by simp at h
 | _ :: _,[],h,_=>by simp at h
 | v :: vs,p :: ps,h,k=>by
  obtain ⟨fs,h1,h2,h3⟩:=aqla (vs:=vs) (ps:=ps) (by simpa using h) fun i hi=>by have:=k (i + 1) (by simp; omega); simpa using this
  obtain ⟨x,o,n,t1,t2,e1,e2,e3,e4⟩:=k 0 (by simp);simp at e1;subst e1;exact ⟨_,KatTups.cons e2 e3 e4 (f:=Value.int p.1 t1) rfl h1,by simp [h2],fun v hv=>by
   rcases Ao.mp hv with rfl | hv
   ·exact ⟨_,_,rfl⟩
   ·exact h3 v hv⟩
theorem aW7 {vs:List Value} {ps:List (Int × Int)} {Q:N6->Shared->Prop} (h0:0 < vs.length) (hl:vs.length=ps.length) (hp:∀ i,i < vs.length->aKo s.heap (vs.getD i .none) (ps.getD i (0,0))) (h:Q (tuples' true) s):wpAny (model prog w) A (keyKind' vs.toArray) Q E s:=by
 obtain ⟨fs,h1,h2,h3⟩:=aqla hl hp;refine kat_kind (T:=.type "int") h1 (by omega) (fun v hv=>?_) (by decide) h;obtain ⟨k,t,rfl⟩:=h3 v hv;exact Looks.of_pure rfl
theorem aVy {vs:List Value} {ps:List (Int × Int)} {p:Array Nat} (hl:vs.length=ps.length) (hn:ps.Nodup) (pa:PA vs.length p) (sp:SP (fun i j=>lexB (ps.getD i (0,0)) (ps.getD j (0,0))) p vs.length) :
  (p.toList.map fun i=>ps.getD i (0,0))=DL.akp ps:=by
 have hp:p.toList.Perm (Ax vs.length):=by
  have:=pa
  unfold PA at this;exact De.mp this
 refine DL.aqgw hn ?_ ?_
 ·have e:ps=(Ax vs.length).map fun i=>ps.getD i (0,0):=by
   apply ext_getElem
   ·simp [hl]
   ·intro i h1 h2; simp [h1]
  conv=>rhs; rw [e]
  exact hp.map _
 ·have hs:p.size=vs.length:=by have:=hp.length_eq; simpa using this
  rw [pairwise_map,Bo];intro i j hi hj hij
  have:=sp i j hij (by simpa [hs] using hj)
  simp at hi hj;have a0:∀ k,(hk:k < p.size)->at0 p k=p.toList[k]'(by simpa using hk):=fun k hk=>by simp [at0,hk]
  rw [a0 i hi,a0 j hj] at this;exact this
end
section
variable {prog:Aj} {w:World} {A:Around} {E:Value->Shared->Prop} {s:Shared}
theorem aWc {z TI TO i1 i2 l1 l2:Addr} {xs ys:Array Value} {ns ms:List Int} {Q:Value->Shared->Prop} (hh:A.handled=none) (ap:Kr z TI TO i1 i2 l1 l2) (q:ZNew s.heap z TI TO i1 i2 l1 l2 xs ys) (hx:IntsAre xs.toList ns) (hy:IntsAre ys.toList ms) (hl:ns.length=ms.length) (h1:1 <= ns.length) (h64:ns.length < 64) (hnd:(ns.zip ms).Nodup)
  (h:∀ (D:Addr) (out:List Addr) (n:Nat) (h':Heap),s.heap.objs.size <= D->h'.get? D=some { cls:=.type "list",data:=.seq (out.map Value.ref).toArray n }->out.length=(DL.akp (ns.zip ms)).length->(∀ j (hj:j < out.length),s.heap.objs.size <= out[j]/\D ≠ out[j]/\aKo h' (.ref out[j]) ((DL.akp (ns.zip ms)).getD j (0,0)))->(∀ b o,b ∉ [z,TO,i1,i2]->s.heap.get? b=some o->h'.get? b=some o)->Q (.ref D) { s with heap:=h' }) :
  wpAny (model prog w) A (call (.builtin "sorted") [.ref z]) Q E s:=by
 have hxl:=hx.length;have hyl:=hy.length;have hxs:xs.size=ns.length:=by simpa using hxl
 have hys:ys.size=ns.length:=by rw [hl]; simpa using hyl
 refine Dk Nr M9 Na (Nb _) ?_;unfold Builtin.«sorted»;refine Ac (m:=checkCount "sorted" 1 1 _) (Ad ?_);refine Ac (aKh (A:=A.in1) hh ap q hxs hys (by omega) h1 fun h1' Ts hTl hT hsz1 hk1=>?_);have hps:∀ i,i < Ts.length->aKo h1' ((Ts.map Value.ref).getD i .none) ((ns.zip ms).getD i (0,0)):=by
  intro i hi;obtain ⟨_,x,y,e1,e2,e3⟩:=hT i Ts[i] (by simp [hi]);have g1:xs.toList[i]?=some x:=by rw [getElem?_toList]; exact e1
  have g2:ys.toList[i]?=some y:=by rw [getElem?_toList]; exact e2
  obtain ⟨t1,f1⟩:∃ t,x=.int (ns.getD i 0) t:=by
   exact IntsAre.int_at hx i x g1
  obtain ⟨t2,f2⟩:∃ t,y=.int (ms.getD i 0) t:=by
   exact IntsAre.int_at hy i y g2
  refine ⟨Ts[i],_,0,t1,t2,by simp [hi],e3,rfl,?_⟩;subst f1 f2
  have:i < ns.length:=by omega
  have:i < ms.length:=by omega
  simp [*]
 have hzl:(ns.zip ms).length=ns.length:=by simp [hl]
 refine Ac (G0 ?_ (by rw [Au]; simp; omega));have hoL:(h1'.push (Bm "list" (Ts.map Value.ref).toArray 0)).get? h1'.objs.size=some (Bm "list" (Ts.map Value.ref).toArray 0):=Ah _ rfl;have fin:∀ (out:List Addr),out.length=(DL.akp (ns.zip ms)).length->(∀ j (hj:j < out.length),∃ i,∃ hi:i < Ts.length,out[j]=Ts[i]/\(DL.akp (ns.zip ms)).getD j (0,0)=(ns.zip ms).getD i (0,0)) ->
   Q (.ref h1'.objs.size) { s with heap:=J2 (h1'.push (Bm "list" (Ts.map Value.ref).toArray 0)) h1'.objs.size (Ts.map Value.ref) (out.map Value.ref).toArray }:=by
  intro out ho hout;obtain ⟨e,he⟩:=Ly (out:=(out.map Value.ref).toArray) hoL;have old:∀ b o,h1'.get? b=some o->(J2 (h1'.push (Bm "list" (Ts.map Value.ref).toArray 0)) h1'.objs.size (Ts.map Value.ref) (out.map Value.ref).toArray).get? b=some o:=fun b o hb=>by
   have hlt:=Af hb;rw [Lb (ne_of_lt hlt) (by rw [J1]; exact lt_succ_of_lt hlt)];exact Ae _ hb
  refine h _ out e _ (le_of_lt hsz1) (by simpa [Bm] using he) ho (fun j hj=>?_) (fun b o hb e=>old b o (hk1 b o hb e));obtain ⟨i,hi,e1,e2⟩:=hout j hj;obtain ⟨g1,_⟩:=hT i Ts[i] (by simp [hi]);obtain ⟨x,o,n,t1,t2,f1,f2,f3,f4⟩:=hps i hi;have ex:x=Ts[i]:=by simpa [hi] using f1.symm
  rw [e1,e2];refine ⟨g1,?_,⟨Ts[i],o,n,t1,t2,rfl,old _ _ (ex ▸ f2),f3,f4⟩⟩
  have:=Af f2
  rw [ex] at this;exact ne_of_gt this
 refine Ac (A5 (Ay Kz ⟨_,hoL,rfl⟩ Kd ?_ (La _)))
 by_cases h2:2 <= ns.length
 ·refine az4 (vs:=Ts.map Value.ref) hoL (by simp; omega) (by simp; omega) ?_
  generalize hh6:(((h1'.push (Bm "list" (Ts.map Value.ref).toArray 0)).update h1'.objs.size (Be fun _=>#[])).push (Bm "tuple" (Ts.map Value.ref).toArray 0)).push (Bm "list" #[] 0)=h6;have old6:∀ b o,h1'.get? b=some o->h6.get? b=some o:=fun b o hb=>by
   rw [<- hh6];refine Ae _ (Ae _ ?_);rw [Av _ _ (ne_of_gt (Af hb))];exact Ae _ hb
  have hp6:∀ i,i < (Ts.map Value.ref).length->aKo h6 ((Ts.map Value.ref).getD i .none) ((ns.zip ms).getD i (0,0)):=fun i hi=>by
   obtain ⟨x,o,n,t1,t2,f1,f2,f3,f4⟩:=hps i (by simpa using hi);exact ⟨x,o,n,t1,t2,f1,old6 _ _ f2,f3,f4⟩
  have hvl:(Ts.map Value.ref).length=(ns.zip ms).length:=by simp [hTl,hl]
  refine aW7 (s:={ s with heap:=h6 }) (ps:=ns.zip ms) (by simp; omega) hvl hp6 ?_;have key:∀ i j,i < (Ts.map Value.ref).length->j < (Ts.map Value.ref).length->(ns.zip ms).getD i (0,0)=(ns.zip ms).getD j (0,0)->i=j:=fun i j hi hj e=>by
   rw [hvl] at hi hj;have e':(ns.zip ms)[i]=(ns.zip ms)[j]:=by
    rw [getD_eq_getElem?_getD,getD_eq_getElem?_getD,getElem?_eq_getElem hi,getElem?_eq_getElem hj] at e;exact e
   exact (getElem_inj hnd).mp e'
  have ord:=aqgh (key:=fun i=>(ns.zip ms).getD i (0,0)) key;obtain ⟨pa,sp⟩:=aqd8 ord (by simp; omega);refine aXw (n:=(Ts.map Value.ref).length) (lt:=fun i j=>lexB ((ns.zip ms).getD i (0,0)) ((ns.zip ms).getD j (0,0))) (fun i j C hi hj hC=>aqcz hvl.symm hp6 i j C hi hj hC) _ (aqd9 (by simp; omega)) ⟨rfl,rfl,_,rfl,Ad ⟨_,rfl,?_⟩⟩;generalize aqr0 _ (Ii (Ts.map Value.ref).length)=p at pa sp;have hsl:=aVy hvl hnd pa sp;have hpl:p.toList.Perm (Ax (Ts.map Value.ref).length):=De.mp pa;have hpb:∀ i∈p.toList,i < Ts.length:=fun i hi=>by
   have:=Bt.mp (hpl.mem_iff.mp hi)
   simpa using this
  have eo:(p.toList.map fun i=>(Ts.map Value.ref).getD i .none)=(p.toList.map fun i=>Ts.getD i 0).map Value.ref:=by
   rw [map_map];apply map_congr_left;intro i hi
   have:=hpb i hi
   simp [this]
  rw [eo];refine fin _ (by rw [<- hsl]; simp) fun j hj=>?_;have hj':j < p.toList.length:=by simpa using hj
  have hb:=hpb p.toList[j] (getElem_mem hj');refine ⟨p.toList[j],hb,by simp only [Jq]; rw [getD_eq_getElem?_getD,getElem?_eq_getElem hb]; rfl,?_⟩;rw [<- hsl,getD_eq_getElem?_getD,getElem?_map,getElem?_eq_getElem hj'];rfl
 ·have hT1:Ts.length=1:=by omega
  obtain ⟨T,rfl⟩:∃ T,Ts=[T]:=by
   match Ts,hT1 with
   | [T],_=>exact ⟨T,rfl⟩
  refine az3 (v:=.ref T) hoL ⟨_,rfl,Ad ⟨_,rfl,?_⟩⟩;have hp1:DL.akp (ns.zip ms)=ns.zip ms:=by
   obtain ⟨p,hp⟩:∃ p,ns.zip ms=[p]:=by
    have:(ns.zip ms).length=1:=by omega
    match ns.zip ms,this with
    | [p],_=>exact ⟨p,rfl⟩
   rw [hp]; rfl
  refine fin [T] (by rw [hp1]; simp at hTl ⊢; omega) fun j hj=>⟨j,hj,rfl,by rw [hp1]⟩
end
end SortW
namespace DL
open PySem PySem.Spec PyProof.Rows L2
section
variable {X:Cx}
theorem aqch {pins:List (Addr × Obj)} {σ:St} {H H':Hp} {s:Shared} {h':Heap} {t':Nat} (I:Inv X pins σ H s) (k:∀ b u,s.heap.get? b=some u->h'.get? b=some u) (same:∀ b u,H b=some u->H' b=some u)
  (hn:∀ b u,H' b=some u->H b=some u \/ s.heap.objs.size <= b/\axu X.prog X.w H' h' b u):Inv X pins σ H' { s with heap:=h',toks:=t' }:=by
 refine I.un ⟨fun b u q _ _ _=>k b u q,fun b u q _ _ _=>⟨u.slots,k b u q⟩,fun b u q n _=>?_,fun b u q _=>⟨u,k b u q⟩,fun b xs q=>same _ _ q,fun b u xs q=>same _ _ q,fun b ps q=>⟨#[],by rw [same _ _ q]; simp⟩⟩ fun b u e=>?_
 ·cases e:H' b with
  | none=>rfl
  | some u' =>
   rcases hn b u' e with z | ⟨z,_⟩
   ·rw [n] at z; cases z
   ·exact absurd (Af q) (Mg.mpr z)
 ·rcases hn b u e with z | ⟨_,z⟩
  ·exact (I.hok b u z).stay (fun c v _ q=>k c v q) (fun c q=>same _ _ q) fun c xs q=>same _ _ q
  ·exact z
open Classical in
noncomputable def aqqt (H:Hp) (out:List Addr) (ps:List (Int × Int)):Hp:=fun b=>if b∈out then some (.tup [.int (ps.getD (out.idxOf b) (0,0)).1,.int (ps.getD (out.idxOf b) (0,0)).2]) else H b
theorem avk {H:Hp} {out:List Addr} {ps:List (Int × Int)} {b:Addr} (h:b ∉ out):aqqt H out ps b=H b:=by unfold aqqt; rw [if_neg h]
theorem aJx {H:Hp} {out:List Addr} {ps:List (Int × Int)} {b:Addr} (h:b∈out):aqqt H out ps b=some (.tup [.int (ps.getD (out.idxOf b) (0,0)).1,.int (ps.getD (out.idxOf b) (0,0)).2]):=by unfold aqqt; rw [if_pos h]
def OneP (out:List Addr) (ps:List (Int × Int)):Prop:=∀ j,(hj:j < out.length)->ps.getD (out.idxOf out[j]) (0,0)=ps.getD j (0,0)
theorem aXf {a b:Expr} {ta:TA} {p p2 p3 pos:Pos} (hc:X.calm=true) (hg1:Gl X "sorted") (hg2:Gl X "zip") (hm1:X.mg "sorted"=none) (hm2:X.mg "zip"=none) (ha:PA X [a,b] ta) (hs:Ap [a,b] X.env=[(false,eval a X.env),(false,eval b X.env)]:=by rfl) (hs2:Ap [b] X.env=[(false,eval b X.env)]:=by rfl) :
  PE X (.Call (.Name "sorted" p) [.Call (.Name "zip" p2) [a,b] [] p3] [] pos) (fun σ H Q=>ta σ H fun vs H1=>∃ (l1 l2:Addr) (ns ms:List Int),vs=[.ref l1,.ref l2]/\SqL X.K H1 l1 (ns.map V.int)/\SqL X.K H1 l2 (ms.map V.int)/\ns.length=ms.length/\1 <= ns.length/\ns.length < 64/\(ns.zip ms).Nodup /\
   ∀ (D:Addr) (out:List Addr),H1 D=none->(∀ b∈out,H1 b=none)->D ∉ out->out.length=(akp (ns.zip ms)).length->OneP out (akp (ns.zip ms))->Q (.ref D) (upd (aqqt H1 out (akp (ns.zip ms))) D (.lst (out.map V.ref)))):=by
 intro pins s σ H Q I h;refine B0 (aQc I hg1 hm1 azh ?_ (by decide) (by decide));refine callWith_builtin1 ?_ rfl rfl;show wpAny _ _ (spliced ((false,eval (.Call (.Name "zip" p2) [a,b] [] p3) X.env) :: C2 pos (Ap [] X.env))) _ _ s;refine Cd ?_;refine B0 (aQc I hg2 hm2 aqnz ?_ (by decide) (by decide));refine B5 (thn (ha p3 pins s σ H _ I h) fun us s1 hQ=>?_) (by rw [hs,hs2]) (by rw [hs2]; rfl);obtain ⟨vs,H1,I1,r1,l1,l2,ns,ms,ev,hq1,hq2,hl,h1,h64,hnd,q⟩:=hQ;subst ev;cases r1 with
 | cons r rr =>
  cases rr with
  | cons r' rr =>
   cases rr;cases r;cases r';obtain ⟨its1,rv1,p1,hz1⟩:=I1.list hq1;obtain ⟨its2,rv2,p2,hz2⟩:=I1.list hq2;have lt1:=sq_lt I1 hq1;have lt2:=sq_lt I1 hq2;refine call_zip_2 p1.isList p2.isList fun h' hz hTI hTO hi1 hi2 hsz hk=>?_;refine Et ?_;have ap:=aqm7 s1.heap.objs.size l1 l2 lt1 lt2;refine SortW.aWc (s:={ s1 with heap:=h' }) (xs:=its1.toArray) (ys:=its2.toArray) (ns:=ns) (ms:=ms) (I1.ok.hd hc) ap ⟨hz,hTI,⟨_,_,hTO⟩,hi1,hi2,p1.isList.at fun o e=>hk _ _ e,p2.isList.at fun o e=>hk _ _ e⟩ (by simpa using ajm rv1) (by simpa using ajm rv2) hl h1 h64 hnd fun D out n h2 hD hget hol hout hk2=>?_;have hle:s1.heap.objs.size <= D:=le_trans (by show s1.heap.objs.size <= h'.objs.size; omega) hD;have hleo:∀ b∈out,s1.heap.objs.size <= b/\D ≠ b:=fun b hb=>by
    obtain ⟨j,hj,rfl⟩:=getElem_of_mem hb;obtain ⟨g1,g2,_⟩:=hout j hj;exact ⟨le_trans (by show s1.heap.objs.size <= h'.objs.size; omega) g1,g2⟩
   have hDo:D ∉ out:=fun m=>(hleo D m).2 rfl;have one:OneP out (akp (ns.zip ms)):=fun j hj=>by
    have hm:out[j]∈out:=getElem_mem hj;have hi:out.idxOf out[j] < out.length:=Hr hm;have e:out[out.idxOf out[j]]=out[j]:=Mo hi;obtain ⟨_,_,x,o,k,t1,t2,f1,f2,f3,f4⟩:=hout j hj;obtain ⟨_,_,x',o',k',t1',t2',f1',f2',f3',f4'⟩:=hout (out.idxOf out[j]) hi;rw [e] at f1';have ex:x=x':=by rw [<- (Value.ref.inj f1),<- (Value.ref.inj f1')]
    subst ex;rw [f2] at f2'; cases f2';rw [f4] at f4';injection f4' with g1 g2;injection g1 with g1;injection g1 with g3 g4;injection g3 with g3 _;injection g4 with g4 _;injection g4 with g4 _;exact (Prod.ext g3 g4).symm
   have hH:∀ b,s1.heap.objs.size <= b->H1 b=none:=fun b hb=>I1.hok.fresh hb;have kk:∀ b u,s1.heap.get? b=some u->h2.get? b=some u:=fun b u e=>hk2 b u (fun hm=>by
    have hlt:=Af e;simp only [mem_cons,not_mem_nil,or_false] at hm;rcases hm with z | z | z | z <;> (rw [z] at hlt; exact absurd hlt (Mg.mpr (by omega)))) (hk b u e)
   refine ⟨.ref D,_,(show L2.Inv X pins σ _ { s1 with heap:=h2 } from aqch (s:=s1) (h':=h2) (t':=s1.toks) I1 kk (fun b u e=>?_) (fun b u e=>?_)),rfl,q D out (hH D hle) (fun b hb=>hH b (hleo b hb).1) hDo hol one⟩
   ·have nb:b ≠ D:=fun z=>by rw [z,hH D hle] at e; cases e
    have nm:b ∉ out:=fun z=>by rw [hH b (hleo b z).1] at e; cases e
    rw [ah nb,avk nm]; exact e
   ·by_cases nb:b=D
    ·subst nb
     rw [ac] at e; cases e;refine .inr ⟨hle,by rw [length_map,hol,(azb _).length_eq,Au]; simp; omega,out.map Value.ref,n,?_,hget⟩;clear hget hol hout hk2 hleo hDo one kk q
     induction out with
     | nil=>exact .nil
     | cons x xs ih=>exact .cons rfl ih
    ·rw [ah nb] at e
     by_cases hm:b∈out
     ·rw [aJx hm] at e; cases e
      have hi:out.idxOf b < out.length:=Hr hm;have eb:out[out.idxOf b]=b:=Mo hi;obtain ⟨_,_,x,o,k,t1,t2,f1,f2,f3,f4⟩:=hout (out.idxOf b) hi;rw [eb] at f1;have ex:x=b:=(Value.ref.inj f1).symm;subst ex;refine .inr ⟨(hleo _ hm).1,by simp [Au],_,.cons ⟨t1,rfl⟩ (.cons ⟨t2,rfl⟩ .nil),o,f2,f3,k,f4⟩
     ·rw [avk hm] at e
      exact .inl e
theorem aWw {K:Frag} {F:Hp}:∀ {out:List Addr} {ps:List (Int × Int)},out.length=ps.length->(∀ j,(hj:j < out.length)->F out[j]=some (.tup [.int (ps.getD j (0,0)).1,.int (ps.getD j (0,0)).2]))->Reps K F (out.map V.ref) (ps.map pairD)
 | [],[],_,_=>.nil
 | [],_ :: _,h,_=>by simp at h
 | _ :: _,[],h,_=>by simp at h
 | a :: out,p :: ps,h,k=>by
  refine .cons ?_ (aWw (by simpa using h) fun j hj=>by have:=k (j + 1) (by simp; omega); simpa using this)
  have:=k 0 (by simp)
  exact .tup (SqT.of this) (.cons (.int _) (.cons (.int _) .nil))
theorem aX3 {a b:Expr} {f:FA} {p p2 p3 pos:Pos} (hc:X.calm=true) (hg1:Gl X "sorted") (hg2:Gl X "zip") (hm1:X.mg "sorted"=none) (hm2:X.mg "zip"=none) (ha:DA X [a,b] f) (hs:Ap [a,b] X.env=[(false,eval a X.env),(false,eval b X.env)]:=by rfl) (hs2:Ap [b] X.env=[(false,eval b X.env)]:=by rfl) :
  DO X (.Call (.Name "sorted" p) [.Call (.Name "zip" p2) [a,b] [] p3] [] pos) (aqr8 aQd f):=by
 refine PE.imp (aXf hc hg1 hg2 hm1 hm2 ha hs hs2) fun σ H Q q=>?_;obtain ⟨F,ρ,o,s,re,hf,kk⟩:=q;obtain ⟨zs,hf2,rfl⟩:=map_some hf;obtain ⟨ds,hd,hf⟩:=bind_some hf2;refine ⟨F,ρ,ds,s,re,hd,fun vs F1 H1 e1 r1=>?_⟩;unfold aQd at hf;split at hf
 ·rename_i xs ys
  obtain ⟨ns,hns,hf⟩:=bind_some hf;obtain ⟨ms,hms,hf⟩:=bind_some hf;split at hf
  ·rename_i hcnd
   cases hf
   have:=axd hns
   subst this
   have:=axd hms
   subst this;cases r1 with
   | cons q1 r2 =>
    cases r2 with
    | cons q2 r3 =>
     cases r3;cases q1 with
     | lst g1 t1 =>
      cases q2 with
      | lst g2 t2 =>
       have hv1:=aqa t1;have hv2:=aqa t2;subst hv1 hv2;refine ⟨_,_,ns,ms,rfl,(aqqy e1.fh g1).l,(aqqy e1.fh g2).l,hcnd.1,hcnd.2.1,hcnd.2.2.1,hcnd.2.2.2,fun D out hD ho hDo hol one=>?_⟩;have hF:∀ b,H1 b=none->F1 b=none:=fun b hb=>e1.fh.free hb;have ntD:aqqt F1 out (akp (ns.zip ms)) D=F1 D:=avk hDo;have sFF:aqs2 F1 (aqqt F1 out (akp (ns.zip ms))):=fun b u e=>by
        rw [avk (fun m=>by rw [hF b (ho b m)] at e; cases e)]; exact e
       have sFH:aqs2 (aqqt F1 out (akp (ns.zip ms))) (upd (aqqt H1 out (akp (ns.zip ms))) D (.lst (out.map V.ref))):=fun b u e=>by
        have nb:b ≠ D:=fun z=>by rw [z,ntD,hF D hD] at e; cases e
        rw [ah nb]
        by_cases m:b∈out
        ·rw [aJx m] at e ⊢; exact e
        ·rw [avk m] at e ⊢; exact e1.fh b u e
       have sHH:aqs2 H1 (upd (aqqt H1 out (akp (ns.zip ms))) D (.lst (out.map V.ref))):=fun b u e=>by
        have nb:b ≠ D:=fun z=>by rw [z,hD] at e; cases e
        rw [ah nb,avk (fun m=>by rw [ho b m] at e; cases e)]; exact e
       have ex:Ext F1 H1 (aqqt F1 out (akp (ns.zip ms))) (upd (aqqt H1 out (akp (ns.zip ms))) D (.lst (out.map V.ref))):=⟨sFF,sFH,sHH,fun b u e=>by
        by_cases m:b∈out
        ·exact .inr (ho b m)
        ·rw [avk m] at e; exact .inl e⟩
       refine kk (.ref D) _ _ _ (e1.trans ex) (aXi ac (aWw hol fun j hj=>?_)) fun b z=>by
        subst z;exact ⟨by rw [ntD]; exact hF _ hD,e1.hh.free hD⟩
       rw [aJx (getElem_mem hj),one j hj]
  ·cases hf
 ·cases hf
end
end DL
namespace DL
open PySem
end DL
namespace DL
open PySem PySem.Spec PyProof.Rows L2
section
variable {K:Frag} {F H:Hp}
end
section
variable {X:Cx} {i j:Nat} {S:List Bool}
end
def veB:List Value:=[.type "ValueError",.type "Exception",.type "BaseException",.type "object"]
structure ExcC (K:Frag) (C:Addr):Prop where
 ex:∃ (nm q:Str) (N:Addr) (bs bm:List Value) (hdct:Bool) (sn:List Str) (sub:List Value) (ab:Bool) (col:Option Bool) (dd:Option Addr) (k0 k1 k2 k3 k5:Option Value),
  K.lookup C=some (excClassObj nm q C N bs bm hdct sn sub ab col dd k0 k1 k2 k3 k5 "ValueError.__new__")/\PySem.W.nsOkIn K N=true/\nsIn K N "__init__"=some none/\PySem.W.tailIn K veB bm=true
section
variable {P:Aj} {w:World} {K:Frag} {mg:Str->Option Value} {base:Heap} {N:List Str} {qual:Str} {scope:Scope} {f:Addr} {cd:Value} {A:Around} {outer:List Env} {s:Shared} {H:Hp} {E:XK} {C:Addr}
end
abbrev maX (X:Cx) (a:Addr) (oe:Obj):Cx:={ X with A:=X.A.mark (some (.ref a)),calm:=false,pn:=(a,oe) :: X.pn,xe:=fun _ _=>False }
theorem aqjg {P:Aj} {w:World} {H:Hp} {h:Heap} {a:Addr} {o:HO} (x:axu P w H h a o):∃ u,h.get? a=some u:=by
 cases o with
 | lst xs=>obtain ⟨_,_,_,_,e⟩:=x; exact ⟨_,e⟩
 | tup xs=>obtain ⟨_,_,_,o,e,_⟩:=x; exact ⟨_,e⟩
 | dK kvs=>obtain ⟨_,_,_,_,o,_,_,e,_⟩:=x; exact ⟨_,e⟩
 | dT kvs=>obtain ⟨_,_,_,_,o,_,_,e,_⟩:=x; exact ⟨_,e⟩
 | set S n=>obtain ⟨o,_,_,_,e,_⟩:=x; exact ⟨_,e⟩
 | ins C dx fs=>obtain ⟨_,_,_,e,_⟩:=x; exact ⟨_,e⟩
 | own y=>exact x
 | xd fs=>obtain ⟨_,⟨_,_,_,e,_⟩,_⟩:=x; exact ⟨_,e⟩
 | rng lo hi=>obtain ⟨_,_,_,e⟩:=x; exact ⟨_,e⟩
 | frz ob u=>obtain ⟨e,_⟩:=x; exact ⟨_,e⟩
 | tbl ps=>exact ⟨_,x⟩
 | met f y=>exact ⟨_,x⟩
 | ext φ=>obtain ⟨_,e,_⟩:=x; exact e
section
variable {X:Cx} {pins:List (Addr × Obj)} {σ:L2.St} {H:Hp} {s s':Shared} {a:Addr} {oe:Obj} {C C':Addr} {E:XK} {e:Value}
theorem ma_in (I:L2.Inv X pins σ H s) (h1:s.heap.get? a=some oe) (h2:H a=none) (h3:a ≠ X.env.locals) (h4:a ∉ X.fs) (h5:∀ v,oe.data ≠ .cell v):L2.Inv (maX X a oe) pins σ H s:=by
 have o:=I.ok;refine ⟨⟨o.mod,o.kind,o.glob,o.blt,o.above,o.inj,o.has,o.cab,(fun h=>absurd (show false=true from h) (by decide)),o.frames,o.stk,o.exf,o.bs,o.bsz,o.noex,o.exfs,o.funs,o.frf⟩,I.os,I.bare,I.base,I.loc,I.cell,I.free,I.freeC,fun p hp=>?_,I.hok,I.len⟩;rcases Ao.mp (show p∈(a,oe) :: (X.pn++pins) from hp) with rfl | hp
 ·exact ⟨h1,h2,h3,h4,h5⟩
 ·exact I.pin p hp
theorem aJb (o:X.Ok) (I:L2.Inv (maX X a oe) pins σ H s):L2.Inv X pins σ H s :=
 ⟨o,I.os,I.bare,I.base,I.loc,I.cell,I.free,I.freeC,fun p hp=>I.pin p (mem_cons_of_mem _ hp),I.hok,I.len⟩
end
structure ExcH (K:Frag) (C C':Addr):Prop where
 ty:Dc K (.ref C')=some (.type "type")
 cl:(C7 K C').isSome=true
 be:As K C' (.type "BaseException")=some true
 su:As K C (.ref C')=some true
theorem akc {K:Frag} {M:Model} {h:Heap} {C:Addr} (KX:K.In h) (e:(C7 K C).isSome=true):PySem.W.Looks M h (isType (.ref C)) true:=by
 unfold C7 at e;split at e
 ·rename_i ho
  exact (Ci (KX _ _ ho)).andThen .now
 ·cases e
theorem awg {M:Model} {A:Around} {E:Value->Shared->Prop} {K:Frag} {s:Shared} {a C C':Addr} {oe:Obj} {Q:Bool->Shared->Prop} (KX:K.In s.heap) (Z:ExcH K C C') (hx:s.heap.get? a=some oe) (hc:oe.cls=.ref C) (hq:Q true s) :
  wpAny M A (Mp (.ref a) (.ref C')) Q E s:=by
 obtain ⟨h,g,d,t,os⟩:=s;have L0:PySem.W.Looks M h (Kq (.ref a)) (.ref C):=hc ▸ (Ci hx).andThen .now;have L1:=Ld (M:=M) KX Z.ty;have L2:=C1 (M:=M) KX Z.be;have L3:=C1 (M:=M) KX Z.su;have L4:=akc (M:=M) KX Z.cl;have L5:PySem.W.Looks M h (isSubtype (.type "type") (.type "tuple")) false:=.of_pure tc_notTuple;unfold Mp J0 isExcClass
 repeat lk
 exact hq
theorem ma_sp {X:Cx} {pins:List (Addr × Obj)} {D:Ends} {fl:Flow} {s:Shared} {a:Addr} {oe:Obj} (o:X.Ok) (h:SP (maX X a oe) pins D fl s):SP X pins D fl s:=by
 cases fl with
 | next=>obtain ⟨σ,H,I,q⟩:=h; exact ⟨σ,H,aJb o I,q⟩
 | ret u=>obtain ⟨v,σ,H,I,r,q⟩:=h; exact ⟨v,σ,H,aJb o I,r,q⟩
 | brk=>obtain ⟨σ,H,I,q⟩:=h; exact ⟨σ,H,aJb o I,q⟩
 | cont=>obtain ⟨σ,H,I,q⟩:=h; exact ⟨σ,H,aJb o I,q⟩
section
variable {X:Cx} {C C':Addr} {k:Nat} {f:Addr} {fd:Ak} {ps:List Str} {sp:Sp}
end
end DL
namespace DL
open PySem PySem.Spec PyProof.Rows L2
open Builtin Builtin.ObjectAttr Builtin.Getset_descriptor
structure ExcI (K:Frag) (C:Addr):Prop where
 cl:(C7 K C).isSome=true
 ga:Aq K (.ref C) "__getattribute__"=some (some (.builtin "BaseException.__getattribute__"))
 kl:Aq K (.ref C) "__class__"=some (some (.builtin "object.__class__"))
 gt:F6 K (.builtin "object.__class__") "__get__"=some (some (.builtin "getset_descriptor.__get__"))
 tk:J9 K (.builtin "object.__class__")=some true
 ob:As K C (.type "object")=some true
 be:As K C (.type "BaseException")=some true
 no:Aq K (.ref C) "__getattr__"=some none
section
variable {prog:Aj} {w:World} {A:Around} {E:Value->Shared->Prop} {K:Frag} {s:Shared} {a C:Addr} {oe:Obj}
theorem aqhx {M:Model} {h:Heap} (Z:ExcI K C) (KX:K.In h):PySem.W.Looks M h (ObjectAttr.find (.ref a) (.ref C) "__class__") (Found.bind (.builtin "getset_descriptor.__get__") (.builtin "object.__class__")):=by
 have L3:=PySem.W.looks_takesIn (M:=M) KX Z.tk;have L2:PySem.W.Looks M h (getOf (some (Value.builtin "object.__class__"))) (some (Value.builtin "getset_descriptor.__get__")):=PySem.W.looks_specialIn KX Z.gt;have L4:PySem.W.Looks M h (dataDescriptor? (some (Value.builtin "object.__class__")) (some (Value.builtin "getset_descriptor.__get__"))) (some (Value.builtin "getset_descriptor.__get__",Value.builtin "object.__class__")):=L3.andThen .now;exact (E1 KX Z.kl).andThen (L2.andThen (L4.andThen (PySem.W.Looks.tag .now)))
theorem aqm8 {R:L8->Shared->Prop} {tp:Value} (Z:ExcI K C) (KX:K.In s.heap) (hx:s.heap.get? a=some oe) (hc:oe.cls=.ref C) (h:R (.ok (.ret (.ref C))) s) :
  Ds (model prog w) A (.call (.builtin "getset_descriptor.__get__") ⟨[.builtin "object.__class__",.ref a,tp],[]⟩) R s:=by
 obtain ⟨hh,g,dr,t,os⟩:=s;have L0:PySem.W.Looks (model prog w) hh (Kq (.ref a)) (.ref C):=hc ▸ (Ci hx).andThen .now;have L1:=C1 (M:=model prog w) KX Z.ob;refine G5 Mq.plain PySem.W.KF.entry_gs (Mq.check _ _ _ _ _ _ _ _ PySem.W.KF.type_class (PySem.W.KF.args_gs _ _ _) ?_);unfold Builtin.«getset_descriptor.__get__» descrGet; rw [PySem.W.dga_obj];refine Ac (Ad ?_); unfold descrGetter descrCheckInstance descrNameAndClass J0; simp only [PySem.W.KF.owner_class]
 repeat lk
 refine ⟨Mj _ (by decide +kernel),Bh PySem.W.KF.entry_class ?_⟩; unfold Builtin.«object.__class__» shownTypeOf
 repeat lk
 exact h
theorem aqeg {tk:Tok} {Q:Fin->Shared->Prop} (Z:ExcI K C) (KX:K.In s.heap) (hx:s.heap.get? a=some oe) (hc:oe.cls=.ref C) (h:Q (.done (.ret (.ref C))) s) :
  wpAny (model prog w) A (Builtin.«object.__getattribute__» ⟨[.ref a,.str "__class__" tk],[]⟩) Q E s:=by
 obtain ⟨hh,g,dr,t,os⟩:=s;have L0:PySem.W.Looks (model prog w) hh (Kq (.ref a)) (.ref C):=hc ▸ (Ci hx).andThen .now;have L1:=aqhx (a:=a) (M:=model prog w) Z KX
 repeat (any_goals (first | assumption | with_reducible refine PySem.W.Looks.at (by assumption) ?_ | wp_step))
 refine aqm8 Z KX hx hc ?_
 repeat (any_goals (first | assumption | wp_step))
theorem aqei {M:Model} {nameV:Value} {Q:Unit->Shared->Prop} (Z:ExcI K C) (KX:K.In s.heap) (hx:s.heap.get? a=some oe) (hc:oe.cls=.ref C) (h:Q () s) :
  wpAny M A (Jo "BaseException.__getattribute__" ⟨[.ref a,nameV],[]⟩) Q E s:=by
 obtain ⟨hh,g,dr,t,os⟩:=s;have L0:PySem.W.Looks M hh (Kq (.ref a)) (.ref C):=hc ▸ (Ci hx).andThen .now;have L1:=C1 (M:=M) KX Z.be;have hk:builtinKind "BaseException.__getattribute__"=some .slot:=by decide +kernel
 have hs:splitId "BaseException.__getattribute__"=some ("BaseException","__getattribute__"):=by decide +kernel
 have ha:=F.args_bexc_ga (.ref a) nameV;simp only [Jo,hk,hs];refine Ac ?_;unfold J0
 repeat (first | with_reducible refine PySem.W.Looks.at (by assumption) ?_ | wp_step)
 exact h
theorem xc_by {tk:Tok} {Q:Value->Shared->Prop} (Z:ExcI K C) (KX:K.In s.heap) (hx:s.heap.get? a=some oe) (hc:oe.cls=.ref C) (h:Q (.ref C) s) :
  wpAny (model prog w) A (getAttrBy (.ref a) (.str "__class__" tk) false) Q E s:=by
 obtain ⟨hh,g,dr,t,os⟩:=s;have L0:PySem.W.Looks (model prog w) hh (Kq (.ref a)) (.ref C):=hc ▸ (Ci hx).andThen .now;have L1:=E1 (M:=model prog w) KX Z.ga;have L2:=E1 (M:=model prog w) KX Z.no;have f3:=Hs.ga.bind (.ref a);have x2:(Value.builtin "BaseException.__getattribute__" == Value.builtin "object.__getattribute__")=false:=by decide +kernel
 have x1:(onTheHeap (Value.ref C) && Value.builtin "BaseException.__getattribute__" == Value.builtin "object.__getattribute__")=false:=by rw [x2]; rfl
 repeat (any_goals (first | assumption | with_reducible refine PySem.W.Looks.at (by assumption) ?_ | wp_step))
 refine G5 Hs.ga.plain F.entry_bexc_ga (aqei Z KX hx hc (aqeg Z KX hx hc ?_))
 repeat (any_goals (first | assumption | wp_step))
theorem aqeh {Q:Option Value->Shared->Prop} (Z:ExcI K C) (KX:K.In s.heap) (hx:s.heap.get? a=some oe) (hc:oe.cls=.ref C) (h:Q (some (.ref C)) { s with toks:=s.toks + 1 }) :
  wpAny (model prog w) A (getAttr? (.ref a) "__class__") Q E s:=by
 obtain ⟨hh,g,dr,t,os⟩:=s;unfold getAttr? getAttrBy?
 repeat (any_goals (first | assumption | with_reducible refine xc_by Z KX hx hc ?_ | wp_step))
end
theorem aqgi {K:Frag} {a C:Addr} (Z:ExcI K C):PySem.W.KitX K (.ref a) (.ref C) (fun h=>∃ oe,h.get? a=some oe/\oe.cls=.ref C) where
 ty:=fun M h _ p=>by
  obtain ⟨oe,hx,hc⟩:=p;exact hc ▸ (Ci hx).andThen .now
 it:=fun M h KX _=>akc KX Z.cl
 ne:=fun h tp dd its n sl KX htp=>by
  refine Bool.eq_false_iff.mpr fun q=>?_;have e:C=tp:=Value.ref.inj (beq_iff_eq.mp q);subst e;have z:=Z.cl;unfold C7 at z;split at z
  ·rename_i ho
   have:=(KX _ _ ho).symm.trans htp
   cases this
  ·cases z
 ca:=fun KX p k=>by
  obtain ⟨oe,hx,hc⟩:=p;exact aqeh Z KX hx hc k
section
variable {X:Cx} {a C:Addr} {oe:Obj}
def rIsx (K:Frag) (a C:Addr):List V->Hp->VK->Prop:=fun xs H Q=>∃ v c b,xs=[.ref a,v]/\(∀ u,aqs3 v u->u=c)/\An K (.ref C) c=some b/\Q (.bl b) H
theorem ax5 {K:Frag} (hK:X.K=K) (hpn:(a,oe)∈X.pn) (hc:oe.cls=.ref C) (Z:ExcI K C):awm X (.builtin "isinstance") (rIsx K a C):=by
 subst hK;intro pins s σ H xs us Q I r h;obtain ⟨v,c,b,rfl,hv,e,q⟩:=h;cases r with
 | cons r1 r =>
  cases r with
  | cons r2 r =>
   cases r;obtain rfl:=(show _=Value.ref a from r1);obtain rfl:=hv _ r2;exact PySem.W.kia_one (aqgi Z) I.kIn ⟨oe,(I.pin (a,oe) (mem_append_left _ hpn)).1,hc⟩ e (fun z=>nomatch z) fun tk=>⟨.bl _,H,I.tok tk,rfl,q⟩
theorem aV3 {x:Str} {p:Pos} (hg:Gl X x) (hm:X.mg x=some (.ref C)) (hd:(x == ("__debug__":Str))=false:=by decide):PE X (.Name x p) (tC (.ref C)) :=
 fun _ _ _ H _ I h=>az5 I hg hm ⟨.ref C,H,I,rfl,h⟩ hd
end
theorem aZ9 {X:Cx} {pins:List (Addr × Obj)} {σ:L2.St} {H:Hp} {s:Shared} {A:Around} {E:Value->Shared->Prop} {i:Nat} {n:Str} {pos:Pos} {Q:Unit->Shared->Prop} (I:L2.Inv X pins σ H s) (hN:X.N.Nodup) (hi:X.N[i]?=some n) (hk:X.env.kindOf n=some .local)
  (h:∀ s',L2.Inv X pins (σ.set i none) H s'->Q () s'):wpAny (model X.prog X.w) A (do bindName X.env n .none; unbindBehindTheSuite X.env n pos) Q E s:=by
 obtain ⟨m,hn,hl⟩:=id I.loc;refine wpAny_nameGoes_keeps hk hn (by rw [I.ok.kind]; rfl) fun h' v hn' hs=>?_;have hiσ:i < σ.length:=by rw [I.len]; exact (Ai.mp hi).1
 have cne:=I.cne;have old:∀ b o,X.s₀.heap.get? b=some o->b ≠ X.env.locals:=fun b o e=>ne_of_lt (lt_of_lt_of_le (Af e) I.ok.above);refine h _ ⟨I.ok,I.os,I.bare,⟨fun b o e n hb hx=>(hs.2 b (old b o e)).trans (I.base.keep b o e n hb hx),fun b o e n hb hx=>?_,I.base.free,fun b o e hx=>?_,I.base.tups,I.base.frzs,I.base.tbls⟩,⟨_,hn',fun j y v' e1 e2 e3=>?_⟩,fun y c e=>?_,I.free,I.freeC,fun p hp=>?_,fun b ob e=>?_,by simpa using I.len⟩
 ·obtain ⟨sl,e1⟩:=I.base.slot b o e n hb hx
  exact ⟨sl,(hs.2 b (old b o e)).trans e1⟩
 ·obtain ⟨o',e1⟩:=I.base.there b o e hx
  exact ⟨o',(hs.2 b (old b o e)).trans e1⟩
 ·by_cases hj:j=i
  ·subst hj
   rw [getElem?_set_self hiσ] at e2;cases e2
  ·rw [getElem?_set_ne (Bw hj)] at e2
   obtain ⟨u',r',q⟩:=hl j y v' e1 e2 e3;refine ⟨u',r',?_⟩;rcases q with ⟨k,e⟩ | ⟨k,c,e,z⟩
   ·refine .inl ⟨k,?_⟩
    have:y ≠ n:=fun e=>hj (aXp hN e1 (e ▸ hi))
    simp [this,e]
   ·exact .inr ⟨k,c,e,z.sameBut hs (cne y c e)⟩
 ·obtain ⟨w',z⟩:=I.cell y c e
  exact ⟨w',z.sameBut hs (cne y c e)⟩
 ·obtain ⟨e,n,ne,nf,d⟩:=I.pin p hp
  exact ⟨(hs.2 p.1 ne).trans e,n,ne,nf,d⟩
 ·refine (I.hok b ob e).stay (fun c w' hc q=>(hs.2 c ?_).trans q) (fun _ q=>q) fun _ _ q=>q
  rintro rfl;rcases hc with rfl | hc
  ·rw [I.free] at e; cases e
  ·rw [I.free] at hc; cases hc
section
variable {X:Cx} {C C':Addr} {k:Nat} {f:Addr} {fd:Ak} {ps:List Str} {sp:Sp}
def outN (i:Nat) (D:Ends):Ends:={ nx:=fun σ H=>D.nx (σ.set i none) H,rt:=D.rt,bk:=fun σ H=>D.bk (σ.set i none) H,ct:=fun σ H=>D.ct (σ.set i none) H }
end
theorem aU {K:Frag} {C:Addr} (q:Eo K C [.type "ValueError",.type "Exception",.type "BaseException",.type "object"] "ValueError.__new__"=true):ExcC K C/\(C7 K C).isSome=true:=by
 unfold Eo at q;split at q
 ·rename_i dd cd sl ho
  have cl:(C7 K C).isSome=true:=by unfold C7; rw [ho]; rfl
  split at q
  ·rename_i C' bm k0 k1 k2 k3 n k5 hm hs
   have q1:=Dw.mp q;have q2:=Dw.mp q1.1;have q3:=Dw.mp q2.1;have q4:=Dw.mp q3.1;have q5:=Dw.mp q4.1;have c1:C'=C:=beq_iff_eq.mp q5.1;have c2:n="ValueError.__new__":=beq_iff_eq.mp q5.2;have c3:cd.hasDel=false:=by have:=q4.2; cases h:cd.hasDel <;> simp_all
   subst c1 c2;obtain ⟨sl⟩:=sl;have hs:sl=[k0,k1,k2,k3,some (.builtin "ValueError.__new__"),k5]:=hs;subst hs;refine ⟨⟨cd.name,cd.qualname,cd.ns,cd.bases,bm,cd.hasDict,cd.slotNames,cd.subclasses,cd.abstract,cd.collection,dd,k0,k1,k2,k3,k5,?_,q2.2,beq_iff_eq.mp q1.2,q3.2⟩,cl⟩;obtain ⟨a1,a2,a3,a4,a5,a6,a7,a8,a9,a10,a11⟩:=cd;cases hm;cases c3;exact ho
  ·cases q
 ·cases q
end DL
namespace DL
open PySem
def aqra:List Int->List Int->Bool
 | _,[]=>false
 | [],_ :: _=>true
 | a :: s,b :: t=>decide (a < b) || (decide (a=b) && aqra s t)
def aqre (m:List Int):List (List Int)->List (List Int)
 | []=>[m]
 | k :: ks=>if m=k then k :: ks else if aqra m k=true then m :: k :: ks else k :: aqre m ks
def ajl (l:List (List Int)):List (List Int):=l.foldr aqre []
def wtK (h:List (Int × List Int)) (m:List Int):Int:=((h.filter fun p=>decide (p.2=m)).map fun p=>p.1).sum
def aQy (h:List (Int × List Int)):List (Int × List Int):=(ajl (h.map fun p=>p.2)).map fun m=>(wtK h m,m)
def kInt:D->Option Int
 | .int i=>some i
 | _=>none
def aqk5:D->Option (List Int)
 | .lst xs=>xs.mapM kInt
 | _=>none
def aqk4:D->Option (Int × List Int)
 | .tup [.int w,m]=>(aqk5 m).map fun l=>(w,l)
 | _=>none
def aqhr:D->Option (List (Int × List Int))
 | .lst xs=>xs.mapM aqk4
 | _=>none
def aW0 (p:Int × List Int):O:=.tup [.sh (.int p.1),ow (p.2.map D.int)]
def aqi5:List D->Option O
 | [d]=>(aqhr d).bind fun h=>if h.length < 60/\(h.all fun p=>decide (p.2.length < 60))=true then some (.lst ((aQy h).map aW0)) else none
 | _=>none
def lawD:List D->Option D
 | [d]=>(aqk5 d).bind fun ns=>if ns.length <= 63 then some (.bl true) else none
 | _=>none
theorem aqc6 (ns:List Int) (h:ns.length <= 63):lawD [.lst (ns.map .int)]=some (.bl true):=by
 have:∀ l:List Int,(l.map D.int).mapM kInt=some l:=by
  intro l
  induction l with
  | nil=>rfl
  | cons a l ih=>rw [map_cons,mapM_cons,ih]; rfl
 simp [lawD,aqk5,this,h]
end DL
namespace DL
open PySem PySem.Spec PyProof.Rows L2
theorem fsc {N P:List Str} {sc:Scope} (a:sc.kind=.function:=by rfl) (b:sc.isCoroutine=false:=by rfl) (c:sc.isGenerator=false:=by rfl) (d:N.Nodup:=by decide +kernel) (e:N.take P.length=P:=by rfl) (f:∀ x∈P,sc.names.lookup x=some .local \/ sc.names.lookup x=some .cell:=by decide +kernel) (g:∀ y∈sc.names,y.2 ≠ .free:=by decide +kernel):FnScope N P sc:=⟨a,b,c,d,e,f,g⟩
theorem hm {k n:Nat} {A:Around} (h:Room n A) (d:k <= n:=by decide):Room k A:=h.mono d
theorem pgc {X:Cx} {N':List Str} {scope:Scope} {cl:List (Str × Addr)} {C:Addr} {s₀:Shared} {H₀:Hp} {ex:List Addr} {pn:List (Addr × Obj)} (i:Nat) {x:Str} {pos:Pos} (hN:N'.Nodup:=by decide) (hi:N'[i]?=some x:=by rfl) (hx:Loc (aO X N' scope cl C s₀ H₀ ex pn).env.scope x:=by first | exact .inl rfl | exact .inr rfl) (hf:(aO X N' scope cl C s₀ H₀ ex pn).fn x=true \/ (aO X N' scope cl C s₀ H₀ ex pn).env.scope.names.lookup x=some .local:=by first | exact .inl rfl | exact .inr rfl | assumption):PG (aO X N' scope cl C s₀ H₀ ex pn) (.Name x pos) (ax9 i):=aqc hN hi hx hf
theorem pif0 {X:Cx} {N':List Str} {scope:Scope} {cl:List (Str × Addr)} (C:Addr) (s₀:Shared) (H₀:Hp) (ex:List Addr) (pn:List (Addr × Obj)):PIfs (aO X N' scope cl C s₀ H₀ ex pn) [] aJu:=.inl ⟨rfl,fun _ _ _ h=>h⟩
end DL
namespace DL
open PySem
end DL
namespace DL
open PySem PySem.Spec PyProof.Rows L2
end DL
namespace MB
open PySem DL
theorem aqo2 {n k:Nat} (h:n < 2 ^ k) (hk:k <= 1000000):n < BIG:=by
 unfold BIG;exact lt_of_lt_of_le h (Dy (by decide) hk)
theorem aqob (i:Int):(if i < 0 then -i else i)=(i.natAbs:Int):=by split <;> omega
theorem aqg5 {a b m n:Nat} (h:a < 2 ^ m) (h':b < 2 ^ n):a * b < 2 ^ (m + n):=by
 rw [Nat.pow_add];exact Nat.mul_lt_mul_of_lt_of_lt h h'
def rng (n:Nat):Nat:=max 1 (min n 30)
def Sz (k:Nat) (v:Int):Prop:=v.natAbs < 2 ^ k
theorem Sz.mono {a b:Nat} {v:Int} (h:Sz a v) (hab:a <= b):Sz b v:=lt_of_lt_of_le h (Dy (by decide) hab)
theorem Sz.mul {a b:Nat} {x y:Int} (h:Sz a x) (h':Sz b y):Sz (a + b) (x * y):=by
 unfold Sz; rw [Gg]; exact aqg5 h h'
theorem Sz.sub {a:Nat} {x y:Int} (h:Sz a x) (h':Sz a y):Sz (a + 1) (x - y):=by
 unfold Sz at *; rw [Nat.pow_succ]; omega
theorem Sz.big {a:Nat} {x:Int} (h:Sz a x) (ha:a <= 1000000):x.natAbs < BIG:=aqo2 h ha
theorem Sz.one:Sz 1 1:=by show (1:Int).natAbs < 2 ^ 1; decide
def nf1 (t b:Int):Int:=t / (Ht t b:Int)
def nf2 (t b:Int):Int:=b / (Ht t b:Int)
section
variable {t b:Int}
theorem aY8 (hb:0 < b):0 < (Ht t b:Int):=by
 have:Ht t b ≠ 0:=fun h=>by have:=(Int.gcd_eq_zero_iff.mp h).2; omega
 omega
theorem aqjl:nf1 t b * (Ht t b:Int)=t:=Lr (Int.gcd_dvd_left t b)
theorem aqjk:nf2 t b * (Ht t b:Int)=b:=Lr (Int.gcd_dvd_right t b)
theorem aqmy (hb:0 < b):(nf1 t b).natAbs <= t.natAbs:=by
 have h1:=congrArg Int.natAbs (aqjl (t:=t) (b:=b));rw [Gg] at h1;rw [<- h1]
 have:=aY8 (t:=t) hb
 exact Jr _ (by omega)
theorem aqmx (hb:0 < b):(nf2 t b).natAbs <= b.natAbs:=by
 have h1:=congrArg Int.natAbs (aqjk (t:=t) (b:=b));rw [Gg] at h1;rw [<- h1]
 have:=aY8 (t:=t) hb
 exact Jr _ (by omega)
end
def fr (p q:Int):D:=.tup [.int p,.int q]
def frD (a:Rat):D:=.tup [.int a.num,.int a.den]
theorem aqkf {a b:Rat} (h:a.num=b.num) (h':(a.den:Int)=b.den):a=b:=Rat.ext h (by omega)
@[simp] theorem aqp2 (a:Rat):imm (frD a)=true:=by simp [frD]
@[simp] theorem aqoi {n:Nat} (a:Rat):shp (n + 1) (frD a)=true:=by simp [frD]
theorem aqe2 (a b:Rat):eqD (frD a) (frD b)=decide (a=b):=by
 rw [Bg];simp only [frD,eqD,aqrl,Bool.and_true,C8,beq_iff_eq,decide_eq_true_eq];exact ⟨fun ⟨h,h'⟩=>aqkf h h',fun h=>by subst h; exact ⟨rfl,rfl⟩⟩
@[simp] theorem aqph (a b:Rat):dEq (frD a) (frD b)=some (.bl (decide (a=b))):=by simp [dEq,aqe2]
@[simp] theorem aqpd (a b:Rat):dNe (frD a) (frD b)=some (.bl (!decide (a=b))):=by simp [dNe,aqe2]
theorem aqjj {t:Int} {b:Nat} (hb:b ≠ 0):nf1 t b=(Rat.normalize t b hb).num/\nf2 t b=((Rat.normalize t b hb).den:Int):=by
 rw [Rat.normalize_eq];unfold nf1 nf2;have e:Ht t (b:Int)=t.natAbs.gcd b:=by simp [Ht]
 rw [e];exact ⟨rfl,by rw [Int.natCast_ediv]⟩
theorem aqmb (a b:Rat):mkRat (a.num * b.den - b.num * a.den) (a.den * b.den)=a - b:=by rw [Rat.sub_def,Gh]
theorem aqjm (a b:Rat):mkRat (a.num * b.num) (a.den * b.den)=a * b:=by rw [Rat.mul_def,Gh]
def Bd (n d:Nat) (a:Rat):Prop:=a.num.natAbs < 2 ^ n/\a.den < 2 ^ d
theorem Bd.mono {n d n' d':Nat} {a:Rat} (h:Bd n d a) (hn:n <= n') (hd:d <= d'):Bd n' d' a:=⟨lt_of_lt_of_le h.1 (Dy (by decide) hn),lt_of_lt_of_le h.2 (Dy (by decide) hd)⟩
theorem Bd.num {n d:Nat} {a:Rat} (h:Bd n d a):Sz n a.num:=h.1
theorem Bd.den {n d:Nat} {a:Rat} (h:Bd n d a):Sz d (a.den:Int):=by show (a.den:Int).natAbs < 2 ^ d; rw [Ij]; exact h.2
theorem Bd.mk {n d:Nat} {t:Int} {b:Nat} (hb:b ≠ 0) (ht:Sz n t) (hd:b < 2 ^ d):Bd n d (mkRat t b):=by
 obtain ⟨h1,h2⟩:=aqjj (t:=t) hb;rw [Gh] at h1 h2;have hp:(0:Int) < b:=by omega
 refine ⟨?_,?_⟩
 ·rw [<- h1]; exact lt_of_le_of_lt (aqmy hp) ht
 ·have:=aqmx (t:=t) hp
  rw [h2] at this;omega
theorem Bd.sub {n d m e:Nat} {a b:Rat} (ha:Bd n d a) (hb:Bd m e b):Bd (max (n + e) (m + d) + 1) (d + e) (a - b):=by
 rw [<- aqmb];refine Bd.mk (Nat.mul_ne_zero a.den_nz b.den_nz) ?_ (aqg5 ha.2 hb.2);exact Sz.sub ((ha.num.mul hb.den).mono (Nat.le_max_left _ _)) ((hb.num.mul ha.den).mono (Nat.le_max_right _ _))
theorem Bd.mul {n d m e:Nat} {a b:Rat} (ha:Bd n d a) (hb:Bd m e b):Bd (n + m) (d + e) (a * b):=by
 rw [<- aqjm];exact Bd.mk (Nat.mul_ne_zero a.den_nz b.den_nz) (ha.num.mul hb.num) (aqg5 ha.2 hb.2)
def ev {α:Type}:List α->List α
 | []=>[]
 | [x]=>[x]
 | x :: _ :: l=>x :: ev l
def od {α:Type}:List α->List α
 | []=>[]
 | [_]=>[]
 | _ :: y :: l=>y :: od l
theorem aV1 (n:Nat):Ax (n + 1)=0 :: (Ax n).map (· + 1):=by
 rw [List.range_succ_eq_map]
theorem aqa3 {α:Type}:∀ (l:List α),(Ax l.length).filterMap (l[·]?)=l
 | []=>rfl
 | x :: l=>by
  rw [length_cons,aV1];simp only [filterMap_cons,List.getElem?_cons_zero,List.filterMap_map,Function.comp_def,List.getElem?_cons_succ];rw [aqa3 l]
theorem aW1 {α:Type} (l:List α):aqhn l none none (some (-1))=l.reverse:=by
 unfold aqhn;have e:rngP (bndP none none (some (-1)) l.length).1 (bndP none none (some (-1)) l.length).2.1 (bndP none none (some (-1)) l.length).2.2=(Ax l.length).map fun k=>l.length - 1 - k:=by
  have h1:¬ ((-1:Int) > 0):=by decide
  have hc:(if ((l.length:Int) - 1) > -1 then ((l.length:Int) - 1 - -1 - -1 - 1) / (- -1) else 0).toNat=l.length:=by
   split
   ·simp
   ·omega
  simp only [bndP,rngP,Option.getD_some,h1,if_false,hc];apply map_congr_left;intro k hk
  have:=Bt.mp hk
  omega
 rw [e];have e1:((Ax l.length).map fun k=>l.length - 1 - k)=(Ax l.length).reverse:=by
  apply ext_getElem
  ·simp
  ·intro i h1 h2
   simp
 rw [e1,List.filterMap_reverse,aqa3]
abbrev aqs6:=Int × List Int
def ax4 (l:List Int):D:=.lst (l.map .int)
def aKp (p:aqs6):D:=.tup [.int p.1,ax4 p.2]
def awe (h:List aqs6):D:=.lst (h.map aKp)
@[simp] theorem aqlx (l:List Int):imm (ax4 l)=false:=by simp [ax4]
@[simp] theorem aqlo {n:Nat} (l:List Int):shp (n + 1) (ax4 l)=true:=by simp [ax4]
@[simp] theorem aqln {n:Nat} (p:aqs6):shp (n + 2) (aKp p)=true:=by simp [aKp]
@[simp] theorem aqlp {n:Nat} (h:List aqs6):shp (n + 3) (awe h)=true:=by
 simp only [awe,aqid];exact aqet.mpr fun d m=>by obtain ⟨p,_,rfl⟩:=Bf.mp m; simp
@[simp] theorem aqlw (p:aqs6):imm (aKp p)=false:=by simp [aKp]
@[simp] theorem aqly (h:List aqs6):imm (awe h)=false:=by simp [awe]
theorem aQk (a b:List Int):eqD (ax4 a) (ax4 b)=decide (a=b):=by simp [ax4,eqD,aqcm]
@[simp] theorem aqcu (a b:List Int):dEq (ax4 a) (ax4 b)=some (.bl (decide (a=b))):=by simp [dEq,aQk]
@[simp] theorem aqlz (a b:List Int):dNe (ax4 a) (ax4 b)=some (.bl (!decide (a=b))):=by simp [dNe,aQk]
theorem aqcn (p q:aqs6):eqD (aKp p) (aKp q)=decide (p=q):=by
 obtain ⟨a,l⟩:=p;obtain ⟨b,m⟩:=q;rw [Bg];simp [aKp,eqD,aqrl,aQk]
theorem aqa5 {α:Type} [DecidableEq α] {inj:α->D} (h:∀ a b,eqD (inj a) (inj b)=decide (a=b)):∀ (xs ys:List α),aqrl (xs.map inj) (ys.map inj)=decide (xs=ys)
 | [],[]=>by simp [aqrl]
 | [],_ :: _=>by simp [aqrl]
 | _ :: _,[]=>by simp [aqrl]
 | x :: xs,y :: ys=>by rw [Bg]; simp [aqrl,h,aqa5 h xs ys]
theorem aVb (h k:List aqs6):eqD (awe h) (awe k)=decide (h=k):=by
 simp only [awe,eqD];exact aqa5 aqcn h k
@[simp] theorem aqm5 (a b:List aqs6):dEq (awe a) (awe b)=some (.bl (decide (a=b))):=by simp [dEq,aVb]
@[simp] theorem aqm0 (a b:List aqs6):dNe (awe a) (awe b)=some (.bl (!decide (a=b))):=by simp [dNe,aVb]
def has (l:List Int) (c:Int):Bool:=l.contains c
theorem aqk9 {l:List Int} {c:Int}:has l c=true ↔ c∈l:=by simp [has]
theorem akn (c:Int) (l:List Int):((l.map D.int).any fun y=>eqD y (.int c))=has l c:=by
 rw [Bg,aqk9];simp [any_eq_true,eqD]
@[simp] theorem aqnx (c:Int) (l:List Int):dIn (.int c) (ax4 l)=some (.bl (has l c)):=by
 have:=akn c l
 simp only [ax4,dIn,this]; simp
@[simp] theorem aqhw (c:Int) (l:List Int):avc (.int c) (ax4 l)=some (.bl (!has l c)):=by
 have:=akn c l
 simp only [ax4,avc,this]; simp
@[simp] theorem aqm4 (p:aqs6):dIx (aKp p) (.int 0)=some (.int p.1):=aqnw
@[simp] theorem aqm3 (p:aqs6):dIx (aKp p) (.int 1)=some (ax4 p.2):=aqnv
@[simp] theorem aqjp (l:List Int):aqdw (ax4 l)=some (l.map .int):=rfl
@[simp] theorem aqjq (h:List aqs6):aqdw (awe h)=some (h.map aKp):=rfl
@[simp] theorem aqm1 (l:List Int):aqrn [ax4 l]=some (.int l.length):=by simp [ax4]
@[simp] theorem aqm2 (h:List aqs6):aqrn [awe h]=some (.int h.length):=by simp [awe]
@[simp] theorem aqls (l:List Int):aqrd "list" (ax4 l)=some (.bl true):=rfl
@[simp] theorem aqlt (l:List aqs6):aqrd "list" (awe l)=some (.bl true):=rfl
@[simp] theorem aqlr (l:aqs6):aqrd "tuple" (aKp l)=some (.bl true):=rfl
@[simp] theorem aqnc (l:List Int):isT (ax4 l) "list"=true:=rfl
@[simp] theorem aqk0 (l:List Int):aqc8 [ax4 l]=some (l.map .int):=rfl
end MB
namespace MT
open MB DL
theorem lex_irr:∀ s,aqra s s=false:=by
 intro s
 induction s with
 | nil=>rfl
 | cons a s ih=>simp [aqra,ih]
theorem lex_tr:∀ {s t u},aqra s t=true->aqra t u=true->aqra s u=true:=by
 intro s
 induction s with
 | nil =>
  intro t u h1 h2;cases u with
  | nil=>cases t <;> simp [aqra] at h2
  | cons _ _=>rfl
 | cons a s ih =>
  intro t u h1 h2;cases t with
  | nil=>simp [aqra] at h1
  | cons b t =>
   cases u with
   | nil=>simp [aqra] at h2
   | cons c u =>
    simp only [aqra,Kc,C8,decide_eq_true_eq] at h1 h2 ⊢;rcases h1 with h1 | ⟨rfl,h1⟩ <;> rcases h2 with h2 | ⟨rfl,h2⟩
    ·left; omega
    ·left; exact h1
    ·left; exact h2
    ·right; exact ⟨rfl,ih h1 h2⟩
theorem lex_tot:∀ s t,aqra s t=false->s ≠ t->aqra t s=true:=by
 intro s
 induction s with
 | nil=>intro t h1 h2; cases t with
  | nil=>exact absurd rfl h2
  | cons _ _=>simp [aqra] at h1
 | cons a s ih =>
  intro t h1 h2;cases t with
  | nil=>rfl
  | cons b t =>
   simp only [aqra,Kc,C8,decide_eq_true_eq,Bool.or_eq_false_iff,Bool.and_eq_false_iff,decide_eq_false_iff_not] at h1 ⊢
   by_cases e:a=b
   ·subst e
    right
    refine ⟨rfl,ih t ?_ ?_⟩
    ·rcases h1.2 with h | h
     ·exact absurd rfl h
     ·exact h
    ·intro e; exact h2 (by rw [e])
   ·left; omega
theorem aqdv {m x:List Int} {ks:List (List Int)}:x∈aqre m ks ↔ x=m \/ x∈ks:=by
 induction ks with
 | nil=>simp [aqre]
 | cons k ks ih =>
  simp only [aqre];split
  ·rename_i e; subst e; simp
  ·split
   ·simp
   ·simp only [mem_cons,ih]
    constructor
    ·rintro (h | h | h) <;> simp [h]
    ·rintro (h | h | h) <;> simp [h]
theorem mem_keys {x:List Int} {l:List (List Int)}:x∈ajl l ↔ x∈l:=by
 induction l with
 | nil=>simp [ajl]
 | cons a l ih=>simp only [ajl,List.foldr_cons,aqdv,mem_cons] at ih ⊢; rw [ih]
theorem aqdz (m:List Int):∀ ks:List (List Int),(aqre m ks).length <= ks.length + 1
 | []=>by simp [aqre]
 | k :: ks=>by
  unfold aqre
  have:=aqdz m ks
  split
  ·simp
  ·split
   ·simp
   ·simp; omega
theorem keys_len (l:List (List Int)):(ajl l).length <= l.length:=by
 induction l with
 | nil=>simp [ajl]
 | cons a l ih =>
  have:=aqdz a (ajl l)
  have e:ajl (a :: l)=aqre a (ajl l):=rfl;rw [e]
  simp; omega
def Ris (ks:List (List Int)):Prop:=ks.Pairwise fun a b=>aqra a b=true
theorem aqk7 {m:List Int} {ks:List (List Int)} (h:Ris ks):Ris (aqre m ks):=by
 induction ks with
 | nil=>simp [aqre,Ris]
 | cons k ks ih =>
  simp only [Ris,pairwise_cons] at h ih;simp only [aqre];split
  ·simpa [Ris] using h
  ·rename_i e
   split
   ·rename_i e2
    simp only [Ris,pairwise_cons,mem_cons];refine ⟨?_,h⟩;rintro x (rfl | hx)
    ·exact e2
    ·exact lex_tr e2 (h.1 x hx)
   ·rename_i e2
    simp only [Ris,pairwise_cons];refine ⟨?_,ih h.2⟩;intro x hx;rcases aqdv.mp hx with rfl | hx
    ·exact lex_tot _ _ (by simpa using e2) e
    ·exact h.1 x hx
theorem keys_ris (l:List (List Int)):Ris (ajl l):=by
 induction l with
 | nil=>simp [ajl,Ris]
 | cons a l ih=>exact aqk7 ih
theorem ris_eq:∀ {a b:List (List Int)},Ris a->Ris b->(∀ x,x∈a ↔ x∈b)->a=b:=by
 intro a
 induction a with
 | nil =>
  intro b _ _ h;cases b with
  | nil=>rfl
  | cons x _=>exact absurd ((h x).mpr (by simp)) (by simp)
 | cons x a ih =>
  intro b ha hb h;cases b with
  | nil=>exact absurd ((h x).mp (by simp)) (by simp)
  | cons y b =>
   simp only [Ris,pairwise_cons] at ha hb;have exy:x=y:=by
    rcases Ao.mp ((h x).mp (by simp)) with e | hx
    ·exact e
    ·rcases Ao.mp ((h y).mpr (by simp)) with e | hy
     ·exact e.symm
     ·have:=lex_tr (hb.1 x hx) (ha.1 y hy)
      rw [lex_irr] at this; exact absurd this (by simp)
   subst exy;congr 1;refine ih ha.2 hb.2 fun z=>?_;have nx:∀ {c:List (List Int)},(∀ w∈c,aqra x w=true)->x ∉ c:=fun hc hm=>by
    have:=hc x hm; rw [lex_irr] at this; exact absurd this (by simp)
   constructor
   ·intro hz
    rcases Ao.mp ((h z).mp (by simp [hz])) with e | hz'
    ·subst e; exact absurd hz (nx ha.1)
    ·exact hz'
   ·intro hz
    rcases Ao.mp ((h z).mpr (by simp [hz])) with e | hz'
    ·subst e; exact absurd hz (nx hb.1)
    ·exact hz'
theorem wt_none {h:List aqs6} {m:List Int} (n:m ∉ h.map fun p=>p.2):wtK h m=0:=by
 have:(h.filter fun p=>decide (p.2=m))=[]:=by
  rw [List.filter_eq_nil_iff];intro p hp;simp only [decide_eq_true_eq];intro e;exact n (by rw [<- e]; exact List.mem_map_of_mem hp)
 simp [wtK,this]
theorem wt_append (h k:List aqs6) (m:List Int):wtK (h++k) m=wtK h m + wtK k m:=by simp [wtK]
end MT
namespace L2
open PySem PySem.Spec PyProof.Rows
section
variable {κ:Type} [DecidableEq κ]
def aqqs (kvs:List (κ × V)) (k:κ):Option V:=(kvs.find? fun kv=>decide (kv.1=k)).map (·.2)
def aqr3 (kvs:List (κ × V)) (k:κ) (v:V):List (κ × V) :=
 if (kvs.any fun kv=>decide (kv.1=k))=true then kvs.map (fun kv=>if kv.1=k then (kv.1,v) else kv) else kvs++[(k,v)]
def aqcp (kvs:List (κ × V)) (k:κ):List (κ × V):=kvs.filter fun kv=>decide (kv.1 ≠ k)
theorem aqj {p:κ × V} {r:List (κ × V)} {k:κ} (e:p.1=k):aqqs (p :: r) k=some p.2:=by simp [aqqs,find?_cons,e]
theorem aqk {p:κ × V} {r:List (κ × V)} {k:κ} (e:¬ p.1=k):aqqs (p :: r) k=aqqs r k:=by simp [aqqs,find?_cons,e]
theorem aj5 (k:κ):∀ kvs:List (κ × V),(kvs.any fun kv=>decide (kv.1=k))=(aqqs kvs k).isSome
 | []=>rfl
 | p :: r=>by
  rw [any_cons]
  by_cases e:p.1=k
  ·simp only [aqj e,decide_eq_true e,Bool.true_or,Option.isSome_some]
  ·rw [aqk e,decide_eq_false e,Bool.false_or]; exact aj5 k r
theorem aKt (k j:κ) (y:V):∀ kvs:List (κ × V),aqqs (kvs.map fun kv=>if kv.1=k then (kv.1,y) else kv) j=(aqqs kvs j).map fun x=>if j=k then y else x
 | []=>rfl
 | p :: r=>by
  have ih:=aKt k j y r;rw [map_cons]
  by_cases h:p.1=k
  ·rw [if_pos h]
   by_cases e:p.1=j
   ·rw [aqj (p:=(p.1,y)) e,aqj e,Option.map_some,if_pos (e.symm.trans h)]
   ·rw [aqk (p:=(p.1,y)) e,aqk e,ih]
  ·rw [if_neg h]
   by_cases e:p.1=j
   ·rw [aqj (p:=p) e,aqj e,Option.map_some,if_neg (fun z=>h (e.trans z))]
   ·rw [aqk (p:=p) e,aqk e,ih]
theorem aZh (k j:κ) (y:V):∀ kvs:List (κ × V),aqqs kvs k=none->aqqs (kvs++[(k,y)]) j=if j=k then some y else aqqs kvs j
 | [],_=>by
  by_cases e:k=j
  ·rw [if_pos e.symm]; exact aqj (p:=(k,y)) e
  ·rw [if_neg (fun z=>e z.symm)]; exact aqk (p:=(k,y)) e
 | p :: r,hn=>by
  rw [List.cons_append];have hk:¬ p.1=k:=fun z=>by rw [aqj z] at hn; cases hn
  rw [aqk hk] at hn;have ih:=aZh k j y r hn
  by_cases e:p.1=j
  ·rw [aqj e,aqj e,if_neg (fun z=>hk (e.trans z))]
  ·rw [aqk e,aqk e,ih]
theorem aqek (kvs:List (κ × V)) (k j:κ) (y:V):aqqs (aqr3 kvs k y) j=if j=k then some y else aqqs kvs j:=by
 unfold aqr3
 by_cases a:(kvs.any fun kv=>decide (kv.1=k))=true
 ·rw [if_pos a,aKt]
  rw [aj5] at a
  by_cases e:j=k
  ·obtain ⟨x,hx⟩:=Je.mp a
   rw [if_pos e,e,hx,Option.map_some,if_pos rfl]
  ·rw [if_neg e]
   cases aqqs kvs j with
   | none=>rfl
   | some x=>rw [Option.map_some,if_neg e]
 ·rw [if_neg a]
  refine aZh k j y kvs ?_;rw [aj5] at a;cases q:aqqs kvs k with
  | none=>rfl
  | some x=>rw [q] at a; exact (a rfl).elim
theorem azu (kvs:List (κ × V)) (k:κ) (v:V):(aqr3 kvs k v).length <= kvs.length + 1:=by
 unfold aqr3;split
 ·rw [length_map]; omega
 ·rw [length_append,length_cons,List.length_nil]; omega
theorem aqs4.isSome_eq {o:Option V} {u:Option Value} (r:aqs4 o u):o.isSome=u.isSome:=by
 cases o with
 | none=>cases u with
  | none=>rfl
  | some _=>exact (show False from r).elim
 | some _=>cases u with
  | none=>exact (show False from r).elim
  | some _=>rfl
theorem aqs4.getD {o:Option V} {u:Option Value} {d:V} {d':Value} (r:aqs4 o u) (rd:aqs3 d d'):aqs3 (o.getD d) (u.getD d'):=by
 cases o with
 | none=>cases u with
  | none=>exact rd
  | some _=>exact (show False from r).elim
 | some _=>cases u with
  | none=>exact (show False from r).elim
  | some _=>exact r
theorem KV.val {kvs:List (κ × V)} {vs:List (κ × Value)} (r:KV kvs vs) (k:κ):aqs4 (aqqs kvs k) (Ll vs k):=by
 unfold KV at r
 induction r with
 | nil=>exact True.intro
 | @cons p q ps qs h t ih =>
  obtain ⟨h1,h2⟩:=h
  by_cases e:p.1=k
  ·have e':q.1=k:=h1.symm.trans e
   have b:Ll (q :: qs) k=some q.2:=by simp [Ll,find?_cons,e']
   rw [aqj e,b]; exact h2
  ·have e':¬ q.1=k:=fun z=>e (h1.trans z)
   have b:Ll (q :: qs) k=Ll qs k:=by simp [Ll,find?_cons,e']
   rw [aqk e,b]; exact ih
theorem KV.any {kvs:List (κ × V)} {vs:List (κ × Value)} (r:KV kvs vs) (k:κ):(kvs.any fun kv=>decide (kv.1=k))=vs.any fun kv=>decide (kv.1=k):=by
 unfold KV at r
 induction r with
 | nil=>rfl
 | cons h t ih=>rw [any_cons,any_cons,ih,h.1]
theorem KV.repl {kvs:List (κ × V)} {vs:List (κ × Value)} (r:KV kvs vs) (k:κ) {y:V} {u:Value} (ry:aqs3 y u) :
  KV (kvs.map fun kv=>if kv.1=k then (kv.1,y) else kv) (vs.map fun kv=>if kv.1=k then (kv.1,u) else kv):=by
 unfold KV at r ⊢
 induction r with
 | nil=>exact .nil
 | @cons p q ps qs h t ih =>
  rw [map_cons,map_cons];refine .cons ?_ ih;obtain ⟨h1,h2⟩:=h
  by_cases e:p.1=k
  ·rw [if_pos e,if_pos (h1.symm.trans e)]; exact ⟨h1,ry⟩
  ·rw [if_neg e,if_neg (fun z=>e (h1.trans z))]; exact ⟨h1,h2⟩
theorem KV.put {kvs:List (κ × V)} {vs:List (κ × Value)} (r:KV kvs vs) (k:κ) {y:V} {u:Value} (ry:aqs3 y u):KV (aqr3 kvs k y) (stored vs k u):=by
 unfold aqr3 stored;rw [r.any k]
 by_cases e:(vs.any fun kv=>decide (kv.1=k))=true
 ·rw [if_pos e,if_pos e]; exact r.repl k ry
 ·rw [if_neg e,if_neg e]; exact Paired.snoc r ⟨rfl,ry⟩
theorem KV.drop {kvs:List (κ × V)} {vs:List (κ × Value)} (r:KV kvs vs) (k:κ):KV (aqcp kvs k) (without vs k):=by
 unfold KV at r ⊢;unfold aqcp without
 induction r with
 | nil=>exact .nil
 | @cons p q ps qs h t ih =>
  obtain ⟨h1,h2⟩:=h;rw [List.filter_cons,List.filter_cons]
  by_cases e:p.1=k
  ·have a:¬ decide (p.1 ≠ k)=true:=by simp [e]
   have b:¬ decide (q.1 ≠ k)=true:=by simp [h1.symm.trans e]
   rw [if_neg a,if_neg b]; exact ih
  ·have e':¬ q.1=k:=fun z=>e (h1.trans z)
   have a:decide (p.1 ≠ k)=true:=by simp [e]
   have b:decide (q.1 ≠ k)=true:=by simp [e']
   rw [if_pos a,if_pos b]; exact .cons ⟨h1,h2⟩ ih
theorem KV.length {kvs:List (κ × V)} {vs:List (κ × Value)} (r:KV kvs vs):kvs.length=vs.length:=Paired.length r
theorem aqh5 (kvs:List (κ × V)) (k:κ):(aqcp kvs k).length <= kvs.length:=length_filter_le _ _
end
theorem aqk3 {P:Aj} {w:World} {k:Key} {u:Value} (r:aqs3 (kV k) u):(aqh P w).is k u=true:=by
 cases k with
 | inl i=>obtain ⟨t,e⟩:=(show ∃ t,u=Value.int i t from r); subst e; exact aV8 P w i t
 | inr x=>obtain ⟨t,e⟩:=(show ∃ t,u=Value.str x t from r); subst e; exact aV7 P w x t
theorem aZ7 {P:Aj} {w:World}:∀ {ks:List Key} {us:List Value},aqs0 (ks.map kV) us->ItemsAre (aqh P w) ks us
 | [],_,r=>by rw [map_nil] at r; cases r; exact .nil
 | k :: ks,_,r=>by
  rw [map_cons] at r;cases r with
  | cons h t=>exact .cons (aqk3 h) (aZ7 t)
abbrev KT (H:Hp):List (List Key × V)->List (List Key × Addr × Value)->Prop:=Paired fun p q=>p.1=q.1/\H q.2.1=some (.tup (p.1.map kV))/\aqs3 p.2 q.2.2
theorem KT.val {H:Hp} {kvs:List (List Key × V)} {xs:List (List Key × Addr × Value)} (r:KT H kvs xs) (k:List Key):aqs4 (aqqs kvs k) ((atKey xs k).map (·.2)):=by
 induction r with
 | nil=>exact True.intro
 | @cons p q ps qs h t ih =>
  obtain ⟨h1,_,h2⟩:=h
  by_cases e:p.1=k
  ·have e':q.1=k:=h1.symm.trans e
   have b:atKey (q :: qs) k=some q.2:=by simp [atKey,find?_cons,e']
   rw [aqj e,b]; exact h2
  ·have e':¬ q.1=k:=fun z=>e (h1.trans z)
   have b:atKey (q :: qs) k=atKey qs k:=by simp [atKey,find?_cons,e']
   rw [aqk e,b]; exact ih
theorem KT.repl {H:Hp} {kvs:List (List Key × V)} {xs:List (List Key × Addr × Value)} (r:KT H kvs xs) (k:List Key) {y:V} {u:Value} (ry:aqs3 y u) :
  KT H (kvs.map fun kv=>if kv.1=k then (kv.1,y) else kv) (xs.map (putAt k u)):=by
 induction r with
 | nil=>exact .nil
 | @cons p q ps qs h t ih =>
  rw [map_cons,map_cons];refine .cons ?_ ih;obtain ⟨h1,h2,h3⟩:=h;unfold putAt
  by_cases e:p.1=k
  ·rw [if_pos e,if_pos (h1.symm.trans e)]; exact ⟨h1,h2,ry⟩
  ·rw [if_neg e,if_neg (fun z=>e (h1.trans z))]; exact ⟨h1,h2,h3⟩
theorem KT.put {H:Hp} {kvs:List (List Key × V)} {xs:List (List Key × Addr × Value)} (r:KT H kvs xs) (k:List Key) {b:Addr} {y:V} {u:Value} (hb:H b=some (.tup (k.map kV))) (ry:aqs3 y u) :
  KT H (aqr3 kvs k y) (storedH xs k b u):=by
 have e:(kvs.any fun kv=>decide (kv.1=k))=(atKey xs k).isSome:=by
  rw [aj5,(r.val k).isSome_eq,Option.isSome_map]
 unfold aqr3 storedH;rw [e]
 by_cases q:(atKey xs k).isSome=true
 ·rw [if_pos q,if_pos q]; exact r.repl k ry
 ·rw [if_neg q,if_neg q]; exact Paired.snoc r ⟨rfl,hb,ry⟩
theorem KT.keeps {H H':Hp} {kvs:List (List Key × V)} {xs:List (List Key × Addr × Value)} (r:KT H kvs xs) (ht:∀ b ys,H b=some (.tup ys)->H' b=some (.tup ys)):KT H' kvs xs :=
 Paired.mapP r fun _ _ z=>⟨z.1,ht _ _ z.2.1,z.2.2⟩
section
variable {P:Aj} {w:World} {H:Hp} {h:Heap} {a:Addr}
theorem rd_of {u:HO} (ok:HOk P w H h) (e:Rd H a u):axu P w H h a u:=e.ok ok
theorem aqhv {kvs:List (Key × V)} (ok:HOk P w H h) (e:Rd H a (.dK kvs)):kvs.length <= Ag/\(a == By)=false/\∃ vs,KV kvs vs/\h.DictOf (aqh P w) a vs :=
 show axu P w H h a (.dK kvs) from rd_of ok e
theorem dk_of {kvs:List (Key × V)} (ok:HOk P w H h) (e:H a=some (.dK kvs)):kvs.length <= Ag/\(a == By)=false/\∃ vs,KV kvs vs/\h.DictOf (aqh P w) a vs:=aqhv ok (.inl e)
theorem aKa {ks:List Key} (ok:HOk P w H h) (e:H a=some (.tup (ks.map kV))):(Fu (aqh P w)).is h ks a:=by
 obtain ⟨_,its,r,o,h1,h2,n,h3⟩:=(show axu P w H h a (.tup (ks.map kV)) from ok a _ e);exact ⟨o,its.toArray,n,h1,h2,h3,by simpa using aZ7 r⟩
theorem aqhu {kvs:List (List Key × V)} (ok:HOk P w H h) (e:Rd H a (.dT kvs)):kvs.length <= Ag/\(a == By)=false /\
  ∃ xs,KT H kvs xs/\h.DictOfH (Fu (aqh P w)) a xs:=by
 obtain ⟨z,y,xs,r,o,es,ep,h1,h2,h3,h4,h5⟩:=(show axu P w H h a (.dT kvs) from rd_of ok e);refine ⟨z,y,xs,r,o,es,ep,h1,h2,h3,h4,fun x hx=>?_,h5⟩;have all:∀ {l:List (List Key × V)} {m:List (List Key × Addr × Value)},KT H l m->∀ x∈m,(Fu (aqh P w)).is h x.1 x.2.1:=by
  intro l m q
  induction q with
  | nil=>intro x hx; exact nomatch hx
  | @cons p q ps qs hq t ih =>
   intro x hx;rcases Ao.mp hx with e | hx
   ·subst e
    exact aKa ok (by rw [<- hq.1]; exact hq.2.1)
   ·exact ih x hx
 exact all r x hx
theorem dt_of {kvs:List (List Key × V)} (ok:HOk P w H h) (e:H a=some (.dT kvs)):kvs.length <= Ag/\(a == By)=false /\
  ∃ xs,KT H kvs xs/\h.DictOfH (Fu (aqh P w)) a xs:=aqhu ok (.inl e)
end
def aqsc (H:Hp) (a:Addr) (y:V) (r:Option V):Prop :=
 (∃ kvs k,Rd H a (.dK kvs)/\y=kV k/\r=aqqs kvs k) \/ ∃ kvs k b,Rd H a (.dT kvs)/\y=.ref b/\H b=some (.tup (k.map kV))/\r=aqqs kvs k
def DPut (H:Hp) (a:Addr) (y v:V) (H':Hp):Prop :=
 (∃ kvs k,H a=some (.dK kvs)/\y=kV k/\kvs.length < Ag/\H'=upd H a (.dK (aqr3 kvs k v))) \/
 ∃ kvs k b,H a=some (.dT kvs)/\y=.ref b/\H b=some (.tup (k.map kV))/\kvs.length < Ag/\H'=upd H a (.dT (aqr3 kvs k v))
theorem aqsc.t {H:Hp} {a b:Addr} {kvs:List (List Key × V)} {k:List Key} (e:H a=some (.dT kvs)) (eb:H b=some (.tup (k.map kV))):aqsc H a (.ref b) (aqqs kvs k):=.inr ⟨kvs,k,b,.inl e,rfl,eb,rfl⟩
theorem DPut.t {H:Hp} {a b:Addr} {kvs:List (List Key × V)} {k:List Key} {v:V} (e:H a=some (.dT kvs)) (eb:H b=some (.tup (k.map kV))) (hl:kvs.length < Ag) :
  DPut H a (.ref b) v (upd H a (.dT (aqr3 kvs k v))):=.inr ⟨kvs,k,b,e,rfl,eb,hl,rfl⟩
section
variable {X:Cx} {pins:List (Addr × Obj)} {σ:St} {H:Hp} {s:Shared} {a:Addr} {y v:V} {u r:Value} {o:Option V} {A:Around} {E:Value->Shared->Prop}
theorem Inv.big (I:Inv X pins σ H s):By < s.heap.objs.size:=by
 have h:Am < s.heap.objs.size:=(I.mod.glob.keeps I.bk).lt;exact lt_trans (by decide) h
theorem aqcs {Q:Value->Shared->Prop} (hu:A.units + 1 < cLine) (I:Inv X pins σ H s) (g:aqsc H a y (some v)) (ry:aqs3 y u) (h:∀ w' s',Inv X pins σ H s'->aqs3 v w'->Q w' s') :
  wpAny (model X.prog X.w) A (My (.ref a) u) Q E s:=by
 rcases g with ⟨kvs,k,e,ey,l⟩ | ⟨kvs,k,b,e,ey,eb,l⟩
 ·subst ey
  obtain ⟨z,hd,vs,rel,dd⟩:=aqhv I.hok e;obtain ⟨w',hw,rw'⟩:=aqs4.some_of (v:=v) (o:=Ll vs k) (by rw [l]; exact rel.val k);exact wpAny_getItem_of (aqk3 ry) dd.mapOf hw (h w' _ (I.tok _) rw')
 ·subst ey
  cases (show u=Value.ref b from ry);obtain ⟨z,hd,xs,rel,dd⟩:=aqhu I.hok e;obtain ⟨w',hw,rw'⟩:=aqs4.some_of (v:=v) (o:=(atKey xs k).map (·.2)) (by rw [l]; exact rel.val k);obtain ⟨p,hp,hp2⟩:=Jy.mp hw;refine wpAny_getItem_heap (Df hu) (aKa I.hok eb) dd hp ?_;rw [hp2];exact h w' _ (I.tok _) rw'
theorem aqky {Q:Value->Shared->Prop} (hu:A.units + 1 < cLine) (I:Inv X pins σ H s) (g:aqsc H a y o) (ry:aqs3 y u) (h:∀ s',Inv X pins σ H s'->Q (.bool (!o.isSome)) s') :
  wpAny (model X.prog X.w) A (Bn .NotIn u (.ref a)) Q E s:=by
 rcases g with ⟨kvs,k,e,ey,l⟩ | ⟨kvs,k,b,e,ey,eb,l⟩
 ·subst ey
  obtain ⟨z,hd,vs,rel,dd⟩:=aqhv I.hok e;refine wpAny_notIn_of (aqk3 ry) hd dd.mapOf ?_;rw [<- (rel.val k).isSome_eq,<- l];exact h _ (I.tok _)
 ·subst ey
  cases (show u=Value.ref b from ry);obtain ⟨z,hd,xs,rel,dd⟩:=aqhu I.hok e;refine wpAny_notIn_heap (Df hu) (aKa I.hok eb) hd dd ?_;have q:=(rel.val k).isSome_eq;rw [Option.isSome_map] at q;rw [<- q,<- l];exact h _ (I.tok _)
theorem aqad {h':Heap} {t':Nat} {ob:HO} (I:Inv X pins σ H s) (mu:Mut (H a)) (hs:Heap.SameBut a s.heap h') (he:∃ q,h'.get? a=some q) (new:axu X.prog X.w (upd H a ob) h' a ob) :
  Inv X pins σ (upd H a ob) { s with heap:=h',toks:=t' } :=
 I.write (x:=a) (e:=a) mu (.inl rfl) (fun b q hb z=>(hs.2 b hb).trans z) he new
theorem aqnr {P:Aj} {w:World} {H':Hp} {h':Heap} {kvs:List (Key × V)} {vs:List (Key × Value)} (z:kvs.length <= Ag) (hd:(a == By)=false) (rel:KV kvs vs) (dd:h'.DictOf (aqh P w) a vs) :
  axu P w H' h' a (.dK kvs):=⟨z,hd,vs,rel,dd⟩
theorem aqcr {H':Hp} {Q:Unit->Shared->Prop} (hu:A.units + 1 < cLine) (I:Inv X pins σ H s) (g:DPut H a y v H') (ry:aqs3 y u) (rv:aqs3 v r) (h:∀ s',Inv X pins σ H' s'->Q () s') :
  wpAny (model X.prog X.w) A (setItem (.ref a) u r) Q E s:=by
 rcases g with ⟨kvs,k,e,ey,l,eH⟩ | ⟨kvs,k,b,e,ey,eb,l,eH⟩
 ·subst ey eH
  obtain ⟨z,hd,vs,rel,dd⟩:=dk_of I.hok e;have hz:vs.length <= Ag:=by rw [<- rel.length]; exact z
  have hl:(aqr3 kvs k v).length <= Ag:=by have:=azu kvs k v; omega
  refine wpAny_setItem_pairs (hsz:=hz) (aqk3 ry) dd fun h' dd' hs=>h _ ?_;have he:∃ q,h'.get? a=some q:=let ⟨q,_,_,hq,_⟩:=dd'; ⟨q,hq⟩;exact aqad I (by rw [e]; exact True.intro) hs he (aqnr hl hd (rel.put k rv) dd')
 ·subst ey eH
  cases (show u=Value.ref b from ry);obtain ⟨z,hd,xs,rel,dd⟩:=dt_of I.hok e;have hz:xs.length <= Ag:=by rw [<- Paired.length rel]; exact z
  have hl:(aqr3 kvs k v).length <= Ag:=by have:=azu kvs k v; omega
  refine wpAny_setItem_heap (hsz:=hz) (Df hu) (aKa I.hok eb) dd fun h' dd' hs=>h _ ?_;obtain ⟨q,es,ep,hq,h2,h3,h4,_,h5⟩:=dd';refine aqad I (by rw [e]; exact True.intro) hs ⟨q,hq⟩ ⟨hl,hd,_,(rel.put k eb rv).keeps fun c ys ec=>?_,q,es,ep,hq,h2,h3,h4,h5⟩;rw [ah (az1 ec e (fun z=>nomatch z))];exact ec
end
section
variable {X:Cx} {pins:List (Addr × Obj)} {σ:St} {H:Hp} {s:Shared} {a:Addr} {kvs:List (Key × V)} {k:Key} {u:Value} {A:Around} {E:Value->Shared->Prop}
end
def NoSl (i:Expr):Prop:=∀ ov iv,Ko i false ov iv=operate [ov,iv] (My ov iv)
theorem aqib {prog:Aj} {w:World} {A:Around} {E:Value->Shared->Prop} {s:Shared} {env:Env} {value slice:Expr} {pos:Pos} {T id:String} {Q:Value->Shared->Prop}
  (hl:Ma (.type T) "__getitem__"=pure (some (.builtin id))) (hs:NoSl slice)
  (h:wpAny (model prog w) A (eval value env) (fun o s₁=>wpAny (model prog w) A (eval slice env) (fun i s₂=>s₂.TypeIs o T/\wpAny (model prog w) A (My o i) Q E s₂) E s₁) E s) :
  wpAny (model prog w) A (eval (.Subscript value slice pos) env) Q E s:=by
 refine Mb (A9 h (fun o s₁ h₁=>A9 h₁ (fun i s₂ h₂=>?_) fun _ _ x=>x) fun _ _ x=>x);obtain ⟨hT,h₂⟩:=h₂;unfold Jg;refine Ac ?_;rw [getitemInPython_of_ne hT.not_modules];refine Ac (He hT hl ?_);have fin:wpAny (model prog w) A (Ko slice false o i) (fun r s₃=>wpAny (model prog w) A (letTemporaryGo value o r >>= fun _=>pure r) Q E s₃) E s₂:=by
  rw [hs o i];exact wpAny_operating (A9 h₂ (fun r s₃ h₃=>Ac (wpAny_letTemporaryGo (Ad h₃))) fun _ _ x=>x)
 first
  | exact Ad (Ac fin)
  | exact Ac (Ad (Ac fin))
  | exact Ac fin
theorem aKe {X:Cx} {pins:List (Addr × Obj)} {σ:St} {H:Hp} {s:Shared} {a:Addr} {y:V} {o:Option V} (I:Inv X pins σ H s) (g:aqsc H a y o):s.TypeIs (.ref a) "dict":=by
 rcases g with ⟨kvs,k,e,_,_⟩ | ⟨kvs,k,b,e,_,_,_⟩
 ·obtain ⟨_,_,vs,_,dd⟩:=aqhv I.hok e
  exact dd.typeIs
 ·obtain ⟨_,_,xs,_,dd⟩:=aqhu I.hok e
  exact dd.typeIs
def tDGet (td ty:TE):TE:=fun σ H Q=>td σ H fun x H1=>ty σ H1 fun y H2=>∃ a v,x=.ref a/\aqsc H2 a y (some v)/\Q v H2
def tDNotIn (ty td:TE):TE:=fun σ H Q=>ty σ H fun y H1=>td σ H1 fun x H2=>∃ a o,x=.ref a/\aqsc H2 a y o/\Q (.bl (!o.isSome)) H2
def sDPut (td ty tv:TE):TS:=fun D σ H=>tv σ H fun v H1=>td σ H1 fun x H2=>ty σ H2 fun y H3=>∃ a H4,x=.ref a/\DPut H3 a y v H4/\D.nx σ H4
section
variable {X:Cx} {o i e value:Expr} {pos pos' tpos:Pos} {td ty tv:TE}
theorem aqiw (hu:X.A.units + 1 < cLine) (ho:PE X o td) (hi:PE X i ty) (hs:NoSl i):PE X (.Subscript o i pos) (tDGet td ty):=by
 intro pins s σ H Q I h;refine aqib PySem.F.slot_dict_getitem.lookup hs (thn (ho pins s σ H _ I h) fun u s1 ⟨x,H1,I1,rx,q1⟩=>thn (hi pins s1 σ H1 _ I1 q1) fun iv s2 hQ=>?_);obtain ⟨y,H2,I2,ry,a,v,ex,g,q2⟩:=hQ;subst ex;obtain rfl:u=Value.ref a:=rx;exact ⟨aKe I2 g,aqcs hu I2 g ry fun w' s3 I3 rw'=>⟨v,H2,I3,rw',q2⟩⟩
theorem aqbs (hu:X.A.units + 1 < cLine) (hi:PE X i ty) (ho:PE X o td):PC X .NotIn i o (tDNotIn ty td):=by
 intro pins s σ H Q I h;refine thn (hi pins s σ H _ I h) fun iv s1 ⟨y,H1,I1,ry,q1⟩=>thn (ho pins s1 σ H1 _ I1 q1) fun u s2 hQ=>?_;obtain ⟨x,H2,I2,rx,a,ov,ex,g,q2⟩:=hQ;subst ex;obtain rfl:u=Value.ref a:=rx;exact aqky hu I2 g ry fun s3 I3=>⟨.bl (!ov.isSome),H2,I3,rfl,q2⟩
theorem aqdh (hu:X.A.units + 1 < cLine) (ho:PE X o td) (hi:PE X i ty) (hv:PE X value tv) (hs:Hw value (some (.Subscript o i pos')) pos.line X.env=pure false) :
  PS X (.Assign [.Subscript o i pos'] value pos) (sDPut td ty tv):=by
 intro pins s σ H D I h;refine wpAny_Assign_Subscript (thn (hv pins s σ H _ I h) fun r s1 ⟨v,H1,I1,rv,q1⟩=>thn (ho pins s1 σ H1 _ I1 q1) fun u s2 ⟨x,H2,I2,rx,q2⟩=>thn (hi pins s2 σ H2 _ I2 q2) fun iv s3 hQ=>?_) hs;obtain ⟨y,H3,I3,ry,a,H4,ex,g,q3⟩:=hQ;subst ex;obtain rfl:u=Value.ref a:=rx;exact aqcr hu I3 g ry rv fun s4 I4=>⟨σ,H4,I4,q3⟩
end
theorem aqh1 {P:Aj} {w:World} {H:Hp} (h:Heap) (hb:By < h.objs.size):axu P w H (h.push { cls:=.type "dict",data:=.dict #[] }) h.objs.size (.dT []) :=
 ⟨zero_le _,beq_eq_false_iff_ne.mpr (Bw (ne_of_lt hb)),[],.nil,_,#[],0,Ah _ rfl,⟨rfl,rfl,rfl⟩,rfl,rfl,nodup_nil⟩
def tDNewT:TE:=fun _ H Q=>∀ p,H p=none->Q (.ref p) (upd H p (.dT []))
section
variable {X:Cx} {pos:Pos}
theorem aW5:PE X (.Dict [] [] pos) tDNewT:=fun pins s σ H Q I h =>
 wpAny_Dict_empty ⟨.ref s.heap.objs.size,_,I.laid (a:=s.heap.objs.size) (o:=.dT []) (t':=s.toks) (fun _ _ q=>Ae _ q) (le_refl _) (aqh1 s.heap I.big),rfl,h _ (I.hok.fresh (le_refl _))⟩
end
structure M1 (X:Cx) (o:Expr) (m:Str) (apos:Pos) (e:Expr) (cpos:Pos):Prop where
 base:Em o m X.env (eval o X.env)=eval o X.env
 few:((C2 cpos (Ap [e] X.env)).all (fun x=>!x.1) && (Mx cpos (Iv [] X.env)).all (fun x=>x.1.isSome)
  && decide (([e]:List Expr).length + ([]:List Lh).length + (if ([]:List Lh).isEmpty then 0 else 1) < 30))=true
 line:(apos.endLine == cpos.line)=true
 trees:C2 cpos (Ap [e] X.env)=[(false,eval e X.env)]
structure M2 (X:Cx) (o:Expr) (m:Str) (apos:Pos) (e f:Expr) (cpos:Pos):Prop where
 base:Em o m X.env (eval o X.env)=eval o X.env
 few:((C2 cpos (Ap [e,f] X.env)).all (fun x=>!x.1) && (Mx cpos (Iv [] X.env)).all (fun x=>x.1.isSome)
  && decide (([e,f]:List Expr).length + ([]:List Lh).length + (if ([]:List Lh).isEmpty then 0 else 1) < 30))=true
 line:(apos.endLine == cpos.line)=true
 trees:C2 cpos (Ap [e,f] X.env)=[(false,eval e X.env),(false,eval f X.env)]
def IsD (H:Hp) (a:Addr):Prop:=(∃ kvs,Rd H a (.dK kvs)) \/ ∃ kvs,Rd H a (.dT kvs)
theorem aqk6 {X:Cx} {pins:List (Addr × Obj)} {σ:St} {H:Hp} {s:Shared} {a:Addr} (I:Inv X pins σ H s) (d:IsD H a) :
  s.TypeIs (.ref a) "dict"/\(∀ b,Value.ref a=.ref b->∃ ob,s.heap.get? b=some ob/\ob.dict=none)/\(a == By)=false:=by
 rcases d with ⟨kvs,e⟩ | ⟨kvs,e⟩
 ·obtain ⟨_,hd,vs,_,dd⟩:=aqhv I.hok e
  refine ⟨dd.typeIs,fun b q=>?_,hd⟩;cases q;obtain ⟨ob,_,_,h1,h2,_⟩:=dd;exact ⟨ob,h1,h2.2.1⟩
 ·obtain ⟨_,hd,xs,_,dd⟩:=aqhu I.hok e
  refine ⟨dd.typeIs,fun b q=>?_,hd⟩;cases q;obtain ⟨ob,_,_,h1,h2,_⟩:=dd;exact ⟨ob,h1,h2.2.1⟩
section
variable {X:Cx} {pins:List (Addr × Obj)} {σ:St} {H:Hp} {s:Shared} {a:Addr} {y d:V} {u r:Value} {o:Option V} {A:Around} {E:Value->Shared->Prop}
theorem aqnt {Q:Value->Shared->Prop} (hu:A.units + 1 < cLine) (I:Inv X pins σ H s) (g:aqsc H a y o) (ry:aqs3 y u) (rd:aqs3 d r) (h:∀ w' s',Inv X pins σ H s'->aqs3 (o.getD d) w'->Q w' s') :
  wpAny (model X.prog X.w) A (call (.builtin "dict.get") [.ref a,u,r]) Q E s:=by
 rcases g with ⟨kvs,k,e,ey,l⟩ | ⟨kvs,k,b,e,ey,eb,l⟩
 ·subst ey
  obtain ⟨z,hd,vs,rel,dd⟩:=aqhv I.hok e;refine call_meetsIn Gm dd.typeIs J4 (Js _ _ _) (meets_dict_get_default (aqh X.prog X.w) a (aqk3 ry) hd r) ⟨_,dd.mapOf,h _ _ (I.tok _) ?_⟩;rw [l];exact (rel.val k).getD rd
 ·subst ey
  cases (show u=Value.ref b from ry);obtain ⟨z,hd,xs,rel,dd⟩:=aqhu I.hok e;refine call_meetsIn Gm dd.typeIs J4 (Js _ _ _) (meetsH_dict_get_default (Fu (aqh X.prog X.w)) a b hd r) ⟨Df hu,k,xs,aKa I.hok eb,dd,h _ _ (I.tok _) ?_⟩;rw [l];exact (rel.val k).getD rd
end
def aqi9 (td ty tx:TE):TE:=fun σ H Q=>td σ H fun x H1=>∃ a,x=.ref a/\IsD H1 a/\ty σ H1 fun y H2=>tx σ H2 fun z H3=>∃ o,aqsc H3 a y o/\Q (o.getD z) H3
section
variable {X:Cx} {o e f:Expr} {apos cpos:Pos} {td ty tx:TE}
theorem aXh (hu:X.A.units + 1 < cLine) (ho:PE X o td) (he:PE X e ty) (hf:PE X f tx) (m:M2 X o "get" apos e f cpos):PE X (.Call (.Attribute o "get" apos) [e,f] [] cpos) (aqi9 td ty tx):=by
 intro pins s σ H Q I h;refine Ja m.base m.few m.line Fy Gm PySem.F.type_dict_get (thn (ho pins s σ H _ I h) fun u s1 hQ=>?_);obtain ⟨x,H1,I1,rx,a,ex,d,q1⟩:=hQ;subst ex;obtain rfl:u=Value.ref a:=rx;obtain ⟨t1,t2,_⟩:=aqk6 I1 d;refine ⟨t1,t2,?_⟩;rw [m.trees];refine Ed rfl (E3 (Cd (thn (he pins s1 σ H1 _ I1 q1) fun iv s2 ⟨y,H2,I2,ry,q2⟩ =>
  Cd (thn (hf pins s2 σ H2 _ I2 q2) fun fv s3 ⟨z,H3,I3,rz,ov,g,q3⟩=>Et ?_))))
 exact aqnt hu I3 g ry rz fun w' s4 I4 rw'=>⟨_,H3,I4,rw',q3⟩
end
section
variable {X:Cx} {pins:List (Addr × Obj)} {σ:St} {H:Hp} {s:Shared} {a:Addr} {kvs:List (Key × V)} {A:Around} {E:Value->Shared->Prop}
end
section
variable {X:Cx} {pins:List (Addr × Obj)} {σ:St} {H:Hp} {s:Shared} {a:Addr} {y:V} {u:Value} {A:Around} {E:Value->Shared->Prop}
end
end L2
namespace DL
open PySem PySem.W PyProof.Rows PySem.SeqAt MeetsSeq MeetsSeq2 MeetsSeq3 PySem.Spec
open AutoSeq1 (wpAny_loadPart')
theorem aY4:∀ {vs:List Value} {ns:List Int} {i:Nat} {n:Int},IntsAre vs ns->ns[i]?=some n->∃ t,vs[i]?=some (.int n t)
 | _,_,_,_,.nil,h=>by simp at h
 | _,_,0,_,.cons n t _,h=>by simp at h; subst h; exact ⟨t,by simp⟩
 | _,_,i + 1,_,.cons n t r,h=>by
  obtain ⟨u,hu⟩:=aY4 (i:=i) r (by simpa using h);exact ⟨u,by simpa using hu⟩
theorem aqgg {a b:List Int} {i:Nat} (h:i=a.length \/ i=b.length) (h1:i <= a.length) (h2:i <= b.length):aqra (a.drop i) (b.drop i)=decide (a.length < b.length):=by
 rcases h with h | h
 ·rw [drop_of_length_le (by omega)]
  cases q:b.drop i with
  | nil =>
   have:=congrArg List.length q
   simp at this;simp [aqra]; omega
  | cons x r =>
   have:=congrArg List.length q
   simp at this;simp [aqra]; omega
 ·rw [drop_of_length_le (l:=b) (by omega)]
  have:aqra (a.drop i) []=false:=by cases a.drop i <;> rfl
  rw [this]
  simp; omega
theorem aqjr {a b:List Int} {i:Nat} {x y:Int} (hx:a[i]?=some x) (hy:b[i]?=some y):aqra (a.drop i) (b.drop i)=(decide (x < y) || (decide (x=y) && aqra (a.drop (i + 1)) (b.drop (i + 1)))):=by
 obtain ⟨h1,e1⟩:=Ai.mp hx;obtain ⟨h2,e2⟩:=Ai.mp hy;rw [Dl h1,Dl h2,e1,e2];rfl
end DL
namespace DL
open PySem PySem.Spec PyProof.Rows L2
section
variable {X:Cx} {K:Frag}
theorem aZ2:∀ {ds:List D} {ns:List Int},ds.mapM kInt=some ns->ds=ns.map D.int
 | [],ns,h=>by simp at h; subst h; rfl
 | d :: ds,ns,h=>by
  rw [mapM_cons] at h;obtain ⟨n,hn,h⟩:=bind_some h;obtain ⟨r,hr,h⟩:=bind_some h;cases h;cases d <;> cases hn;rw [aZ2 hr]; rfl
theorem aJh {d:D} {ns:List Int} (h:aqk5 d=some ns):d=.lst (ns.map D.int):=by
 cases d <;> first | (cases h; done) | skip
 rw [aZ2 h]
end
end DL
namespace DL
open PySem PySem.W PyProof.Rows PySem.SeqAt MeetsSeq MeetsSeq2 MeetsSeq3 PySem.Spec
open AutoSeq1 (wpAny_loadPart')
theorem aqb9 (l b:Addr) (its its2:List Value) (ns ms:List Int) (n n2:Nat) (dd dd2:Option Addr) (sl sl2:Array (Option Value)) (ia:IntsAre its ns) (ib:IntsAre its2 ms) :
  Meets (Builtin.«tuple.__lt__» ⟨[.ref l,.ref b],[]⟩)
   (fun A R s=>s.heap.get? l=some { cls:=.type "tuple",dict:=dd,data:=.seq its.toArray n,slots:=sl }/\s.heap.get? b=some { cls:=.type "tuple",dict:=dd2,data:=.seq its2.toArray n2,slots:=sl2 }/\R (.ok (.ret (.bool (aqra ns ms)))) s) :=
 .of_wp fun prog w A R s h=>by
  obtain ⟨hp,g,d,tk,os⟩:=s; obtain ⟨hl,hb,h⟩:=h;have l1:=ia.length;have l2:=ib.length;have f2:=AutoSeq1.sub_tuple_tuple
  wp_walk using wpAny_loadPart' hl,wpAny_loadPart' hb,wpAny_forIn_list _ (fun aqr2 b s'=>b.1=none/\s'=⟨hp,g,d,tk,os⟩/\∃ i,i <= ns.length/\i <= ms.length/\aqr2=(its.zip its2).drop i /\
   R (.ok (.ret (.bool (aqra (ns.drop i) (ms.drop i))))) ⟨hp,g,d,tk,os⟩) _
  case turn =>
   rintro ⟨y,x⟩ aqr2 b s' ⟨hb',rfl,i,hi,hj,hz,hR⟩;have hlt:i < (its.zip its2).length:=by
    rcases Nat.lt_or_ge i (its.zip its2).length with h' | h'
    ·exact h'
    ·rw [drop_of_length_le h'] at hz; cases hz
   have hm:i < ns.length/\i < ms.length:=by simp at hlt; omega
   rw [Dl hlt] at hz;injection hz with hyx hrest;obtain ⟨p,hp1⟩:∃ p,ns[i]?=some p:=⟨ns[i]'hm.1,by simp⟩;obtain ⟨q,hq1⟩:∃ q,ms[i]?=some q:=⟨ms[i]'hm.2,by simp⟩;obtain ⟨t,ht⟩:=aY4 ia hp1;obtain ⟨u,hu⟩:=aY4 ib hq1;have e:(its.zip its2)[i]=(Value.int p t,Value.int q u):=by
    obtain ⟨_,e1⟩:=Ai.mp ht;obtain ⟨_,e2⟩:=Ai.mp hu;simp [e1,e2]
   rw [e] at hyx;injection hyx with e1 e2;subst e1 e2;rw [aqjr hp1 hq1] at hR;refine Ac (E7 ?_)
   by_cases e:p=q
   ·subst e
    simp only [beq_self_eq_true]
    wp_walk
    exact ⟨rfl,rfl,i + 1,hm.1,hm.2,hrest,by simpa using hR⟩
   ·have e':(p == q)=false:=by simpa using e
    rw [e'];simp only [Bool.not_false,if_true];refine Ac (Eg (Ac (Hl ?_)))
    wp_walk
    exact ⟨_,rfl,by simpa [e] using hR⟩
  case fin =>
   rintro ⟨b1,b2⟩ s' ⟨hb',rfl,i,hi,hj,hz,hR⟩;simp only at hb';subst hb';have hge:i=ns.length \/ i=ms.length:=by
    rcases Nat.lt_or_ge i (its.zip its2).length with h' | h'
    ·rw [Dl h'] at hz; cases hz
    ·simp at h'; omega
   rw [aqgg hge hi hj] at hR
   wp_walk
   refine ⟨_,rfl,?_⟩;simpa [Builtin.Tuple.tupleCompareSizes,l1,l2] using hR
  case h =>
   exact ⟨rfl,rfl,0,zero_le _,zero_le _,rfl,by simpa using h⟩
end DL
namespace SortW
open PySem PySem.W PyProof.Rows DL
def aVv (h:Heap) (x:Addr) (ns:List Int):Prop:=∃ (its:List Value) (n:Nat) (dd:Option Addr) (sl:Array (Option Value)),h.get? x=some { cls:=.type "tuple",dict:=dd,data:=.seq its.toArray n,slots:=sl }/\IntsAre its ns
theorem aVv.keep {h h':Heap} {x:Addr} {ns:List Int} (t:aVv h x ns) (k:∀ o,h.get? x=some o->h'.get? x=some o):aVv h' x ns:=by
 obtain ⟨its,n,dd,sl,e,r⟩:=t;exact ⟨its,n,dd,sl,k _ e,r⟩
section
variable {prog:Aj} {w:World} {A:Around} {E:Value->Shared->Prop} {s:Shared}
theorem awc {fin:Bool} {C:Bool->Shared->Prop}:∀ {its its2:List Value} {ns ms:List Int} (i:Nat),IntsAre its ns->IntsAre its2 ms->fin=decide (ns.length < ms.length)->C (aqra ns ms) s->KatLex prog w A true fin C (its.zip its2) i s
 | _,_,_,_,i,.nil,.nil,hf,h=>by subst hf; exact kat_nil (by simpa [aqra] using h)
 | _,_,_,_,i,.nil,.cons _ _ _,hf,h=>by subst hf; exact kat_nil (by simpa [aqra] using h)
 | _,_,_,_,i,.cons _ _ _,.nil,hf,h=>by subst hf; exact kat_nil (by simpa [aqra] using h)
 | _,_,_,_,i,.cons n t r,.cons m u q,hf,h=>by
  rw [List.zip_cons_cons];refine kat_cons (E7 ?_)
  by_cases e:n=m
  ·subst e
   rw [show (n == n)=true by simp];exact kat_yes (awc (i + 1) r q (by rw [hf]; simp) (by simpa [aqra] using h))
  ·rw [show (n == m)=false by simpa using e]
   have h':C (decide (n < m)) s:=by simpa [aqra,e] using h
   refine kat_no ?_;cases i with
   | zero=>exact oneLt_int h'
   | succ i=>exact kat_one _ _ (Hl h')
def TK (κ:N6):Prop:=κ=tuples' true \/ κ=oneType' \/ κ=Nf
theorem aqam {x y:Addr} {a b:List Int} {Q:Value->Shared->Prop} (hx:aVv s.heap x a) (hy:aVv s.heap y b) (h:Q (.bool (aqra a b)) s):wpAny (model prog w) A (call (.builtin "tuple.__lt__") [.ref x,.ref y]) Q E s:=by
 obtain ⟨its,n,dd,sl,e,r⟩:=hx;obtain ⟨its2,n2,dd2,sl2,e2,r2⟩:=hy;exact call_meets Kf ⟨_,e,rfl⟩ F.entry_tuple_lt (F.args_tuple_lt_2 _ _) (aqb9 x y its its2 a b n n2 dd dd2 sl sl2 r r2) ⟨e,e2,h⟩
theorem aQf (x y:Value):keyLt' Nf x y=oneLt' false x y:=rfl
theorem aqhg {κ:N6} (hκ:TK κ) (hu:A.units < cLine) {x y:Addr} {a b:List Int} {C:Bool->Shared->Prop} (hx:aVv s.heap x a) (hy:aVv s.heap y b) (h:C (aqra a b) s):wpAny (model prog w) A (keyLt' κ (.ref x) (.ref y)) C E s:=by
 have tx:s.TypeIs (.ref x) "tuple":=by obtain ⟨_,_,_,_,e,_⟩:=hx; exact ⟨_,e,rfl⟩
 have ty:s.TypeIs (.ref y) "tuple":=by obtain ⟨_,_,_,_,e,_⟩:=hy; exact ⟨_,e,rfl⟩
 rcases hκ with rfl | rfl | rfl
 ·obtain ⟨its,n,dd,sl,e,r⟩:=hx
  obtain ⟨its2,n2,dd2,sl2,e2,r2⟩:=hy;refine kat_lt e rfl e2 rfl ?_;simp only [size_toArray];exact awc 0 r r2 (by rw [r.length,r2.length]) h
 ·rw [keyLt'_oneType,oneLt'_eq]
  simp only [if_true];refine Ac (wpAny_cRoomFor hu ?_);refine Ac (wpAny_callSpecialIfBound?_slot tx Kf (aqam hx hy ?_));exact Dq h
 ·rw [aQf]
  refine kat_one _ _ ?_;refine (?_:wpAny (model prog w) A (richCompare .Lt (.ref x) (.ref y)) (PySem.W.BoolBack C) E s);exact wpAny_richCompare_same_room (T:="tuple") (op:=.Lt) (id:="tuple.__lt__") tx ty Kf (aqam hx hy ⟨by simp,h⟩) hu
theorem awf:∀ (Ts:List Addr) (keys:List (List Int)) {Q:List (Option Value)->Shared->Prop},Ts.length=keys.length->(∀ i (h:i < Ts.length),aVv s.heap Ts[i] (keys.getD i []))->(∀ fs:List (Option Value),fs.length=Ts.length->(fs.all (·.isSome)=true->∀ k∈keys,k ≠ [])->Q fs s)->wpAny (model prog w) A ((Ts.map Value.ref).mapM firstOfTuple') Q E s
 | [],[],_,_,_,h=>by
  rw [map_nil,List.mapM_nil]; exact Ad (h [] rfl (by simp))
 | [],_ :: _,_,hl,_,_=>by simp at hl
 | _ :: _,[],_,hl,_,_=>by simp at hl
 | T :: Ts,k :: ks,Q,hl,ht,h=>by
  rw [map_cons,mapM_cons];obtain ⟨its,n,dd,sl,e,r⟩:=ht 0 (by simp);refine Ac ?_;rw [kas_first_eq];refine Ac (Looks.here (show Looks (model prog w) s.heap (Kq (.ref T)) (.type "tuple") from (Looks.ld e).andThen .now) ?_);rw [if_neg (by first | decide | simp)];refine Ac (Nd e rfl (Ad ?_));refine Ac (awf Ts ks (by simpa using hl) (fun i hi=>ht (i + 1) (Nat.succ_lt_succ hi)) fun fs hfs hn=>Ad (h _ (by simp [hfs]) fun ha k' hk=>?_));rw [List.all_cons,C8] at ha;rcases Ao.mp hk with rfl | hk
  ·rintro rfl
   simp at r;cases r;simp at ha
  ·exact hn ha.2 k' hk
theorem aKw:∀ (Ts:List Addr) (keys:List (List Int)),Ts.length=keys.length->(∀ i (h:i < Ts.length),aVv s.heap Ts[i] (keys.getD i []))->(∀ k∈keys,k ≠ [])->∃ fs,KatTups s.heap (Ts.map Value.ref) fs/\fs.length=Ts.length/\∀ v∈fs,∃ k t,v=Value.int k t
 | [],[],_,_,_=>⟨[],KatTups.nil ..,rfl,by simp⟩
 | [],_ :: _,hl,_,_=>by simp at hl
 | _ :: _,[],hl,_,_=>by simp at hl
 | T :: Ts,k :: ks,hl,ht,hn=>by
  obtain ⟨fs,h1,h2,h3⟩:=aKw Ts ks (by simpa using hl) (fun i hi=>ht (i + 1) (Nat.succ_lt_succ hi)) fun k hk=>hn k (mem_cons_of_mem _ hk);obtain ⟨its,n,dd,sl,e,r⟩:=ht 0 (by simp);simp at e r;cases r with
  | nil=>exact absurd rfl (hn [] (by simp))
  | cons m t r =>
   exact ⟨Value.int m t :: fs,KatTups.cons e rfl rfl (by simp) h1,by simp [h2],fun v hv=>by
    rcases Ao.mp hv with rfl | hv
    ·exact ⟨_,_,rfl⟩
    ·exact h3 v hv⟩
theorem aqc9 {Ts:List Addr} {keys:List (List Int)} {Q:N6->Shared->Prop} (h0:0 < Ts.length) (hl:Ts.length=keys.length) (ht:∀ i (h:i < Ts.length),aVv s.heap Ts[i] (keys.getD i [])) (h:∀ κ,TK κ->Q κ s):wpAny (model prog w) A (keyKind' (Ts.map Value.ref).toArray) Q E s:=by
 by_cases hn:∀ k∈keys,k ≠ []
 ·obtain ⟨fs,h1,h2,h3⟩:=aKw Ts keys hl ht hn
  refine kat_kind (T:=.type "int") h1 (by omega) (fun v hv=>?_) (by decide) (h _ (.inl rfl));obtain ⟨k,t,rfl⟩:=h3 v hv;exact Looks.of_pure rfl
 ·rw [kat_kind_eq,List.mapM_toArray,map_eq_pure_bind]
  refine Ac (Ac (awf Ts keys hl ht fun fs hfs ha=>Ad ?_));rw [if_neg (by rw [List.all_toArray]; exact fun z=>hn (ha z))];refine Ar (fun _=>Ad (h _ (.inr (.inr rfl)))) fun _=>?_;rw [oneTypeOnly'_eq,List.mapM_toArray,map_eq_pure_bind];refine Ac (Ac (Ac (kas_mapM (r:=Value.type "tuple") _ (fun v hv Q' hq=>?_) (Ad ?_))))
  ·obtain ⟨T,hT,rfl⟩:=Bf.mp hv
   obtain ⟨i,hi,rfl⟩:=getElem_of_mem hT;obtain ⟨its,n,dd,sl,e,r⟩:=ht i hi;exact Looks.here (show Looks (model prog w) s.heap (Kq (.ref Ts[i])) (.type "tuple") from (Looks.ld e).andThen .now) hq
  ·split
   ·refine Ad (Ad ?_)
    split
    ·exact h _ (.inr (.inl rfl))
    ·exact h _ (.inr (.inr rfl))
   ·refine Ad (Ad ?_)
    split
    ·exact h _ (.inr (.inl rfl))
    ·exact h _ (.inr (.inr rfl))
theorem aqgf {n:Nat} {key:Nat->List Int} (hinj:∀ i j,i < n->j < n->key i=key j->i=j):Ord n fun i j=>aqra (key i) (key j) where
 trans:=fun a b c h1 h2=>MT.lex_tr h1 h2
 asym:=fun a b h1=>by
  cases q:aqra (key b) (key a) with
  | false=>rfl
  | true=>have:=MT.lex_tr h1 q; rw [MT.lex_irr] at this; cases this
 total:=fun a b ha hb hab h1=>MT.lex_tot _ _ h1 fun e=>hab (hinj a b ha hb e)
end
section
variable {prog:Aj} {w:World} {A:Around} {E:Value->Shared->Prop} {s:Shared}
theorem aV9 {keys:List (List Int)} {n:Nat} {p:Array Nat} (hl:n=keys.length) (hn:keys.Nodup) (pa:PA n p) (sp:SP (fun i j=>aqra (keys.getD i []) (keys.getD j [])) p n):(p.toList.map fun i=>keys.getD i [])=ajl keys:=by
 have hp:p.toList.Perm (Ax n):=by
  have:=pa
  unfold PA at this;exact De.mp this
 have e:keys=(Ax n).map fun i=>keys.getD i []:=by
  apply ext_getElem
  ·simp [hl]
  ·intro i h1 h2; simp [h1]
 have hperm:(p.toList.map fun i=>keys.getD i []).Perm keys:=by
  conv=>rhs; rw [e]
  exact hp.map _
 refine MT.ris_eq ?_ (MT.keys_ris _) fun x=>by rw [hperm.mem_iff,MT.mem_keys]
 have hs:p.size=n:=by have:=hp.length_eq; simpa using this
 unfold MT.Ris;rw [pairwise_map,Bo];intro i j hi hj hij
 have:=sp i j hij (by simpa [hs] using hj)
 simp at hi hj;have a0:∀ k,(hk:k < p.size)->at0 p k=p.toList[k]'(by simpa using hk):=fun k hk=>by simp [at0,hk]
 rw [a0 i hi,a0 j hj] at this;exact this
theorem aqcc {keys:List (List Int)} (hn:keys.Nodup):(ajl keys).length=keys.length:=by
 have hd:(ajl keys).Nodup:=(MT.keys_ris keys).imp fun {a b} h e=>by subst e; rw [MT.lex_irr] at h; cases h
 have:∀ {a b:List (List Int)},a.Nodup->b.Nodup->(∀ x,x∈a ↔ x∈b)->a.length=b.length:=by
  intro a b ha hb h;exact ((Ik ha hb).mpr h).length_eq
 exact this hd hn fun x=>MT.mem_keys
theorem aqbe {a:Addr} {Ts:List Addr} {keys:List (List Int)} {n:Nat} {P:Nn->Shared->Prop} (hu:A.units < cLine) (ho:s.heap.get? a=some (Bm "list" (Ts.map Value.ref).toArray n)) (hl:Ts.length=keys.length) (hnd:keys.Nodup)
  (ht:∀ i (h:i < Ts.length),aVv s.heap Ts[i] (keys.getD i [])) (hta:∀ T∈Ts,T ≠ a) (h64:Ts.length < 64)
  (h:∀ out:List Addr,out.length=(ajl keys).length->(∀ j (hj:j < out.length),∃ i,∃ hi:i < Ts.length,out[j]=Ts[i]/\(ajl keys).getD j []=keys.getD i [])->P (.done (.ret .none)) { s with heap:=J2 s.heap a (Ts.map Value.ref) (out.map Value.ref).toArray }) :
  wpAny (model prog w) A (Builtin.«list.sort» { pos:=[Value.ref a] }) P E s:=by
 by_cases h2:2 <= Ts.length
 ·refine az4 (vs:=Ts.map Value.ref) ho (by simpa using h64) (by simpa using h2) ?_
  generalize hh6:((s.heap.update a (Be fun _=>#[])).push (Bm "tuple" (Ts.map Value.ref).toArray 0)).push (Bm "list" #[] 0)=h6;have t6:∀ i (h:i < Ts.length),aVv h6 Ts[i] (keys.getD i []):=fun i hi=>(ht i hi).keep fun o hb=>by
   rw [<- hh6];refine Ae _ (Ae _ ?_);rw [Av _ _ (Bw (hta _ (getElem_mem hi)))];exact hb
  refine aqc9 (s:={ s with heap:=h6 }) (by omega) hl t6 fun κ hκ=>?_;have hinj:∀ i j,i < Ts.length->j < Ts.length->keys.getD i []=keys.getD j []->i=j:=fun i j hi hj e=>by
   rw [hl] at hi hj;have e':keys[i]=keys[j]:=by
    rw [getD_eq_getElem?_getD,getD_eq_getElem?_getD,getElem?_eq_getElem hi,getElem?_eq_getElem hj] at e;exact e
   exact (getElem_inj hnd).mp e'
  have ord:=aqgf (n:=Ts.length) (key:=fun i=>keys.getD i []) hinj;obtain ⟨pa,sp⟩:=aqd8 ord (by omega);rw [show (Ts.map Value.ref).length=Ts.length by simp];refine aXw (n:=Ts.length) (lt:=fun i j=>aqra (keys.getD i []) (keys.getD j [])) (fun i j C hi hj hC=>?_) _ (aqd9 (by omega)) ⟨rfl,rfl,?_⟩
  ·unfold kas_ask
   have e1:(Ts.map Value.ref).getD i .none=.ref Ts[i]:=by simp [hi]
   have e2:(Ts.map Value.ref).getD j .none=.ref Ts[j]:=by simp [hj]
   rw [e1,e2];exact aqhg hκ hu (t6 i hi) (t6 j hj) hC
  generalize aqr0 _ (Ii Ts.length)=p at pa sp;have hsl:=aV9 hl hnd pa sp;have hpl:p.toList.Perm (Ax Ts.length):=De.mp pa;have hpb:∀ i∈p.toList,i < Ts.length:=fun i hi=>Bt.mp (hpl.mem_iff.mp hi);have eo:(p.toList.map fun i=>(Ts.map Value.ref).getD i .none)=(p.toList.map fun i=>Ts.getD i 0).map Value.ref:=by
   rw [map_map];apply map_congr_left;intro i hi
   have:=hpb i hi
   simp [this]
  rw [eo];refine h _ (by rw [<- hsl]; simp) fun j hj=>?_;have hj':j < p.toList.length:=by simpa using hj
  have hb:=hpb p.toList[j] (getElem_mem hj');refine ⟨p.toList[j],hb,by simp only [Jq]; rw [getD_eq_getElem?_getD,getElem?_eq_getElem hb]; rfl,?_⟩;rw [<- hsl,getD_eq_getElem?_getD,getElem?_map,getElem?_eq_getElem hj'];rfl
 ·match Ts,hl,ht,ho,h,h2 with
  | [],hl,ht,ho,h,h2 =>
   have hk:keys=[]:=Cy.mp (by simpa using hl.symm);subst hk;refine list_sort_tree (vs:=[]) (ns:=[]) ho .nil (by simp) fun out ns' a1 a2 a3=>?_
   have:ns'=[]:=Cy.mp a2.length_eq
   subst this;have ol:=a1.length
   have:out=#[]:=by
    apply Array.eq_empty_of_size_eq_zero;simpa using ol
   subst this;exact h [] rfl fun j hj=>by simp at hj
  | [T],hl,ht,ho,h,h2 =>
   refine az3 (v:=.ref T) ho ?_;obtain ⟨k,rfl⟩:∃ k,keys=[k]:=B9.mp (by simpa using hl.symm);exact h [T] rfl fun j hj=>⟨j,hj,rfl,rfl⟩
  | _ :: _ :: _,_,_,_,_,h2=>simp at h2
end
def aqs5 (h:Heap) (d:Addr) (es:Array DictEntry) (ep:Nat):Prop:=∃ o,h.get? d=some o/\o.ExactDict/\o.data=.dict es ep
theorem aqs5.keep {h h':Heap} {d:Addr} {es:Array DictEntry} {ep:Nat} (x:aqs5 h d es ep) (k:∀ o,h.get? d=some o->h'.get? d=some o):aqs5 h' d es ep:=by
 obtain ⟨o,e,r⟩:=x; exact ⟨o,k o e,r⟩
section
variable {prog:Aj} {w:World} {A:Around} {E:Value->Shared->Prop} {s:Shared} {d:Addr} {es:Array DictEntry} {ep:Nat}
theorem aqs5.ty (x:aqs5 s.heap d es ep):s.TypeIs (.ref d) "dict":=by
 obtain ⟨o,e,c,_⟩:=x; exact ⟨o,e,c.1⟩
theorem aqgl {Q:Value->Shared->Prop} (hd:(d == By)=false) (hm:aqs5 s.heap d es ep)
  (hQ:Q (.ref s.heap.objs.size) { s with heap:=s.heap.push { cls:=.type "dict_keyiterator",data:=.fields #[.ref d,.int 0 0,.int es.size 0,.int ep 0] } }):wpAny (model prog w) A (Kn (.ref d)) Q E s:=by
 have hT:=hm.ty;obtain ⟨o,ho,hc,hdat⟩:=hm;refine Ew hT J5 (Ay J5 hT PySem.F.entry_dict_iter ?_ (PySem.F.args_dict_iter_1 _));unfold Builtin.«dict.__iter__» Builtin.Dict.dictSlotNone;refine Ac (Ac (Gp hT ?_));refine (?_:wpAny _ _ (pure (Value.ref d)) _ _ s);refine Ad ?_;refine (?_:wpAny _ _ (Es d >>= _) _ _ s);unfold Es;rw [hd];simp only [Aw,if_false];refine Ac (Ad (Ac (Bl ho hdat (Ac (El ho hdat ?_)))));refine Ac (A6 (Ad ⟨_,rfl,"dict_keyiterator",_,⟨_,Ah _ rfl,rfl⟩,Dg.lookup,?_⟩));simpa [Bz] using hQ
theorem aYq {it:Addr} {i:Nat} {Q:Option Value->Shared->Prop} (hit:s.heap.IsKeyIter it d i es.size ep) (hm:aqs5 s.heap d es ep)
  (h:wpAny (model prog w) A.in1 (Builtin.«dict_keyiterator.__next__» ⟨[.ref it],[]⟩) (fun fin s'=>∃ v,fin=.done (.ret v)/\Q (some v) s') (fun e s'=>s'.TypeIs e "StopIteration"/\Q none s') s):wpAny (model prog w) A (D8 (.ref it)) Q E s:=by
 unfold D8;refine Ac (En (Bi (name:=C3 "__next__") hit.typeIs Dg (Ay Dg hit.typeIs PySem.F.entry_dict_keyiterator_next ?_ (PySem.F.args_dict_keyiterator_next_1 _))));refine A9 h (fun fin s' hq=>?_) (fun e s' hq=>?_)
 ·obtain ⟨v,rfl,hq⟩:=hq
  exact ⟨v,rfl,Ad hq⟩
 ·obtain ⟨t,hq⟩:=hq
  refine Ac (Fb (T:="StopIteration") (b:=true) t av6 ?_);exact Ad hq
theorem aXv {it:Addr} {i:Nat} (o:Obj) (hd:o.data=.fields #[.ref d,.int i 0,.int es.size 0,.int ep 0]) {h:Heap} (ho:h.get? it=some o) (hc:o.cls=.type "dict_keyiterator"):(h.update it (Cp (·.setIfInBounds 1 (Bz ((i:Int) + 1))))).IsKeyIter it d (i + 1) es.size ep :=
 ⟨_,Bc _ ho (Gj (Ei hd _)),(Obj.cls_mapFields ..).trans hc,by rw [Ei hd]; simp [Bz]⟩
theorem aqc3 {it:Addr} {i:Nat} {Q:Option Value->Shared->Prop} (hit:s.heap.IsKeyIter it d i es.size ep) (hm:aqs5 s.heap d es ep) (hi:i < es.size)
  (hQ:∀ h',h'.IsKeyIter it d (i + 1) es.size ep->Heap.SameBut it s.heap h'->Q (some es[i].key) { s with heap:=h' }):wpAny (model prog w) A (D8 (.ref it)) Q E s:=by
 refine aYq hit hm ?_;obtain ⟨o,ho,hc,hd⟩:=id hit;obtain ⟨od,hod,hcd,hdd⟩:=hm;refine Ac (Ad (Ac (Ac ?_)));refine Ac (Cv hit.typeIs (Ad ?_));refine Ac (Dd ho hd ?_);have own:Bx "dict_keyiterator"=false:=by decide
 simp only [own,Aw,if_false];refine (?_:wpAny _ _ (if (Value.ref d == Value.none)=true then _ else _) _ _ s);rw [if_neg (show ¬ ((Value.ref d == Value.none)=true) from Al)];refine Ac (Ad (Ac (Bl hod hdd ?_)));rw [if_neg (by simp)];refine Ac (Ad (Ac (El hod hdd ?_)));rw [if_neg (by simp)];refine Ad ?_;simp only [show ¬ ((i:Int) < 0) from by omega,if_false,A8,Dj hi];refine Ac (Ac (Cv hit.typeIs (Ad ?_)));refine Ac (Kk hit.typeIs ?_);refine (?_:wpAny _ _ (N7 (.ref it) 1 (Bz ((i:Int) + 1)) >>= _) _ _ s);refine Ac (B8 ho hd (by simp) ?_);have hit':=aXv o hd ho hc;refine Ac (A5 (Ac ?_));refine Kk (s:={ s with heap:=s.heap.update it (Cp (·.setIfInBounds 1 (Bz ((i:Int) + 1)))) }) hit'.typeIs ?_;refine (?_:wpAny _ _ (pure es[i].key) _ _ _);exact Ad (Ad ⟨_,rfl,hQ _ hit' (Ca ..)⟩)
theorem aqg4 {it:Addr} {i:Nat} {Q:Option Value->Shared->Prop} (hh:A.handled=none) (hit:s.heap.IsKeyIter it d i es.size ep) (hm:aqs5 s.heap d es ep) (hi:es.size <= i)
  (hQ:∀ h',Heap.ExtBut it s.heap h'->Q none { s with heap:=h' }):wpAny (model prog w) A (D8 (.ref it)) Q E s:=by
 refine aYq hit hm ?_;obtain ⟨o,ho,hc,hd⟩:=id hit;obtain ⟨od,hod,hcd,hdd⟩:=hm;refine Ac (Ad (Ac (Ac ?_)));refine Ac (Cv hit.typeIs (Ad ?_));refine Ac (Dd ho hd ?_);have own:Bx "dict_keyiterator"=false:=by decide
 simp only [own,Aw,if_false];refine (?_:wpAny _ _ (if (Value.ref d == Value.none)=true then _ else _) _ _ s);rw [if_neg (show ¬ ((Value.ref d == Value.none)=true) from Al)];refine Ac (Ad (Ac (Bl hod hdd ?_)));rw [if_neg (by simp)];refine Ac (Ad (Ac (El hod hdd ?_)));rw [if_neg (by simp)];refine Ad ?_;simp only [show ¬ ((i:Int) < 0) from by omega,if_false,A8,getElem?_eq_none hi];refine Ac (Ac (Cv hit.typeIs (Ad ?_)));refine (?_:wpAny _ _ (N7 (.ref it) 0 .none >>= _) _ _ s);refine Ac (B8 ho hd (by simp) ?_);refine (?_:wpAny _ _ (N4 (.type "StopIteration") [] >>= _) _ _ _);simp only [N4,newTuple];refine Ac (Ac (A6 ?_ (by size_fits)));refine Ac (m:=E5 _ _) (Ku (a:=Value.none) (by first | rfl | (simp only [E5]; rfl)) ?_);refine A6 ?_ (by size_fits);simp only [N5];refine Ac (Lx ?_);rw [show A.in1.handled=none from hh];refine Ac (Ad (Nq ⟨⟨_,Ah _ rfl,rfl⟩,?_⟩));exact hQ _ (((Ca ..).extBut.push _).push _)
theorem aqim (lo:(d == By)=false):KdlSrc prog w "dict" d d es.size (fun i v=>∃ h:i < es.size,v=es[i].key) (fun h=>aqs5 h d es ep) where
 type:=fun _ hm=>hm.ty
 there:=fun _ hm=>by obtain ⟨o,e,_⟩:=hm; exact ⟨Af e,Af e⟩
 keep:=fun _ _ hm hk=>hm.keep fun o e=>hk d (.inl rfl) o e
 notList:=by decide
 notTuple:=by decide
 hint:=fun _ _ _ _ hm hq=>kdl_hint_dict hm.ty hq
 iter:=fun A s hh hm=>by
  have hlt:d < s.heap.objs.size:=by obtain ⟨o,e,_⟩:=hm; exact Af e
  refine ⟨_,fun i h=>h.IsKeyIter s.heap.objs.size d i es.size ep/\aqs5 h d es ep,fun _ _ hq=>aqgl lo hm hq,⟨fun b hb=>by simp at hb; simp [hb],fun _ _ _ st hk=>⟨st.1.at fun o e=>hk _ (by simp) o e,st.2.keep fun o e=>hk d (by simp) o e⟩,fun i s1 Q E hi st hQ=>?_,fun s1 Q E st hQ=>?_,fun _ _ _ _ st hQ=>wpAny_pyIter_keyiter st.1 hQ⟩,⟨_,Ah _ rfl,rfl,rfl⟩,hm.keep fun o e=>Ae _ e⟩
  ·exact aqc3 st.1 st.2 hi fun h' hit' hs'=>hQ _ h' s1.toks ⟨hi,rfl⟩ ⟨hit',st.2.keep fun o e=>hs'.extBut d o (ne_of_lt hlt) e⟩ fun b o hb e=>hs'.extBut b o (fun h=>hb (by simp [h])) e
  ·exact aqg4 hh st.1 st.2 (le_refl _) fun h' he'=>hQ h' s1.toks fun b o hb e=>he' b o (fun h=>hb (by simp [h])) e
end
section
variable {prog:Aj} {w:World} {A:Around} {E:Value->Shared->Prop} {s:Shared} {d:Addr} {es:Array DictEntry} {ep:Nat}
theorem aKi {T:String} {r:Addr} {n:Nat} {P:Nat->Value->Prop} {OK:Heap->Prop} {R:List Value->Shared->Prop} (K:KdlSrc prog w T r d n P OK) (hh:A.handled=none) (hok:OK s.heap) (hn:n <= Ag)
  (h:∀ (h':Heap) (tk:Nat) (acc:Array Value),s.heap.objs.size < h'.objs.size->(∀ b o,s.heap.get? b=some o->h'.get? b=some o)->ItemsOf P acc n->R acc.toList { s with heap:=h',toks:=tk }):wpAny (model prog w) A (M7 (.ref r)) R E s:=by
 have lt:=K.there _ hok;unfold M7;refine Ac (Ie (Bh G6 ?_));rw [Bb Ex _];refine (?_:wpAny _ A.in1 (Nv [] >>= fun l=>again (.builtin "list.__iadd__" ⟨[l,.ref r],[]⟩)) _ _ s);refine Ac (A6 (Ad ⟨C6 B3 _,Bh Jp ?_⟩));rw [Bb B3 _];have e0:(s.heap.push { cls:=.type "list",data:=.seq ([]:List Value).toArray }).get? s.heap.objs.size=some { cls:=.type "list",data:=.seq #[] }:=Ah _ rfl;refine (?_:wpAny _ A.in1 (B6 (.ref s.heap.objs.size) (.ref r) (.ref s.heap.objs.size)) _ _ _);have fin:∀ (q:L8) (s':Shared),(∃ (h':Heap) (tk:Nat) (acc':Array Value) (c':Nat),q=.ok (.ret (.ref s.heap.objs.size))/\s'={ s with heap:=h',toks:=tk }/\(∀ b o,s.heap.get? b=some o->h'.get? b=some o)/\h'.get? s.heap.objs.size=some { cls:=.type "list",dict:=none,data:=.seq acc' c',slots:=#[] }/\ItemsOf P acc' n) ->
   ∃ (h':Heap) (tk:Nat) (acc':Array Value) (c':Nat),q=.ok (.ret (.ref s.heap.objs.size))/\s'={ s with heap:=h',toks:=tk }/\h'.get? s.heap.objs.size=some { cls:=.type "list",dict:=none,data:=.seq acc' c',slots:=#[] }/\R acc'.toList s':=by
  rintro q s' ⟨h',tk,acc',c',e1,e2,e3,e4,e5⟩;exact ⟨h',tk,acc',c',e1,e2,e4,e2 ▸ h h' tk acc' (Af e4) e3 e5⟩
 refine A9 (kdl_extend (A:=A) (s:={ s with heap:=s.heap.push { cls:=.type "list",data:=.seq ([]:List Value).toArray } }) (R:=fun q s'=>∃ (h':Heap) (tk:Nat) (acc':Array Value) (c':Nat),q=.ok (.ret (.ref s.heap.objs.size))/\s'={ s with heap:=h',toks:=tk }/\(∀ b o,s.heap.get? b=some o->h'.get? b=some o)/\h'.get? s.heap.objs.size=some { cls:=.type "list",dict:=none,data:=.seq acc' c',slots:=#[] }/\ItemsOf P acc' n)
  K hh (K.keep _ _ hok fun b _ o e=>Ae _ e) s.heap.objs.size (ne_of_gt lt.1) (ne_of_gt lt.2) (.ref s.heap.objs.size) 0 e0 (fun h' tk acc' c' hk hS' hacc=>⟨h',tk,acc',c',rfl,rfl,fun b o e=>hk b o (ne_of_lt (Af e)) (Ae _ e),hS',hacc⟩) hn) (fun q s' x=>?_) fun e s' x=>?_
 ·cases q with
  | done f =>
   obtain ⟨h',tk,acc',c',e,rfl,hS',hr⟩:=fin _ _ x;cases e;refine (?_:wpAny _ A (load s.heap.objs.size >>= _) _ _ _);exact Ac (Gs hS' (Ad hr))
  | again c₁ =>
   refine ⟨x.1,Co x.2 fun q s₂ y=>?_⟩;obtain ⟨h',tk,acc',c',rfl,rfl,hS',hr⟩:=fin _ _ y;refine (?_:wpAny _ A (load s.heap.objs.size >>= _) _ _ _);exact Ac (Gs hS' (Ad hr))
 ·obtain ⟨_,_,_,_,e',_⟩:=x
  cases e'
theorem aVz {Ts:List Addr} {keys:List (List Int)} {Q:Value->Shared->Prop} (hu:A.in1.in1.units < cLine) (hh:A.handled=none) (lo:(d == By)=false) (hm:aqs5 s.heap d es ep) (hes:es.toList.map (·.key)=Ts.map Value.ref) (hl:Ts.length=keys.length) (hnd:keys.Nodup)
  (ht:∀ i (h:i < Ts.length),aVv s.heap Ts[i] (keys.getD i [])) (h64:Ts.length < 64)
  (h:∀ (D:Addr) (out:List Addr) (n:Nat) (h':Heap) (tk:Nat),s.heap.objs.size <= D->h'.get? D=some { cls:=.type "list",data:=.seq (out.map Value.ref).toArray n }->out.length=(ajl keys).length->(∀ j (hj:j < out.length),∃ i,∃ hi:i < Ts.length,out[j]=Ts[i]/\(ajl keys).getD j []=keys.getD i []) ->
   (∀ b o,s.heap.get? b=some o->h'.get? b=some o)->Q (.ref D) { s with heap:=h',toks:=tk }) :
  wpAny (model prog w) A (call (.builtin "sorted") [.ref d]) Q E s:=by
 have hsz:es.size=Ts.length:=by have:=congrArg List.length hes; simpa using this
 refine Dk Nr M9 Na (Nb _) ?_;unfold Builtin.«sorted»;refine Ac (m:=checkCount "sorted" 1 1 _) (Ad ?_);refine Ac (aKi (A:=A.in1) (aqim lo) hh hm (by rw [Au]; omega) fun h1 tk acc hgr hk hacc=>?_);have hacc':acc.toList=Ts.map Value.ref:=by
  rw [<- hes];apply Iy;intro i;rw [getElem?_toList,getElem?_map,getElem?_toList]
  by_cases hi:i < es.size
  ·have hi':i < acc.size:=by rw [hacc.1]; exact hi
   obtain ⟨_,e⟩:=hacc.2 i acc[i] (by simp [hi']);simp [hi,hi',e]
  ·have hi':¬ i < acc.size:=by rw [hacc.1]; exact hi
   simp [hi,hi']
 rw [hacc'];refine Ac (G0 ?_ (by rw [Au]; simp; omega));have hoL:(h1.push (Bm "list" (Ts.map Value.ref).toArray 0)).get? h1.objs.size=some (Bm "list" (Ts.map Value.ref).toArray 0):=Ah _ rfl;have ltT:∀ i (hi:i < Ts.length),Ts[i] < h1.objs.size:=fun i hi=>by
  obtain ⟨_,_,_,_,e,_⟩:=ht i hi;exact Af (hk _ _ e)
 refine Ac (A5 (Ay Kz ⟨_,hoL,rfl⟩ Kd ?_ (La _)));refine aqbe (s:={ s with heap:=h1.push (Bm "list" (Ts.map Value.ref).toArray 0),toks:=tk }) hu hoL hl hnd (fun i hi=>(ht i hi).keep fun o e=>Ae _ (hk _ _ e)) (fun T hT=>?_) h64 fun out ho hout=>⟨_,rfl,Ad ⟨_,rfl,?_⟩⟩
 ·obtain ⟨i,hi,rfl⟩:=getElem_of_mem hT
  exact ne_of_lt (ltT i hi)
 obtain ⟨e,he⟩:=Ly (out:=(out.map Value.ref).toArray) hoL;refine h _ out e _ tk ?_ (by simpa [Bm] using he) ho hout fun b o hb=>?_
 ·exact le_of_lt hgr
 ·have hlt:=Af (hk b o hb)
  rw [Lb (ne_of_lt hlt) (by rw [J1]; exact lt_succ_of_lt hlt)];exact Ae _ (hk b o hb)
end
end SortW
namespace DL
open PySem PySem.Spec PyProof.Rows L2
def dkv (kvs:List (List Int × V)):List (List Key × V):=kvs.map fun p=>(p.1.map Sum.inl,p.2)
theorem awd (k:List Int):(k.map Sum.inl:List Key).map kV=k.map V.int:=by
 rw [map_map]; rfl
theorem aJi {a b:List Int} (h:(a.map Sum.inl:List Key)=b.map Sum.inl):a=b:=by
 have:=congrArg (List.map (fun k:Key=>match k with | .inl i=>i | .inr _=>0)) h
 simpa [map_map,Function.comp_def] using this
theorem aqk1 {H:Hp}:∀ {kvs:List (List Int × V)} {xs:List (List Key × Addr × Value)},KT H (dkv kvs) xs->xs.length=kvs.length/\xs.map (·.1)=kvs.map (fun p=>p.1.map Sum.inl)/\∀ i (h:i < xs.length),H xs[i].2.1=some (.tup ((kvs.map (·.1)).getD i [] |>.map V.int))
 | [],_,.nil=>⟨rfl,rfl,fun i h=>by simp at h⟩
 | p :: kvs,_,.cons (b:=q) hq t=>by
  obtain ⟨h1,h2,h3⟩:=aqk1 t;refine ⟨by simp [h1],?_,fun i h=>?_⟩
  ·simp only [map_cons]
   rw [h2,<- hq.1]
  ·cases i with
   | zero =>
    have:=hq.2.1
    rw [awd] at this;exact this
   | succ i=>exact h3 i (by simpa using h)
theorem aqen {X:Cx} {pins:List (Addr × Obj)} {σ:St} {H:Hp} {s:Shared} {b:Addr} {k:List Int} (I:Inv X pins σ H s) (e:H b=some (.tup (k.map V.int))):SortW.aVv s.heap b k:=by
 obtain ⟨its,r,⟨o,h1,h2,n,h3⟩,_⟩:=I.tuple (SqT.of e);obtain ⟨c,dd,dt,sl⟩:=o;cases h2;cases h3;exact ⟨its,n,dd,sl,by simpa using h1,ajm r⟩
theorem aX7 (hu:X.A.units + 64 < cLine) (hc:X.calm=true):awm X (.builtin "sorted") (fun xs H Q=>∃ (p:Addr) (kvs:List (List Int × V)),xs=[.ref p]/\H p=some (.dT (dkv kvs))/\kvs.length < 64/\∀ l (bs:List Addr),H l=none->bs.length=(ajl (kvs.map (·.1))).length->(∀ j (hj:j < bs.length),H bs[j]=some (.tup (((ajl (kvs.map (·.1))).getD j []).map V.int)))->Q (.ref l) (upd H l (.lst (bs.map V.ref)))):=by
 intro pins s σ H xs us Q I r h;obtain ⟨p,kvs,rfl,hp,h64,q⟩:=h;obtain ⟨u,rfl,ru⟩:=r.one;cases ru;obtain ⟨z,hd,xs,rel,o,es,ep,g1,g2,g3,g4,g5,g6⟩:=dt_of I.hok hp;obtain ⟨k1,k2,k3⟩:=aqk1 rel;have hes:es.toList.map (·.key)=(xs.map (·.2.1)).map Value.ref:=by
  rw [g4,map_map,map_map]; rfl
 have hnd:(kvs.map (·.1)).Nodup:=by
  rw [k2] at g6
  have:(kvs.map (fun p=>(p.1.map Sum.inl:List Key)))=(kvs.map (·.1)).map (fun k=>(k.map Sum.inl:List Key)):=by rw [map_map]; rfl
  rw [this] at g6;exact (List.pairwise_map.mp g6).imp fun h e=>h (congrArg _ e)
 have hT:∀ i (h:i < (xs.map (·.2.1)).length),H (xs.map (·.2.1))[i]=some (.tup (((kvs.map (·.1)).getD i []).map V.int)):=fun i hi=>by
  simp only [Jq];exact k3 i (by simpa using hi)
 refine SortW.aVz (keys:=kvs.map (·.1)) (by simp only [units_in1]; omega) (I.ok.hd hc) hd ⟨o,g1,g2,g3⟩ hes (by simp [k1]) hnd (fun i hi=>aqen I (hT i hi)) (by simp [k1]; omega) fun D out n h' tk hD hget hlen hout hk=>?_;refine ⟨.ref D,_,I.laid (a:=D) (o:=.lst (out.map V.ref)) hk hD ⟨?_,out.map Value.ref,n,?_,hget⟩,rfl,q D out (I.hok.fresh hD) hlen fun j hj=>?_⟩
 ·rw [length_map,hlen,SortW.aqcc hnd,length_map,Au]; omega
 ·clear hout hget hlen
  induction out with
  | nil=>exact .nil
  | cons a out ih=>exact .cons rfl ih
 ·obtain ⟨i,hi,e1,e2⟩:=hout j hj
  rw [e1,e2];exact hT i hi
theorem aqab (kvs:List (List Int × V)) (k:List Int):aqqs (dkv kvs) (k.map Sum.inl)=aqqs kvs k:=by
 induction kvs with
 | nil=>rfl
 | cons p r ih =>
  show aqqs ((p.1.map Sum.inl,p.2) :: dkv r) _=_
  by_cases e:p.1=k
  ·rw [aqj (by rw [e]),aqj e]
  ·rw [aqk fun h=>e (aJi h),aqk e,ih]
theorem aqkv (kvs:List (List Int × V)) (k:List Int) (v:V):aqr3 (dkv kvs) (k.map Sum.inl) v=dkv (aqr3 kvs k v):=by
 have ha:((dkv kvs).any fun kv=>decide (kv.1=(k.map Sum.inl:List Key)))=(kvs.any fun kv=>decide (kv.1=k)):=by rw [aj5,aj5,aqab]
 unfold aqr3;rw [ha];split
 ·unfold dkv
  rw [map_map,map_map];apply map_congr_left;intro p _;simp only [Function.comp_apply]
  by_cases e:p.1=k
  ·rw [if_pos (by rw [e]),if_pos e]
  ·rw [if_neg fun h=>e (aJi h),if_neg e]
 ·simp [dkv]
def TWt (kvs:List (List Int × V)) (hp:List (Int × List Int)):Prop:=kvs.length <= hp.length/\∀ k,aqqs kvs k=if k∈hp.map (·.2) then some (.int (wtK hp k)) else none
theorem aqi1:TWt [] []:=⟨le_refl _,fun k=>rfl⟩
theorem aqi2 {kvs:List (List Int × V)} {hp:List (Int × List Int)} (h:TWt kvs hp) (k:List Int):(aqqs kvs k).getD (.int 0)=.int (wtK hp k):=by
 rw [h.2 k];split
 ·rfl
 ·rename_i hn
  rw [MT.wt_none hn]; rfl
theorem aqi0 {kvs:List (List Int × V)} {hp:List (Int × List Int)} (h:TWt kvs hp) (w:Int) (k:List Int):TWt (aqr3 kvs k (.int (wtK hp k + w))) (hp++[(w,k)]):=by
 refine ⟨le_trans (azu _ _ _) (by have:=h.1; simp; omega),fun j=>?_⟩;rw [aqek,h.2 j,MT.wt_append]
 by_cases e:j=k
 ·subst e
  rw [if_pos rfl,if_pos (by simp)];simp [wtK]
 ·rw [if_neg e]
  have:j∈(hp++[(w,k)]).map (·.2) ↔ j∈hp.map (·.2):=by simp [e]
  have ek:¬ k=j:=fun z=>e z.symm
  by_cases hm:j∈hp.map (·.2)
  ·rw [if_pos hm,if_pos (this.mpr hm)]
   simp [wtK,ek]
  ·rw [if_neg hm,if_neg fun z=>hm (this.mp z)]
theorem aqem {kvs:List (List Int × V)} {hp:List (Int × List Int)} (h:TWt kvs hp):ajl (kvs.map (·.1))=ajl (hp.map (·.2)):=by
 refine MT.ris_eq (MT.keys_ris _) (MT.keys_ris _) fun x=>?_;rw [MT.mem_keys,MT.mem_keys];have e:x∈kvs.map (·.1) ↔ (aqqs kvs x).isSome=true:=by
  rw [<- aj5,any_eq_true];constructor
  ·intro hx
   obtain ⟨p,hp,rfl⟩:=Bf.mp hx;exact ⟨p,hp,by simp⟩
  ·rintro ⟨p,hp,e⟩
   exact Bf.mpr ⟨p,hp,by simpa using e⟩
 rw [e,h.2 x];split
 ·rename_i hx; simp [hx]
 ·rename_i hx; simp [hx]
section
variable {K:Frag} {F1 H1 F H:Hp} {σ:L2.St} {ρ:aqsd} {l:Addr} {done:List O}
theorem aqny (ci:CI K F1 H1 F H σ ρ l done) (hB:H1 l=none) {y:V} {o:O} {A4:AS} {F4 H4:Hp} (e4:Ext F H F4 H4) (r4:Own K F4 H4 y o A4) (n4:∀ b,A4 b->F4 b=none/\H b=none) :
  ∃ acc,H4 l=some (.lst acc)/\acc.length=done.length/\CI K F1 H1 F4 (upd H4 l (.lst (acc++[y]))) σ ρ l (done++[o]):=by
 have ci4:=ci.more e4;obtain ⟨acc3,A3,k1,k2,k3⟩:=ci.hl;have t4:H4 l=some (.lst acc3):=e4.hh _ _ k1;have k2':=k2.ext e4.ff e4.hh;refine ⟨acc3,t4,k2.length,?_⟩;have nl:¬ A4 l:=fun z=>by have:=(n4 l z).2; rw [k1] at this; cases this
 refine ⟨⟨ci4.ext.ff,fun b u hb=>by rw [ah (ae hb ci4.fl)]; exact ci4.ext.fh _ _ hb,fun b u hb=>by rw [ah (ae hb hB)]; exact ci4.ext.hh _ _ hb,ci4.ext.nw⟩,ci4.re,ci4.len,ci4.fl,acc3++[y],fun b=>A3 b \/ A4 b,ac,?_,fun b z=>?_⟩
 ·refine (k2'.stay (aqs2.refl _) (H':=upd H4 l (.lst (acc3++[y]))) fun b z=>ah (k3 b z).2.2).append (.cons (r4.stay (aqs2.refl _) (H':=upd H4 l (.lst (acc3++[y]))) fun b z=>ah (by rintro rfl; exact nl z)) (.nil (A:=fun _=>False) fun _ z=>z) (fun _ _ z=>z) fun b=>⟨.inl,fun z=>z.elim id Az⟩) fun b z y=>?_
  obtain ⟨u,hu,_⟩:=k2.there b z;rw [(n4 b y).2] at hu; cases hu
 ·rcases z with z | z
  ·obtain ⟨g1,g2,g3⟩:=k3 b z
   obtain ⟨u,hu,_⟩:=k2.there b z;refine ⟨?_,g2,g3⟩;cases w:F4 b with
   | none=>rfl
   | some o =>
    rcases e4.nw b o w with y | y
    ·rw [g1] at y; cases y
    ·rw [hu] at y; cases y
  ·exact ⟨(n4 b z).1,ci.ext.hh.free (n4 b z).2,by rintro rfl; exact nl z⟩
theorem aqfn (s:aqs2 F H) {q p:Addr} {w:Int} {k:List Int} (hq:H q=none) (hp:upd H q (.lst (k.map V.int)) p=none) :
  Ext F H (upd F p (.tup [.int w,.ref q])) (upd (upd H q (.lst (k.map V.int))) p (.tup [.int w,.ref q]))/\Own K (upd F p (.tup [.int w,.ref q])) (upd (upd H q (.lst (k.map V.int))) p (.tup [.int w,.ref q])) (.ref p) (aW0 (w,k)) (fun b=>b=q)/\∀ b,b=q->upd F p (.tup [.int w,.ref q]) b=none/\H b=none:=by
 have npq:q ≠ p:=by rintro rfl; rw [ac] at hp; cases hp
 have e1:=Ext.laidH (o:=.lst (k.map V.int)) s hq;have e2:=Ext.laid (o:=.tup [.int w,.ref q]) e1.fh hp;refine ⟨e1.trans e2,.tup ac (.cons (.sh (.int w) (A:=fun _=>False) fun _ z=>z) (.cons (aXi (a:=q) (by rw [ah npq,ac]) (aq4 k)) (.nil (A:=fun _=>False) fun _ z=>z) (fun _ _ z=>z) (A:=fun b=>b=q) fun b=>⟨.inl,fun z=>z.elim id Az⟩) (fun _ z=>z.elim) fun b=>⟨.inr,fun z=>z.elim Az id⟩),?_⟩;rintro b rfl;exact ⟨by rw [ah npq]; exact s.free hq,hq⟩
end
theorem ax1 {X:Cx} {elt target iter:Expr} {ifs:List Expr} {scope:Scope} {pos:Pos} {cl:List (Str × Addr)} {N':List Str} {js:List (Option Nat)} {wi:TI} {g:TG} {tc:TT} {te:TE} (k:CompOk X scope cl N' js) (hi:PI X target iter wi)
  (hg:∀ C s₀ H₀ ex pn,PG (aO X N' scope cl C s₀ H₀ ex pn) target g) (ht:∀ C s₀ H₀ ex pn,PIfs (aO X N' scope cl C s₀ H₀ ex pn) ifs tc) (he:∀ C s₀ H₀ ex pn,PE (aO X N' scope cl C s₀ H₀ ex pn) elt te) (hs:∀ x,B7 iter X.env x=pure x:=by intro _; rfl):PE X (.ListComp elt [⟨target,iter,ifs,0⟩] scope pos) (aqbb wi g tc te js) :=
 aqdl k.calm hi (axn k.clo) k.free k.hcl k.hhas k.cell k.kind k.names hg ht he hs
def rLOf (K:Frag):List V->Hp->VK->Prop:=fun xs H Q=>∃ p ys,xs=[.ref p]/\(SqL K H p ys \/ SqT K H p ys)/\∀ l,H l=none->Q (.ref l) (upd H l (.lst ys))
theorem aqan {X:Cx} {K:Frag} (h:X.K=K):awm X (.type "list") (rLOf K):=by subst h; exact aj0
theorem aYz {d:D} {p:Int × List Int} (h:aqk4 d=some p):d=.tup [.int p.1,.lst (p.2.map D.int)]:=by
 unfold aqk4 at h;split at h
 ·obtain ⟨l,hl,rfl⟩:=map_some h
  rw [aJh hl]
 ·cases h
theorem aY0 {d:D} {hp:List (Int × List Int)} (h:aqhr d=some hp):d=.lst (hp.map fun p=>.tup [.int p.1,.lst (p.2.map D.int)]):=by
 unfold aqhr at h;split at h
 ·rename_i xs
  congr 1
  induction xs generalizing hp with
  | nil=>simp at h; subst h; rfl
  | cons x xs ih =>
   rw [mapM_cons] at h;obtain ⟨p,hp1,h⟩:=bind_some h;obtain ⟨r,hr,h⟩:=bind_some h;cases h;rw [aYz hp1,ih hr]; rfl
 ·cases h
theorem aqfb {K:Frag} {F:Hp} {v:V} {p:Int × List Int} (r:Rep K F v (.tup [.int p.1,.lst (p.2.map D.int)])):∃ t m,v=.ref t/\SqT K F t [.int p.1,.ref m]/\SqE K F m (p.2.map V.int):=by
 cases r with
 | tup h r =>
  cases r with
  | cons r1 r=>cases r with
   | cons r2 r=>cases r with
    | nil =>
     cases r1;cases r2 with
     | lst h2 t =>
      have:=aqa t
      subst this;exact ⟨_,_,rfl,h,h2⟩
theorem aqba {K:Frag} {F0 H H':Hp} {c0 c2 c3 c4:Option V} {d:Addr} {kvs:List (List Int × V)} {hp:List (Int × List Int)} {Q:VK} (sm:aqs2 F0 H) (s1:aqs2 H H') (hd:H' d=some (.dT (dkv kvs))) (tw:TWt kvs hp) (hl:hp.length < 60) (hm:∀ p∈hp,p.2.length < 60)
  (k:∀ v F' H' A,Ext F0 H F' H'->Own K F' H' v (.lst ((aQy hp).map aW0)) A->(∀ b,A b->F' b=none/\H b=none)->Q v H') :
  aqbb (aqk8 K (tCB (fun xs H Q=>∃ (p:Addr) (kvs:List (List Int × V)),xs=[.ref p]/\H p=some (.dT (dkv kvs))/\kvs.length < 64/\∀ l (bs:List Addr),H l=none->bs.length=(ajl (kvs.map (·.1))).length->(∀ j (hj:j < bs.length),H bs[j]=some (.tup (((ajl (kvs.map (·.1))).getD j []).map V.int)))->Q (.ref l) (upd H l (.lst (bs.map V.ref)))) (ako (aqqv 1) aqqw)))
   (ax9 0) aJu (tTup (ako (tDGet (aqqv 1) (aqqv 0)) (ako (tCB (rLOf K) (ako (aqqv 0) aqqw)) aqqw))) [none,some 1] [c0,some (.ref d),c2,c3,c4] H' Q:=by
 refine ⟨_,rfl,d,kvs,rfl,hd,by have:=tw.1; omega,fun l bs hl1 hbl hbs=>⟨l,rfl,⟨_,SqL.of ac⟩,fun L hL=>?_⟩⟩;rw [aqem tw] at hbl hbs;have hld:d ≠ l:=ae hd hl1;have hd1:upd H' l (.lst (bs.map V.ref)) d=some (.dT (dkv kvs)):=by rw [ah hld]; exact hd
 have s2:aqs2 H' (upd H' l (.lst (bs.map V.ref))):=gd hl1;have sF:aqs2 F0 (upd H' l (.lst (bs.map V.ref))):=(sm.trans s1).trans s2;have hn:bs.length=(aQy hp).length:=by rw [hbl]; simp [aQy]
 have e0:Ext F0 H F0 (upd H' l (.lst (bs.map V.ref))):=⟨aqs2.refl _,sF,s1.trans s2,fun _ _ h=>.inl h⟩;have re0:∀ (F:Hp) (σ:L2.St),RE K F σ [none,none]:=fun F σ i d h=>by
  match i,h with
  | 0,h=>cases h
  | 1,h=>cases h
 generalize hH1:upd H' l (.lst (bs.map V.ref))=H1 at *;have hl2:H1 l=some (.lst (bs.map V.ref)):=by rw [<- hH1]; exact ac
 refine ⟨fun i m σ' H''=>i <= bs.length/\m=bs.length - i/\∃ F' c,σ'=[c,some (.ref d)]/\CI K F0 H1 F' H'' σ' [none,none] L (((aQy hp).take i).map aW0),⟨_,zero_le _,rfl,F0,none,rfl,Ext.laidH sF hL,re0 _ _,rfl,sF.free hL,[],fun _=>False,ac,.nil fun _ z=>z,fun _ z=>z.elim⟩,?_⟩;rintro i m σ' H'' ⟨hi,rfl,F',c,rfl,ci⟩;have hq:SqL K H'' l (bs.map V.ref):=SqL.of (ci.ext.hh _ _ hl2)
 by_cases hlt:i < bs.length
 ·have hm':(bs.map V.ref)[i]?=some (.ref bs[i]):=by simp [hlt]
  refine .inr ⟨⟨_,_,hq,hm'⟩,fun x H2 y=>?_⟩;obtain ⟨rfl,y⟩:=y;have hx:x=.ref bs[i]:=by
   have:=y _ hq
   rw [hm'] at this;exact (Option.some.inj this).symm
  subst hx;unfold ax9 aJu;dsimp only;rw [if_pos rfl];have hki:i < (ajl (hp.map (·.2))).length:=by rw [<- hbl]; exact hlt
  have hkey:H2 bs[i]=some (.tup (((ajl (hp.map (·.2)))[i]).map V.int)):=by
   have:=hbs i hlt
   rw [getD_eq_getElem?_getD,getElem?_eq_getElem hki] at this;exact ci.ext.hh _ _ (s2 _ _ this)
  have hmem:(ajl (hp.map (·.2)))[i]∈hp.map (·.2):=MT.mem_keys.mp (getElem_mem hki);have hv:aqqs (dkv kvs) (((ajl (hp.map (·.2)))[i]).map Sum.inl)=some (.int (wtK hp (ajl (hp.map (·.2)))[i])):=by
   rw [aqab,tw.2,if_pos hmem]
  have hz:((ajl (hp.map (·.2)))[i]).length < 60:=by
   obtain ⟨p,hp1,e⟩:=Bf.mp hmem;rw [<- e]; exact hm p hp1
  have hdg:=aqsc.t (ci.ext.hh _ _ hd1) (k:=((ajl (hp.map (·.2)))[i]).map Sum.inl) (b:=bs[i]) (by rw [awd]; exact hkey);rw [hv] at hdg;refine ⟨_,rfl,_,rfl,d,_,rfl,hdg,_,rfl,bs[i],_,rfl,.inr (SqT.of hkey),fun q hq1=>⟨by show 2 <= Ag; rw [Au]; omega,fun p hp1=>?_⟩⟩;obtain ⟨e4,r4,n4⟩:=aqfn (K:=K) (w:=wtK hp (ajl (hp.map (·.2)))[i]) ci.ext.fh hq1 hp1;have ci2:CI K F0 H1 F' H2 [some (.ref bs[i]),some (.ref d)] [none,none] L (((aQy hp).take i).map aW0):=⟨ci.ext,re0 _ _,rfl,ci.fl,ci.hl⟩;obtain ⟨acc,a1,a2,a3⟩:=aqny ci2 hL e4 r4 n4;refine ⟨acc,a1,?_,_,Nat.sub_succ_lt_self _ _ hlt,hlt,rfl,upd F' p (.tup [.int (wtK hp (ajl (hp.map (·.2)))[i]),.ref q]),_,rfl,?_⟩
  ·rw [a2,length_map,length_take,Au]
   have:(aQy hp).length=bs.length:=hn.symm
   have hk2:(ajl (hp.map (·.2))).length <= hp.length:=by
    have:=MT.keys_len (hp.map (·.2))
    simpa using this
   omega
  ·have ht:(aQy hp).take (i + 1)=(aQy hp).take i++[(wtK hp (ajl (hp.map (·.2)))[i],(ajl (hp.map (·.2)))[i])]:=by
    rw [take_succ_eq_append_getElem (by omega)];simp [aQy]
   rw [ht,map_append];exact a3
 ·refine .inl ⟨⟨_,hq,by simp; omega⟩,?_⟩
  have e:(aQy hp).take i=aQy hp:=Ef (by omega);rw [e] at ci;obtain ⟨A,o1,o2⟩:=ci.own hL;exact k (.ref L) F' H'' A (e0.trans ci.ext) o1 fun b z=>⟨(o2 b z).1,e0.hh.free (o2 b z).2⟩
theorem aKx {K:Frag} {F0 H:Hp} {vs:List V} {ds:List D} {o:O} {Q:VK} (sm:aqs2 F0 H) (r:Reps K F0 vs ds) (hl:ds.length=1) (hg:aqi5 ds=some o) (k:∀ v F' H' A,Ext F0 H F' H'->Own K F' H' v o A->(∀ b,A b->F' b=none/\H b=none)->Q v H') :
  tSeq (tAsg tDNewT (ax9 1)) (tSeq (tFor (aqk8 K (aqqv 0)) (gTup K 2 (aY9 (ax9 2) (aY9 (ax9 3) gNil))) (tSeq (tAsg (tCB (fun xs H Q=>∃ p ys,xs=[.ref p]/\((SqL K H p ys/\∀ l,H l=none->Q (.ref l) (upd H l (.tup ys))) \/ (SqT K H p ys/\Q (.ref p) H))) (ako (aqqv 3) aqqw)) (ax9 4)) (sDPut (aqqv 1) (aqqv 4) (tOp (rI0 fun i j=>.int (i + j)) (aqi9 (aqqv 1) (aqqv 4) (tC (.int 0))) (aqqv 2)))))
   (tRet (aqbb (aqk8 K (tCB (fun xs H Q=>∃ (p:Addr) (kvs:List (List Int × V)),xs=[.ref p]/\H p=some (.dT (dkv kvs))/\kvs.length < 64/\∀ l (bs:List Addr),H l=none->bs.length=(ajl (kvs.map (·.1))).length->(∀ j (hj:j < bs.length),H bs[j]=some (.tup (((ajl (kvs.map (·.1))).getD j []).map V.int)))->Q (.ref l) (upd H l (.lst (bs.map V.ref)))) (ako (aqqv 1) aqqw)))
    (ax9 0) aJu (tTup (ako (tDGet (aqqv 1) (aqqv 0)) (ako (tCB (rLOf K) (ako (aqqv 0) aqqw)) aqqw))) [none,some 1]))) { nx:=fun _ H'=>Q .non H',rt:=Q } (vs.map some++D9 (5 - vs.length) none) H:=by
 cases r with
 | nil=>cases hl
 | cons r1 r=>cases r with
  | cons r2 r=>cases hl
  | nil =>
   obtain ⟨hp,hk,hg⟩:=bind_some (show (aqhr _).bind _=some o from hg);split at hg
   ·rename_i hc
    cases hg
    have:=aY0 hk
    subst this;cases r1 with
    | lst q t =>
     rename_i a vs0;have hmk:∀ p∈hp,p.2.length < 60:=fun p hp1=>by simpa using Gv.mp hc.2 p hp1
     have hvl:vs0.length=hp.length:=by rw [t.length]; simp
     refine fun d hd=>?_;refine ⟨_,rfl,a,rfl,⟨vs0,(aqqy (sm.trans (gd hd)) q).l⟩,aqa0 (xs:=vs0) (fun i σ' H'=>∃ c2 c3 c4 kvs,σ'=[some (.ref a),some (.ref d),c2,c3,c4]/\aqs2 H H'/\H' d=some (.dT (dkv kvs))/\TWt kvs (hp.take i))
      ⟨none,none,none,[],rfl,gd hd,ac,by simpa using aqi1⟩ (fun i σ' H' _ ⟨_,_,_,_,_,s1,_⟩=>(aqqy (sm.trans s1) q).l) (fun i x σ' H' hx hI=>?_) fun σ' H' hI=>?_⟩
     ·obtain ⟨c2,c3,c4,kvs,rfl,s1,hd1,tw⟩:=hI
      obtain ⟨dd,hdd,rp⟩:=t.get hx;rw [getElem?_map] at hdd;obtain ⟨p,hpi,rfl⟩:=map_some hdd;obtain ⟨t',m,rfl,ht,hm⟩:=aqfb rp;refine ⟨t',[.int p.1,.ref m],rfl,seqT (sm.trans s1) ht,rfl,_,_,rfl,_,_,rfl,rfl,?_⟩;refine ⟨_,rfl,m,_,rfl,.inl ⟨(aqqy (sm.trans s1) hm).l,fun kt hkt=>?_⟩⟩;have hdk:d ≠ kt:=ae hd1 hkt;have hd2:upd H' kt (.tup (p.2.map V.int)) d=some (.dT (dkv kvs)):=by rw [ah hdk]; exact hd1
      have hk2:upd H' kt (.tup (p.2.map V.int)) kt=some (.tup ((p.2.map Sum.inl:List Key).map kV)):=by rw [awd]; exact ac
      have hdg:=aqsc.t hd2 hk2;have hlen:(dkv kvs).length < Ag:=by
       have:=tw.1
       simp at this;simp [dkv,Au]; omega
      have hgd:(aqqs (dkv kvs) (p.2.map Sum.inl)).getD (.int 0)=.int (wtK (hp.take i) p.2):=by rw [aqab]; exact aqi2 tw p.2
      refine ⟨_,rfl,d,rfl,.inr ⟨_,.inl hd2⟩,_,rfl,_,hdg,_,rfl,_,_,hgd,rfl,_,rfl,_,rfl,d,_,rfl,DPut.t hd2 hk2 hlen,?_⟩;refine ⟨_,_,_,aqr3 kvs p.2 (.int (wtK (hp.take i) p.2 + p.1)),rfl,fun b u hb=>?_,by rw [ac,aqkv],?_⟩
      ·rw [ah (ae hb hd),ah (ae (s1 _ _ hb) hkt)]
       exact s1 _ _ hb
      ·have e:hp.take (i + 1)=hp.take i++[(p.1,p.2)]:=by
        obtain ⟨hi,e⟩:=Ai.mp hpi;rw [take_succ_eq_append_getElem hi,e]
       rw [e];exact aqi0 tw p.1 p.2
     ·obtain ⟨c2,c3,c4,kvs,rfl,s1,hd1,tw⟩:=hI
      rw [hvl,take_length] at tw;exact aqba sm s1 hd1 tw hc.1 hmk k
   ·cases hg
section
variable {P:Aj} {w:World} {K:Frag} {mg:Str->Option Value} {base:Heap} {N:List Str} {qual:Str} {scope:Scope} {f:Addr} {cd:Value} {A:Around} {outer:List Env} {s:Shared} {H:Hp} {E:XK} {C:Addr}
end
section
variable {X:Cx} {pins p2:List (Addr × Obj)} {R:Addr->Hp->Prop} {σ:L2.St} {H:Hp} {s:Shared}
structure ExcS (K:Frag) (C C':Addr):Prop where
 ty:Dc K (.ref C')=some (.type "type")
 cl:(C7 K C').isSome=true
 be:As K C' (.type "BaseException")=some true
 su:As K C (.ref C')=some false
theorem aqa4 {M:Model} {A:Around} {E:Value->Shared->Prop} {K:Frag} {s:Shared} {a C C':Addr} {oe:Obj} {Q:Bool->Shared->Prop} (KX:K.In s.heap) (Z:ExcS K C C') (hx:s.heap.get? a=some oe) (hc:oe.cls=.ref C) (hq:Q false s) :
  wpAny M A (Mp (.ref a) (.ref C')) Q E s:=by
 obtain ⟨h,g,d,t,os⟩:=s;have L0:PySem.W.Looks M h (Kq (.ref a)) (.ref C):=hc ▸ (Ci hx).andThen .now;have L1:=Ld (M:=M) KX Z.ty;have L2:=C1 (M:=M) KX Z.be;have L3:=C1 (M:=M) KX Z.su;have L4:=akc (M:=M) KX Z.cl;have L5:PySem.W.Looks M h (isSubtype (.type "type") (.type "tuple")) false:=.of_pure tc_notTuple;unfold Mp J0 isExcClass
 repeat lk
 exact hq
def PH (X:Cx) (hs:List Ep) (C:Addr) (ts:TS):Prop:=∀ (pins:List (Addr × Obj)) (σ:L2.St) (H:Hp) (D:Ends) (s:Shared) (a t:Addr) (B:Heap),X.Ok->Hu B X.stack a (.ref C) (.ref t) s.heap ->
 (∀ h6,Hu B X.stack a (.ref C) (.ref t) h6->s.heap.UpToSlots h6->∃ oe,oe.cls=.ref C/\h6.get? a=some oe/\L2.Inv X pins σ H { s with heap:=h6 }/\L2.Inv (maX X a oe) pins σ H { s with heap:=h6 })->ts D σ H ->
 wpAny (model X.prog X.w) X.A (handleBy (.ref a) X.env hs) (SP X pins D) X.xe s
theorem aZo {C C':Addr} {y:Str} {np hpos:Pos} {b0:Stmt} {suite:List Stmt} {aqr2:List Ep} {ts:TS} (Z:ExcH X.K C C') (hgy:Gl X y) (hmy:X.mg y=some (.ref C')) (hs:∀ a oe,PSs (maX X a oe) (b0 :: suite) ts) (hdy:(y == ("__debug__":Str))=false:=by decide) :
  PH X (.ExceptHandler (some (.Name y np)) none (b0 :: suite) hpos :: aqr2) C ts:=by
 intro pins σ H D s a t B ok fl ld q;obtain ⟨oe,hc,hoe,J,Jm⟩:=ld s.heap fl (Eb fun _ _ e=>e);refine Hm (Gq (az5 (X:=maX X a oe) Jm hgy hmy ?_ hdy)) (by intro q; cases q);refine awg Jm.kIn Z hoe hc ?_;refine codeAny_handlers_suite ?_;refine lands_againW fl fun h6 fl6 sm6=>?_;obtain ⟨oe6,hc6,hoe6,J6,Jm6⟩:=ld h6 fl6 sm6;exact wpAny_noRaise (A9 (hs a oe6 pins _ σ H D Jm6 q) (fun fl s4 w=>ma_sp ok w) fun _ _ z=>z)
theorem ak3 {C C':Addr} {y:Str} {np hpos:Pos} {b0:Stmt} {suite:List Stmt} {aqr2:List Ep} {ts:TS} (Z:ExcS X.K C C') (hgy:Gl X y) (hmy:X.mg y=some (.ref C')) (hr:PH X aqr2 C ts) (hdy:(y == ("__debug__":Str))=false:=by decide) :
  PH X (.ExceptHandler (some (.Name y np)) none (b0 :: suite) hpos :: aqr2) C ts:=by
 intro pins σ H D s a t B ok fl ld q;obtain ⟨oe,hc,hoe,J,Jm⟩:=ld s.heap fl (Eb fun _ _ e=>e);refine Hm (Gq (az5 (X:=maX X a oe) Jm hgy hmy ?_ hdy)) (by intro q; cases q);refine aqa4 Jm.kIn Z hoe hc ?_;exact hr pins σ H D s a t B ok fl ld q
end
section
variable {X:Cx}
theorem aV0 (x:Str) (h:1 <= x.length):(Txt.slice x (some 1) none)=⟨(x.cps.toList.drop 1).toArray⟩:=by
 unfold Txt.slice;have e:Hv (some 1) none 1 x.length=Hv (some ((1:Nat):Int)) (some (x.length:Int)) 1 x.length:=by
  rw [StrLaws.sliceIdx_none_hi]; rfl
 rw [e];have e2:=StrLaws.strSliceIndices_plain h (le_refl x.length);have e3:=StrLaws.sliced_plain x h (le_refl x.length);rw [if_neg (by rw [e2]; simp; omega),e3];congr 2;rw [Ef (by simp [Str.length])]
def rSl1:V->Option Int->Option Int->Hp->VK->Prop:=fun x lo hi H Q=>∃ z:Str,x=.str z/\lo=some 1/\hi=none/\1 <= z.length/\z.length <= Ag/\Q (.str ⟨(z.cps.toList.drop 1).toArray⟩) H
theorem aqic:SlR X rSl1:=by
 intro pins s σ H x v vl vu lo hi sl Q I rx hs pl pu h;obtain ⟨z,rfl,rfl,rfl,h1,hz,q⟩:=h;obtain ⟨t,rfl⟩:=rx;cases pl with
 | int i ti =>
  cases pu with
  | none =>
   refine ⟨"str",_,slot_str_getitem.lookup,Md s z t,?_⟩;have hs':s.heap.IsSlice sl (some (1,ti)) none none:=hs;refine wpAny_getItem_str_slice hs' rfl (post_val_or_str ⟨le_trans (Txt.slice_le z (some 1) none) hz,fun t' k=>?_⟩);refine ⟨.str ⟨(z.cps.toList.drop 1).toArray⟩,H,I.tok k,⟨t',?_⟩,q⟩;rw [<- aV0 z h1];rfl
theorem aqg8:MtR X "str.index" (fun x vs H Q=>∃ z y i aqr2,x=.str z/\vs=[.str y]/\Jt z y 0 z.length 1=i :: aqr2/\Q (.int (i:Nat)) H):=by
 intro pins s σ H x vs v us Q I rx rv h;obtain ⟨z,y,i,aqr2,rfl,rfl,ho,q⟩:=h;obtain ⟨t,rfl⟩:=rx;obtain ⟨u,rfl,ru⟩:=rv.one;obtain ⟨t2,rfl⟩:=ru;refine call_gives F.slot_str_index (Md s z t) F.entry_str_index (F.args_str_index_2 _ _) (gives_str_index z y t t2 i aqr2 ho) ?_;exact ⟨.int i,H,I.tok _,⟨_,rfl⟩,q⟩
def aj4:Str:="abcdefghijklmnopqrstuvwxyz"
theorem aJg:∀ i,i < 26->∃ aqr2,Jt aj4 ⟨#[97 + i]⟩ 0 aj4.length 1=i :: aqr2:=by
 intro i hi;refine ⟨[],?_⟩
 revert i
 decide +kernel
end
section
variable {X:Cx} {pins:List (Addr × Obj)} {σ:L2.St} {H:Hp} {s:Shared}
end
def gTupL (K:Frag) (n:Nat) (t:TGs):TG:=fun v σ H Q=>∃ a xs,v=.ref a/\SqL K H a xs/\xs.length=n/\t xs σ H Q
theorem aqiu {X:Cx} {pos:Pos} {es:List Expr} {k:Nat} {t:TGs} {n:Nat} (hc:X.calm=true) (h:PGs X es t)
  (hn:(Bk es X.env).length=n:=by rfl) (hst:(Bk es X.env).findIdx? (·.1)=none:=by rfl):PG X (.Tuple es k pos) (gTupL X.K n t):=by
 intro pins s σ H v u Q I r hw;obtain ⟨a,xs,e1,hq,hl,hw⟩:=hw;subst e1;cases r;obtain ⟨its,rv,ht,hz⟩:=I.list hq;rw [assign_Tuple];refine Ac (Jd ?_);unfold unpack;rw [show (Bk es X.env).length=its.toArray.size by simp [hn,<- hl,rv.length],hst];refine Ac (A5 (PySem.W.kun_itemsOf (I.ok.hd hc) ht.isList fun h' hx=>?_));have I1:L2.Inv X pins σ H { s with heap:=h' }:=I.kept (t':=s.toks) fun b o e=>hx b o (ne_of_lt (Af e)) e;exact h pins _ σ H xs _ Q I1 (by simpa using rv) hw
theorem aW3 {X:Cx} {hs:List Ep} {C:Addr} {ts ts':TS} (h:PH X hs C ts) (k:∀ D σ H,ts' D σ H->ts D σ H):PH X hs C ts':=fun pins σ H D s a t B ok fl ld q=>h pins σ H D s a t B ok fl ld (k _ _ _ q)
end DL
namespace SortW
open PySem PySem.W PyProof.Rows DL
section
variable {prog:Aj} {w:World} {A:Around} {E:Value->Shared->Prop} {s:Shared} {d it:Addr} {es:Array DictEntry} {ep i:Nat} {ok ov:Value}
theorem aY3 {Q:Option Value->Shared->Prop} (hit:Ej s.heap it d i es.size ep ok ov)
  (h:wpAny (model prog w) A.in1 (Builtin.«dict_itemiterator.__next__» ⟨[.ref it],[]⟩) (fun fin s'=>∃ v,fin=.done (.ret v)/\Q (some v) s') (fun e s'=>s'.TypeIs e "StopIteration"/\Q none s') s):wpAny (model prog w) A (D8 (.ref it)) Q E s:=by
 have hT:s.TypeIs (.ref it) "dict_itemiterator":=⟨_,hit,rfl⟩;unfold D8;refine Ac (En (Bi (name:=C3 "__next__") hT Bv (Ay Bv hT PySem.F.entry_dict_itemiterator_next ?_ (PySem.F.args_dict_itemiterator_next_1 _))));refine A9 h (fun fin s' hq=>?_) (fun e s' hq=>?_)
 ·obtain ⟨v,rfl,hq⟩:=hq
  exact ⟨v,rfl,Ad hq⟩
 ·obtain ⟨t,hq⟩:=hq
  refine Ac (Fb (T:="StopIteration") (b:=true) t av6 ?_);exact Ad hq
theorem aqfm {k v:Value} {Q:Value->Shared->Prop} (hit:Ej s.heap it d i es.size ep ok ov)
  (hQ:∀ h',Lz h' it d i es.size ep k v s.heap.objs.size->h'.get? s.heap.objs.size=some { cls:=.type "tuple",data:=.seq #[k,v] }->h'.objs.size=s.heap.objs.size + 1->(∀ b o,b ≠ it->s.heap.get? b=some o->h'.get? b=some o)->Q (.ref s.heap.objs.size) { s with heap:=h' }) :
  wpAny (model prog w) A (Dz (.ref it) 6 k v) Q E s:=by
 obtain ⟨hp,g,dr,tk,os⟩:=s;have hil:it ≠ hp.objs.size:=ne_of_lt (Af hit);unfold Dz;refine Ac (Gf ?_);have he:Ej (hp.push { cls:=.type "tuple",data:=.seq #[k,v] }) it d i es.size ep ok ov:=Ae _ hit;have ht:(hp.push { cls:=.type "tuple",data:=.seq #[k,v] }).get? hp.objs.size=some { cls:=.type "tuple",data:=.seq #[k,v] }:=Ah _ rfl;have hz:(hp.push { cls:=.type "tuple",data:=.seq #[k,v] }).objs.size=hp.objs.size + 1:=Bu _ _;have hk:∀ b o,b ≠ it->hp.get? b=some o->(hp.push { cls:=.type "tuple",data:=.seq #[k,v] }).get? b=some o:=fun b o _ e=>Ae _ e;generalize hp.push { cls:=.type "tuple",data:=.seq #[k,v] }=h2 at he ht hz hk;refine (?_:wpAny _ _ (Fh (.ref it) >>= _) _ _ ⟨h2,g,dr,tk,os⟩);refine Ac ?_;unfold Fh;refine Ac (Dv he rfl (x:=.none) rfl (Ad ?_));simp only [if_true];refine Ac (Dv he rfl (x:=ok) rfl (Ac (Dv he rfl (x:=ov) rfl ?_)));refine Ac (Ek he (by simp) fun h3 he3 hs3=>?_);refine Ac (Ek (show Ej h3 it d i es.size ep k ov from he3) (by simp) fun h4 he4 hs4=>?_);refine Ac (Ek (show Ej h4 it d i es.size ep k v from he4) (by simp) fun h5 he5 hs5=>?_);refine Ac (Ek (show Lz h5 it d i es.size ep k v hp.objs.size from he5) (by simp) fun h6 he6 hs6=>?_);have all:∀ b o,b ≠ it->h2.get? b=some o->h6.get? b=some o:=fun b o hb e=>(show Heap.SameBut it h5 h6 from hs6).extBut b o hb ((show Heap.SameBut it h4 h5 from hs5).extBut b o hb ((show Heap.SameBut it h3 h4 from hs4).extBut b o hb ((show Heap.SameBut it h2 h3 from hs3).extBut b o hb e)));refine Ac (Le (Ad (hQ h6 he6 (all _ _ hil.symm ht) ?_ fun b o hb e=>all b o hb (hk b o hb e))));rw [(show Heap.SameBut it h5 h6 from hs6).1,(show Heap.SameBut it h4 h5 from hs5).1,(show Heap.SameBut it h3 h4 from hs4).1,(show Heap.SameBut it h2 h3 from hs3).1,hz]
theorem aY2 {Q:Option Value->Shared->Prop} (hit:Ej s.heap it d i es.size ep ok ov) (hm:aqs5 s.heap d es ep) (hi:i < es.size)
  (hQ:∀ h',Lz h' it d (i + 1) es.size ep es[i].key es[i].val s.heap.objs.size->h'.get? s.heap.objs.size=some { cls:=.type "tuple",data:=.seq #[es[i].key,es[i].val] }->h'.objs.size=s.heap.objs.size + 1 ->
   (∀ b o,b ≠ it->s.heap.get? b=some o->h'.get? b=some o)->Q (some (.ref s.heap.objs.size)) { s with heap:=h' }):wpAny (model prog w) A (D8 (.ref it)) Q E s:=by
 refine aY3 hit ?_;obtain ⟨hp,g,dr,tk,os⟩:=s;obtain ⟨od,hod,hcd,hdd⟩:=hm;have hT:Gz ⟨hp,g,dr,tk,os⟩ (.ref it) "dict_itemiterator":=⟨_,hit,rfl⟩;refine Ac (Ad (Ac (Ac ?_)));refine Ac (Cj hT (Ad ?_));refine Ac (Dd hit rfl ?_);have own:Bx "dict_itemiterator"=true:=by decide
 simp only [own,if_true];refine (?_:wpAny _ _ (if (Value.ref d == Value.none)=true then _ else _) _ _ _);rw [if_neg (show ¬ ((Value.ref d == Value.none)=true) from Al)];refine Ac (Ad (Ac (Bl hod hdd ?_)));rw [if_neg (by simp)];refine Ac (Ad (Ac (El hod hdd ?_)));rw [if_neg (by simp)];refine Ad ?_;simp only [show ¬ ((i:Int) < 0) from by omega,if_false,A8,Dj hi];refine Ac (Ac (Cj hT (Ad ?_)));refine Ac (Gi hT ?_);refine (?_:wpAny _ _ (N7 (.ref it) 3 (Bz ((i:Int) + 1)) >>= _) _ _ ⟨hp,g,dr,tk,os⟩);refine Ac (Ek hit (by simp) fun h1 he1 hs1=>?_);have hs1':Heap.SameBut it hp h1:=hs1;have he1':Ej h1 it d (i + 1) es.size ep ok ov:=by
  have e:((i + 1:Nat):Int)=(i:Int) + 1:=by omega
  unfold Ej; rw [e]; simpa [Bz] using he1
 have hT1:Gz ⟨h1,g,dr,tk,os⟩ (.ref it) "dict_itemiterator":=⟨_,he1',rfl⟩;refine Ac (A5 (Ac (Gi hT1 (Ac (Gi hT1 ?_)))));refine (?_:wpAny _ _ (Dz (.ref it) 6 es[i].key es[i].val) _ _ ⟨h1,g,dr,tk,os⟩);have hz1:h1.objs.size=hp.objs.size:=hs1'.1;refine aqfm he1' fun h' a1 a2 a3 a4=>Ad ⟨_,rfl,?_⟩;have e1:(Shared.mk h1 g dr tk os).heap.objs.size=hp.objs.size:=hz1;rw [e1] at a1 a2 a3 ⊢;exact hQ h' a1 a2 a3 fun b o hb e=>a4 b o hb (hs1'.extBut b o hb e)
theorem aqcf {Q:Option Value->Shared->Prop} (hh:A.handled=none) (hit:Ej s.heap it d i es.size ep ok ov) (hm:aqs5 s.heap d es ep) (hi:es.size <= i)
  (hQ:∀ h',Heap.ExtBut it s.heap h'->Q none { s with heap:=h' }):wpAny (model prog w) A (D8 (.ref it)) Q E s:=by
 refine aY3 hit ?_;obtain ⟨od,hod,hcd,hdd⟩:=hm;have hT:s.TypeIs (.ref it) "dict_itemiterator":=⟨_,hit,rfl⟩;refine Ac (Ad (Ac (Ac ?_)));refine Ac (Cj hT (Ad ?_));refine Ac (Dd hit rfl ?_);have own:Bx "dict_itemiterator"=true:=by decide
 simp only [own,if_true];refine (?_:wpAny _ _ (if (Value.ref d == Value.none)=true then _ else _) _ _ s);rw [if_neg (show ¬ ((Value.ref d == Value.none)=true) from Al)];refine Ac (Ad (Ac (Bl hod hdd ?_)));rw [if_neg (by simp)];refine Ac (Ad (Ac (El hod hdd ?_)));rw [if_neg (by simp)];refine Ad ?_;simp only [show ¬ ((i:Int) < 0) from by omega,if_false,A8,getElem?_eq_none hi];refine Ac (Ac (Cj hT (Ad ?_)));refine (?_:wpAny _ _ (N7 (.ref it) 2 .none >>= _) _ _ s);refine Ac (B8 hit rfl (by simp) ?_);refine (?_:wpAny _ _ (N4 (.type "StopIteration") [] >>= _) _ _ _);simp only [N4,newTuple];refine Ac (Ac (A6 ?_ (by size_fits)));refine Ac (m:=E5 _ _) (Ku (a:=Value.none) (by first | rfl | (simp only [E5]; rfl)) ?_);refine A6 ?_ (by size_fits);simp only [N5];refine Ac (Lx ?_);rw [show A.in1.handled=none from hh];refine Ac (Ad (Nq ⟨⟨_,Ah _ rfl,rfl⟩,?_⟩));exact hQ _ (((Ca ..).extBut.push _).push _)
end
end SortW
namespace DL
open PySem PySem.Spec PyProof.Rows L2 SortW
section
variable {X:Cx} {pins:List (Addr × Obj)} {σ:L2.St} {H:Hp} {s:Shared}
theorem Inv.freezeT (I:L2.Inv X pins σ H s) {d:Addr} {kvs:List (List Key × V)} (e:H d=some (.dT kvs)):∃ o es ep,s.heap.get? d=some o/\o.ExactDict/\o.data=.dict es ep/\es.size=kvs.length/\(d == By)=false/\L2.Inv X pins σ (upd H d (.frz o (.dT kvs))) s:=by
 obtain ⟨z1,z2,xs,r,o,es,ep,ho,hc,hd,he,hn⟩:=(show axu X.prog X.w H s.heap d (.dT kvs) from I.hok d _ e);refine ⟨o,es,ep,ho,hc,hd,?_,z2,?_⟩
 ·have:=congrArg List.length he
  rw [length_map] at this;rw [<- length_toList,this,r.length]
 ·have nt:∀ b ys,H b=some (.tup ys)->b ≠ d:=fun b ys q=>az1 q e (by intro z; cases z)
  exact I.write (x:=d) (e:=d) (h':=s.heap) (t':=s.toks) (by rw [e]; exact True.intro) (.inl rfl) (fun b q hb z=>z) ⟨o,ho⟩ ⟨ho,z1,z2,xs,Paired.mapP r fun p q z=>⟨z.1,by rw [ah (nt _ _ z.2.1)]; exact z.2.1,z.2.2⟩,o,es,ep,ho,hc,hd,he,hn⟩
theorem Inv.thaw (I:L2.Inv X pins σ H s) {d:Addr} {o:Obj} {u:HO} (e:H d=some (.frz o u)) (h0:∀ o' u',X.H₀ d ≠ some (.frz o' u')):L2.Inv X pins σ (upd H d u) s:=by
 have nn:∀ b,H b=none->b ≠ d:=fun b n z=>by rw [z,e] at n; cases n
 have nt:∀ b ys,H b=some (.tup ys)->b ≠ d:=fun b ys q=>az1 q e (by intro z; cases z);have no:∀ b y,H b=some (.own y)->b ≠ d:=fun b y q=>az1 q e (by intro z; cases z);refine ⟨I.ok,I.os,I.bare,⟨I.base.keep,I.base.slot,fun b ob q n hx=>?_,I.base.there,fun b xs q=>?_,fun b ob w q=>?_,fun b ps q=>?_⟩,I.loc,I.cell,by rw [ah (nn _ I.free)]; exact I.free,fun x c q=>by rw [ah (nn _ (I.freeC x c q))]; exact I.freeC x c q,fun p hp=>?_,fun b w q=>?_,I.len⟩
 ·have z:=I.base.free b ob q n hx
  rw [ah (nn _ z)]; exact z
 ·have z:=I.base.tups b xs q
  rw [ah (nt _ _ z)]; exact z
 ·have z:=I.base.frzs b ob w q
  rw [ah (by rintro rfl; exact h0 _ _ q)]; exact z
 ·obtain ⟨more,z⟩:=I.base.tbls b ps q
  exact ⟨more,by rw [ah (az1 z e (by intro z; cases z))]; exact z⟩
 ·obtain ⟨a1,a2,a3⟩:=I.pin p hp
  exact ⟨a1,by rw [ah (nn _ a2)]; exact a2,a3⟩
 ·by_cases hb:b=d
  ·subst hb
   rw [ac] at q;cases q;obtain ⟨_,z⟩:=(show axu X.prog X.w H s.heap b (.frz o u) from I.hok b _ e);exact z.stay (fun _ _ _ z=>z) (fun c z=>by rw [ah (no _ _ z)]; exact z) fun c xs z=>by rw [ah (nt _ _ z)]; exact z
  ·rw [ah hb] at q
   exact (I.hok b w q).stay (fun _ _ _ z=>z) (fun c z=>by rw [ah (no _ _ z)]; exact z) fun c xs z=>by rw [ah (nt _ _ z)]; exact z
end
def tThaw (H₀:Hp) (t:TE):TE:=fun σ H Q=>t σ H fun v H1=>∃ d o u,H1 d=some (.frz o u)/\(∀ o' u',H₀ d ≠ some (.frz o' u'))/\Q v (upd H1 d u)
theorem aqiv {X:Cx} {e:Expr} {t:TE} (h:PE X e t):PE X e (tThaw X.H₀ t):=by
 intro pins s σ H Q I q;refine thn (h pins s σ H _ I q) fun v s1 hQ=>?_;obtain ⟨x,H1,I1,r1,d,o,u,e1,h0,q1⟩:=hQ;exact ⟨x,_,Inv.thaw I1 e1 h0,r1,q1⟩
def ItI (d:Addr) (o:Obj) (kvs:List (List Key × V)):It :=
 ⟨fun i H=>H d=some (.frz o (.dT kvs))/\i < kvs.length,fun i H x H'=>∃ T k p,x=.ref T/\H T=none/\kvs[i]?=some p/\H k=some (.tup (p.1.map kV))/\H'=upd H T (.tup [.ref k,p.2]),fun i H=>H d=some (.frz o (.dT kvs))/\kvs.length <= i⟩
theorem aQ8 {α β:Type} {R:α->β->Prop}:∀ {xs:List α} {ys:List β},Paired R xs ys->∀ {i:Nat} {x:α},xs[i]?=some x->∃ y,ys[i]?=some y/\R x y
 | _,_,.cons h t,0,x,e=>by simp at e; subst e; exact ⟨_,rfl,h⟩
 | _,_,.cons h t,i + 1,x,e=>by
  obtain ⟨y,hy,r⟩:=aQ8 t (i:=i) (x:=x) (by simpa using e);exact ⟨y,by simpa using hy,r⟩
theorem aKv {P:Aj} {w:World} {K:Frag} {elts:List Expr} {kk:Nat} {tp:Pos} (d it:Addr) (o:Obj) (kvs:List (List Key × V)) (ep:Nat) (es:Array DictEntry) (hd:o.data=.dict es ep) (hz:es.size=kvs.length) :
  Turn P w K (.Tuple elts kk tp) (ItI d o kvs) [it] it (fun i h=>∃ ok ov,Ej h it d i es.size ep ok ov) where
 mem:=by simp
 obj:=fun i h st b hb=>by
  obtain ⟨ok,ov,st⟩:=st;have e:b=it:=by simpa using hb
  subst e;exact ⟨_,st,fun v z=>by
   have z':Data.fields _=Data.cell v:=z;cases z'⟩
 keep:=fun i h h' st k=>by
  obtain ⟨ok,ov,st⟩:=st;exact ⟨ok,ov,k it (by simp) _ st⟩
 item:=by
  intro X hP hw hK hc i pins s σ H E I hf st hg;subst hP hw hK;obtain ⟨ok,ov,st⟩:=st;obtain ⟨hg,hi⟩:=hg;obtain ⟨ho,z1,z2,xs,r,o',es',ep',ho',hx,hxd,hxs,hn⟩:=(show axu X.prog X.w H s.heap d (.frz o (.dT kvs)) from I.hok d _ hg);rw [ho] at ho';cases ho';rw [hd] at hxd;cases hxd;have hi':i < es.size:=by omega
  obtain ⟨y,hy,e1,e2,e3⟩:=aQ8 r (i:=i) (x:=kvs[i]) (by simp [hi]);have he:es[i]=entryOfKey (Fu (aqh X.prog X.w)) y:=by
   have h1:es.toList[i]?=some es[i]:=by simp [hi']
   rw [hxs,getElem?_map,hy] at h1;exact (Option.some.inj h1).symm
  have hit:it < s.heap.objs.size:=Af st;refine aY2 st ⟨o,ho,hx,hd⟩ hi' fun h' a1 a2 a3 a4=>⟨_,rfl,?_⟩;rw [he] at a1 a2;refine wpAny_letOwnedTupleGo_items (s:={ s with heap:=h' }) a1 fun h'' b1 b2=>?_;have nT:s.heap.objs.size ≠ it:=ne_of_gt hit;have kall:∀ b u,b ∉ [it]->s.heap.get? b=some u->h''.get? b=some u:=fun b u hb e=>b2.extBut b u (by simpa using hb) (a4 b u (by simpa using hb) e);have new:axu X.prog X.w (upd H s.heap.objs.size (.tup [.ref y.2.1,kvs[i].2])) h'' s.heap.objs.size (.tup [.ref y.2.1,kvs[i].2]) :=
   ⟨by simp [Au],[.ref y.2.1,y.2.2],.cons rfl (.cons e3 .nil),_,b2.extBut _ _ nT a2,rfl,0,rfl⟩
  have I2:=DL.Inv.turnedT I (h':=h'') (t':=s.toks) kall hf (le_refl _) new;refine ⟨.ref s.heap.objs.size,_,I2,rfl,⟨_,y.2.1,kvs[i],rfl,I.hok.fresh (le_refl _),by simp [hi],e2,rfl⟩,⟨_,_,b1⟩,fun b hb=>?_⟩;have hb':b=it:=by simpa using hb
  subst hb';rw [ah nT.symm];exact (hf b (by simp)).1
 done:=by
  intro X hP hw hK hc i pins s σ H E I hf st hg;subst hP hw hK;obtain ⟨ok,ov,st⟩:=st;obtain ⟨hg,hi⟩:=hg;obtain ⟨f0,f1,f2,f3,f4,f5⟩:=hf it (by simp);obtain ⟨ho,z1,z2,xs,r,o',es',ep',ho',hx,hxd,hxs,hn⟩:=(show axu X.prog X.w H s.heap d (.frz o (.dT kvs)) from I.hok d _ hg);exact aqcf (I.ok.hd hc) st ⟨o,ho,by rw [ho] at ho'; cases ho'; exact hx,hd⟩ (by omega) fun h' eb=>⟨rfl,I.turned (t':=s.toks) (fun b o hb e=>eb b o hb e) f0 f1 f3 f4 f5⟩
 self:=fun A i s Q E st h=>by
  obtain ⟨ok,ov,st⟩:=st;have hT:s.TypeIs (.ref it) "dict_itemiterator":=⟨_,st,rfl⟩;have hen:N3 table "dict_itemiterator.__iter__"=some Builtin.«dict_keyiterator.__iter__»:=Kv (id':="dict_keyiterator.__iter__") (by kernel_rfl) rfl (by decide +kernel) (by kernel_rfl);refine Ew hT Fi (Ay Fi hT hen ?_ (PySem.F.args_dict_itemiterator_iter_1 _));refine (?_:wpAny _ _ (ret (.ref it)) _ _ s);exact Ad ⟨_,rfl,"dict_itemiterator",_,hT,Bv.lookup,h⟩
theorem av9 {κ:Type} [DecidableEq κ] {β:Type}:∀ {xs:List (κ × β)},(xs.map (·.1)).Nodup->∀ {j:Nat} {k:κ} {p:β},xs[j]?=some (k,p)->xs.eraseIdx j=xs.filter fun x=>decide (x.1 ≠ k)
 | [],_,j,k,p,h=>by simp at h
 | x :: xs,hn,0,k,p,h=>by
  simp at h;subst h;rw [map_cons,nodup_cons] at hn;simp only [List.eraseIdx_zero,List.tail_cons];rw [filter_cons_of_neg (by simp)];refine (D7.mpr fun y hy=>?_).symm
  have:y.1∈xs.map (·.1):=Bf.mpr ⟨y,hy,rfl⟩
  simp
  rintro rfl;exact hn.1 this
 | x :: xs,hn,j + 1,k,p,h=>by
  rw [map_cons,nodup_cons] at hn;have hj:xs[j]?=some (k,p):=by simpa using h
  have hk:k∈xs.map (·.1):=Bf.mpr ⟨(k,p),mem_of_getElem? hj,rfl⟩;have ne:x.1 ≠ k:=by rintro e; rw [e] at hn; exact hn.1 hk
  rw [Fw,av9 hn.2 hj,Ec (by simpa using ne)]
theorem aZ1 {α β:Type} (f:α->β):∀ (xs:List α) (j:Nat),(xs.map f).eraseIdx j=(xs.eraseIdx j).map f
 | [],_=>by simp
 | x :: xs,0=>by simp
 | x :: xs,j + 1=>by simp only [map_cons,Fw,aZ1 f xs j]
theorem KT.drop {H:Hp} {kvs:List (List Key × V)} {xs:List (List Key × Addr × Value)} (r:KT H kvs xs) (k:List Key):KT H (aqcp kvs k) (xs.filter fun x=>decide (x.1 ≠ k)):=by
 unfold aqcp
 induction r with
 | nil=>exact .nil
 | @cons p q ps qs h t ih =>
  by_cases e:p.1=k
  ·rw [filter_cons_of_neg (by simp [e]),filter_cons_of_neg (by simp [<- h.1,e])]; exact ih
  ·rw [Ec (by simp [e]),Ec (by simp [<- h.1,e])]; exact .cons h ih
section
variable {prog:Aj} {w:World} {κ:Type} [DecidableEq κ] {knd:HeapKind prog w κ} {A:Around} {E:Value->Shared->Prop} {s:Shared} {d a:Addr} {xs:List (κ × Addr × Value)} {k:κ}
theorem avm {Q:Option DictEntry->Shared->Prop} (hu:knd.room A) (hkey:knd.is s.heap k a) (hm:s.heap.DictOfH knd d xs) (hsz:xs.length <= Ag)
  (hnone:atKey xs k=none->Q none { s with toks:=s.toks + knd.draws k })
  (hsome:∀ p h',atKey xs k=some p->h'.DictOfH knd d (xs.filter fun x=>decide (x.1 ≠ k))->Heap.SameBut d s.heap h'->Q (some (entryOfKey knd (k,p))) { s with heap:=h',toks:=s.toks + knd.draws k }) :
  wpAny (model prog w) A (Lf d (.ref a)) Q E s:=by
 obtain ⟨o,es,ep,ho,hc,hd,he,his,hn⟩:=hm;unfold Lf;refine A5 ?_;refine Ac (knd.pyHash hu hkey (Ac (wpAny_dictFind_heap (s:={ s with toks:=s.toks + knd.draws k }) hu hkey ho hd he his hn ?_ ?_)))
 ·intro hno
  exact Ad (hnone (atKey_none_of_get hno))
 ·intro j p hj
  refine Ac (Bl (s:={ s with toks:=s.toks + knd.draws k }) ho hd ?_);rw [entry_at he j,hj];have hz:es.size <= Ag:=by rw [size_of_entries he]; exact hsz
  have hjl:j < es.size:=by
   rw [size_of_entries he];exact (Ai.mp hj).1
  refine Ac (wpAny_updateDictKeys (hz:=hz) (s:={ s with toks:=s.toks + knd.draws k }) ho hd (Ad (hsome p _ (atKey_of_get hn hj)
   ⟨_,_,ep + 1,Bc _ ho (Obj.isFreed_of_dict (Lg hd _)),hc.mapDictKeys _,Lg hd _,?_,fun x hx=>?_,?_⟩ (Ca ..))))
  ·rw [Array.toList_eraseIdxIfInBounds,he,<- av9 hn hj,aZ1]
  ·exact knd.keeps (his x (C0.mp hx).1) ho hd (Ca ..)
  ·exact (List.Sublist.map _ Hn).nodup hn
end
section
variable {X:Cx} {pins:List (Addr × Obj)} {σ:L2.St} {H:Hp} {s:Shared} {a b:Addr} {kvs:List (List Key × V)} {k:List Key} {A:Around} {E:Value->Shared->Prop}
theorem aqns {more:List Value} {Q:Value->Shared->Prop} (hu:A.units + 1 < cLine) (I:L2.Inv X pins σ H s) (e:H a=some (.dT kvs)) (eb:H b=some (.tup (k.map kV))) (hm:more=[] \/ ∃ x,more=[x])
  (h1:∀ v w' s',aqqs kvs k=some v->L2.Inv X pins σ (upd H a (.dT (aqcp kvs k))) s'->aqs3 v w'->Q w' s') (h2:aqqs kvs k=none->∃ x,more=[x]/\∀ s',L2.Inv X pins σ H s'->Q x s') :
  wpAny (model X.prog X.w) A (call (.builtin "dict.pop") (.ref a :: .ref b :: more)) Q E s:=by
 obtain ⟨z,hd,xs,rel,dd⟩:=dt_of I.hok e;have hz:xs.length <= Ag:=by rw [<- Paired.length rel]; exact z
 have ha:argsOk "dict.pop" ⟨.ref a :: .ref b :: more,[]⟩:=by
  rcases hm with q | ⟨x,q⟩
  ·subst q; exact PySem.F.args_dict_pop_2 _ _
  ·subst q; exact PySem.F.args_dict_pop_3 _ _ _
 have kk:=aKa I.hok eb;refine Ay Kl dd.typeIs PySem.F.entry_dict_pop ?_ ha;unfold Builtin.«dict.pop»;refine Ac ?_;unfold Builtin.Dict.keyAndDefault;refine Ac (Gp dd.typeIs ?_);obtain ⟨o,es,ep,ho,hc,hdat,he,his,hn⟩:=id dd;have emp:es.isEmpty=true->aqqs kvs k=none:=by
  intro hem
  have:es.toList=[]:=by simpa using hem
  rw [this] at he;have hx:xs=[]:=by simpa using he.symm
  subst hx;cases rel;rfl
 have non:atKey xs k=none->aqqs kvs k=none:=by
  intro hno
  have:=rel.val k
  rw [hno] at this;cases q:aqqs kvs k with
  | none=>rfl
  | some v=>rw [q] at this; exact this.elim
 have got:∀ p h',atKey xs k=some p->h'.DictOfH (Fu (aqh X.prog X.w)) a (xs.filter fun x=>decide (x.1 ≠ k))->Heap.SameBut a s.heap h'->Q p.2 { s with heap:=h',toks:=s.toks + (Fu (aqh X.prog X.w)).draws k }:=by
  intro p h' hp dd' hs;have rv:=rel.val k;rw [hp] at rv;cases q:aqqs kvs k with
  | none=>rw [q] at rv; exact rv.elim
  | some v =>
   rw [q] at rv;refine h1 v _ _ q ?_ rv;obtain ⟨q1,es1,ep1,hq1,g2,g3,g4,_,g5⟩:=dd';refine aqad I (by rw [e]; exact True.intro) hs ⟨q1,hq1⟩ ⟨le_trans (aqh5 kvs k) z,hd,_,(KT.drop rel k).keeps fun c ys ec=>?_,q1,es1,ep1,hq1,g2,g3,g4,g5⟩;rw [ah (az1 ec e (fun z=>nomatch z))];exact ec
 rcases hm with rfl | ⟨x,rfl⟩
 ·refine (?_:wpAny _ _ (pure (a,Value.ref b,none)) _ _ s)
  refine Ad ?_;dsimp only;rw [if_neg (show ¬ (keyPart (Value.ref b)).isSome=true from by simp [keyPart])];refine Ac (Bl ho hdat (Ac (Ad ?_)))
  by_cases hem:es.isEmpty=true
  ·obtain ⟨x,hx,_⟩:=h2 (emp hem)
   cases hx
  ·rw [if_neg hem]
   refine Ac (avm (Df hu) kk dd hz (fun hno=>?_) fun p h' hp dd' hs=>?_)
   ·obtain ⟨x,hx,_⟩:=h2 (non hno)
    cases hx
   ·simp only [Mr,Aw,if_false]
    exact Ac (Le (Ad ⟨_,rfl,got p h' hp dd' hs⟩))
 ·refine (?_:wpAny _ _ (pure (a,Value.ref b,some x)) _ _ s)
  refine Ad ?_;dsimp only;rw [if_neg (show ¬ (keyPart (Value.ref b)).isSome=true from by simp [keyPart])];refine Ac (Bl ho hdat (Ac (Ad ?_)))
  by_cases hem:es.isEmpty=true
  ·rw [if_pos hem]
   refine Ac (Eg (Ac (Ad ?_)));simp only [Ms,if_true];refine Ac (Io hd ?_);obtain ⟨y,hy,hq⟩:=h2 (emp hem);cases hy;exact Ac (Eg (Ad ⟨x,rfl,hq s I⟩))
  ·rw [if_neg hem]
   refine Ac (avm (Df hu) kk dd hz (fun hno=>?_) fun p h' hp dd' hs=>?_)
   ·simp only [Ms,if_true]
    refine Ac (Io hd ?_);obtain ⟨y,hy,hq⟩:=h2 (non hno);cases hy;exact Ac (Eg (Ad ⟨x,rfl,hq _ (I.tok _)⟩))
   ·simp only [Mr,Aw,if_false]
    exact Ac (Le (Ad ⟨_,rfl,got p h' hp dd' hs⟩))
end
end DL
namespace DL
open PySem PySem.Spec PyProof.Rows L2
def CXmC (P:Aj) (w:World) (C:Addr) (H1:Hp) (outer:List Env) (H:Hp) (s:Shared) (e:Value) (s':Shared):Prop :=
 ∃ (a t:Addr) (h1 B:Heap),e=.ref a/\s'.os=s.os/\Gx s'.gens/\Un (frs outer) [] H H1 s.heap h1/\HOk P w H1 h1 /\
 (∀ b o,h1.get? b=some o->b ∉ frs outer->(b < s.heap.objs.size \/ H1 b ≠ none)->B.get? b=some o)/\Hu B outer a (.ref C) (.ref t) s'.heap/\h1.UpToSlots s'.heap
def CXm (P:Aj) (w:World):CXT:=fun outer H s E e s'=>∃ C H1,E (.ref C) none H1/\CXmC P w C H1 outer H s e s'
section
variable {X:Cx} {pins:List (Addr × Obj)} {σ:L2.St} {H H1:Hp} {s s':Shared} {C:Addr} {e:Value}
theorem landM (I:L2.Inv X pins σ H s) (hx:CXmC X.prog X.w C H1 X.stack H s e s'):∃ (a t:Addr) (B:Heap),e=.ref a/\Hu B X.stack a (.ref C) (.ref t) s'.heap /\
  ∀ (h6:Heap) (tk:Nat),Hu B X.stack a (.ref C) (.ref t) h6->s'.heap.UpToSlots h6->∃ oe,oe.cls=.ref C/\h6.get? a=some oe/\L2.Inv X pins σ H1 { s' with heap:=h6,toks:=tk }/\L2.Inv (maX X a oe) pins σ H1 { s' with heap:=h6,toks:=tk }:=by
 obtain ⟨a,t,h1,B,rfl,ho,hb,un,hok,kB,fl,us⟩:=hx;refine ⟨a,t,B,rfl,fl,fun h6 tk fl6 us6=>?_⟩;have fr1:∀ b,b∈frs X.stack->H1 b=none:=fun b z=>by
  obtain ⟨_,o',q',_⟩:=I.stack.mem z;exact un.free b o' q' (I.stkFree b z) (by simp)
 have nf:∀ b o,H1 b=some o->b ∉ frs X.stack:=fun b o q z=>by rw [fr1 b z] at q; cases q
 have un6:Un (frs X.stack) [] H H1 s.heap h6:=by
  refine ⟨fun b o q n hb hx=>?_,fun b o q n hb hx=>?_,un.free,fun b o q hx=>?_,un.tups,un.frzs,un.tbls⟩
  ·exact fl6.1 b o (kB b o (un.keep b o q n hb hx) hb (.inl (Af q)))
  ·obtain ⟨sl,q1⟩:=un.slot b o q n hb hx
   obtain ⟨_,o',q',nf'⟩:=I.stack.mem hb;rw [q] at q'; cases q';obtain ⟨sl',q2⟩:=(us.trans us6) b _ q1 nf';exact ⟨sl',q2⟩
  ·obtain ⟨o',q1⟩:=un.there b o q hx
   by_cases hbf:b∈frs X.stack
   ·obtain ⟨sl,q3⟩:=un.slot b o q (I.stkFree b hbf) hbf hx
    obtain ⟨_,o2,q',nf'⟩:=I.stack.mem hbf;rw [q] at q'; cases q';obtain ⟨sl',q2⟩:=(us.trans us6) b _ q3 nf';exact ⟨_,q2⟩
   ·exact ⟨o',fl6.1 b o' (kB b o' q1 hbf (.inl (Af q)))⟩
 have hok6:HOk X.prog X.w H1 h6:=fun b o q=>(hok b o q).stay (fun c u hc r=>by
  rcases hc with rfl | hc
  ·exact fl6.1 c u (kB c u r (nf c _ q) (.inr (by rw [q]; simp)))
  ·exact fl6.1 c u (kB c u r (nf c _ hc) (.inr (by rw [hc]; simp)))) (fun _ r=>r) fun _ _ r=>r
 have I6:L2.Inv X pins σ H1 { s' with heap:=h6,toks:=tk }:=I.call' (s':={ s' with heap:=h6,toks:=tk }) (ch:=[]) ho un6 hok6 hb (fun b z=>absurd z (by simp));obtain ⟨oe,vs,he,hc,hd,_⟩:=fl6.first
 have na:H1 a=none:=by
  cases q:H1 a with
  | none=>rfl
  | some o =>
   obtain ⟨u,r⟩:=aqjg (hok a o q)
   have:=kB a u r (nf a o q) (.inr (by rw [q]; simp))
   rw [fl.2.1] at this; cases this
 have nfr:a ∉ frs X.stack:=fun z=>by
  obtain ⟨_,o',q',nf'⟩:=fl6.2.2.1.mem z;rw [he] at q'; cases q';exact nf' _ hd
 refine ⟨oe,hc,he,I6,ma_in I6 he na (fun z=>?_) (fun z=>?_) (fun v z=>by rw [hd] at z; cases z)⟩
 ·subst z
  obtain ⟨m,⟨o,es,ep,ho',hd',_⟩,_⟩:=I6.loc;have ho':h6.get? X.env.locals=some o:=ho';rw [he] at ho'; cases ho';rw [hd] at hd'; cases hd'
 ·refine nfr ?_
  rcases I.ok.stk with q | ⟨q,_⟩
  ·rw [q]; exact z
  ·rw [q]
   obtain ⟨env,h1,h2⟩:=C9.mp z;exact C9.mpr ⟨env,mem_cons_of_mem _ h1,h2⟩
end
section
variable {P:Aj} {w:World} {K:Frag} {mg:Str->Option Value} {base:Heap} {N:List Str} {qual:Str} {scope:Scope} {f:Addr} {cd:Value} {A:Around} {outer:List Env} {s:Shared} {H:Hp} {E:XK} {C:Addr}
theorem axk {x:Str} {np cpos pos:Pos} {e:Expr} {es:List Expr} {t:TA} (Z:ExcC K C) (hm:mg x=some (.ref C)) (hg:Gl (aqrp (CXm P w) P w K mg base N qual scope f cd A outer s H E) x)
  (ha:PA (aqrp (CXm P w) P w K mg base N qual scope f cd A outer s H E) (e :: es) t) (hdb:(x == ("__debug__":Str))=false:=by decide)
  (hst:Ap (e :: es) (aqrp (CXm P w) P w K mg base N qual scope f cd A outer s H E).env=(false,eval e (aqrp (CXm P w) P w K mg base N qual scope f cd A outer s H E).env) :: Ap es (aqrp (CXm P w) P w K mg base N qual scope f cd A outer s H E).env:=by rfl)
  (hpl:(C2 cpos (Ap es (aqrp (CXm P w) P w K mg base N qual scope f cd A outer s H E).env)).any (·.1)=false:=by rfl) :
  PS (aqrp (CXm P w) P w K mg base N qual scope f cd A outer s H E) (.Raise (some (.Call (.Name x np) (e :: es) [] cpos)) none pos) (fun _ σ H'=>t σ H' fun vs H''=>vs.length <= Ag/\E (.ref C) none H''):=by
 intro pins s1 σ H1 D I hq;obtain ⟨nm,q,N',bs,bm,hdct,sn,sub,ab,col,dd,k0,k1,k2,k3,k5,lk,ok,ni,tl⟩:=Z.ex;have hN:=PySem.Heap.Ns.of_isNs (PySem.W.isNs_of_in I.mod.kin ok);have hni:=PySem.W.nsMap_none_of_in I.mod.kin ok ni;refine wpAny_Raise_call_subU (C:=C) (nm:=nm) (q:=q) (N:=N') (bs:=bs) (bm:=bm) (hdct:=hdct) (sn:=sn) (sub:=sub) (ab:=ab) (col:=col) (dd:=dd) (k0:=k0) (k1:=k1) (k2:=k2) (k3:=k3) (k5:=k5)
  E6 (bmB:=veB) (by decide +kernel) E6 ((Mt I.kIn tl).hasType E6.hasBase) (I.ok.hd rfl) (by rw [hst]; exact hpl) hni (az5 I hg hm ⟨rfl,?_⟩ hdb)
 have hr:=ha cpos pins s1 σ H1 _ I hq;rw [hst] at hr ⊢;refine E3 (A9 hr (fun us s2 ⟨vs,H2,I2,r,hl,hE⟩=>⟨rfl,by rw [<- r.length]; exact hl,I2.kIn _ _ lk,hN.keeps I2.bk,Mt I2.kIn tl,fun h' e hx=>?_⟩) fun _ _ y=>y);have hin:∀ env∈(F7 qual scope s.heap.objs.size f cd :: outer),∀ b,env.frame=some b->b∈frs (F7 qual scope s.heap.objs.size f cd :: outer):=fun env he b hb=>C9.mpr ⟨env,he,hb⟩;refine wpAny_leaves_madeW (base:=PySem.W.hideAll s2.heap (frs (F7 qual scope s.heap.objs.size f cd :: outer))) (outer:=outer) (L:=s.heap.objs.size) I2.ok.frames rfl (fun b o q=>L6 _ q) (PySem.W.funFrames_hide I2.stack hin) hx fun h'' t x1 x2 x3 x4=>?_;refine ⟨C,H2,hE,e,t,s2.heap,_,rfl,I2.os,I2.bare,I2.base,I2.hok,fun b o q hb hlt=>Lm _ q fun z=>?_,x1,(Eb hx.keeps).trans x4⟩;rcases Ao.mp (show b∈s.heap.objs.size :: frs outer from z) with z | z
 ·rcases hlt with hlt | hlt
  ·rw [z] at hlt; exact absurd hlt (lt_irrefl _)
  ·rw [z] at hlt; exact hlt I2.free
 ·exact hb z
theorem passM:aky (CXm P w) (aqrp (CXm P w) P w K mg base N qual scope f cd A outer s H E) (fun v _ H'=>∃ C,v=.ref C/\E (.ref C) none H'):=by
 rintro pins σ Hc sc e s' I ⟨C,H1,⟨C',h1,h2⟩,a,t,hh,B,rfl,ho,hb,un,hok,kB,fl,us⟩;cases h1;have fr1:H1 s.heap.objs.size=none:=by
  obtain ⟨m,⟨o,_,_,hq,_⟩,_⟩:=I.loc;exact un.free _ o hq I.free (by simp)
 have lt:∀ b o,s.heap.get? b=some o->b ≠ s.heap.objs.size:=fun b o q=>ne_of_lt (Af q);have nst:∀ b,b ≠ s.heap.objs.size->b ∉ frs outer->b ∉ frs (F7 qual scope s.heap.objs.size f cd :: outer):=fun b h1 h2 z=>by
  rcases Ao.mp (show b∈s.heap.objs.size :: frs outer from z) with z | z
  ·exact h1 z
  ·exact h2 z
 refine wpAny_leaves_onW (L:=s.heap.objs.size) I.ok.frames rfl fl fun h' fl' us'=>⟨C,H1,h2,a,t,hh,B,rfl,ho.trans I.os,hb,⟨fun b o q n hbf hx=>?_,fun b o q n hbf hx=>?_,fun b o q n hx=>?_,fun b o q hx=>?_,fun b xs q=>un.tups b xs (I.base.tups b xs q),fun b o u q=>un.frzs b o u (I.base.frzs b o u q),fun b ps q=>?_⟩,hok,fun b o q hbf hlt=>?_,fl',us.trans us'⟩
 ·exact un.keep b o (I.base.keep b o q n hbf hx) (I.base.free b o q n hx) (nst b (lt b o q) hbf) hx
 ·obtain ⟨sl,q1⟩:=I.base.slot b o q n hbf hx
  obtain ⟨sl',q2⟩:=un.slot b _ q1 (I.base.free b o q n hx) (mem_cons_of_mem _ hbf) hx;exact ⟨sl',q2⟩
 ·obtain ⟨o',q1⟩:=I.base.there b o q hx
  exact un.free b o' q1 (I.base.free b o q n hx) hx
 ·obtain ⟨o',q1⟩:=I.base.there b o q hx
  exact un.there b o' q1 hx
 ·obtain ⟨m1,e1⟩:=I.base.tbls b ps q
  obtain ⟨m2,e2⟩:=un.tbls b _ e1;exact ⟨m1++m2,by rw [e2,append_assoc]⟩
 ·refine kB b o q (nst b ?_ hbf) ?_
  ·rcases hlt with hlt | hlt
   ·exact ne_of_lt hlt
   ·rintro rfl; exact hlt fr1
  ·rcases hlt with hlt | hlt
   ·exact .inl (lt_of_lt_of_le hlt I.sz)
   ·exact .inr hlt
theorem fnM {x qual:Str} {st:Stmt} {f:Addr} {fd:Ak} {N ps:List Str} {k:Nat} {sp:Sp} (F:Fun K x qual st f fd) (S:FnScope N ps (af st)) (len:∀ vs H Q E,sp vs H Q E->vs.length=ps.length)
  (hbody:∀ (cdv:Value) (A:Around) (outer:List Env) (s:Shared) (H:Hp) (vs:List V) (Q:VK) (E:XK),Room k (A.deeper (F7 qual (af st) s.heap.objs.size f cdv))->sp vs H Q E ->
   ∃ t,PSs (aqrp (CXm P w) P w K mg base N qual (af st) f cdv A outer s H E) (aqi st) t/\t { nx:=fun _ H'=>Q .non H',rt:=Q } (start N vs) H):FnOk P w K mg base (CXm P w) (k + 1) f fd ps sp:=by
 obtain ⟨oc,od,kV,doc,pm,an,cdv,ct,osl,rfl,lk,hcd⟩:=F.ex;exact fn_of lk hcd S len fun A outer s H vs Q E hr hsp=>hbody cdv A outer s H vs Q E hr hsp
end
abbrev tryM (X:Cx) (pins:List (Addr × Obj)) (R:Addr->Hp->Prop):Cx:={ X with pn:=X.pn++pins,xe:=fun e s'=>∃ σ H s C H1,L2.Inv X pins σ H s/\CXmC X.prog X.w C H1 X.stack H s e s'/\R C H1 }
section
variable {X:Cx} {pins p2:List (Addr × Obj)} {R:Addr->Hp->Prop} {σ:L2.St} {H:Hp} {s:Shared}
theorem aqi4 (I:L2.Inv X pins σ H s):L2.Inv (tryM X pins R) [] σ H s:=by
 have o:=I.ok;refine ⟨⟨o.mod,o.kind,o.glob,o.blt,o.above,o.inj,o.has,o.cab,o.hd,o.frames,o.stk,o.exf,o.bs,o.bsz,o.noex,o.exfs,o.funs,o.frf⟩,I.os,I.bare,I.base,I.loc,I.cell,I.free,I.freeC,fun p hp=>?_,I.hok,I.len⟩;exact I.pin p (by simpa using hp)
theorem avl (o:X.Ok) (I:L2.Inv (tryM X pins R) p2 σ H s):L2.Inv X pins σ H s :=
 ⟨o,I.os,I.bare,I.base,I.loc,I.cell,I.free,I.freeC,fun p hp=>I.pin p (mem_append_left _ hp),I.hok,I.len⟩
theorem aqi3 {D:Ends} {fl:Flow} (o:X.Ok) (h:SP (tryM X pins R) [] D fl s):SP X pins D fl s:=by
 cases fl with
 | next=>obtain ⟨σ,H,I,q⟩:=h; exact ⟨σ,H,avl o I,q⟩
 | ret u=>obtain ⟨v,σ,H,I,r,q⟩:=h; exact ⟨v,σ,H,avl o I,r,q⟩
 | brk=>obtain ⟨σ,H,I,q⟩:=h; exact ⟨σ,H,avl o I,q⟩
 | cont=>obtain ⟨σ,H,I,q⟩:=h; exact ⟨σ,H,avl o I,q⟩
theorem ajw (o:X.Ok):aky (CXm X.prog X.w) (tryM X pins R) (fun v _ H=>∃ C,v=.ref C/\R C H):=by
 rintro p2 σ H s e s' I ⟨C,H1,⟨C',h1,h2⟩,hx⟩;cases h1;exact ⟨σ,H,s,C,H1,avl o I,hx,h2⟩
theorem aWz {body:List Stmt} {h0:Ep} {hs:List Ep} {pos:Pos} {t:(Addr->Hp->Prop)->TS} {th:Addr->TS} {OK:Addr->Prop} (stk:X.stack=X.env :: X.outer/\X.env.frame=some X.env.locals)
  (hb:∀ pins R,X.Ok->PSs (tryM X pins R) body (t R)) (hh:∀ C,OK C->PH X (h0 :: hs) C (th C)):PS X (.Try body (h0 :: hs) [] [] pos) (fun D σ H=>t (fun C H'=>OK C/\∀ σ',σ'.length=σ.length->th C D σ' H') D σ H):=by
 intro pins s σ H D I h;refine wpAny_Try_except (A9 (hb pins (fun C H'=>OK C/\∀ σ',σ'.length=σ.length->th C D σ' H') I.ok [] s σ H D (aqi4 I) h) (fun fl s1 w=>?_) fun e s' w=>?_)
 ·have w':=aqi3 I.ok w
  cases fl with
  | next=>exact Fm w'
  | ret u=>exact w'
  | brk=>exact w'
  | cont=>exact w'
 ·obtain ⟨σ1,H1,s1,C,H2,I1,hx,hC,hR⟩:=w
  obtain ⟨a,t',B,rfl,fl,ld⟩:=landM I1 hx;have hfr:X.A.frames=some (X.env :: X.outer):=stk.1 ▸ I.ok.frames;have fl':=fl;rw [stk.1] at fl';refine wpAny_looks_onW hfr stk.2 fl' fun h4 held4 sm4=>?_;refine wpAny_landsW held4 fun h5 fl5 sm5=>?_;have hlen:σ1.length=σ.length:=by rw [I1.len,I.len]
  exact hh C hC pins σ1 H2 D _ a t' B I.ok (stk.1 ▸ fl5) (fun h6 fl6 sm6=>ld h6 s'.toks fl6 ((sm4.trans sm5).trans sm6)) (hR σ1 hlen)
end
end DL
namespace DL
open PySem PySem.Spec PyProof.Rows L2 SortW
def iItemsT (tl:TE):TI:=fun σ H R=>tl σ H fun x H1=>∃ d kvs,x=.ref d/\H1 d=some (.dT kvs)/\∀ o,R (ItI d o kvs) (upd H1 d (.frz o (.dT kvs)))
theorem aqbo {X:Cx} {e:Expr} {elts:List Expr} {kk:Nat} {tp apos pos:Pos} {tl:TE} (hl:PE X e tl) (hbase:Em e "items" X.env (eval e X.env)=eval e X.env:=by rfl) (hline:(apos.endLine == pos.line)=true:=by rfl) :
  PI X (.Tuple elts kk tp) (.Call (.Attribute e "items" apos) [] [] pos) (iItemsT tl):=by
 intro pins s σ H R I h;refine Ja (T:="dict") (id:="dict.items") hbase rfl hline Fy Ju PySem.F.type_dict_items (thn (hl pins s σ H _ I h) fun v s1 hQ=>?_);obtain ⟨x,H1,I1,r1,d,kvs,ex,ed,q⟩:=hQ;subst ex;obtain rfl:v=Value.ref d:=r1;obtain ⟨o,es,ep,ho,hc,hd,hz,hsys,I2⟩:=Inv.freezeT I1 ed;have hT:s1.TypeIs (.ref d) "dict":=⟨o,ho,hc.1⟩;refine ⟨hT,fun b q=>by cases q; exact ⟨o,ho,hc.2.1⟩,?_⟩;refine (?_:wpAny _ _ (callWith pos (.builtin "dict.items") [.ref d] [] []) _ _ s1);refine Ed rfl (PySem.evalArgs_none ?_);refine Ay Ju hT PySem.F.entry_dict_items ?_ (PySem.F.args_dict_items_1 _);unfold Builtin.«dict.items» Builtin.Dict.noArgs;refine Ac (Ac (Gp hT ?_));refine (?_:wpAny _ _ (pure d) _ _ s1);refine Ad ?_;refine (?_:wpAny _ _ (Es d >>= _) _ _ s1);unfold Es;rw [if_neg (by rw [hsys]; exact Al)];refine Ac (Ad (Ac (A6 (Ad ⟨_,rfl,?_⟩))));have I3:=I2.kept (h':=s1.heap.push { cls:=.type "dict_items",data:=.fields #[.ref d] }) (t':=s1.toks) fun b u q=>Ae _ q;have hv:(s1.heap.push { cls:=.type "dict_items",data:=.fields #[.ref d] }).get? s1.heap.objs.size=some { cls:=.type "dict_items",data:=.fields #[.ref d] }:=Ah _ rfl;have ho3:(s1.heap.push { cls:=.type "dict_items",data:=.fields #[.ref d] }).get? d=some o:=Ae _ ho;generalize hh3:s1.heap.push { cls:=.type "dict_items",data:=.fields #[.ref d] }=h3 at I3 hv ho3;have hTv:Gz { s1 with heap:=h3 } (.ref s1.heap.objs.size) "dict_items":=⟨_,hv,rfl⟩;refine (?_:wpAny _ _ (Kn (.ref s1.heap.objs.size)) _ _ { s1 with heap:=h3 });refine Ew hTv Hg (Ay Hg hTv PySem.F.entry_dict_items_iter ?_ (PySem.F.args_dict_items_iter_1 _));unfold Builtin.«dict_items.__iter__»;refine Ac (Ad (Ac ?_));unfold Builtin.Dict_items.dictOf;refine Ac (Dv hv rfl (x:=.ref d) rfl (Ad (Ac ?_)));unfold Builtin.Dict_items.newIterator;refine Ac (Bl ho3 hd (Ac (El ho3 hd ?_)));have own:Bx "dict_itemiterator"=true:=by decide
 simp only [own,if_true];refine A6 (Ad ⟨_,rfl,"dict_itemiterator",_,⟨_,Ah _ rfl,rfl⟩,Bv.lookup,?_⟩)
  (by simp only [sizeOk,Fj,size_toArray,length_append,length_cons,List.length_nil,Au]; omega)
 have I4:=I3.kept (h':=h3.push { cls:=.type "dict_itemiterator",data:=.fields #[.none,.bool false,.ref d,.int 0 0,.int es.size 0,.int ep 0,.none,.none] }) (t':=s1.toks) fun b u q=>Ae _ q;have fin:PIE X pins σ (.Tuple elts kk tp) R (.ref h3.objs.size) { s1 with heap:=h3.push { cls:=.type "dict_itemiterator",data:=.fields #[.none,.bool false,.ref d,.int 0 0,.int es.size 0,.int ep 0,.none,.none] } }:=by
  refine ⟨_,[_],_,_,_,rfl,I4,aKv d _ o kvs ep es hd hz,⟨_,_,Ah _ rfl⟩,fun b hb=>?_,q o⟩;have hb':b=h3.objs.size:=by simpa using hb
  subst hb';exact I3.fpOk (le_refl _) (I3.hok.fresh (le_refl _))
 simpa [Bz,Fj] using fin
def aqi8 (td ty tx:TE):TE:=fun σ H Q=>td σ H fun x H1=>∃ a,x=.ref a/\IsD H1 a/\ty σ H1 fun y H2=>tx σ H2 fun z H3=>∃ kvs k b,H3 a=some (.dT kvs)/\y=.ref b/\H3 b=some (.tup (k.map kV)) /\
 (∀ v,aqqs kvs k=some v->Q v (upd H3 a (.dT (aqcp kvs k))))/\(aqqs kvs k=none->Q z H3)
section
variable {X:Cx} {o e f:Expr} {td ty tx:TE} {apos cpos:Pos}
theorem aqbr (hu:X.A.units + 1 < cLine) (ho:PE X o td) (he:PE X e ty) (hf:PE X f tx) (m:M2 X o "pop" apos e f cpos):PE X (.Call (.Attribute o "pop" apos) [e,f] [] cpos) (aqi8 td ty tx):=by
 intro pins s σ H Q I h;refine Ja m.base m.few m.line Fy Kl PySem.F.type_dict_pop (thn (ho pins s σ H _ I h) fun u s1 hQ=>?_);obtain ⟨x,H1,I1,rx,a,ex,d,q1⟩:=hQ;subst ex;obtain rfl:u=Value.ref a:=rx;obtain ⟨t1,t2,_⟩:=aqk6 I1 d;refine ⟨t1,t2,?_⟩;rw [m.trees];refine Ed rfl (E3 (Cd (thn (he pins s1 σ H1 _ I1 q1) fun iv s2 ⟨y,H2,I2,ry,q2⟩ =>
  Cd (thn (hf pins s2 σ H2 _ I2 q2) fun fv s3 ⟨z,H3,I3,rz,kvs,k,b,ea,ey,eb,q3,q4⟩=>Et ?_))))
 subst ey;obtain rfl:iv=Value.ref b:=ry;exact aqns hu I3 ea eb (.inr ⟨fv,rfl⟩) (fun v' w' s4 e1 I4 r4=>⟨v',_,I4,r4,q3 v' e1⟩) fun e1=>⟨fv,rfl,fun s4 I4=>⟨z,H3,I4,rz,q4 e1⟩⟩
end
section
variable {prog:Aj} {w:World} {A:Around} {E:Value->Shared->Prop} {s:Shared} {d:Addr} {es:Array DictEntry} {ep:Nat}
theorem aqjs {R:Value->Shared->Prop} (hd:(d == By)=false) (hm:aqs5 s.heap d es ep) (h:R (.int es.size s.toks) { s with toks:=s.toks + 1 }) :
  wpAny (model prog w) A (Builtin.«dict.__len__» ⟨[.ref d],[]⟩) (fun fin s'=>∃ v,fin=.done (.ret v)/\R v s') E s:=by
 obtain ⟨o,ho,hc,hdat⟩:=hm;refine (?_:wpAny _ _ (dictSize d >>= _) _ _ s);unfold dictSize;refine Ac (Ac (Bl ho hdat (Ad ?_)));refine (?_:wpAny _ _ (Builtin.Dict.pendingCount d >>= _) _ _ s);refine Ac (wpAny_pendingCount_other hd ?_);refine wpAny_ret_mkInt ?_;simpa using h
theorem aX8 {Q:Value->Shared->Prop} (hd:(d == By)=false) (hm:aqs5 s.heap d es ep) (hfit:(es.size:Int) < 2 ^ 63) (h:∀ t tk,Q (.int es.size t) { s with toks:=tk }):wpAny (model prog w) A (call (.builtin "len") [.ref d]) Q E s:=by
 refine Dk kind_len plain_len entry_len (args_len1 _) ?_;unfold Builtin.«len»;refine Ac (m:=oneArg "len" _) (Ad ?_);refine Ac (m:=callSpecial? (.ref d) (C3 "__len__")) (Bi (name:=C3 "__len__") hm.ty Km
  (Ay Km hm.ty PySem.F.entry_dict_len (aqjs hd hm ?_) (PySem.F.args_dict_len_1 _)))
 refine Ac (A5 (Ad ?_));refine Ac (Le ?_);refine (?_:wpAny _ _ (if ((es.size:Nat):Int) < 0 then _ else _) _ _ _);rw [if_neg (by omega)];refine (?_:wpAny _ _ (if ((es.size:Nat):Int) ≥ 2 ^ 63 then _ else _) _ _ _);rw [if_neg (by omega)];exact Ac (wpAny_mkInt (Ad ⟨_,rfl,h _ _⟩))
end
theorem aqcw {X:Cx}:awm X (.builtin "len") (fun xs H Q=>∃ a kvs,xs=[V.ref a]/\H a=some (.dT kvs)/\Q (.int kvs.length) H):=by
 intro pins s σ H xs us Q I r h;obtain ⟨a,kvs,rfl,ha,q⟩:=h;obtain ⟨u,rfl,ru⟩:=aqhz r;cases ru;obtain ⟨o,es,ep,ho,hc,hd,hz,hsys,_⟩:=Inv.freezeT I ha;obtain ⟨z,_⟩:=(show axu X.prog X.w H s.heap a (.dT kvs) from I.hok a _ ha);refine aX8 hsys ⟨o,ho,hc,hd⟩ (by rw [hz]; rw [Au] at z; omega) fun t tk=>⟨.int kvs.length,H,I.tok _,⟨t,by rw [hz]⟩,q⟩
end DL
namespace DL
open PySem PySem.Spec PyProof.Rows L2
theorem aqdp {X:Cx} {K:Frag} (h:X.K=K) (hu:X.A.units + 64 + 1 < cLine):OpR X (Bn .In) (rInD K false):=by subst h; exact aXj hu
theorem aqdk {X:Cx} {K:Frag} {e:Expr} {f:Str} {pos:Pos} {ta:TE} (h:X.K=K) (he:PE X e ta) (hb:Em e f X.env (eval e X.env)=eval e X.env):PE X (.Attribute e f pos) (tFld K ta f):=by subst h; exact azs he hb
theorem aqdj {X:Cx} {K:Frag} {pos:Pos} {es:List Expr} {k:Nat} {t:TGs} {n:Nat} (h:X.K=K) (hc:X.calm=true) (ht:PGs X es t)
  (hn:(Bk es X.env).length=n:=by rfl) (hst:(Bk es X.env).findIdx? (·.1)=none:=by rfl):PG X (.Tuple es k pos) (gTup K n t):=by subst h; exact aqbp hc ht hn hst
theorem axm {α β:Type} {xs:List α} {c:α->Bool} {e:α->β} {i:Nat} {x:α} (h:xs[i]?=some x):(((xs.take (i + 1)).filter c).map e)=(((xs.take i).filter c).map e)++(if c x=true then [e x] else []):=by
 have hi:=(Ai.mp h).1;have hx:=(Ai.mp h).2;rw [take_succ_eq_append_getElem hi,hx,Mu,map_append];congr 1
 by_cases hc:c x=true
 ·simp [hc]
 ·simp [hc]
theorem aJn {K:Frag} {z:Addr} {xs:List V} {j:Nat} {tc:TT} {te:TE} {js:List (Option Nat)} {σ:L2.St} {H:Hp} {Q:Addr->Hp->Prop} (hz:SqL K H z xs) (hlen:xs.length < Ag) (c:V->Bool) (e:V->V) (S:L2.St->Prop) (hS:S (mkS js σ))
  (step:∀ (i:Nat) (x:V) (σ':L2.St) (H':Hp),xs[i]?=some x->S σ'->aqs2 H H'->S (σ'.set j (some x))/\(∀ R:Bool->Hp->Prop,R (c x) H'->tc (σ'.set j (some x)) H' R)/\(∀ R:VK,c x=true->R (e x) H'->te (σ'.set j (some x)) H' R))
  (k:∀ l,H l=none->Q l (upd H l (.lst ((xs.filter c).map e)))) :
  ∀ l,H l=none->∃ W:Nat->Nat->L2.St->Hp->Prop,(∃ m,W 0 m (mkS js σ) (upd H l (.lst [])))/\∀ i m σ H,W i m σ H ->
   ((Itl K z).stop i H/\Q l H) \/ ((Itl K z).go i H/\∀ x H',(Itl K z).yld i H x H'->ax9 j x σ H' fun σ2 H2=>tc σ2 H2 fun b H3 =>
     if b=true then te σ2 H3 fun y H4=>∃ acc,H4 l=some (.lst acc)/\acc.length < Ag/\∃ m',m' < m/\W (i + 1) m' σ2 (upd H4 l (.lst (acc++[y]))) else ∃ m',m' < m/\W (i + 1) m' σ2 H3):=by
 intro l hl;refine ⟨fun i m σ' H'=>m=xs.length - i/\i <= xs.length/\S σ'/\H'=upd H l (.lst (((xs.take i).filter c).map e)),⟨_,rfl,zero_le _,hS,by simp⟩,?_⟩;rintro i m σ' H' ⟨rfl,hi,hs,rfl⟩;have sm:aqs2 H (upd H l (.lst (((xs.take i).filter c).map e))):=gd hl
 by_cases hlt:i < xs.length
 ·refine .inr ⟨⟨xs,xs[i],sm.seq hz,by simp [hlt]⟩,fun x H2 y=>?_⟩
  obtain ⟨rfl,y⟩:=y;have hx:=y xs (sm.seq hz);obtain ⟨s1,s2,s3⟩:=step i x σ' _ hx hs sm;refine s2 _ ?_
  by_cases hc:c x=true
  ·rw [if_pos hc]
   refine s3 _ hc ⟨_,ac,?_,_,(by omega:xs.length - (i + 1) < xs.length - i),rfl,hlt,s1,?_⟩
   ·have h1:(((xs.take i).filter c).map e).length <= (xs.take i).length:=by rw [length_map]; exact length_filter_le _ _
    rw [length_take] at h1;omega
   ·rw [axm hx,if_pos hc]
    funext b
    by_cases hb:b=l
    ·subst hb; rw [ac,ac]
    ·rw [ah hb,ah hb,ah hb]
  ·rw [if_neg hc]
   refine ⟨_,(by omega:xs.length - (i + 1) < xs.length - i),rfl,hlt,s1,?_⟩;rw [axm hx,if_neg hc,append_nil]
 ·have e1:i=xs.length:=by omega
  subst e1;refine .inl ⟨⟨xs,sm.seq hz,le_refl _⟩,?_⟩;rw [take_length];exact k l hl
theorem aqah {K:Frag} {z:Addr} {xs:List V} {j j':Nat} {tc:TT} {te:TE} {js:List (Option Nat)} {σ:L2.St} {H:Hp} {Q:Addr->Hp->Prop} (hz:SqL K H z xs) (hlen:xs.length < Ag) (c:Nat->V->Bool) (e:Nat->V->V) (S:L2.St->Prop) (hS:S (mkS js σ))
  (step:∀ (i:Nat) (x:V) (σ':L2.St) (H':Hp),xs[i]?=some x->S σ'->aqs2 H H'->S ((σ'.set j (some (.int (i:Int)))).set j' (some x))/\(∀ R:Bool->Hp->Prop,R (c i x) H'->tc ((σ'.set j (some (.int (i:Int)))).set j' (some x)) H' R)/\(∀ R:VK,c i x=true->R (e i x) H'->te ((σ'.set j (some (.int (i:Int)))).set j' (some x)) H' R))
  (k:∀ l H',H l=none->aqs2 H H'->H' l=some (.lst ((xs.zipIdx.filter fun p=>c p.2 p.1).map fun p=>e p.2 p.1))->Q l H') :
  ∀ l,H l=none->∃ W:Nat->Nat->L2.St->Hp->Prop,(∃ m,W 0 m (mkS js σ) (upd H l (.lst [])))/\∀ i m σ H,W i m σ H ->
   ((Ite K z).stop i H/\Q l H) \/ ((Ite K z).go i H/\∀ x H',(Ite K z).yld i H x H'->gTup K 2 (aY9 (ax9 j) (aY9 (ax9 j') gNil)) x σ H' fun σ2 H2=>tc σ2 H2 fun b H3 =>
     if b=true then te σ2 H3 fun y H4=>∃ acc,H4 l=some (.lst acc)/\acc.length < Ag/\∃ m',m' < m/\W (i + 1) m' σ2 (upd H4 l (.lst (acc++[y]))) else ∃ m',m' < m/\W (i + 1) m' σ2 H3):=by
 intro l hl;refine ⟨fun i m σ' H'=>m=xs.length - i/\i <= xs.length/\S σ'/\aqs2 H H'/\H' l=some (.lst (((xs.zipIdx.take i).filter fun p=>c p.2 p.1).map fun p=>e p.2 p.1)),⟨_,rfl,zero_le _,hS,gd hl,by simp [ac]⟩,?_⟩;rintro i m σ' H' ⟨rfl,hi,hs,sm,hl'⟩
 by_cases hlt:i < xs.length
 ·refine .inr ⟨⟨xs,xs[i],sm.seq hz,by simp [hlt]⟩,fun x H2 y=>?_⟩
  obtain ⟨T,v,rfl,hT,rfl,y⟩:=y;have hx:=y xs (sm.seq hz);have hx':xs.zipIdx[i]?=some (v,i):=by rw [List.getElem?_zipIdx,hx]; simp
  have sT:aqs2 H' (upd H' T (.tup [.int (i:Int),v])):=gd hT;have sm2:=sm.trans sT;have hl2:=sT _ _ hl';obtain ⟨s1,s2,s3⟩:=step i v σ' _ hx hs sm2;refine ⟨T,_,rfl,.inl (.inl ac),rfl,_,_,rfl,_,_,rfl,rfl,s2 _ ?_⟩
  by_cases hc:c i v=true
  ·rw [if_pos hc]
   refine s3 _ hc ⟨_,hl2,?_,_,(by omega:xs.length - (i + 1) < xs.length - i),rfl,hlt,s1,?_,?_⟩
   ·have h1:(((xs.zipIdx.take i).filter fun p=>c p.2 p.1).map fun p=>e p.2 p.1).length <= (xs.zipIdx.take i).length:=by rw [length_map]; exact length_filter_le _ _
    rw [length_take] at h1;omega
   ·intro b o hb
    rw [ah (ae hb hl)];exact sm2 _ _ hb
   ·rw [ac,axm (c:=fun p:V × Nat=>c p.2 p.1) (e:=fun p=>e p.2 p.1) hx',if_pos hc]
  ·rw [if_neg hc]
   refine ⟨_,(by omega:xs.length - (i + 1) < xs.length - i),rfl,hlt,s1,sm2,?_⟩;rw [axm (c:=fun p:V × Nat=>c p.2 p.1) (e:=fun p=>e p.2 p.1) hx',if_neg hc,append_nil];exact hl2
 ·have e1:i=xs.length:=by omega
  subst e1;refine .inl ⟨⟨xs,sm.seq hz,rfl⟩,?_⟩;rw [Ef (by simp)] at hl';exact k l _ hl sm hl'
def aqr5 (p:List Int × Int):D:=.tup [.int p.2,.lst (p.1.map D.int)]
theorem aw1 {K:Frag} {F:Hp}:∀ {vs:List V} {ds:List D} {v:V} {d:D},Reps K F vs ds->Rep K F v d->Reps K F (vs++[v]) (ds++[d])
 | _,_,_,_,.nil,h=>.cons h .nil
 | _,_,_,_,.cons a t,h=>.cons a (aw1 t h)
theorem aKg {K:Frag} {d:Addr} {o:Obj} {kv:List (List Int × Int)} {js:List (Option Nat)} {σ:L2.St} {H:Hp} {Q:Addr->Hp->Prop} (hd:H d=some (.frz o (.dT (kv.map fun p=>(p.1.map Sum.inl,V.int p.2))))) (hlen:kv.length < Ag) (hS:∃ c c',mkS js σ=[c,c'])
  (k:∀ l H' F,H l=none->aqs2 H H'->H' d=some (.frz o (.dT (kv.map fun p=>(p.1.map Sum.inl,V.int p.2))))->aqs2 F H'->F d=none->F l=none->(∃ ts,H' l=some (.lst ts)/\Reps K F ts (kv.map aqr5))->Q l H') :
  ∀ l,H l=none->∃ W:Nat->Nat->L2.St->Hp->Prop,(∃ m,W 0 m (mkS js σ) (upd H l (.lst [])))/\∀ i m σ H,W i m σ H ->
   ((ItI d o (kv.map fun p=>(p.1.map Sum.inl,V.int p.2))).stop i H/\Q l H) \/ ((ItI d o (kv.map fun p=>(p.1.map Sum.inl,V.int p.2))).go i H/\∀ x H',(ItI d o (kv.map fun p=>(p.1.map Sum.inl,V.int p.2))).yld i H x H'->gTup K 2 (aY9 (ax9 0) (aY9 (ax9 1) gNil)) x σ H' fun σ2 H2=>aJu σ2 H2 fun b H3 =>
     if b=true then tTup (ako (aqqv 1) (ako (tCB (rLOf K) (ako (aqqv 0) aqqw)) aqqw)) σ2 H3 fun y H4=>∃ acc,H4 l=some (.lst acc)/\acc.length < Ag/\∃ m',m' < m/\W (i + 1) m' σ2 (upd H4 l (.lst (acc++[y]))) else ∃ m',m' < m/\W (i + 1) m' σ2 H3):=by
 intro l hl;have nld:d ≠ l:=ae hd hl;refine ⟨fun i m σ' H'=>m=kv.length - i/\i <= kv.length/\(∃ c c',σ'=[c,c'])/\aqs2 H H'/\∃ F ts,aqs2 F H'/\F d=none/\F l=none/\H' l=some (.lst ts)/\ts.length=i/\Reps K F ts ((kv.take i).map aqr5),⟨_,rfl,zero_le _,hS,gd hl,fun _=>none,[],(fun b o e=>by cases e),rfl,rfl,ac,rfl,.nil⟩,?_⟩;rintro i m σ' H' ⟨rfl,hi,⟨c,c',rfl⟩,sm,F,ts,sF,Fd,Fl,hl',hts,rp⟩
 by_cases hlt:i < kv.length
 ·refine .inr ⟨⟨sm _ _ hd,by rw [length_map]; exact hlt⟩,fun x H2 y=>?_⟩
  obtain ⟨T,a,p,rfl,hT,hp,ha,rfl⟩:=y;rw [getElem?_map,getElem?_eq_getElem hlt] at hp;have hp':p=(kv[i].1.map Sum.inl,V.int kv[i].2):=(Option.some.inj hp).symm;subst hp';rw [show ((kv[i].1.map Sum.inl:List Key).map kV)=kv[i].1.map V.int by rw [map_map]; rfl] at ha;have sT:aqs2 H' (upd H' T (.tup [.ref a,.int kv[i].2])):=gd hT;refine ⟨T,_,rfl,.inl (.inl ac),rfl,_,_,rfl,_,_,rfl,rfl,?_⟩;dsimp only [aJu];rw [if_pos rfl];have ha1:=sT _ _ ha;have hl1:=sT _ _ hl';have sm1:=sm.trans sT;have sF1:=sF.trans sT;generalize upd H' T (.tup [.ref a,.int kv[i].2])=H1 at ha1 hl1 sm1 sF1 ⊢;refine ⟨_,rfl,_,rfl,a,_,rfl,.inr (.inl (.inl ha1)),fun q hq=>⟨by show 2 <= Ag; decide,fun t ht=>?_⟩⟩;have s2:aqs2 H1 (upd H1 q (.lst (kv[i].1.map V.int))):=gd hq;have s3:aqs2 (upd H1 q (.lst (kv[i].1.map V.int))) (upd (upd H1 q (.lst (kv[i].1.map V.int))) t (.tup [.int kv[i].2,.ref q])):=gd ht;have nql:q ≠ l:=(ae hl1 hq).symm;have ntl:t ≠ l:=(ae (s2 _ _ hl1) ht).symm;have nqd:q ≠ d:=(ae (sm1 _ _ hd) hq).symm;have ntd:t ≠ d:=(ae (s2 _ _ (sm1 _ _ hd)) ht).symm;have ntq:q ≠ t:=ae ac ht;have Fq:F q=none:=sF1.free hq;have Ft:(upd F q (.lst (kv[i].1.map V.int))) t=none:=by rw [ah ntq.symm]; exact sF1.free (s2.free ht)
  have sA:aqs2 F (upd (upd F q (.lst (kv[i].1.map V.int))) t (.tup [.int kv[i].2,.ref q])):=(gd Fq).trans (gd Ft);refine ⟨ts,s3 _ _ (s2 _ _ hl1),by omega,_,(by omega:kv.length - (i + 1) < kv.length - i),rfl,hlt,⟨_,_,rfl⟩,fun b o' hb=>?_,upd (upd F q (.lst (kv[i].1.map V.int))) t (.tup [.int kv[i].2,.ref q]),ts++[.ref t],fun b o' hb=>?_,?_,?_,ac,by simp [hts],?_⟩
  ·rw [ah (ae hb hl)]
   exact s3 _ _ (s2 _ _ (sm1 _ _ hb))
  ·by_cases hbt:b=t
   ·subst hbt
    rw [ac] at hb;rw [ah ntl,ac]; exact hb
   ·rw [ah hbt] at hb
    by_cases hbq:b=q
    ·subst hbq
     rw [ac] at hb;rw [ah nql,ah hbt,ac]; exact hb
    ·rw [ah hbq] at hb
     have nbl:b ≠ l:=ae hb Fl;rw [ah nbl,ah hbt,ah hbq];exact sF1 _ _ hb
  ·rw [ah ntd.symm,ah nqd.symm]; exact Fd
  ·rw [ah ntl.symm,ah nql.symm]; exact Fl
  ·rw [take_succ_eq_append_getElem hlt,map_append]
   refine aw1 ((aqv sA).2 rp) ?_;refine .tup (.inl (.inl ac)) (.cons (.int _) (.cons (.lst (.inl (.inl ?_)) (aq4 _)) .nil));rw [ah ntq,ac]
 ·have e1:i=kv.length:=by omega
  subst e1;refine .inl ⟨⟨sm _ _ hd,by rw [length_map]; exact le_refl _⟩,?_⟩;rw [take_length] at rp;exact k l H' F hl sm (sm _ _ hd) sF Fd Fl ⟨ts,hl',rp⟩
end DL
namespace DL
open PySem PySem.Spec PyProof.Rows L2 SortW PySem.W
section
variable {prog:Aj} {w:World} {A:Around} {E:Value->Shared->Prop} {s:Shared} {a b:Addr} {es es':Array DictEntry} {ep ep':Nat}
end
end DL
namespace DL
open PySem PySem.Spec PyProof.Rows L2
theorem aqfh {X:Cx} {C C':Addr} {y n:Str} {i:Nat} {np hpos:Pos} {b0:Stmt} {suite:List Stmt} {aqr2:List Ep} {ts:Addr->TS} (Z:ExcH X.K C C') (hgy:Gl X y) (hmy:X.mg y=some (.ref C')) (hN:X.N.Nodup) (hi:X.N[i]?=some n) (hl:X.env.scope.names.lookup n=some .local)
  (hs:∀ a oe,oe.cls=.ref C->PSs (maX X a oe) (b0 :: suite) (ts a)) (hdy:(y == ("__debug__":Str))=false:=by decide) :
  PH X (.ExceptHandler (some (.Name y np)) (some n) (b0 :: suite) hpos :: aqr2) C (fun D σ H=>∀ a,ts a (outN i D) (σ.set i (some (.ref a))) H):=by
 intro pins σ H D s a t B ok fl ld q;obtain ⟨oe,hc,hoe,J,Jm⟩:=ld s.heap fl (Eb fun _ _ e=>e);refine Hm (Gq (az5 (X:=maX X a oe) Jm hgy hmy ?_ hdy)) (by intro q; cases q);refine awg Jm.kIn Z hoe hc ?_;refine codeAny_handlers_suite_as ?_;refine lands_againW fl fun h6 fl6 sm6=>?_;obtain ⟨oe6,hc6,hoe6,J6,Jm6⟩:=ld h6 fl6 sm6;refine aJy (X:=maX X a oe6) (v:=.ref a) Jm6 hN hi (.inl hl) rfl (fun s2 I2=>?_) (.inr hl);refine wpAny_noRaise (A9 (hs a oe6 hc6 pins s2 _ H (outN i D) I2 (q a)) (fun fl s4 w=>?_) fun _ _ z=>z);cases fl with
 | next=>obtain ⟨σ',H',I4,q⟩:=w; exact aZ9 (aJb ok I4) hN hi hl fun s5 I5=>⟨_,H',I5,q⟩
 | ret u=>obtain ⟨v,σ',H',I4,r4,q⟩:=w; exact aZ9 (aJb ok I4) hN hi hl fun s5 I5=>⟨v,_,H',I5,r4,q⟩
 | brk=>obtain ⟨σ',H',I4,q⟩:=w; exact aZ9 (aJb ok I4) hN hi hl fun s5 I5=>⟨_,H',I5,q⟩
 | cont=>obtain ⟨σ',H',I4,q⟩:=w; exact aZ9 (aJb ok I4) hN hi hl fun s5 I5=>⟨_,H',I5,q⟩
end DL
namespace MB
open PySem DL
@[simp] theorem gN_ap {i:Nat} {d:D} {ρ:Cs}:gN i d ρ=some (ρ.set i (some (.sh d))):=rfl
theorem axa {α:Type} [DecidableEq α]:∀ {l m:List α},l.Nodup->(∀ x∈l,x∈m)->l.length <= m.length
 | [],_,_,_=>by simp
 | a :: l,m,hn,hs=>by
  have ha:a∈m:=hs a (by simp);rw [nodup_cons] at hn;have ih:=axa (l:=l) (m:=m.erase a) hn.2 fun x hx=>by
   have:x ≠ a:=fun e=>hn.1 (e ▸ hx)
   exact (Ky this).mpr (hs x (by simp [hx]))
  have:=List.length_erase_of_mem ha
  have hp:=List.length_pos_of_mem ha
  simp
  omega
def six:List Int:=[0,1,2,3,4,5]
def okH (h:List aqs6):Prop:=∀ p∈h,p.2.Sublist six
theorem okH.len {h:List aqs6} (k:okH h):∀ p∈h,p.2.length <= 6:=fun p m=>(k p m).length_le
theorem okH.mem {h:List aqs6} (k:okH h) {p:aqs6} (m:p∈h) {x:Int} (hx:x∈p.2):x∈six:=(k p m).subset hx
end MB
namespace DL
open PySem PySem.Spec PyProof.Rows L2
theorem aKm:∀ r:Nat,r < 26->atI aj4.cps.toList (r:Int)=some (97 + r):=by decide +kernel
theorem akk {r:Int} (h0:0 <= r) (h:r < 26):atI aj4.cps.toList r=some (97 + r.toNat):=by
 have:=aKm r.toNat (by omega)
 rwa [show ((r.toNat:Nat):Int)=r by omega] at this
theorem awa:aj4.length <= Ag:=by decide +kernel
def aE (x:Str):Prop:=1 <= x.length/\x.length <= 8/\∀ c∈x.cps.toList,97 <= c/\c < 123
theorem aqd3 (x:Str) (c:Nat):(x++(⟨#[c]⟩:Str)).cps.toList=x.cps.toList++[c]:=by
 show (x.cps++#[c]).toList=_
 simp
theorem aql1 (l:List Nat) (c:Nat):((⟨#[c]⟩:Str)++(⟨l.toArray⟩:Str))=⟨(c :: l).toArray⟩:=by
 show (⟨#[c]++l.toArray⟩:Str)=_
 simp
theorem avn (x:Str):x.length=x.cps.toList.length:=by simp [Str.length]
def adv (m:Nat) (x:Str):Str:=match x.cps.toList with
 | []=>x
 | c :: t=>⟨((97 + (c - 97 + m) % 26) :: t).toArray⟩
theorem aJs {x:Str} {c:Nat} {t:List Nat} (h:x.cps.toList=c :: t) (m:Nat):adv m x=⟨((97 + (c - 97 + m) % 26) :: t).toArray⟩:=by
 unfold adv; rw [h]
theorem azd {x:Str} (h:aE x):∃ c t,x.cps.toList=c :: t/\97 <= c/\c < 123/\x=⟨(c :: t).toArray⟩:=by
 obtain ⟨h1,h2,h3⟩:=h;rw [avn] at h1;cases q:x.cps.toList with
 | nil=>rw [q] at h1; simp at h1
 | cons c t =>
  refine ⟨c,t,rfl,(h3 c (by rw [q]; simp)).1,(h3 c (by rw [q]; simp)).2,?_⟩;rw [<- q]
theorem aqhj {x:Str} (h:aE x):adv 0 x=x:=by
 obtain ⟨c,t,e,h1,h2,h3⟩:=azd h;rw [aJs e,h3];congr 3;omega
theorem aqoa {x:Str} (h:aE x) (m:Nat):aE (adv m x):=by
 obtain ⟨c,t,e,h1,h2,h3⟩:=azd h;rw [aJs e];obtain ⟨g1,g2,g3⟩:=h;rw [avn,e] at g1 g2;refine ⟨by rw [avn]; simp,by rw [avn]; simpa using g2,fun d hd=>?_⟩;simp at hd;rcases hd with rfl | hd
 ·omega
 ·exact g3 d (by rw [e]; exact mem_cons_of_mem _ hd)
theorem aqle {x:Str} (h:aE x) (m n:Nat):adv m (adv n x)=adv (n + m) x:=by
 obtain ⟨c,t,e,h1,h2,h3⟩:=azd h;rw [aJs e,aJs e,aJs (c:=97 + (c - 97 + n) % 26) (t:=t) (by simp)];congr 3;omega
theorem aqld {x:Str} (h:aE x) {m n:Nat} (hm:m < 26) (hn:n < 26) (e:adv m x=adv n x):m=n:=by
 obtain ⟨c,t,ec,h1,h2,h3⟩:=azd h;rw [aJs ec,aJs ec] at e
 have:=congrArg (fun s:Str=>s.cps.toList.head?) e
 simp at this;omega
theorem aqhk {x:Str} (h:aE x) (names:List Str) (hl:names.length < 26):∃ m,m < 26/\adv m x ∉ names:=by
 apply Dm;intro hn;have hall:∀ m,m < 26->adv m x∈names:=fun m hm=>Dm fun hx=>hn ⟨m,hm,hx⟩;have nd:((Ax 26).map fun m=>adv m x).Nodup:=by
  rw [List.Nodup,pairwise_map];refine List.Pairwise.imp_of_mem (fun {a b} ha hb hab e=>?_) (List.nodup_range (n:=26));exact hab (aqld h (Bt.mp ha) (Bt.mp hb) e)
 have:=MB.axa nd (m:=names) fun y hy=>by
  obtain ⟨m,hm,rfl⟩:=Bf.mp hy;exact hall m (Bt.mp hm)
 simp at this;omega
theorem avp {x:Str} (h:aE x) (n:Nat):shp n (.str x)=true:=by
 have:x.cps.all (fun c=>decide (c < 0x110000))=true:=by
  rw [<- Array.all_toList,Gv];intro c hc
  have:=h.2.2 c hc
  simp; omega
 simpa [shp] using this
theorem aqr {l:List Str} (h:∀ x∈l,aE x) (n:Nat):aqqx n (l.map D.str)=true:=by
 induction l with
 | nil=>rfl
 | cons x l ih =>
  simp only [map_cons,aqqx,C8];exact ⟨avp (h x (by simp)) n,ih fun y hy=>h y (mem_cons_of_mem _ hy)⟩
theorem avi (l:List Str) (x:Str):((l.map D.str).any fun y=>eqD y (.str x))=decide (x∈l):=by
 rw [Bg,any_eq_true,decide_eq_true_eq];constructor
 ·rintro ⟨d,hd,e⟩
  obtain ⟨y,hy,rfl⟩:=Bf.mp hd;have e':(y == x)=true:=e;rw [<- eq_of_beq e']; exact hy
 ·intro h
  refine ⟨.str x,Bf.mpr ⟨x,h,rfl⟩,?_⟩;show (x == x)=true
  simp
theorem aju {K:Frag} {F:Hp} (l:List Str):Reps K F (l.map V.str) (l.map D.str):=by
 induction l with
 | nil=>exact .nil
 | cons x l ih=>exact .cons (.str x) ih
end DL
namespace MB
def aqs7 (D:Nat) (a:Rat):Prop:=∃ x:Int,a * (D:Rat)=(x:Rat)
theorem aqs7.sub {D:Nat} {a b:Rat} (ha:aqs7 D a) (hb:aqs7 D b):aqs7 D (a - b):=by
 obtain ⟨x,hx⟩:=ha;obtain ⟨y,hy⟩:=hb;have e:(a - b) * (D:Rat)=a * D - b * D:=by grind
 exact ⟨x - y,by rw [e,hx,hy]; simp⟩
theorem aqs7.mn {D:Nat} {a b:Rat} (ha:aqs7 D a) (hb:aqs7 D b):aqs7 D (min a b):=by
 have:min a b=a \/ min a b=b:=by grind
 rcases this with e | e <;> rw [e] <;> assumption
theorem aqdt (D:Nat):(((D:Nat):Int):Rat)=(D:Rat):=rfl
theorem aqji (a:Rat):a * (a.den:Rat)=(a.num:Rat):=by
 rw [<- aqjm];have e1:((a.den:Rat)).num=(a.den:Int):=by simp
 have e2:((a.den:Rat)).den=1:=by simp
 rw [e1,e2,Nat.mul_one];have e3:(a.num:Rat)=mkRat a.num 1:=by simp [Rat.mkRat_one]
 rw [e3,Rat.mkRat_eq_iff a.den_nz (by decide)]
 simp
theorem aqs7.den {D:Nat} {a:Rat} (ha:aqs7 D a):a.den ∣ D:=by
 obtain ⟨x,hx⟩:=ha;have h1:a.num * (D:Int)=x * (a.den:Int):=by
  have h2:a * (a.den:Rat)=(a.num:Rat):=aqji a;have h3:((a.num * (D:Int):Int):Rat)=((x * (a.den:Int):Int):Rat):=by
   have e1:((a.num * (D:Int):Int):Rat)=(a.num:Rat) * (D:Rat):=by simp [aqdt]
   have e2:((x * (a.den:Int):Int):Rat)=(x:Rat) * (a.den:Rat):=by simp [aqdt]
   rw [e1,e2,<- hx,<- h2]; grind
  exact_mod_cast h3
 have h4:a.den ∣ a.num.natAbs * D:=by
  have:=congrArg Int.natAbs h1
  rw [Gg,Gg,Ij,Ij] at this;exact ⟨x.natAbs,by rw [this,Nat.mul_comm]⟩
 exact (Nat.Coprime.dvd_of_dvd_mul_left (Nat.Coprime.symm a.reduced) h4)
theorem aqs7.bd {D d m:Nat} {a:Rat} (ha:aqs7 D a) (hD:0 < D) (hd:D < 2 ^ d) (hlo:-((2 ^ m:Nat):Rat) <= a) (hhi:a <= ((2 ^ m:Nat):Rat)):Bd (m + d) d a:=by
 have h1:a.den <= D:=Nat.le_of_dvd hD ha.den;refine ⟨?_,lt_of_le_of_lt h1 hd⟩;have hden:(0:Rat) <= (a.den:Rat):=by exact_mod_cast zero_le _
 have e:=aqji a;have u1:(a.den:Rat) * a <= (a.den:Rat) * ((2 ^ m:Nat):Rat):=G8 hhi hden;have u2:(a.den:Rat) * (-((2 ^ m:Nat):Rat)) <= (a.den:Rat) * a:=G8 hlo hden;have v1:(a.num:Rat) <= ((a.den * 2 ^ m:Nat):Rat):=by
  have:((a.den * 2 ^ m:Nat):Rat)=(a.den:Rat) * ((2 ^ m:Nat):Rat):=by simp
  rw [this]; grind
 have v2:-((a.den * 2 ^ m:Nat):Rat) <= (a.num:Rat):=by
  have:((a.den * 2 ^ m:Nat):Rat)=(a.den:Rat) * ((2 ^ m:Nat):Rat):=by simp
  rw [this]; grind
 have w1:a.num <= ((a.den * 2 ^ m:Nat):Int):=by exact_mod_cast v1
 have w2:-((a.den * 2 ^ m:Nat):Int) <= a.num:=by
  have v3:(-a.num:Rat) <= ((a.den * 2 ^ m:Nat):Rat):=by grind
  have v4:((-a.num:Int):Rat) <= ((a.den * 2 ^ m:Nat):Rat):=by simpa using v3
  have v5:-a.num <= ((a.den * 2 ^ m:Nat):Int):=by exact_mod_cast v4
  omega
 have w3:a.num.natAbs <= a.den * 2 ^ m:=by omega
 have w4:a.den * 2 ^ m < 2 ^ d * 2 ^ m:=Nat.mul_lt_mul_of_pos_right (lt_of_le_of_lt h1 hd) (Ml (by simp));rw [Nat.pow_add,Nat.mul_comm (2 ^ m)];omega
end MB
namespace MB
open PySem DL
def pursD (P:List Rat):D:=.lst (P.map frD)
@[simp] theorem aqjo (P:List Rat):aqdw (pursD P)=some (P.map frD):=rfl
@[simp] theorem aqne (P:List Rat):imm (pursD P)=false:=by simp [pursD]
def aqlf (t:Nat) (P:List Rat):Prop:=∃ D:Nat,0 < D/\D < 2 ^ (80 * t + 1)/\∀ q∈P,aqs7 D q/\0 <= q/\q <= ((t * 2 ^ 80:Nat):Rat)
theorem aqlf.bd {t:Nat} {P:List Rat} (h:aqlf t P) (ht:t <= 20) {q:Rat} (hq:q∈P):Bd 1800 1700 q:=by
 obtain ⟨D,h1,h2,h3⟩:=h;obtain ⟨o,q0,q1⟩:=h3 q hq;have hm:((t * 2 ^ 80:Nat):Rat) <= ((2 ^ 85:Nat):Rat):=by
  have:t * 2 ^ 80 <= 2 ^ 85:=le_trans (Nat.mul_le_mul_right _ (le_trans ht (by decide:20 <= 32))) (by decide)
  exact_mod_cast this
 have hz:(0:Rat) <= ((2 ^ 85:Nat):Rat):=by exact_mod_cast zero_le _
 exact (o.bd (m:=85) h1 h2 (by grind) (by grind)).mono (by omega) (by omega)
theorem aqlf.sub {t:Nat} {P Q:List Rat} (h:aqlf t P) (hs:∀ q∈Q,q∈P):aqlf t Q:=by
 obtain ⟨D,h1,h2,h3⟩:=h;exact ⟨D,h1,h2,fun q hq=>h3 q (hs q hq)⟩
structure Dealt (w c:List Int) (s:Nat) (n:List Nat) (q:Option Rat):Prop where
 len:n.length=w.length
 cap:∀ k,k < n.length->(n.getD k 0:Int) <= c.getD k 0
 sum:n.sum=s \/ n.sum < s/\∀ k,k < n.length->(n.getD k 0:Int)=c.getD k 0
 non:q=none->∀ k,n.getD k 0=0
 met:∀ r,q=some r->∃ k,k < n.length/\0 < n.getD k 0/\mkRat (w.getD k 0) (n.getD k 0)=r
 low:∀ r,q=some r->∀ k,k < n.length->0 < n.getD k 0->r <= mkRat (w.getD k 0) (n.getD k 0)
 top:∀ r,q=some r->∀ k,k < n.length->(n.getD k 0:Int) < c.getD k 0->mkRat (w.getD k 0) (n.getD k 0 + 1) <= r
def sc (b:Int) (o:Nat × Rat):Nat × Rat:=(o.1,o.2 * (b:Rat))
end MB
namespace L_k64
open PySem DL
noncomputable def azj:Blk :=
 (aqru (mO [true,true] (ava [none,some 1] (aqri 0) (geN 0) qT (oE (aqrj (cn (aqri 1) (cn (fC (.int 1)) aqry)))))))
noncomputable def aS:List D->Option D:=aqr1 2 azj
noncomputable def aqax:Blk :=
 (aqru (mE [true,true] (f2 dLt (f2 aqrm (f2 dIx (aqri 0) (fC (.int 0))) (f2 dIx (aqri 1) (fC (.int 1)))) (f2 aqrm (f2 dIx (aqri 1) (fC (.int 0))) (f2 dIx (aqri 0) (fC (.int 1)))))))
noncomputable def av3:List D->Option D:=aqr1 2 aqax
noncomputable def aqcy:Blk :=
 (bIf (qOr (qV (f2 dIs (aqri 1) (fC .non))) (qV (aqs 2 av3 (cn (f2 dIx (aqri 2) (fC (.int 1))) (cn (f2 dIx (aqri 1) (fC (.int 1))) aqry))))) (aqrs 1 (mE [false,false,true] (aqri 2))) aqrv)
noncomputable def aqeb:Blk :=
 (aqrt (aqrs 1 (mE [false,false,false] (fC .non)))
  (aqrt (aqrw [true,false,false] (aqri 0) (gN 2) aqcy)
  (aqru (mE [false,true,false] (aqri 1)))))
noncomputable def azf:List D->Option D:=aqr1 3 aqeb
noncomputable def awj:Blk :=
 (aqru (mE [true] (aqrk dSum (cn (fL (ava [none,none] (aqri 0) (geTp [(geN 0),(geN 1)]) qT (oE (aqri 0)))) aqry))))
noncomputable def aQ:List D->Option D:=aqr1 1 awj
noncomputable def akh:Blk :=
 (aqru (mE [true,true] (aqrk dAll (cn (fL (ava [none,some 0] (aqri 1) (geN 0) qT (oE (f2 dIn (aqri 0) (f2 dIx (aqri 1) (fC (.int 1))))))) aqry))))
noncomputable def ax2:List D->Option D:=aqr1 2 akh
noncomputable def aqay:Blk :=
 (aqru (mO [true,true] (aqg3 [none,none,some 1] (aqri 0) (geTp [(geN 0),(geN 1)]) (qV (aqs 2 ax2 (cn (aqri 1) (cn (aqri 2) aqry)))) (oE (aqri 0)))))
noncomputable def ajx:List D->Option O:=aqqz 2 aqay
noncomputable def aqat:Blk :=
 (aqru (mO [true,true] (aV6 2 ajx (cn (aqri 0) (cn (fL (aqr7 (cn (aqri 1) aqry))) aqry)))))
noncomputable def aje:List D->Option O:=aqqz 2 aqat
noncomputable def az0:Blk :=
 (aqrt (aqrs 4 (mE [false,false,true,true,false] (f2 dMod (aqri 2) (aqri 3))))
  (aqrt (aqrs 2 (mE [false,false,false,true,false] (aqri 3)))
  (aqrs 3 (mE [false,false,false,false,true] (aqri 4)))))
noncomputable def aQv:Blk :=
 (aqrt (aqrs 2 (mE [true,false,false,false,false] (aqrk dAbs (cn (aqri 0) aqry))))
  (aqrt (aqrs 3 (mE [false,true,false,false,false] (aqrk dAbs (cn (aqri 1) aqry))))
  (aqrt (azk (qV (f2 dNe (aqri 3) (fC (.int 0)))) az0)
  (aqru (mE [false,false,true,false,false] (aqri 2))))))
noncomputable def aqq:List D->Option D:=aqr1 5 aQv
noncomputable def aZ:Blk :=
 (aqrs 1 (mE [false,true,false,true] (f2 aqrm (aqri 1) (f2 aqro (aqri 3) (aqs 2 aqq (cn (aqri 1) (cn (aqri 3) aqry)))))))
noncomputable def ajf:Blk :=
 (aqrt (aqrs 1 (mE [false,false,false,false] (fC (.int 1))))
  (aqrt (aqrw [true,false,false,false] (aqri 0) (gTp [(gN 2),(gN 3)]) aZ)
  (aqru (mE [false,true,false,false] (aqri 1)))))
noncomputable def bA:List D->Option D:=aqr1 4 ajf
noncomputable def azz:Blk :=
 (aqru (mO [true,true] (ava [none,none,some 0] (aqri 1) (geTp [(geN 0),(geN 1)]) qT (oE (f2 aqrm (aqri 0) (f2 aqro (aqri 2) (aqri 1)))))))
noncomputable def aql:List D->Option D:=aqr1 2 azz
noncomputable def awk:Blk :=
 (aqru (mE [true,true] (aqrk dSum (cn (fL (ava [none,some 0] (aqri 1) (geN 0) qT (oE (f2 dIx (f2 dIx (aqri 1) (aqri 0)) (fC (.int 0)))))) aqry))))
noncomputable def aR:List D->Option D:=aqr1 2 awk
noncomputable def aVr:Blk :=
 (aqrt (bIf (qV (f2 dEq (aqri 1) (fC (.int 0)))) bNever aqrv)
  (aqrt (aqrs 2 (mE [true,true,false] (aqs 2 aqq (cn (aqri 0) (cn (aqri 1) aqry)))))
  (aqrt (bIf (qV (f2 dLt (aqri 1) (fC (.int 0)))) (aqrs 2 (mE [false,false,true] (f1 dNeg (aqri 2)))) aqrv)
  (aqru (mE [true,true,true] (aqrj (cn (f2 aqro (aqri 0) (aqri 2)) (cn (f2 aqro (aqri 1) (aqri 2)) aqry))))))))
noncomputable def ajk:List D->Option D:=aqr1 3 aVr
noncomputable def aQs:Blk :=
 (aqrt (bIf (qV (f2 dLe (aqri 7) (f2 aqrm (aqri 8) (aqri 9)))) (aqru (mE [false,false,false,false,false,true,false,true,true,false,false] (aqs 2 ajk (cn (aqri 7) (cn (f2 aqrm (aqri 8) (aqri 5)) aqry))))) aqrv)
  (aqrt (aqrs 7 (mE [true,false,false,false,false,false,false,true,false,true,true] (f2 dSub (aqri 7) (f2 aqrm (f2 dIx (f2 dIx (aqri 0) (aqri 10)) (fC (.int 0))) (aqri 9)))))
  (aqrs 8 (mE [true,false,false,false,false,false,false,false,true,false,true] (f2 dSub (aqri 8) (f2 dIx (f2 dIx (aqri 0) (aqri 10)) (fC (.int 0))))))))
noncomputable def aqhd:Blk :=
 (aqrt (aqrs 4 (mO [true,false,true,false,false,false,false,false,false,false,false] (aV6 2 aje (cn (aqri 0) (cn (aqri 2) aqry)))))
  (aqrt (aqrs 5 (mE [false,true,false,false,true,false,false,false,false,false,true] (aqs 1 bA (cn (fL (ava [none,some 1] (aqri 4) (geN 0) qT (oE (f2 dIx (aqri 1) (aqri 0))))) aqry))))
  (aqrt (aqrs 6 (mE [false,true,false,false,true,true,false,false,false,false,true] (aqs 2 aql (cn (aqri 5) (cn (fL (ava [none,some 1] (aqri 4) (geN 0) qT (oE (f2 dIx (aqri 1) (aqri 0))))) aqry)))))
  (aqrt (aqrs 7 (mE [false,false,false,true,false,true,false,false,false,false,false] (f2 aqrm (aqri 3) (aqri 5))))
  (aqrt (aqrs 8 (mE [true,false,false,false,true,false,false,false,false,false,false] (aqs 2 aR (cn (aqri 0) (cn (aqri 4) aqry)))))
  (aqrt (aqrw [false,false,false,false,true,false,true,false,false,false,false] (fL (aqr8 aQd (cn (aqri 6) (cn (aqri 4) aqry)))) (gTp [(gN 9),(gN 10)]) aQs)
  (aqru (mE [false,false,false,false,false,false,false,false,false,false,false] (fC .non)))))))))
noncomputable def aXr:List D->Option D:=aqr1 11 aqhd
noncomputable def aqcx:Blk :=
 (bExt 1 [false,false,false,true] pNil (aqri 3))
noncomputable def aqea:Blk :=
 (aqrt (aqrs 1 (mO [false,false,false,false] (aqr7 aqry)))
  (aqrt (aqrw [true,false,false,false] (aqri 0) (gTp [(gN 2),(gN 3)]) aqcx)
  (aqru (mO [false,true,false,false] (aqr8 aXu (cn (aqri 1) aqry))))))
noncomputable def az2:List D->Option O:=aqqz 4 aqea
noncomputable def aQu:Blk :=
 (aqrt (aqrs 3 (mO [false,false,true,false,false,false] (ava [none] (aqri 2) (geN 0) qT (oE (f2 dIx (aqri 0) (fC (.int 0)))))))
  (aqrt (aqrs 4 (mE [true,false,false,false,false,false] (aqs 1 aQ (cn (aqri 0) aqry))))
  (aqrt (aqrs 5 (mO [true,true,false,true,true,false] (ava [none,some 0,some 1,some 4,some 3] (fL (aV6 1 az2 (cn (aqri 0) aqry))) (geN 0) (qV (f2 avc (aqri 0) (aqri 4))) (oE (aqrj (cn (aqri 0) (cn (aqs 4 aXr (cn (aqri 1) (cn (aqri 2) (cn (aqri 0) (cn (aqri 3) aqry))))) aqry)))))))
  (aqru (mO [false,false,false,false,false,true] (ava [none] (aqri 5) (geN 0) (qV (f2 dIsN (f2 dIx (aqri 0) (fC (.int 1))) (fC .non))) (oE (aqri 0))))))))
noncomputable def axb:List D->Option D:=aqr1 6 aQu
noncomputable def aqas:Blk :=
 (aqru (mE [true,true] (aqs 2 ajk (cn (f2 dSub (f2 aqrm (f2 dIx (aqri 0) (fC (.int 0))) (f2 dIx (aqri 1) (fC (.int 1)))) (f2 aqrm (f2 dIx (aqri 1) (fC (.int 0))) (f2 dIx (aqri 0) (fC (.int 1))))) (cn (f2 aqrm (f2 dIx (aqri 0) (fC (.int 1))) (f2 dIx (aqri 1) (fC (.int 1)))) aqry)))))
noncomputable def aJc:List D->Option D:=aqr1 2 aqas
noncomputable def aj1:Blk :=
 (aqrt (bIf (qV (aqs 2 av3 (cn (aqri 0) (cn (aqri 1) aqry)))) (aqru (mE [false,false] (aqrj (cn (fC (.int 0)) (cn (fC (.int 1)) aqry))))) aqrv)
  (aqru (mE [true,true] (aqs 2 aJc (cn (aqri 0) (cn (aqri 1) aqry))))))
noncomputable def aqf:List D->Option D:=aqr1 2 aj1
noncomputable def aQt:Blk :=
 (bPut 4 [false,false,false,false,false,true] pNil (aqri 5) (mE [false,true,false,true,false,true] (aqs 2 aqf (cn (f2 dIx (aqri 1) (aqri 5)) (cn (aqri 3) aqry)))))
noncomputable def aqhe:Blk :=
 (aqrt (aqrs 4 (mO [false,true,false,false,false,false] (aqr8 aqc8 (cn (aqri 1) aqry))))
  (aqrt (aqrw [true,false,true,false,false,false] (fL (aV6 2 aje (cn (aqri 0) (cn (aqri 2) aqry)))) (gN 5) aQt)
  (aqru (mE [false,false,false,false,true,false] (aqri 4)))))
noncomputable def aYv:List D->Option D:=aqr1 6 aqhe
noncomputable def azi:Blk :=
 (aqrt (aqrs 2 (mE [true,false,true,false,true] (aqs 4 aYv (cn (aqri 0) (cn (aqri 2) (cn (f2 dIx (aqri 4) (fC (.int 0))) (cn (f2 dIx (aqri 4) (fC (.int 1))) aqry)))))))
  (aqrt (bMut 3 [false,false,false,false,false] pNil (mE [false,false,true,false,true] (aqrj (cn (f2 dIx (aqri 4) (fC (.int 0))) (cn (f2 dIx (aqri 4) (fC (.int 1))) (cn (aqri 2) aqry))))) gApp)
  (aqrs 4 (mE [true,false,true,true,false] (aqs 1 azf (cn (aqs 3 axb (cn (aqri 0) (cn (aqri 2) (cn (aqri 3) aqry)))) aqry))))))
noncomputable def aZd:Blk :=
 (aqrt (aqrs 2 (mE [true,true,false,false,false] (aqs 2 aS (cn (aqri 0) (cn (aqri 1) aqry)))))
  (aqrt (aqrs 3 (mO [false,false,false,false,false] (aqr7 aqry)))
  (aqrt (aqrs 4 (mE [true,false,true,true,false] (aqs 1 azf (cn (aqs 3 axb (cn (aqri 0) (cn (aqri 2) (cn (aqri 3) aqry)))) aqry))))
  (aqrt (azk (qV (f2 dIsN (aqri 4) (fC .non))) azi)
  (aqru (mE [false,false,false,true,false] (aqri 3)))))))
noncomputable def av2:List D->Option D:=aqr1 5 aZd
noncomputable def axt:Blk :=
 (aqru (mO [true] (ava [none] (aqri 0) (geN 0) qT (oE (f2 dIx (aqri 0) (fC (.int 0)))))))
noncomputable def aK:List D->Option D:=aqr1 1 axt
noncomputable def aVq:Blk :=
 (aqru (mE [true,true,true] (aqrk dSum (cn (fL (ava [none,some 1,some 0] (aqri 2) (geN 0) qT (oE (f2 aqrm (f2 dIx (f2 dIx (aqri 2) (aqri 0)) (fC (.int 0))) (f2 dIx (aqri 1) (aqri 0)))))) aqry))))
noncomputable def aQb:List D->Option D:=aqr1 3 aVq
noncomputable def aql7:Blk :=
 (aqrt (aqrs 3 (mO [true,false,true,false,false,false] (aV6 2 aje (cn (aqri 0) (cn (aqri 2) aqry)))))
  (aqrt (aqrs 4 (mE [false,true,false,false,false,false] (aqs 1 bA (cn (aqri 1) aqry))))
  (aqrt (aqrs 5 (mE [true,true,false,true,true,false] (f2 dSub (f2 aqrm (aqs 1 aQ (cn (aqri 0) aqry)) (aqri 4)) (aqs 3 aQb (cn (aqri 0) (cn (aqs 2 aql (cn (aqri 4) (cn (aqri 1) aqry))) (cn (aqri 3) aqry)))))))
  (aqrt (bIf (qV (f2 dLe (aqri 5) (fC (.int 0)))) (aqru (mE [false,false,false,false,false,false] (aqrj (cn (fC (.int 0)) (cn (fC (.int 1)) aqry))))) aqrv)
  (aqru (mE [true,false,false,true,true,true] (aqs 2 ajk (cn (aqri 5) (cn (f2 aqrm (aqs 2 aR (cn (aqri 0) (cn (aqri 3) aqry))) (aqri 4)) aqry)))))))))
noncomputable def aqc4:List D->Option D:=aqr1 6 aql7
noncomputable def aqar:Blk :=
 (aqrt (bIf (qV (f2 dGe (aqrk aqrn (cn (aqri 2) aqry)) (aqri 3))) (aqru (mO [false,false,false,false] (aqr7 aqry))) aqrv)
  (aqru (mO [true,true,true,false] (ava [none,some 0,some 1,some 2] (fL (aV6 1 az2 (cn (aqri 0) aqry))) (geN 0) (qV (f2 avc (aqri 0) (aqri 3))) (oE (aqrj (cn (aqri 0) (cn (aqs 3 aqc4 (cn (aqri 1) (cn (aqri 2) (cn (aqri 0) aqry)))) aqry))))))))
noncomputable def ak9:List D->Option D:=aqr1 4 aqar
noncomputable def aql8:Blk :=
 (aqru (mE [true,true] (aqs 2 ajk (cn (f2 dAdd (f2 aqrm (f2 dIx (aqri 0) (fC (.int 0))) (f2 dIx (aqri 1) (fC (.int 1)))) (f2 aqrm (f2 dIx (aqri 1) (fC (.int 0))) (f2 dIx (aqri 0) (fC (.int 1))))) (cn (f2 aqrm (f2 dIx (aqri 0) (fC (.int 1))) (f2 dIx (aqri 1) (fC (.int 1)))) aqry)))))
noncomputable def aqgc:List D->Option D:=aqr1 2 aql8
noncomputable def axr:Blk :=
 (aqrt (aqrs 3 (mO [true,false,true,false] (aV6 2 aje (cn (aqri 0) (cn (f2 dIx (aqri 2) (fC (.int 0))) aqry)))))
  (aqru (mO [false,true,true,true] (aqg3 [none,none,some 3,some 2] (aqri 1) (geTp [(geN 0),(geN 1)]) qT (oE (fIf (qV (f2 dIn (aqri 0) (aqri 2))) (aqrj (cn (fC (.int 0)) (cn (fC (.int 1)) aqry))) (aqs 2 aqgc (cn (aqri 1) (cn (f2 dIx (aqri 3) (fC (.int 1))) aqry)))))))))
noncomputable def ajd:List D->Option D:=aqr1 4 axr
noncomputable def aVs:Blk :=
 (aqrt (aqrs 1 (mE [true,true,false,false,false,false,true] (aqs 3 ajd (cn (aqri 0) (cn (aqri 1) (cn (aqri 6) aqry))))))
  (aqrt (bMut 5 [false,false,false,false,false,false,false] pNil (mE [false,true,false,false,false,false,true] (aqrj (cn (f2 dIx (aqri 6) (fC (.int 0))) (cn (f2 dIx (aqri 6) (fC (.int 1))) (cn (aqri 1) aqry))))) gApp)
  (aqrt (bMut 4 [false,false,false,false,false,false,false] pNil (mE [false,false,false,false,false,false,true] (f2 dIx (aqri 6) (fC (.int 0)))) gApp)
  (aqrs 6 (mE [true,true,false,true,true,false,false] (aqs 1 azf (cn (aqs 4 ak9 (cn (aqri 0) (cn (aqri 1) (cn (aqri 4) (cn (aqri 3) aqry))))) aqry)))))))
noncomputable def aqau:Blk :=
 (aqrt (aqrs 4 (mO [false,false,true,false,false,false,false] (aqr8 aqc8 (cn (aqri 2) aqry))))
  (aqrt (aqrs 5 (mO [false,false,false,false,false,false,false] (aqr7 aqry)))
  (aqrt (aqrs 6 (mE [true,true,false,true,true,false,false] (aqs 1 azf (cn (aqs 4 ak9 (cn (aqri 0) (cn (aqri 1) (cn (aqri 4) (cn (aqri 3) aqry))))) aqry))))
  (aqrt (azk (qV (f2 dIsN (aqri 6) (fC .non))) aVs)
  (aqru (mE [false,false,false,false,false,true,false] (aqri 5)))))))
noncomputable def aJd:List D->Option D:=aqr1 7 aqau
noncomputable def az8:Blk :=
 (aqrt (bIf (qV (f2 dEq (aqri 2) (fL (aqr7 aqry)))) (aqru (mE [true,true,false] (aqs 2 aS (cn (aqri 0) (cn (aqri 1) aqry))))) aqrv)
  (aqru (mE [false,false,true] (f2 dIx (f2 dIx (aqri 2) (f1 dNeg (fC (.int 1)))) (fC (.int 2))))))
noncomputable def aq5:List D->Option D:=aqr1 3 az8
noncomputable def aqaw:Blk :=
 (aqrt (aqrs 2 (mE [true,true,false,false,false] (aqs 2 av2 (cn (aqri 0) (cn (aqri 1) aqry)))))
  (aqrt (aqrs 3 (mE [false,false,true,false,false] (aqs 1 aK (cn (aqri 2) aqry))))
  (aqrt (aqrs 4 (mE [true,true,true,true,false] (aqs 4 aJd (cn (aqri 0) (cn (aqs 3 aq5 (cn (aqri 0) (cn (aqri 1) (cn (aqri 2) aqry)))) (cn (fL (aqr8 aqjz (cn (aqri 3) aqry))) (cn (aqri 1) aqry)))))))
  (aqru (mO [false,false,true,true,true] (oTupO (aKn (aqr8 aqjz (cn (fL (o2 dCat (aqri 3) (aqs 1 aK (cn (aqri 4) aqry)))) aqry)) (aKn (oE (aqri 2)) (aKn (oE (aqri 4)) aoNil)))))))))
noncomputable def aZ3:List D->Option D:=aqr1 5 aqaw
noncomputable def axs:Blk :=
 (aqru (mO [true,true,true] (ava [none,some 0,some 1] (aqri 2) (geN 0) (qV (f2 dIn (aqri 0) (f2 dIx (f2 dIx (aqri 1) (aqri 2)) (fC (.int 1))))) (oE (aqri 0)))))
noncomputable def aqp:List D->Option D:=aqr1 3 axs
noncomputable def aqav:Blk :=
 (aqrt (bIf (qOr (qV (f2 dEq (aqrk aqrn (cn (aqri 2) aqry)) (fC (.int 0)))) (qV (f2 dEq (aqrk aqrn (cn (aqri 3) aqry)) (fC (.int 0))))) (aqru (mE [false,false,false,false,false] (fC (.bl false)))) aqrv)
  (aqrt (aqrs 4 (mO [true,false,true,false,false] (aV6 2 ajx (cn (aqri 0) (cn (aqri 2) aqry)))))
  (aqrt (bIf (qNot (qV (aqrk dAll (cn (fL (ava [none,some 4] (aqri 3) (geN 0) qT (oE (f2 dIn (aqri 0) (aqri 1))))) aqry)))) (aqru (mE [false,false,false,false,false] (fC (.bl false)))) aqrv)
  (aqru (mE [true,true,true,true,false] (f2 dGe (f2 aqrm (aqri 1) (aqs 2 aR (cn (aqri 0) (cn (aqri 3) aqry)))) (f2 aqrm (aqrk aqrn (cn (aqri 2) aqry)) (aqs 1 aQ (cn (aqri 0) aqry)))))))))
noncomputable def aJe:List D->Option D:=aqr1 5 aqav
noncomputable def aKl:Blk :=
 (aqrs 1 (mO [false,true,true] (o2 dCat (aqri 1) (fL (ava [none,some 2] (aqri 1) (geN 0) qT (o2 dCat (aqri 0) (fL (aqr7 (cn (aqri 1) aqry)))))))))
noncomputable def aVt:Blk :=
 (aqrt (aqrs 1 (mO [false,false,false] (oLstO (aKn (aqr7 aqry) aoNil))))
  (aqrt (aqrw [true,false,false] (aqri 0) (gN 2) aKl)
  (aqru (mE [false,true,false] (aqri 1)))))
noncomputable def avg:List D->Option D:=aqr1 3 aVt
noncomputable def aq0:Blk :=
 (aqrt (aqrs 4 (mO [true,false,true,true,false] (ava [none,some 3,some 0,some 2] (fL (aV6 2 ajx (cn (aqri 0) (cn (aqri 3) aqry)))) (geN 0) (qV (f2 dLt (aqrk aqrn (cn (aqs 3 aqp (cn (aqri 2) (cn (aqri 0) (cn (aqri 3) aqry)))) aqry)) (aqrk aqrn (cn (aqri 1) aqry)))) (oE (aqri 0)))))
  (bIf (qV (aqs 4 aJe (cn (aqri 0) (cn (aqri 1) (cn (aqri 3) (cn (aqri 4) aqry)))))) (aqru (mE [false,false,false,true,true] (aqrj (cn (aqri 3) (cn (aqri 4) aqry))))) aqrv))
noncomputable def aki:Blk :=
 (aqrt (aqrw [true,false,false,false,false] (aqs 1 avg (cn (fL (aV6 1 az2 (cn (aqri 0) aqry))) aqry)) (gN 3) aq0)
  (aqru (mE [false,false,false,false,false] (fC .non))))
noncomputable def axc:List D->Option D:=aqr1 5 aki
noncomputable def ajp:Blk :=
 (aqrt (bIf (qV (f2 dLt (aqri 1) (aqrk aqrn (cn (aqri 0) aqry)))) (aqru (mE [true,true] (f2 dIx (aqri 0) (aqri 1)))) aqrv)
  (aqrt (bIf (qV (f2 dEq (aqri 0) (fL (aqr7 aqry)))) (aqru (mE [false,true] (f2 dAdd (f2 aqrm (f2 aqrm (aqri 1) (aqri 1)) (fC (.int 7919))) (f2 aqrm (fC (.int 13)) (aqri 1))))) aqrv)
  (aqru (mE [true,true] (f2 dMod (f2 aqrm (f2 dAdd (f2 dAdd (f2 dIx (aqri 0) (f2 dMod (aqri 1) (aqrk aqrn (cn (aqri 0) aqry)))) (f2 aqrm (f2 aqrm (aqri 1) (aqri 1)) (fC (.int 7919)))) (fC (.int 1))) (fC (.int 48271))) (fC (.int 2147483647)))))))
noncomputable def aqm:List D->Option D:=aqr1 2 ajp
noncomputable def aqhp:List D->Option D:=lawD
end L_k64
set_option maxHeartbeats 4000000
namespace L_k64
open PySem DL MB
theorem aqdy {l:List Int} {i:Nat} (h:i < l.length):dIx (ax4 l) (.int (i:Int))=some (.int l[i]):=by
 have:=dIx_l (ds:=l.map .int) (i:=i) (by simpa using h)
 rw [ax4,this]; simp
def cellOf (ns:List Int) (k:Nat):Int:=if k < ns.length then ns.getD k 0 else if ns=[] then (k:Int) * k * 7919 + 13 * k else ((ns.getD (k % ns.length) 0 + (k:Int) * k * 7919 + 1) * 48271).fmod 2147483647
theorem aqe8 (ns:List Int) (k:Nat) (hk:k <= 1000):aqm [ax4 ns,.int (k:Int)]=some (.int (cellOf ns k)):=by
 have kk:aqrm (.int (k:Int)) (.int (k:Int))=some (.int ((k:Int) * k)):=aqae (lt_of_le_of_lt (show _ <= 1000 by omega) (by decide));have k79:aqrm (.int ((k:Int) * k)) (.int 7919)=some (.int ((k:Int) * k * 7919)):=aqct (by decide);have k13:aqrm (.int 13) (.int (k:Int))=some (.int (13 * (k:Int))):=aqae (by decide)
 by_cases h1:k < ns.length
 ·have hx:dIx (ax4 ns) (.int (k:Int))=some (.int (ns.getD k 0)):=by rw [aqdy h1]; simp [h1]
  have h1':(k:Int) < (ns.length:Int):=by omega
  simp [aqm,aqr1,aqqz,ini,ajp,h1,h1',hx,cellOf]
 ·have h1':¬ (k:Int) < (ns.length:Int):=by omega
  have he:dEq (ax4 ns) (.lst [])=some (.bl (decide (ns=[]))):=aqcu ns []
  by_cases h2:ns=[]
  ·subst h2
   have h1'':¬ (k:Int) < 0:=by omega
   simp [aqm,h1'',aqr1,aqqz,ini,ajp,he,aqsa,kk,k79,k13,cellOf]
  ·have hlen:0 < ns.length:=List.length_pos_iff.mpr h2
   have hm:dMod (.int (k:Int)) (.int (ns.length:Int))=some (.int ((k % ns.length:Nat):Int)):=by
    rw [aqaf (by omega),Ez _ (by omega),<- Int.natCast_emod]
   have hlt:k % ns.length < ns.length:=mod_lt _ hlen;have hx:dIx (ax4 ns) (.int ((k % ns.length:Nat):Int))=some (.int (ns.getD (k % ns.length) 0)):=by rw [aqdy hlt]; simp [hlt]
   have hm2:aqrm (.int (ns.getD (k % ns.length) 0 + (k:Int) * k * 7919 + 1)) (.int 48271)=some (.int ((ns.getD (k % ns.length) 0 + (k:Int) * k * 7919 + 1) * 48271)):=aqct (by decide);have hm3:dMod (.int ((ns.getD (k % ns.length) 0 + (k:Int) * k * 7919 + 1) * 48271)) (.int 2147483647)=some (.int (((ns.getD (k % ns.length) 0 + (k:Int) * k * 7919 + 1) * 48271).fmod 2147483647)):=aqaf (by decide);rw [show cellOf ns k=((ns.getD (k % ns.length) 0 + (k:Int) * k * 7919 + 1) * 48271).fmod 2147483647 by rw [cellOf,if_neg h1,if_neg h2]];generalize ns.getD (k % ns.length) 0=y at *;generalize k % ns.length=q at *;simp [aqm,aqr1,aqqz,ini,ajp,h1',he,h2,aqsa,kk,k79,hm,hx,hm2,hm3]
theorem aqgr:∀ (n:Nat) (p q:Option O) (c:Option O) (a b:Nat),b=n->∃ c',azk (qV (f2 dNe (aqri 3) (fC (.int 0)))) az0 [p,q,some (.sh (.int (a:Int))),some (.sh (.int (b:Int))),c]=some (.nx [p,q,some (.sh (.int (Nat.gcd a b:Int))),some (.sh (.int 0)),c']):=by
 intro n
 induction n using Nat.strongRecOn with
 | ind n ih =>
  intro p q c a b hn
  by_cases hb:b=0
  ·subst hb
   exact ⟨c,by simpa using ax6 (by simp)⟩
  ·have hb':(b:Int) ≠ 0:=by omega
   have e:(a:Int).fmod (b:Int)=((a % b:Nat):Int):=by rw [Ez _ (by omega)]; rfl
   obtain ⟨c',h⟩:=ih (a % b) (by rw [<- hn]; exact mod_lt _ (by omega)) p q (some (.sh (.int ((a % b:Nat):Int)))) b (a % b) rfl;refine ⟨c',awl (by simp [hb]) ?_ (by rw [h,Nat.gcd_comm a b,Nat.gcd_rec b a,Nat.gcd_comm])⟩;simp [az0,aqaf hb',e]
theorem aqgs (a b:Int):aqq [.int a,.int b]=some (.int (Ht a b)):=by
 obtain ⟨c',h⟩:=aqgr _ (some (.sh (.int a))) (some (.sh (.int b))) none a.natAbs b.natAbs rfl;simp [aqq,aqr1,aqqz,ini,aQv,aqob,h,Ht]
abbrev hM (M:Int):D:=.lst [.tup [.int M,.lst [.int 0]]]
abbrev fr6:D:=.tup [.int 6,.int 1]
abbrev fr5:D:=.tup [.int 5,.int 1]
abbrev fr1:D:=.tup [.int 1,.int 1]
abbrev of1:D:=.tup [.int 0,fr1]
abbrev rowM:D:=.tup [.int 0,fr1,.lst [fr5]]
theorem e_lks (M:Int):aje [hM M,.int 0]=some (ow [.int 0]):=rfl
theorem e_lkd (M:Int):az2 [hM M]=some (ow [.int 0]):=rfl
theorem e_wof (M:Int):aQ [hM M]=some (.int M):=by
 have:aQ [hM M]=some (.int (0 + M)):=rfl
 rw [this,F8]
theorem e_wat (M:Int):aR [hM M,.lst [.int 0]]=some (.int M):=by
 have:aR [hM M,.lst [.int 0]]=some (.int (0 + M)):=rfl
 rw [this,F8]
theorem big1:(1:Int).natAbs < BIGD:=Nat.one_lt_two_pow (by decide)
theorem aqh7:aqro (.int 1) (.int 1)=some (.int 1):=by rw [aqag (by decide) big1]; rfl
theorem e_cb:bA [.lst [fr6]]=some (.int 1):=by
 have g:aqq [.int 1,.int 1]=some (.int 1):=by rw [aqgs]; rfl
 have d1:=aqh7;have d2:aqrm (.int 1) (.int 1)=some (.int 1):=by rw [aqae (by decide)]; rfl
 have c:∀ x0 x2:Option O,aZ [x0,some (.sh (.int 1)),x2,some (.sh (.int 1))]=some (.nx [x0,some (.sh (.int 1)),x2,some (.sh (.int 1))]):=fun _ _=>by simp [aZ,g,d1,d2]
 have f:aqrh (gTp [(gN 2),(gN 3)]) aZ [fr6] [some (.sh (.lst [fr6])),some (.sh (.int 1)),none,none]=some (.nx [some (.sh (.lst [fr6])),some (.sh (.int 1)),some (.sh (.int 6)),some (.sh (.int 1))]):=by
  rw [aqa2 (ρ1:=[some (.sh (.lst [fr6])),some (.sh (.int 1)),some (.sh (.int 6)),some (.sh (.int 1))]) rfl (.inl (c _ _))];rfl
 simp [bA,aqr1,aqqz,ini,ajf,aqrw,aqsa,f]
theorem e_sh {M:Int} (h1:1 <= M) (h2:M < 2 ^ 63):ajk [.int M,.int M]=some fr1:=by
 have g:aqq [.int M,.int M]=some (.int M):=by rw [aqgs,Int.gcd_self]; simp; omega
 have h0:¬ M=0:=by omega
 have h3:¬ M < 0:=by omega
 have hB:M.natAbs < BIGD:=lt_of_lt_of_le (show M.natAbs < 2 ^ 63 by omega) (Dy (by decide) (by decide));have e:M.fdiv M=1:=Int.fdiv_self (by omega);simp [ajk,aqr1,aqqz,ini,aVr,g,h0,h3,aqag h0 hB,e,aqsa]
theorem e_sh5:ajk [.int 5,.int 1]=some fr5:=by
 have g:aqq [.int 5,.int 1]=some (.int 1):=by rw [aqgs]; rfl
 have d1:aqro (.int 5) (.int 1)=some (.int 5):=by rw [aqag (by decide) big1]; rfl
 have d2:=aqh7;simp [ajk,aqr1,aqqz,ini,aVr,g,d1,d2,aqsa]
theorem aqnj {M:Int} (h1:1 <= M) (h2:M <= 10 ^ 18):aXr [hM M,.lst [fr6],.int 0,.int M]=some fr1:=by
 have sh:=e_sh h1 (by omega);have m1:aqrm (.int M) (.int 1)=some (.int M):=by rw [aqct (by decide),Int.mul_one]
 have m6:aqrm (.int M) (.int 6)=some (.int (M * 6)):=aqct (by decide);have le:M <= M * 6:=by omega
 have c:akb (geN 0) qT (oE (f2 dIx (aqri 1) (aqri 0))) [.int 0] [none,some (.lst [fr6])]=some [O.sh fr6]:=rfl;have d1:=aqh7;have d2:aqrm (.int 6) (.int 1)=some (.int 6):=by rw [aqae (by decide)]; rfl
 have tc:akb (geTp [geN 0,geN 1]) qT (oE (f2 aqrm (aqri 0) (f2 aqro (aqri 2) (aqri 1)))) [fr6] [none,none,some (.int 1)]=some [O.sh (.int 6)]:=by
  have g0:geTp [geN 0,geN 1] fr6 [none,none,some (.int 1)]=some [some (.int 6),some (.int 1),some (.int 1)]:=rfl;simp [akb,g0,d1,d2]
 have tp:aql [.int 1,.lst [fr6]]=some (.lst [.int 6]):=by simp [aql,aqr1,aqqz,ini,azz,ava,mkD,aqsa,tc]
 have sz:aQd [.lst [.int 6],.lst [.int 0]]=some [.tup [.int 6,.int 0]]:=rfl;have b:∀ x1 x2 x3 x4 x6:Option O,aQs [some (.sh (hM M)),x1,x2,x3,x4,some (.sh (.int 1)),x6,some (.sh (.int M)),some (.sh (.int M)),some (.sh (.int 6)),some (.sh (.int 0))]=some (.rt (.sh fr1) [some (.sh (hM M)),x1,x2,x3,x4,some (.sh (.int 1)),x6,some (.sh (.int M)),some (.sh (.int M)),some (.sh (.int 6)),some (.sh (.int 0))]):=fun _ _ _ _ _=>by
  simp [aQs,m1,m6,le,sh]
 have f:∀ x1 x2 x3 x4 x6:Option O,aqrh (gTp [(gN 9),(gN 10)]) aQs [.tup [.int 6,.int 0]] [some (.sh (hM M)),x1,x2,x3,x4,some (.sh (.int 1)),x6,some (.sh (.int M)),some (.sh (.int M)),none,none]=some (.rt (.sh fr1) [some (.sh (hM M)),x1,x2,x3,x4,some (.sh (.int 1)),x6,some (.sh (.int M)),some (.sh (.int M)),some (.sh (.int 6)),some (.sh (.int 0))]):=fun _ _ _ _ _=>aqa1 rfl (b _ _ _ _ _);simp [aXr,aqr1,aqqz,ini,aqhd,aqrw,aqsa,ava,mkD,c,e_lks,e_cb,tp,m1,e_wat,sz,f]
theorem aqjn (a b:Int) (h:a.natAbs < 2 ^ 63:=by decide):aqrm (.int a) (.int b)=some (.int (a * b)):=aqae h
theorem aqkp:av3 [fr6,fr1]=some (.bl false):=by
 simp [av3,aqr1,aqqz,ini,aqax,aqjn 6 1,aqjn 1 1]
theorem aqkj:aJc [fr6,fr1]=some fr5:=by
 simp [aJc,aqr1,aqqz,ini,aqas,aqjn 6 1,aqjn 1 1,e_sh5]
theorem aqh0:aqf [fr6,fr1]=some fr5:=by
 simp [aqf,aqr1,aqqz,ini,aj1,aqkp,aqkj]
theorem aqnk (M:Int):aYv [hM M,.lst [fr6],.int 0,fr1]=some (.lst [fr5]):=by
 have li:aqc8 [.lst [fr6]]=some [fr6]:=rfl;have b:aQt [some (.sh (hM M)),some (.sh (.lst [fr6])),some (.sh (.int 0)),some (.sh fr1),some (ow [fr6]),some (.sh (.int 0))]=some (.nx [some (.sh (hM M)),some (.sh (.lst [fr6])),some (.sh (.int 0)),some (.sh fr1),some (ow [fr5]),some (.sh (.int 0))]):=by
  have x:dIx (.lst [fr6]) (.int 0)=some fr6:=rfl;have st:gSetI 0 (O.sh fr5) (ow [fr6])=some (ow [fr5]):=rfl;simp [aQt,bPut,aqh0,x,pNil,atO,st]
 have f:aqrh (gN 5) aQt [.int 0] [some (.sh (hM M)),some (.sh (.lst [fr6])),some (.sh (.int 0)),some (.sh fr1),some (ow [fr6]),none]=some (.nx [some (.sh (hM M)),some (.sh (.lst [fr6])),some (.sh (.int 0)),some (.sh fr1),some (ow [fr5]),some (.sh (.int 0))]):=by
  rw [aqa2 (ρ1:=[some (.sh (hM M)),some (.sh (.lst [fr6])),some (.sh (.int 0)),some (.sh fr1),some (ow [fr6]),some (.sh (.int 0))]) rfl (.inl b)];rfl
 simp [aYv,aqr1,aqqz,ini,aqhe,aqrw,aqsa,e_lks,li,f]
theorem aqnm {M:Int} (h1:1 <= M) (h2:M <= 10 ^ 18):axb [hM M,.lst [fr6],.lst []]=some (.lst [of1]):=by
 have r:=aqnj h1 h2;have n0:avc (.int 0) (.lst [])=some (.bl true):=rfl;have c0:akb (geN 0) qT (oE (f2 dIx (aqri 0) (fC (.int 0)))) [] [none]=some []:=rfl;have g1:geN 0 (.int 0) [none,some (hM M),some (.lst [fr6]),some (.int M),some (.lst [])]=some [some (.int 0),some (hM M),some (.lst [fr6]),some (.int M),some (.lst [])]:=rfl;have c1:akb (geN 0) (qV (f2 avc (aqri 0) (aqri 4))) (oE (aqrj (cn (aqri 0) (cn (aqs 4 aXr (cn (aqri 1) (cn (aqri 2) (cn (aqri 0) (cn (aqri 3) aqry))))) aqry)))) [.int 0] [none,some (hM M),some (.lst [fr6]),some (.int M),some (.lst [])]=some [O.sh of1]:=by simp [akb,g1,n0,r,aqsa]
 have c2:akb (geN 0) (qV (f2 dIsN (f2 dIx (aqri 0) (fC (.int 1))) (fC .non))) (oE (aqri 0)) [of1] [none]=some [O.sh of1]:=rfl;simp [axb,aqr1,aqqz,ini,aQu,ava,mkD,aqsa,c0,c1,c2,e_wof,e_lkd]
theorem aqnl (M:Int):axb [hM M,.lst [fr5],.lst [rowM]]=some (.lst []):=by
 have n0:avc (.int 0) (.lst [.int 0])=some (.bl false):=rfl;have c0:akb (geN 0) qT (oE (f2 dIx (aqri 0) (fC (.int 0)))) [rowM] [none]=some [O.sh (.int 0)]:=rfl;have g1:geN 0 (.int 0) [none,some (hM M),some (.lst [fr5]),some (.int M),some (.lst [.int 0])]=some [some (.int 0),some (hM M),some (.lst [fr5]),some (.int M),some (.lst [.int 0])]:=rfl;have c1:akb (geN 0) (qV (f2 avc (aqri 0) (aqri 4))) (oE (aqrj (cn (aqri 0) (cn (aqs 4 aXr (cn (aqri 1) (cn (aqri 2) (cn (aqri 0) (cn (aqri 3) aqry))))) aqry)))) [.int 0] [none,some (hM M),some (.lst [fr5]),some (.int M),some (.lst [.int 0])]=some []:=by simp [akb,g1,n0]
 have c2:akb (geN 0) (qV (f2 dIsN (f2 dIx (aqri 0) (fC (.int 1))) (fC .non))) (oE (aqri 0)) [] [none]=some []:=rfl;simp [axb,aqr1,aqqz,ini,aQu,ava,mkD,aqsa,c0,c1,c2,e_wof,e_lkd]
theorem aqgz:azf [.lst [of1]]=some of1:=rfl
theorem aqa6:azf [.lst []]=some .non:=rfl
theorem aqkl (M:Int):aS [hM M,.int 6]=some (.lst [fr6]):=rfl
theorem aqgy {M:Int} (h1:1 <= M) (h2:M <= 10 ^ 18):av2 [hM M,.int 6]=some (.lst [rowM]):=by
 have b:azi [some (.sh (hM M)),some (.sh (.int 6)),some (.sh (.lst [fr6])),some (ow []),some (.sh of1)]=some (.nx [some (.sh (hM M)),some (.sh (.int 6)),some (.sh (.lst [fr5])),some (ow [rowM]),some (.sh .non)]):=by
  have x0:dIx of1 (.int 0)=some (.int 0):=rfl;have x1:dIx of1 (.int 1)=some fr1:=rfl;have ga:gApp (O.sh rowM) (ow [])=some (ow [rowM]):=rfl;simp [azi,x0,x1,aqnk,aqnl,aqa6,aqsa,ga]
 have w:azk (qV (f2 dIsN (aqri 4) (fC .non))) azi [some (.sh (hM M)),some (.sh (.int 6)),some (.sh (.lst [fr6])),some (ow []),some (.sh of1)]=some (.nx [some (.sh (hM M)),some (.sh (.int 6)),some (.sh (.lst [fr5])),some (ow [rowM]),some (.sh .non)]):=awl rfl b (ax6 rfl);simp [av2,aqr1,aqqz,ini,aZd,aqkl,aqnm h1 h2,aqgz,w,aqsa]
theorem aqkn:aK [.lst [rowM]]=some (.lst [.int 0]):=rfl
theorem aqko:aK [.lst []]=some (.lst []):=rfl
theorem aqnn (M:Int):aq5 [hM M,.int 6,.lst [rowM]]=some (.lst [fr5]):=rfl
theorem aqki (M:Int):ak9 [hM M,.lst [fr5],.lst [.int 0],.int 6]=some (.lst []):=by
 have n0:avc (.int 0) (.lst [.int 0])=some (.bl false):=rfl;have ge:dGe (.int 1) (.int 6)=some (.bl false):=rfl;have ln:aqrn [.lst [.int 0]]=some (.int 1):=rfl;have g1:geN 0 (.int 0) [none,some (hM M),some (.lst [fr5]),some (.lst [.int 0])]=some [some (.int 0),some (hM M),some (.lst [fr5]),some (.lst [.int 0])]:=rfl;have c1:akb (geN 0) (qV (f2 avc (aqri 0) (aqri 3))) (oE (aqrj (cn (aqri 0) (cn (aqs 3 aqc4 (cn (aqri 1) (cn (aqri 2) (cn (aqri 0) aqry)))) aqry)))) [.int 0] [none,some (hM M),some (.lst [fr5]),some (.lst [.int 0])]=some []:=by simp [akb,g1,n0]
 simp [ak9,aqr1,aqqz,ini,aqar,ava,mkD,aqsa,ln,ge,c1,e_lkd]
theorem aqkk (M:Int):aJd [hM M,.lst [fr5],.lst [.int 0],.int 6]=some (.lst []):=by
 have li:aqc8 [.lst [.int 0]]=some [.int 0]:=rfl;have w:azk (qV (f2 dIsN (aqri 6) (fC .non))) aVs [some (.sh (hM M)),some (.sh (.lst [fr5])),some (.sh (.lst [.int 0])),some (.sh (.int 6)),some (ow [.int 0]),some (ow []),some (.sh .non)]=some (.nx [some (.sh (hM M)),some (.sh (.lst [fr5])),some (.sh (.lst [.int 0])),some (.sh (.int 6)),some (ow [.int 0]),some (ow []),some (.sh .non)]):=ax6 rfl;simp [aJd,aqr1,aqqz,ini,aqau,li,aqki,aqa6,w,aqsa]
theorem aql6 {M:Int} (h1:1 <= M) (h2:M <= 10 ^ 18):aZ3 [hM M,.int 6]=some (.tup [.lst [.int 0],.lst [rowM],.lst []]):=by
 have s1:aqjz [.lst [.int 0]]=some [.int 0]:=rfl;have c:dCat (.lst [.int 0]) (.lst [])=some [.int 0]:=rfl;simp [aZ3,aqr1,aqqz,ini,aqaw,aqgy h1 h2,aqkn,aqko,aqnn,aqkk,s1,c,aqsa]
theorem aqco:avg [.lst [.int 0]]=some (.lst [.lst [],.lst [.int 0]]):=rfl
theorem aqju (M:Int):axc [hM M,.int 1,.lst [.int 0]]=some .non:=rfl
theorem aqkm (M:Int):aJe [hM M,.int 1,.lst [.int 0],.lst [.int 0]]=some (.bl true):=by
 have ln:aqrn [.lst [.int 0]]=some (.int 1):=rfl;have ag:ajx [hM M,.lst [.int 0]]=some (ow [.int 0]):=rfl;have c:akb (geN 0) qT (oE (f2 dIn (aqri 0) (aqri 1))) [.int 0] [none,some (.lst [.int 0])]=some [O.sh (.bl true)]:=rfl;have al:dAll [.lst [.bl true]]=some (.bl true):=rfl;simp [aJe,aqr1,aqqz,ini,aqav,ava,mkD,aqsa,ln,ag,c,al,e_wof,e_wat,aqjn 1 M]
theorem aqjt (M:Int):axc [hM M,.int 1,.lst []]=some (.tup [.lst [.int 0],.lst [.int 0]]):=by
 have b0:aq0 [some (.sh (hM M)),some (.sh (.int 1)),some (.sh (.lst [])),some (.sh (.lst [])),none]=some (.nx [some (.sh (hM M)),some (.sh (.int 1)),some (.sh (.lst [])),some (.sh (.lst [])),some (ow [])]):=rfl;have b1:aq0 [some (.sh (hM M)),some (.sh (.int 1)),some (.sh (.lst [])),some (.sh (.lst [.int 0])),some (ow [])]=some (.rt (.sh (.tup [.lst [.int 0],.lst [.int 0]])) [some (.sh (hM M)),some (.sh (.int 1)),some (.sh (.lst [])),some (.sh (.lst [.int 0])),some (.sh (.lst [.int 0]))]):=by
  have ag:ajx [hM M,.lst [.int 0]]=some (ow [.int 0]):=rfl;have c:akb (geN 0) (qV (f2 dLt (aqrk aqrn (cn (aqs 3 aqp (cn (aqri 2) (cn (aqri 0) (cn (aqri 3) aqry)))) aqry)) (aqrk aqrn (cn (aqri 1) aqry)))) (oE (aqri 0)) [.int 0] [none,some (.lst [.int 0]),some (hM M),some (.lst [])]=some [O.sh (.int 0)]:=rfl;have z:fzc (some (O.lst [O.sh (.int 0)]))=some (.sh (.lst [.int 0])):=rfl;simp [aq0,ag,ava,mkD,aqsa,c,aqkm,z]
 have f:aqrh (gN 3) aq0 [.lst [],.lst [.int 0]] [some (.sh (hM M)),some (.sh (.int 1)),some (.sh (.lst [])),none,none]=some (.rt (.sh (.tup [.lst [.int 0],.lst [.int 0]])) [some (.sh (hM M)),some (.sh (.int 1)),some (.sh (.lst [])),some (.sh (.lst [.int 0])),some (.sh (.lst [.int 0]))]):=by
  rw [aqa2 (ρ1:=[some (.sh (hM M)),some (.sh (.int 1)),some (.sh (.lst [])),some (.sh (.lst [])),none]) rfl (.inl b0)];exact aqa1 rfl b1
 simp [axc,aqr1,aqqz,ini,aki,aqrw,aqsa,e_lkd,aqco,f]
theorem law_true (ns:List Int) (hn:ns.length <= 63):aqhp [.lst (ns.map .int)]=some (.bl true):=aqc6 ns hn
end L_k64
set_option maxHeartbeats 1000000
namespace L_k64
open PySem PySem.Spec PyProof.Rows L2 DL
def top (i:Nat):Stmt:=PySem.Challenge.pw_pursebench_k64_refused_and_then_done.main.body.getD i (.Pass ⟨0,0,0,0⟩)
abbrev ajt:Stmt:=top 35
abbrev aWu:Stmt:=top 22
abbrev aWo:Stmt:=top 25
abbrev azo:Stmt:=top 1
abbrev axw:Stmt:=top 7
abbrev aJ9:Stmt:=top 6
abbrev aJ8:Stmt:=top 5
abbrev awz:Stmt:=top 18
abbrev ajb:Stmt:=top 23
abbrev azq:Stmt:=top 24
abbrev azp:Stmt:=top 2
abbrev aWl:Stmt:=top 19
abbrev aqf0:Stmt:=top 32
abbrev aWn:Stmt:=top 4
abbrev aJ7:Stmt:=top 37
abbrev aWm:Stmt:=top 21
abbrev ajs:Stmt:=top 34
abbrev aqf2:Stmt:=top 33
abbrev aJ6:Stmt:=top 36
abbrev ajc:Stmt:=top 41
abbrev awx:Stmt:=top 3
abbrev aqey:Stmt:=top 27
abbrev aWk:Stmt:=top 29
abbrev aqf1:Stmt:=top 20
abbrev aq9:Stmt:=top 30
abbrev aWq:Stmt:=top 28
abbrev aj8:Stmt:=top 40
abbrev aWt:Stmt:=top 39
abbrev aja:Stmt:=top 45
abbrev aWs:Stmt:=top 43
abbrev aw0:Stmt:=top 46
abbrev avt:Stmt:=top 44
abbrev azr:Stmt:=top 53
abbrev aqf3:Stmt:=top 61
structure Txt (mg:Str->Option Value):Prop where
 z_abs:mg "abs"=none
 z_all:mg "all"=none
 z_enumerate:mg "enumerate"=none
 z_len:mg "len"=none
 z_list:mg "list"=none
 z_set:mg "set"=none
 z_sorted:mg "sorted"=none
 z_sum:mg "sum"=none
 z_zip:mg "zip"=none
section
variable {P:Aj} {w:World} {K:Frag} {mg:Str->Option Value} {base:Heap}
theorem akr:FnScope ["heap","seats"] ["heap","seats"] (af ajt):=fsc
theorem aku {f:Addr} {fd:Ak} (F:Fun K "first_purses" "first_purses" ajt f fd) (T:Txt mg) :FnOk P w K mg base CX0 1 f fd ["heap","seats"] (spD K 2 aS) :=
 FnOk.d (fnO F akr (k:=0) (n:=2) (m:=2) (b:=azj) rfl rfl fun cdv A outer s H E hr =>
  (ao (cC (DO.m _ (cN (cl:=_) (N':=["pile","seats"]) (js:=[none,some 1]) (by o_reads) (by exact (aH (ai 0 (pv 0)))) (fun _ _ _ q=>az q) (by exact fun _ _ _ _ _=>(aw 0 (pgc 0))) (by exact fun _ _ _ _ _=>aqo) (by exact fun _ _ _ _ _=>(DE.o (akw (cb (ai 1 (pv 1)) (cb ss am))))))))))
theorem aqex:FnScope ["one","other"] ["one","other"] (af aWu):=fsc
theorem aqg2 {f:Addr} {fd:Ak} (F:Fun K "below" "below" aWu f fd) (T:Txt mg) :FnOk P w K mg base CX0 1 f fd ["one","other"] (spD K 2 av3) :=
 FnOk.d (fnO F aqex (k:=0) (n:=2) (m:=2) (b:=aqax) rfl rfl fun cdv A outer s H E hr =>
  (ao (cC (DE.m _ (aqcq aqj2 aqbt (ajq aJ aI (aqu (ai 0 (pv 0)) ss (fun _ _=>rfl)) (aqu (ai 1 (pv 1)) ss (fun _ _=>rfl))) (ajq aJ aI (aqu (ai 1 (pv 1)) ss (fun _ _=>rfl)) (aqu (ai 0 (pv 0)) ss (fun _ _=>rfl))) (ax _))))))
theorem aws:FnScope ["offers","found","offer"] ["offers"] (af aWo):=fsc
theorem aqfv {f:Addr} {fd:Ak} (F:Fun K "least" "least" aWo f fd) (T:Txt mg) (G_below:Fn P w K mg base 1 "below" ["one","other"] (spD K 2 av3)):FnOk P w K mg base CX0 2 f fd ["offers"] (spD K 1 azf) :=
 FnOk.d (fnO F aws (k:=1) (n:=1) (m:=3) (b:=aqeb) rfl rfl fun cdv A outer s H E hr =>
  (aj (aB 1 (gp (i:=1) aws.nd rfl (.inl rfl) (DE.m _ aX5)))
   (aj (aX2 Ba rfl (ai 0 (pv 0)) (axq 2 (aqc (i:=2) aws.nd rfl (.inl rfl))) (ao (aKd (DW.dt (dw_or (ajn aqmm aqmk (ai 1 (pv 1)) aX5 (ax _)) (aqkq (aqa7 (aq3 G_below (hm hr) rfl (cb (aqu (ai 2 (pv 2)) ss (fun _ _=>rfl)) (cb (aqu (ai 1 (pv 1)) ss (fun _ _=>rfl)) am))))))) (ao (aB 1 (gp (i:=1) aws.nd rfl (.inl rfl) (DE.m _ (ai 2 (pv 2)))))) ajo)))
   (ao (cC (DE.m _ (ai 1 (pv 1))))))))
theorem aJ0:FnScope ["heap"] ["heap"] (af azo):=fsc
theorem aXl {f:Addr} {fd:Ak} (F:Fun K "weight_of" "weight_of" azo f fd) (T:Txt mg) :FnOk P w K mg base CX0 1 f fd ["heap"] (spD K 1 aQ) :=
 FnOk.d (fnO F aJ0 (k:=0) (n:=1) (m:=1) (b:=awj) rfl rfl fun cdv A outer s H E hr =>
  (ao (cC (DE.m _ (aqb (aQq rfl) aQp rfl T.z_sum aqhb (cb (DO.de (cN (cl:=_) (N':=["weight","marks"]) (js:=[none,none]) (by o_reads) (by exact (aH (ai 0 (pv 0)))) (fun _ _ _ q=>az q) (by exact fun _ _ _ _ _=>(aVd rfl (aq7 (aw 0 (pgc 0)) (aq7 (aw 1 (pgc 1)) aQn)))) (by exact fun _ _ _ _ _=>aqo) (by exact fun _ _ _ _ _=>(DE.o (ai 0 (pv 0)))))) am))))))
theorem aQ3:FnScope ["pile","some"] ["pile","some"] (af axw):=fsc
theorem aQ9 {f:Addr} {fd:Ak} (F:Fun K "likes_each" "likes_each" axw f fd) (T:Txt mg) :FnOk P w K mg base CX0 1 f fd ["pile","some"] (spD K 2 ax2) :=
 FnOk.d (fnO F aQ3 (k:=0) (n:=2) (m:=2) (b:=akh) rfl rfl fun cdv A outer s H E hr =>
  (ao (cC (DE.m _ (aqb (aQr rfl) aVk rfl T.z_all aqhc (cb (DO.de (cN (cl:=_) (N':=["candidate","pile"]) (js:=[none,some 0]) (by o_reads) (by exact (aH (ai 1 (pv 1)))) (fun _ _ _ q=>az q) (by exact fun _ _ _ _ _=>(aw 0 (pgc 0))) (by exact fun _ _ _ _ _=>aqo) (by exact fun _ _ _ _ _=>(DE.o (aqcq (aXj (aqb4 hr)) aqbu (ai 0 (pv 0)) (aqu (ai 1 (pv 1)) ss (fun _ _=>rfl)) (by rfl)))))) am))))))
theorem aqbj:FnScope ["heap","some"] ["heap","some"] (af aJ9):=fsc
theorem aqbz {f:Addr} {fd:Ak} (F:Fun K "agreed" "agreed" aJ9 f fd) (T:Txt mg) (G_likes_each:Fn P w K mg base 1 "likes_each" ["pile","some"] (spD K 2 ax2)):FnOk P w K mg base CX0 2 f fd ["heap","some"] (spO K 2 ajx) :=
 fnO F aqbj (k:=1) (n:=2) (m:=2) (b:=aqay) rfl rfl fun cdv A outer s H E hr =>
  (ao (cC (DO.m _ (cN (cl:=_) (N':=["place","pile","some"]) (js:=[none,none,some 1]) (by o_reads) (by exact (aW2 rfl T.z_enumerate (ai 0 (pv 0)))) (fun _ _ _ q=>aVg q) (by exact fun _ _ _ _ _=>(aVd rfl (aq7 (aw 0 (pgc 0)) (aq7 (aw 1 (pgc 1)) aQn)))) (by exact fun _ _ _ _ _=>(azx (aqa7 (aq3 G_likes_each (hm hr) rfl (cb (ai 1 (pv 1)) (cb (ai 2 (pv 2)) am)))))) (by exact fun _ _ _ _ _=>(DE.o (ai 0 (pv 0))))))))
theorem aqbh:FnScope ["heap","candidate"] ["heap","candidate"] (af aJ8):=fsc
theorem aqby {f:Addr} {fd:Ak} (F:Fun K "likers" "likers" aJ8 f fd) (T:Txt mg) (G_agreed:Fn P w K mg base 2 "agreed" ["heap","some"] (spO K 2 ajx)):FnOk P w K mg base CX0 3 f fd ["heap","candidate"] (spO K 2 aje) :=
 fnO F aqbh (k:=2) (n:=2) (m:=2) (b:=aqat) rfl rfl fun cdv A outer s H E hr =>
  (ao (cC (DO.m _ (aqb5 G_agreed (hm hr) rfl (cb (ai 0 (pv 0)) (cb (DO.de (aQm (cb (ai 1 (pv 1)) am))) am))))))
theorem aji:FnScope ["one","other","greater","rest","remainder"] ["one","other"] (af awz):=fsc
theorem aYm {f:Addr} {fd:Ak} (F:Fun K "divisor" "divisor" awz f fd) (T:Txt mg) :FnOk P w K mg base CX0 1 f fd ["one","other"] (spD K 2 aqq) :=
 FnOk.d (fnO F aji (k:=0) (n:=2) (m:=5) (b:=aQv) rfl rfl fun cdv A outer s H E hr =>
  (aj (aB 2 (gp (i:=2) aji.nd rfl (.inl rfl) (DE.m _ (aqb aqao aVl rfl T.z_abs aql2 (cb (ai 0 (pv 0)) am)))))
   (aj (aB 3 (gp (i:=3) aji.nd rfl (.inl rfl) (DE.m _ (aqb aqao aVl rfl T.z_abs aql2 (cb (ai 1 (pv 1)) am)))))
   (aj (aX1 Ba (ajn (aYg hr.units) aqmi (ai 3 (pv 3)) ss (ax _)) (aj (aB 4 (gp (i:=4) aji.nd rfl (.inl rfl) (DE.m _ (ajq aYh aYc (ai 2 (pv 2)) (ai 3 (pv 3))))))
   (aj (aB 2 (gp (i:=2) aji.nd rfl (.inl rfl) (DE.m _ (ai 3 (pv 3)))))
   (ao (aB 3 (gp (i:=3) aji.nd rfl (.inl rfl) (DE.m _ (ai 4 (pv 4)))))))))
   (ao (cC (DE.m _ (ai 2 (pv 2)))))))))
theorem aM:FnScope ["fractions","bottom","top","own"] ["fractions"] (af ajb):=fsc
theorem av0 {f:Addr} {fd:Ak} (F:Fun K "common_bottom" "common_bottom" ajb f fd) (T:Txt mg) (G_divisor:Fn P w K mg base 1 "divisor" ["one","other"] (spD K 2 aqq)):FnOk P w K mg base CX0 2 f fd ["fractions"] (spD K 1 bA) :=
 FnOk.d (fnO F aM (k:=1) (n:=1) (m:=4) (b:=ajf) rfl rfl fun cdv A outer s H E hr =>
  (aj (aB 1 (gp (i:=1) aM.nd rfl (.inl rfl) (DE.m _ ss)))
   (aj (aX2 Ba rfl (ai 0 (pv 0)) (aqh6 rfl (azy (axq 2 (aqc (i:=2) aM.nd rfl (.inl rfl))) (azy (axq 3 (aqc (i:=3) aM.nd rfl (.inl rfl))) aqac))) (ao (aB 1 (gp (i:=1) aM.nd rfl (.inl rfl) (DE.m _ (ajq aJ aI (ai 1 (pv 1)) (ajq aZw aZs (ai 3 (pv 3)) (aq3 G_divisor (hm hr) rfl (cb (ai 1 (pv 1)) (cb (ai 3 (pv 3)) am))))))))))
   (ao (cC (DE.m _ (ai 1 (pv 1))))))))
theorem aJ2:FnScope ["bottom","fractions"] ["bottom","fractions"] (af azq):=fsc
theorem aXn {f:Addr} {fd:Ak} (F:Fun K "tops_over" "tops_over" azq f fd) (T:Txt mg) :FnOk P w K mg base CX0 1 f fd ["bottom","fractions"] (spD K 2 aql) :=
 FnOk.d (fnO F aJ2 (k:=0) (n:=2) (m:=2) (b:=azz) rfl rfl fun cdv A outer s H E hr =>
  (ao (cC (DO.m _ (cN (cl:=_) (N':=["top","own","bottom"]) (js:=[none,none,some 0]) (by o_reads) (by exact (aH (ai 1 (pv 1)))) (fun _ _ _ q=>az q) (by exact fun _ _ _ _ _=>(aVd rfl (aq7 (aw 0 (pgc 0)) (aq7 (aw 1 (pgc 1)) aQn)))) (by exact fun _ _ _ _ _=>aqo) (by exact fun _ _ _ _ _=>(DE.o (ajq aJ aI (ai 0 (pv 0)) (ajq aZw aZs (ai 2 (pv 2)) (ai 1 (pv 1)))))))))))
theorem aJ1:FnScope ["heap","places"] ["heap","places"] (af azp):=fsc
theorem aXm {f:Addr} {fd:Ak} (F:Fun K "weight_at" "weight_at" azp f fd) (T:Txt mg) :FnOk P w K mg base CX0 1 f fd ["heap","places"] (spD K 2 aR) :=
 FnOk.d (fnO F aJ1 (k:=0) (n:=2) (m:=2) (b:=awk) rfl rfl fun cdv A outer s H E hr =>
  (ao (cC (DE.m _ (aqb (aQq rfl) aQp rfl T.z_sum aqhb (cb (DO.de (cN (cl:=_) (N':=["place","heap"]) (js:=[none,some 0]) (by o_reads) (by exact (aH (ai 1 (pv 1)))) (fun _ _ _ q=>az q) (by exact fun _ _ _ _ _=>(aw 0 (pgc 0))) (by exact fun _ _ _ _ _=>aqo) (by exact fun _ _ _ _ _=>(DE.o (aqu (aqu (ai 1 (pv 1)) (ai 0 (pv 0)) (fun _ _=>rfl)) ss (fun _ _=>rfl)))))) am))))))
theorem aJ3:FnScope ["top","bottom","common"] ["top","bottom"] (af aWl):=fsc
theorem aqfr {f:Addr} {fd:Ak} (F:Fun K "share" "share" aWl f fd) (T:Txt mg) (G_divisor:Fn P w K mg base 1 "divisor" ["one","other"] (spD K 2 aqq)):FnOk P w K mg base CX0 2 f fd ["top","bottom"] (spD K 2 ajk) :=
 FnOk.d (fnO F aJ3 (k:=1) (n:=2) (m:=3) (b:=aVr) rfl rfl fun cdv A outer s H E hr =>
  (aj (aKd (ajn (aw8 hr.units) aYe (ai 1 (pv 1)) ss (ax _)) (ao aqh2) ajo)
   (aj (aB 2 (gp (i:=2) aJ3.nd rfl (.inl rfl) (DE.m _ (aq3 G_divisor (hm hr) rfl (cb (ai 0 (pv 0)) (cb (ai 1 (pv 1)) am))))))
   (aj (aKd (ajn aqj2 aqbt (ai 1 (pv 1)) ss (ax _)) (ao (aB 2 (gp (i:=2) aJ3.nd rfl (.inl rfl) (DE.m _ (de_un aqel aqd1 (ai 2 (pv 2))))))) ajo)
   (ao (cC (DE.m _ (akw (cb (ajq aZw aZs (ai 0 (pv 0)) (ai 2 (pv 2))) (cb (ajq aZw aZs (ai 1 (pv 1)) (ai 2 (pv 2))) am))))))))))
theorem axo:FnScope ["heap","purses","candidate","price","places","bottom","tops","rest","weight","top","place"] ["heap","purses","candidate","price"] (af aqf0):=fsc
theorem aqj6 {f:Addr} {fd:Ak} (F:Fun K "rate" "rate" aqf0 f fd) (T:Txt mg) (G_likers:Fn P w K mg base 3 "likers" ["heap","candidate"] (spO K 2 aje)) (G_common_bottom:Fn P w K mg base 2 "common_bottom" ["fractions"] (spD K 1 bA)) (G_tops_over:Fn P w K mg base 1 "tops_over" ["bottom","fractions"] (spD K 2 aql)) (G_weight_at:Fn P w K mg base 1 "weight_at" ["heap","places"] (spD K 2 aR)) (G_share:Fn P w K mg base 2 "share" ["top","bottom"] (spD K 2 ajk)):FnOk P w K mg base CX0 4 f fd ["heap","purses","candidate","price"] (spD K 4 aXr) :=
 FnOk.d (fnO F axo (k:=3) (n:=4) (m:=11) (b:=aqhd) rfl rfl fun cdv A outer s H E hr =>
  (aj (aB 4 (gp (i:=4) axo.nd rfl (.inl rfl) (DO.m _ (aqb5 G_likers (hm hr) rfl (cb (ai 0 (pv 0)) (cb (ai 2 (pv 2)) am))))))
   (aj (aB 5 (gp (i:=5) axo.nd rfl (.inl rfl) (DE.m _ (aq3 G_common_bottom (hm hr) rfl (cb (DO.de (cN (cl:=_) (N':=["place","purses"]) (js:=[none,some 1]) (by o_reads) (by exact (aH (ai 4 (pv 4)))) (fun _ _ _ q=>az q) (by exact fun _ _ _ _ _=>(aw 0 (pgc 0))) (by exact fun _ _ _ _ _=>aqo) (by exact fun _ _ _ _ _=>(DE.o (aqu (ai 1 (pv 1)) (ai 0 (pv 0)) (fun _ _=>rfl)))))) am)))))
   (aj (aB 6 (gp (i:=6) axo.nd rfl (.inl rfl) (DE.m _ (aq3 G_tops_over (hm hr) rfl (cb (ai 5 (pv 5)) (cb (DO.de (cN (cl:=_) (N':=["place","purses"]) (js:=[none,some 1]) (by o_reads) (by exact (aH (ai 4 (pv 4)))) (fun _ _ _ q=>az q) (by exact fun _ _ _ _ _=>(aw 0 (pgc 0))) (by exact fun _ _ _ _ _=>aqo) (by exact fun _ _ _ _ _=>(DE.o (aqu (ai 1 (pv 1)) (ai 0 (pv 0)) (fun _ _=>rfl)))))) am))))))
   (aj (aB 7 (gp (i:=7) axo.nd rfl (.inl rfl) (DE.m _ (ajq aJ aI (ai 3 (pv 3)) (ai 5 (pv 5))))))
   (aj (aB 8 (gp (i:=8) axo.nd rfl (.inl rfl) (DE.m _ (aq3 G_weight_at (hm hr) rfl (cb (ai 0 (pv 0)) (cb (ai 4 (pv 4)) am))))))
   (aj (aX2 Ba rfl (DO.de (aX3 rfl rfl rfl T.z_sorted T.z_zip (cb (ai 6 (pv 6)) (cb (ai 4 (pv 4)) am)))) (aqh6 rfl (azy (axq 9 (aqc (i:=9) axo.nd rfl (.inl rfl))) (azy (axq 10 (aqc (i:=10) axo.nd rfl (.inl rfl))) aqac))) (aj (aKd (ajn op_le aqiz (ai 7 (pv 7)) (ajq aJ aI (ai 8 (pv 8)) (ai 9 (pv 9))) (ax _)) (ao (cC (DE.m _ (aq3 G_share (hm hr) rfl (cb (ai 7 (pv 7)) (cb (ajq aJ aI (ai 8 (pv 8)) (ai 5 (pv 5))) am)))))) ajo)
   (aj (aB 7 (gp (i:=7) axo.nd rfl (.inl rfl) (DE.m _ (ajq aw7 aZq (ai 7 (pv 7)) (ajq aJ aI (aqu (aqu (ai 0 (pv 0)) (ai 10 (pv 10)) (fun _ _=>rfl)) ss (fun _ _=>rfl)) (ai 9 (pv 9)))))))
   (ao (aB 8 (gp (i:=8) axo.nd rfl (.inl rfl) (DE.m _ (ajq aw7 aZq (ai 8 (pv 8)) (aqu (aqu (ai 0 (pv 0)) (ai 10 (pv 10)) (fun _ _=>rfl)) ss (fun _ _=>rfl))))))))))
   (ao (cC (DE.m _ aX5))))))))))
theorem awr:FnScope ["heap","found","weight","marks"] ["heap"] (af aWn):=fsc
theorem aqfu {f:Addr} {fd:Ak} (F:Fun K "liked" "liked" aWn f fd) (T:Txt mg) :FnOk P w K mg base CX0 1 f fd ["heap"] (spO K 1 az2) :=
 fnO F awr (k:=0) (n:=1) (m:=4) (b:=aqea) rfl rfl fun cdv A outer s H E hr =>
  (aj (aB 1 (gp (i:=1) awr.nd rfl (.inl rfl) (DO.m _ (aQm am))))
   (aj (aX2 Ba rfl (ai 0 (pv 0)) (aqh6 rfl (azy (axq 2 (aqc (i:=2) awr.nd rfl (.inl rfl))) (azy (axq 3 (aqc (i:=3) awr.nd rfl (.inl rfl))) aqac))) (ao (aqnq (i:=1) (ajj (aqfl B4 PySem.F.slot_list_extend PySem.F.type_list_extend aYr (aJl (pv 1)) (aa (ai 3 (pv 3)) bg))))))
   (ao (cC (DO.m _ (aX4 rfl rfl rfl T.z_sorted T.z_set (ai 1 (pv 1))))))))
theorem ave:FnScope ["heap","purses","rows","chosen","price","rated"] ["heap","purses","rows"] (af aJ7):=fsc
theorem aqbx {f:Addr} {fd:Ak} (F:Fun K "offers" "offers" aJ7 f fd) (T:Txt mg) (G_weight_of:Fn P w K mg base 1 "weight_of" ["heap"] (spD K 1 aQ)) (G_rate:Fn P w K mg base 4 "rate" ["heap","purses","candidate","price"] (spD K 4 aXr)) (G_liked:Fn P w K mg base 1 "liked" ["heap"] (spO K 1 az2)):FnOk P w K mg base CX0 5 f fd ["heap","purses","rows"] (spD K 3 axb) :=
 FnOk.d (fnO F ave (k:=4) (n:=3) (m:=6) (b:=aQu) rfl rfl fun cdv A outer s H E hr =>
  (aj (aB 3 (gp (i:=3) ave.nd rfl (.inr rfl) (DO.m _ (cN (cl:=_) (N':=["row"]) (js:=[none]) (by o_reads) (by exact (aH (ai 2 (pv 2)))) (fun _ _ _ q=>az q) (by exact fun _ _ _ _ _=>(aw 0 (pgc 0))) (by exact fun _ _ _ _ _=>aqo) (by exact fun _ _ _ _ _=>(DE.o (aqu (ai 0 (pv 0)) ss (fun _ _=>rfl))))))))
   (aj (aB 4 (gp (i:=4) ave.nd rfl (.inr rfl) (DE.m _ (aq3 G_weight_of (hm hr) rfl (cb (ai 0 (pv 0)) am)))))
   (aj (aqa8 (i:=5) (cl:=_) (N':=["candidate","heap","purses","price","chosen"]) (js:=[none,some 0,some 1,some 4,some 3]) (by o_reads) (by exact (aH (DO.de (aqb5 G_liked (hm hr) rfl (cb (ai 0 (pv 0)) am))))) (fun _ _ _ q=>az q) (by exact fun _ _ _ _ _=>(aw 0 (pgc 0))) (by exact fun _ _ _ _ _=>(azx (ajn (aZu (aqb4 hr)) aZr (ai 0 (pv 0)) (ai 4 (pv 4)) (by rfl)))) (by exact fun _ _ _ _ _=>(DE.o (akw (cb (ai 0 (pv 0)) (cb (aq3 G_rate (hm hr) rfl (cb (ai 1 (pv 1)) (cb (ai 2 (pv 2)) (cb (ai 0 (pv 0)) (cb (ai 3 (pv 3)) am))))) am))))) ave.nd rfl rfl rfl)
   (ao (cC (DO.m _ (cN (cl:=_) (N':=["offer"]) (js:=[none]) (by o_reads) (by exact (aH (ai 5 (pv 5)))) (fun _ _ _ q=>az q) (by exact fun _ _ _ _ _=>(aw 0 (pgc 0))) (by exact fun _ _ _ _ _=>(azx (ajn aZv aYd (aqu (ai 0 (pv 0)) ss (fun _ _=>rfl)) aX5 (ax _)))) (by exact fun _ _ _ _ _=>(DE.o (ai 0 (pv 0))))))))))))
theorem aqew:FnScope ["one","other"] ["one","other"] (af aWm):=fsc
theorem aqft {f:Addr} {fd:Ak} (F:Fun K "minus" "minus" aWm f fd) (T:Txt mg) (G_share:Fn P w K mg base 2 "share" ["top","bottom"] (spD K 2 ajk)):FnOk P w K mg base CX0 3 f fd ["one","other"] (spD K 2 aJc) :=
 FnOk.d (fnO F aqew (k:=2) (n:=2) (m:=2) (b:=aqas) rfl rfl fun cdv A outer s H E hr =>
  (ao (cC (DE.m _ (aq3 G_share (hm hr) rfl (cb (ajq aw7 aZq (ajq aJ aI (aqu (ai 0 (pv 0)) ss (fun _ _=>rfl)) (aqu (ai 1 (pv 1)) ss (fun _ _=>rfl))) (ajq aJ aI (aqu (ai 1 (pv 1)) ss (fun _ _=>rfl)) (aqu (ai 0 (pv 0)) ss (fun _ _=>rfl)))) (cb (ajq aJ aI (aqu (ai 0 (pv 0)) ss (fun _ _=>rfl)) (aqu (ai 1 (pv 1)) ss (fun _ _=>rfl))) am)))))))
theorem akq:FnScope ["purse","due"] ["purse","due"] (af ajs):=fsc
theorem akt {f:Addr} {fd:Ak} (F:Fun K "purse_behind" "purse_behind" ajs f fd) (T:Txt mg) (G_below:Fn P w K mg base 1 "below" ["one","other"] (spD K 2 av3)) (G_minus:Fn P w K mg base 3 "minus" ["one","other"] (spD K 2 aJc)):FnOk P w K mg base CX0 4 f fd ["purse","due"] (spD K 2 aqf) :=
 FnOk.d (fnO F akq (k:=3) (n:=2) (m:=2) (b:=aj1) rfl rfl fun cdv A outer s H E hr =>
  (aj (aKd (aqa7 (aq3 G_below (hm hr) rfl (cb (ai 0 (pv 0)) (cb (ai 1 (pv 1)) am)))) (ao (cC (DE.m _ (akw (cb ss (cb ss am)))))) ajo)
   (ao (cC (DE.m _ (aq3 G_minus (hm hr) rfl (cb (ai 0 (pv 0)) (cb (ai 1 (pv 1)) am))))))))
theorem aWi:FnScope ["heap","purses","candidate","due","behind","place"] ["heap","purses","candidate","due"] (af aqf2):=fsc
theorem aqj8 {f:Addr} {fd:Ak} (F:Fun K "paid" "paid" aqf2 f fd) (T:Txt mg) (G_purse_behind:Fn P w K mg base 4 "purse_behind" ["purse","due"] (spD K 2 aqf)) (G_likers:Fn P w K mg base 3 "likers" ["heap","candidate"] (spO K 2 aje)):FnOk P w K mg base CX0 5 f fd ["heap","purses","candidate","due"] (spD K 4 aYv) :=
 FnOk.d (fnO F aWi (k:=4) (n:=4) (m:=6) (b:=aqhe) rfl rfl fun cdv A outer s H E hr =>
  (aj (aB 4 (gp (i:=4) aWi.nd rfl (.inl rfl) (DO.m _ (aVc aj0 aJo rfl T.z_list aJp (cb (ai 1 (pv 1)) am)))))
   (aj (aX2 Ba rfl (DO.de (aqb5 G_likers (hm hr) rfl (cb (ai 0 (pv 0)) (cb (ai 2 (pv 2)) am)))) (axq 5 (aqc (i:=5) aWi.nd rfl (.inl rfl))) (ao (aqnp (i:=4) (aqir (DE.m _ (aq3 G_purse_behind (hm hr) rfl (cb (aqu (ai 1 (pv 1)) (ai 5 (pv 5)) (fun _ _=>rfl)) (cb (ai 3 (pv 3)) am)))) (aqmf (aJl (pv 4)) (ai 5 (pv 5)) aqeu)))))
   (ao (cC (DE.m _ (ai 4 (pv 4))))))))
theorem axi:FnScope ["heap","seats","purses","rows","offer"] ["heap","seats"] (af aJ6):=fsc
theorem aqbw {f:Addr} {fd:Ak} (F:Fun K "rounds" "rounds" aJ6 f fd) (T:Txt mg) (G_first_purses:Fn P w K mg base 1 "first_purses" ["heap","seats"] (spD K 2 aS)) (G_least:Fn P w K mg base 2 "least" ["offers"] (spD K 1 azf)) (G_offers:Fn P w K mg base 5 "offers" ["heap","purses","rows"] (spD K 3 axb)) (G_paid:Fn P w K mg base 5 "paid" ["heap","purses","candidate","due"] (spD K 4 aYv)):FnOk P w K mg base CX0 6 f fd ["heap","seats"] (spD K 2 av2) :=
 FnOk.d (fnO F axi (k:=5) (n:=2) (m:=5) (b:=aZd) rfl rfl fun cdv A outer s H E hr =>
  (aj (aB 2 (gp (i:=2) axi.nd rfl (.inl rfl) (DE.m _ (aq3 G_first_purses (hm hr) rfl (cb (ai 0 (pv 0)) (cb (ai 1 (pv 1)) am))))))
   (aj (aB 3 (gp (i:=3) axi.nd rfl (.inl rfl) (DO.m _ (aQm am))))
   (aj (aB 4 (gp (i:=4) axi.nd rfl (.inl rfl) (DE.m _ (aq3 G_least (hm hr) rfl (cb (aq3 G_offers (hm hr) rfl (cb (ai 0 (pv 0)) (cb (ai 2 (pv 2)) (cb (ai 3 (pv 3)) am)))) am)))))
   (aj (aX1 Ba (ajn aZv aYd (ai 4 (pv 4)) aX5 (ax _)) (aj (aB 2 (gp (i:=2) axi.nd rfl (.inl rfl) (DE.m _ (aq3 G_paid (hm hr) rfl (cb (ai 0 (pv 0)) (cb (ai 2 (pv 2)) (cb (aqu (ai 4 (pv 4)) ss (fun _ _=>rfl)) (cb (aqu (ai 4 (pv 4)) ss (fun _ _=>rfl)) am))))))))
   (aj (aqh3 (i:=3) (ajj (aqfl B4 Cq Cu axl (aJl (pv 3)) (aa (DE.m _ (akw (cb (aqu (ai 4 (pv 4)) ss (fun _ _=>rfl)) (cb (aqu (ai 4 (pv 4)) ss (fun _ _=>rfl)) (cb (ai 2 (pv 2)) am))))) bg))))
   (ao (aB 4 (gp (i:=4) axi.nd rfl (.inl rfl) (DE.m _ (aq3 G_least (hm hr) rfl (cb (aq3 G_offers (hm hr) rfl (cb (ai 0 (pv 0)) (cb (ai 2 (pv 2)) (cb (ai 3 (pv 3)) am)))) am)))))))))
   (ao (cC (DE.m _ (ai 3 (pv 3))))))))))
theorem avs:FnScope ["rows"] ["rows"] (af ajc):=fsc
theorem av1 {f:Addr} {fd:Ak} (F:Fun K "candidates_of" "candidates_of" ajc f fd) (T:Txt mg) :FnOk P w K mg base CX0 1 f fd ["rows"] (spD K 1 aK) :=
 FnOk.d (fnO F avs (k:=0) (n:=1) (m:=1) (b:=axt) rfl rfl fun cdv A outer s H E hr =>
  (ao (cC (DO.m _ (cN (cl:=_) (N':=["row"]) (js:=[none]) (by o_reads) (by exact (aH (ai 0 (pv 0)))) (fun _ _ _ q=>az q) (by exact fun _ _ _ _ _=>(aw 0 (pgc 0))) (by exact fun _ _ _ _ _=>aqo) (by exact fun _ _ _ _ _=>(DE.o (aqu (ai 0 (pv 0)) ss (fun _ _=>rfl)))))))))
theorem aWh:FnScope ["heap","amounts","places"] ["heap","amounts","places"] (af awx):=fsc
theorem aYj {f:Addr} {fd:Ak} (F:Fun K "weighed" "weighed" awx f fd) (T:Txt mg) :FnOk P w K mg base CX0 1 f fd ["heap","amounts","places"] (spD K 3 aQb) :=
 FnOk.d (fnO F aWh (k:=0) (n:=3) (m:=3) (b:=aVq) rfl rfl fun cdv A outer s H E hr =>
  (ao (cC (DE.m _ (aqb (aQq rfl) aQp rfl T.z_sum aqhb (cb (DO.de (cN (cl:=_) (N':=["place","amounts","heap"]) (js:=[none,some 1,some 0]) (by o_reads) (by exact (aH (ai 2 (pv 2)))) (fun _ _ _ q=>az q) (by exact fun _ _ _ _ _=>(aw 0 (pgc 0))) (by exact fun _ _ _ _ _=>aqo) (by exact fun _ _ _ _ _=>(DE.o (ajq aJ aI (aqu (aqu (ai 2 (pv 2)) (ai 0 (pv 0)) (fun _ _=>rfl)) ss (fun _ _=>rfl)) (aqu (ai 1 (pv 1)) (ai 0 (pv 0)) (fun _ _=>rfl))))))) am))))))
theorem aZm:FnScope ["heap","purses","candidate","places","bottom","missing"] ["heap","purses","candidate"] (af aqey):=fsc
theorem aqj4 {f:Addr} {fd:Ak} (F:Fun K "wait" "wait" aqey f fd) (T:Txt mg) (G_likers:Fn P w K mg base 3 "likers" ["heap","candidate"] (spO K 2 aje)) (G_common_bottom:Fn P w K mg base 2 "common_bottom" ["fractions"] (spD K 1 bA)) (G_weight_of:Fn P w K mg base 1 "weight_of" ["heap"] (spD K 1 aQ)) (G_weighed:Fn P w K mg base 1 "weighed" ["heap","amounts","places"] (spD K 3 aQb)) (G_tops_over:Fn P w K mg base 1 "tops_over" ["bottom","fractions"] (spD K 2 aql)) (G_share:Fn P w K mg base 2 "share" ["top","bottom"] (spD K 2 ajk)) (G_weight_at:Fn P w K mg base 1 "weight_at" ["heap","places"] (spD K 2 aR)):FnOk P w K mg base CX0 4 f fd ["heap","purses","candidate"] (spD K 3 aqc4) :=
 FnOk.d (fnO F aZm (k:=3) (n:=3) (m:=6) (b:=aql7) rfl rfl fun cdv A outer s H E hr =>
  (aj (aB 3 (gp (i:=3) aZm.nd rfl (.inl rfl) (DO.m _ (aqb5 G_likers (hm hr) rfl (cb (ai 0 (pv 0)) (cb (ai 2 (pv 2)) am))))))
   (aj (aB 4 (gp (i:=4) aZm.nd rfl (.inl rfl) (DE.m _ (aq3 G_common_bottom (hm hr) rfl (cb (ai 1 (pv 1)) am)))))
   (aj (aB 5 (gp (i:=5) aZm.nd rfl (.inl rfl) (DE.m _ (ajq aw7 aZq (ajq aJ aI (aq3 G_weight_of (hm hr) rfl (cb (ai 0 (pv 0)) am)) (ai 4 (pv 4))) (aq3 G_weighed (hm hr) rfl (cb (ai 0 (pv 0)) (cb (aq3 G_tops_over (hm hr) rfl (cb (ai 4 (pv 4)) (cb (ai 1 (pv 1)) am))) (cb (ai 3 (pv 3)) am))))))))
   (aj (aKd (ajn op_le aqiz (ai 5 (pv 5)) ss (ax _)) (ao (cC (DE.m _ (akw (cb ss (cb ss am)))))) ajo)
   (ao (cC (DE.m _ (aq3 G_share (hm hr) rfl (cb (ai 5 (pv 5)) (cb (ajq aJ aI (aq3 G_weight_at (hm hr) rfl (cb (ai 0 (pv 0)) (cb (ai 3 (pv 3)) am))) (ai 4 (pv 4))) am)))))))))))
theorem aqev:FnScope ["heap","purses","chosen","seats"] ["heap","purses","chosen","seats"] (af aWk):=fsc
theorem aqfp {f:Addr} {fd:Ak} (F:Fun K "waits" "waits" aWk f fd) (T:Txt mg) (G_wait:Fn P w K mg base 4 "wait" ["heap","purses","candidate"] (spD K 3 aqc4)) (G_liked:Fn P w K mg base 1 "liked" ["heap"] (spO K 1 az2)):FnOk P w K mg base CX0 5 f fd ["heap","purses","chosen","seats"] (spD K 4 ak9) :=
 FnOk.d (fnO F aqev (k:=4) (n:=4) (m:=4) (b:=aqar) rfl rfl fun cdv A outer s H E hr =>
  (aj (aKd (ajn op_ge aqj0 (aqb aD aq8 rfl T.z_len akf (cb (ai 2 (pv 2)) am)) (ai 3 (pv 3)) (ax _)) (ao (cC (DO.m _ (aQm am)))) ajo)
   (ao (cC (DO.m _ (cN (cl:=_) (N':=["candidate","heap","purses","chosen"]) (js:=[none,some 0,some 1,some 2]) (by o_reads) (by exact (aH (DO.de (aqb5 G_liked (hm hr) rfl (cb (ai 0 (pv 0)) am))))) (fun _ _ _ q=>az q) (by exact fun _ _ _ _ _=>(aw 0 (pgc 0))) (by exact fun _ _ _ _ _=>(azx (ajn (aZu (aqb4 hr)) aZr (ai 0 (pv 0)) (ai 3 (pv 3)) (by rfl)))) (by exact fun _ _ _ _ _=>(DE.o (akw (cb (ai 0 (pv 0)) (cb (aq3 G_wait (hm hr) rfl (cb (ai 1 (pv 1)) (cb (ai 2 (pv 2)) (cb (ai 0 (pv 0)) am)))) am)))))))))))
theorem aqif:FnScope ["one","other"] ["one","other"] (af aqf1):=fsc
theorem aqj7 {f:Addr} {fd:Ak} (F:Fun K "plus" "plus" aqf1 f fd) (T:Txt mg) (G_share:Fn P w K mg base 2 "share" ["top","bottom"] (spD K 2 ajk)):FnOk P w K mg base CX0 3 f fd ["one","other"] (spD K 2 aqgc) :=
 FnOk.d (fnO F aqif (k:=2) (n:=2) (m:=2) (b:=aql8) rfl rfl fun cdv A outer s H E hr =>
  (ao (cC (DE.m _ (aq3 G_share (hm hr) rfl (cb (ajq aZy aZt (ajq aJ aI (aqu (ai 0 (pv 0)) ss (fun _ _=>rfl)) (aqu (ai 1 (pv 1)) ss (fun _ _=>rfl))) (ajq aJ aI (aqu (ai 1 (pv 1)) ss (fun _ _=>rfl)) (aqu (ai 0 (pv 0)) ss (fun _ _=>rfl)))) (cb (ajq aJ aI (aqu (ai 0 (pv 0)) ss (fun _ _=>rfl)) (aqu (ai 1 (pv 1)) ss (fun _ _=>rfl))) am)))))))
theorem aj7:FnScope ["heap","purses","offer","places"] ["heap","purses","offer"] (af aq9):=fsc
theorem avy {f:Addr} {fd:Ak} (F:Fun K "purses_behind" "purses_behind" aq9 f fd) (T:Txt mg) (G_likers:Fn P w K mg base 3 "likers" ["heap","candidate"] (spO K 2 aje)) (G_plus:Fn P w K mg base 3 "plus" ["one","other"] (spD K 2 aqgc)):FnOk P w K mg base CX0 4 f fd ["heap","purses","offer"] (spD K 3 ajd) :=
 FnOk.d (fnO F aj7 (k:=3) (n:=3) (m:=4) (b:=axr) rfl rfl fun cdv A outer s H E hr =>
  (aj (aB 3 (gp (i:=3) aj7.nd rfl (.inr rfl) (DO.m _ (aqb5 G_likers (hm hr) rfl (cb (ai 0 (pv 0)) (cb (aqu (ai 2 (pv 2)) ss (fun _ _=>rfl)) am))))))
   (ao (cC (DO.m _ (cN (cl:=_) (N':=["place","purse","places","offer"]) (js:=[none,none,some 3,some 2]) (by o_reads) (by exact (aW2 rfl T.z_enumerate (ai 1 (pv 1)))) (fun _ _ _ q=>aVg q) (by exact fun _ _ _ _ _=>(aVd rfl (aq7 (aw 0 (pgc 0)) (aq7 (aw 1 (pgc 1)) aQn)))) (by exact fun _ _ _ _ _=>aqo) (by exact fun _ _ _ _ _=>(DE.o (de_if (ajn (aXj (aqb4 hr)) aqbu (ai 0 (pv 0)) (ai 2 (pv 2)) (by rfl)) (akw (cb ss (cb ss am))) (aq3 G_plus (hm hr) rfl (cb (ai 1 (pv 1)) (cb (aqu (ai 3 (pv 3)) ss (fun _ _=>rfl)) am))))))))))))
theorem azn:FnScope ["heap","purses","members","seats","chosen","rows","offer"] ["heap","purses","members","seats"] (af aWq):=fsc
theorem aqfy {f:Addr} {fd:Ak} (F:Fun K "grown" "grown" aWq f fd) (T:Txt mg) (G_least:Fn P w K mg base 2 "least" ["offers"] (spD K 1 azf)) (G_waits:Fn P w K mg base 5 "waits" ["heap","purses","chosen","seats"] (spD K 4 ak9)) (G_purses_behind:Fn P w K mg base 4 "purses_behind" ["heap","purses","offer"] (spD K 3 ajd)):FnOk P w K mg base CX0 6 f fd ["heap","purses","members","seats"] (spD K 4 aJd) :=
 FnOk.d (fnO F azn (k:=5) (n:=4) (m:=7) (b:=aqau) rfl rfl fun cdv A outer s H E hr =>
  (aj (aB 4 (gp (i:=4) azn.nd rfl (.inl rfl) (DO.m _ (aVc aj0 aJo rfl T.z_list aJp (cb (ai 2 (pv 2)) am)))))
   (aj (aB 5 (gp (i:=5) azn.nd rfl (.inl rfl) (DO.m _ (aQm am))))
   (aj (aB 6 (gp (i:=6) azn.nd rfl (.inl rfl) (DE.m _ (aq3 G_least (hm hr) rfl (cb (aq3 G_waits (hm hr) rfl (cb (ai 0 (pv 0)) (cb (ai 1 (pv 1)) (cb (ai 4 (pv 4)) (cb (ai 3 (pv 3)) am))))) am)))))
   (aj (aX1 Ba (ajn aZv aYd (ai 6 (pv 6)) aX5 (ax _)) (aj (aB 1 (gp (i:=1) azn.nd rfl (.inl rfl) (DE.m _ (aq3 G_purses_behind (hm hr) rfl (cb (ai 0 (pv 0)) (cb (ai 1 (pv 1)) (cb (ai 6 (pv 6)) am)))))))
   (aj (aqh3 (i:=5) (ajj (aqfl B4 Cq Cu axl (aJl (pv 5)) (aa (DE.m _ (akw (cb (aqu (ai 6 (pv 6)) ss (fun _ _=>rfl)) (cb (aqu (ai 6 (pv 6)) ss (fun _ _=>rfl)) (cb (ai 1 (pv 1)) am))))) bg))))
   (aj (aqh3 (i:=4) (ajj (aqfl B4 Cq Cu axl (aJl (pv 4)) (aa (DE.m _ (aqu (ai 6 (pv 6)) ss (fun _ _=>rfl))) bg))))
   (ao (aB 6 (gp (i:=6) azn.nd rfl (.inl rfl) (DE.m _ (aq3 G_least (hm hr) rfl (cb (aq3 G_waits (hm hr) rfl (cb (ai 0 (pv 0)) (cb (ai 1 (pv 1)) (cb (ai 4 (pv 4)) (cb (ai 3 (pv 3)) am))))) am))))))))))
   (ao (cC (DE.m _ (ai 5 (pv 5))))))))))
theorem awt:FnScope ["heap","seats","rows"] ["heap","seats","rows"] (af aj8):=fsc
theorem aQa {f:Addr} {fd:Ak} (F:Fun K "last_purses" "last_purses" aj8 f fd) (T:Txt mg) (G_first_purses:Fn P w K mg base 1 "first_purses" ["heap","seats"] (spD K 2 aS)):FnOk P w K mg base CX0 2 f fd ["heap","seats","rows"] (spD K 3 aq5) :=
 FnOk.d (fnO F awt (k:=1) (n:=3) (m:=3) (b:=az8) rfl rfl fun cdv A outer s H E hr =>
  (aj (aKd (ajn (aw8 hr.units) aYe (ai 2 (pv 2)) (DO.de (aQm am)) (ax _)) (ao (cC (DE.m _ (aq3 G_first_purses (hm hr) rfl (cb (ai 0 (pv 0)) (cb (ai 1 (pv 1)) am)))))) ajo)
   (ao (cC (DE.m _ (aqu (aqu (ai 2 (pv 2)) (de_un aqel aqd1 ss) (fun _ _=>rfl)) ss (fun _ _=>rfl)))))))
theorem aww:FnScope ["heap","seats","bought","chosen","added"] ["heap","seats"] (af aWt):=fsc
theorem aqg1 {f:Addr} {fd:Ak} (F:Fun K "bench" "bench" aWt f fd) (T:Txt mg) (G_rounds:Fn P w K mg base 6 "rounds" ["heap","seats"] (spD K 2 av2)) (G_candidates_of:Fn P w K mg base 1 "candidates_of" ["rows"] (spD K 1 aK)) (G_grown:Fn P w K mg base 6 "grown" ["heap","purses","members","seats"] (spD K 4 aJd)) (G_last_purses:Fn P w K mg base 2 "last_purses" ["heap","seats","rows"] (spD K 3 aq5)):FnOk P w K mg base CX0 7 f fd ["heap","seats"] (spD K 2 aZ3) :=
 FnOk.d (fnO F aww (k:=6) (n:=2) (m:=5) (b:=aqaw) rfl rfl fun cdv A outer s H E hr =>
  (aj (aB 2 (gp (i:=2) aww.nd rfl (.inl rfl) (DE.m _ (aq3 G_rounds (hm hr) rfl (cb (ai 0 (pv 0)) (cb (ai 1 (pv 1)) am))))))
   (aj (aB 3 (gp (i:=3) aww.nd rfl (.inl rfl) (DE.m _ (aq3 G_candidates_of (hm hr) rfl (cb (ai 2 (pv 2)) am)))))
   (aj (aB 4 (gp (i:=4) aww.nd rfl (.inl rfl) (DE.m _ (aq3 G_grown (hm hr) rfl (cb (ai 0 (pv 0)) (cb (aq3 G_last_purses (hm hr) rfl (cb (ai 0 (pv 0)) (cb (ai 1 (pv 1)) (cb (ai 2 (pv 2)) am)))) (cb (DO.de (aqaa ake akd rfl T.z_sorted azh (cb (ai 3 (pv 3)) am))) (cb (ai 1 (pv 1)) am))))))))
   (ao (cC (DO.m _ (aqks (aQo (aqaa ake akd rfl T.z_sorted azh (cb (DO.de (do_op aZx aYb (ai 3 (pv 3)) (aq3 G_candidates_of (hm hr) rfl (cb (ai 4 (pv 4)) am)))) am)) (aQo (DE.o (ai 2 (pv 2))) (aQo (DE.o (ai 4 (pv 4))) aqe7)))))))))))
theorem avq:FnScope ["heap","place","members"] ["heap","place","members"] (af aja):=fsc
theorem avz {f:Addr} {fd:Ak} (F:Fun K "members_liked" "members_liked" aja f fd) (T:Txt mg) :FnOk P w K mg base CX0 1 f fd ["heap","place","members"] (spD K 3 aqp) :=
 FnOk.d (fnO F avq (k:=0) (n:=3) (m:=3) (b:=axs) rfl rfl fun cdv A outer s H E hr =>
  (ao (cC (DO.m _ (cN (cl:=_) (N':=["member","heap","place"]) (js:=[none,some 0,some 1]) (by o_reads) (by exact (aH (ai 2 (pv 2)))) (fun _ _ _ q=>az q) (by exact fun _ _ _ _ _=>(aw 0 (pgc 0))) (by exact fun _ _ _ _ _=>(azx (ajn (aXj (aqb4 hr)) aqbu (ai 0 (pv 0)) (aqu (aqu (ai 1 (pv 1)) (ai 2 (pv 2)) (fun _ _=>rfl)) ss (fun _ _=>rfl)) (by rfl)))) (by exact fun _ _ _ _ _=>(DE.o (ai 0 (pv 0)))))))))
theorem aWj:FnScope ["heap","seats","some","group","agreeing"] ["heap","seats","some","group"] (af aWs):=fsc
theorem aqg0 {f:Addr} {fd:Ak} (F:Fun K "claim" "claim" aWs f fd) (T:Txt mg) (G_agreed:Fn P w K mg base 2 "agreed" ["heap","some"] (spO K 2 ajx)) (G_weight_at:Fn P w K mg base 1 "weight_at" ["heap","places"] (spD K 2 aR)) (G_weight_of:Fn P w K mg base 1 "weight_of" ["heap"] (spD K 1 aQ)):FnOk P w K mg base CX0 3 f fd ["heap","seats","some","group"] (spD K 4 aJe) :=
 FnOk.d (fnO F aWj (k:=2) (n:=4) (m:=5) (b:=aqav) rfl rfl fun cdv A outer s H E hr =>
  (aj (aKd (DW.dt (dw_or (ajn (aw8 hr.units) aYe (aqb aD aq8 rfl T.z_len akf (cb (ai 2 (pv 2)) am)) ss (ax _)) (aqkq (ajn (aw8 hr.units) aYe (aqb aD aq8 rfl T.z_len akf (cb (ai 3 (pv 3)) am)) ss (ax _))))) (ao (cC (DE.m _ de_bl))) ajo)
   (aj (aB 4 (gp (i:=4) aWj.nd rfl (.inr rfl) (DO.m _ (aqb5 G_agreed (hm hr) rfl (cb (ai 0 (pv 0)) (cb (ai 2 (pv 2)) am))))))
   (aj (aKd (aqno (aqa7 (aqb (aQr rfl) aVk rfl T.z_all aqhc (cb (DO.de (cN (cl:=_) (N':=["place","agreeing"]) (js:=[none,some 4]) (by o_reads) (by exact (aH (ai 3 (pv 3)))) (fun _ _ _ q=>az q) (by exact fun _ _ _ _ _=>(aw 0 (pgc 0))) (by exact fun _ _ _ _ _=>aqo) (by exact fun _ _ _ _ _=>(DE.o (aqcq (aXj (aqb4 hr)) aqbu (ai 0 (pv 0)) (ai 1 (pv 1)) (by rfl)))))) am)))) (ao (cC (DE.m _ de_bl))) ajo)
   (ao (cC (DE.m _ (aqcq op_ge aqj0 (ajq aJ aI (ai 1 (pv 1)) (aq3 G_weight_at (hm hr) rfl (cb (ai 0 (pv 0)) (cb (ai 3 (pv 3)) am)))) (ajq aJ aI (aqb aD aq8 rfl T.z_len akf (cb (ai 2 (pv 2)) am)) (aq3 G_weight_of (hm hr) rfl (cb (ai 0 (pv 0)) am))) (ax _)))))))))
theorem aza:FnScope ["candidates","found","candidate"] ["candidates"] (af aw0):=fsc
theorem aYn {f:Addr} {fd:Ak} (F:Fun K "choices" "choices" aw0 f fd) (T:Txt mg) :FnOk P w K mg base CX0 1 f fd ["candidates"] (spD K 1 avg) :=
 FnOk.d (fnO F aza (k:=0) (n:=1) (m:=3) (b:=aVt) rfl rfl fun cdv A outer s H E hr =>
  (aj (aB 1 (gp (i:=1) aza.nd rfl (.inl rfl) (DO.m _ (aqkt (aQo (aQm am) aqe7)))))
   (aj (aX2 Ba rfl (ai 0 (pv 0)) (axq 2 (aqc (i:=2) aza.nd rfl (.inr rfl))) (ao (aB 1 (gp (i:=1) aza.nd rfl (.inl rfl) (DO.m _ (do_op aZx aYb (ai 1 (pv 1)) (DO.de (cN (cl:=_) (N':=["some","candidate"]) (js:=[none,some 2]) (by o_reads) (by exact (aH (ai 1 (pv 1)))) (fun _ _ _ q=>az q) (by exact fun _ _ _ _ _=>(aw 0 (pgc 0))) (by exact fun _ _ _ _ _=>aqo) (by exact fun _ _ _ _ _=>(do_op aZx aYb (ai 0 (pv 0)) (DO.de (aQm (cb (ai 1 (pv 1)) am)))))))))))))
   (ao (cC (DE.m _ (ai 1 (pv 1))))))))
theorem azm:FnScope ["heap","seats","members","some","group"] ["heap","seats","members"] (af avt):=fsc
theorem aV5 {f:Addr} {fd:Ak} (F:Fun K "left_out" "left_out" avt f fd) (T:Txt mg) (G_members_liked:Fn P w K mg base 1 "members_liked" ["heap","place","members"] (spD K 3 aqp)) (G_agreed:Fn P w K mg base 2 "agreed" ["heap","some"] (spO K 2 ajx)) (G_claim:Fn P w K mg base 3 "claim" ["heap","seats","some","group"] (spD K 4 aJe)) (G_choices:Fn P w K mg base 1 "choices" ["candidates"] (spD K 1 avg)) (G_liked:Fn P w K mg base 1 "liked" ["heap"] (spO K 1 az2)):FnOk P w K mg base CX0 4 f fd ["heap","seats","members"] (spD K 3 axc) :=
 FnOk.d (fnO F azm (k:=3) (n:=3) (m:=5) (b:=aki) rfl rfl fun cdv A outer s H E hr =>
  (aj (aX2 Ba rfl (aq3 G_choices (hm hr) rfl (cb (DO.de (aqb5 G_liked (hm hr) rfl (cb (ai 0 (pv 0)) am))) am)) (axq 3 (aqc (i:=3) azm.nd rfl (.inr rfl))) (aj (aqa8 (i:=4) (cl:=_) (N':=["place","some","heap","members"]) (js:=[none,some 3,some 0,some 2]) (by o_reads) (by exact (aH (DO.de (aqb5 G_agreed (hm hr) rfl (cb (ai 0 (pv 0)) (cb (ai 3 (pv 3)) am)))))) (fun _ _ _ q=>az q) (by exact fun _ _ _ _ _=>(aw 0 (pgc 0))) (by exact fun _ _ _ _ _=>(azx (ajn aqj2 aqbt (aqb aD aq8 rfl T.z_len akf (cb (aq3 G_members_liked (hm hr) rfl (cb (ai 2 (pv 2)) (cb (ai 0 (pv 0)) (cb (ai 3 (pv 3)) am)))) am)) (aqb aD aq8 rfl T.z_len akf (cb (ai 1 (pv 1)) am)) (ax _)))) (by exact fun _ _ _ _ _=>(DE.o (ai 0 (pv 0)))) azm.nd rfl rfl rfl)
   (ao (aKd (aqa7 (aq3 G_claim (hm hr) rfl (cb (ai 0 (pv 0)) (cb (ai 1 (pv 1)) (cb (ai 3 (pv 3)) (cb (ai 4 (pv 4)) am)))))) (ao (cC (DE.m _ (akw (cb (ai 3 (pv 3)) (cb (ai 4 (pv 4)) am)))))) ajo))))
   (ao (cC (DE.m _ aX5)))))
theorem aJ4:FnScope ["script","k"] ["script","k"] (af azr):=fsc
theorem aXo {f:Addr} {fd:Ak} (F:Fun K "_law_cell" "_law_cell" azr f fd) (T:Txt mg) :FnOk P w K mg base CX0 1 f fd ["script","k"] (spD K 2 aqm) :=
 FnOk.d (fnO F aJ4 (k:=0) (n:=2) (m:=2) (b:=ajp) rfl rfl fun cdv A outer s H E hr =>
  (aj (aKd (ajn aqj2 aqbt (ai 1 (pv 1)) (aqb aD aq8 rfl T.z_len akf (cb (ai 0 (pv 0)) am)) (ax _)) (ao (cC (DE.m _ (aqu (ai 0 (pv 0)) (ai 1 (pv 1)) (fun _ _=>rfl))))) ajo)
   (aj (aKd (ajn (aw8 hr.units) aYe (ai 0 (pv 0)) (DO.de (aQm am)) (ax _)) (ao (cC (DE.m _ (ajq aZy aZt (ajq aJ aI (ajq aJ aI (ai 1 (pv 1)) (ai 1 (pv 1))) ss) (ajq aJ aI ss (ai 1 (pv 1))))))) ajo)
   (ao (cC (DE.m _ (ajq aYh aYc (ajq aJ aI (ajq aZy aZt (ajq aZy aZt (aqu (ai 0 (pv 0)) (ajq aYh aYc (ai 1 (pv 1)) (aqb aD aq8 rfl T.z_len akf (cb (ai 0 (pv 0)) am))) (fun _ _=>rfl)) (ajq aJ aI (ajq aJ aI (ai 1 (pv 1)) (ai 1 (pv 1))) ss)) ss) ss) ss)))))))
end
abbrev axx:Stmt:=top 54
def aqd4 (K:Frag):Sp:=fun vs H Q _=>∃ (F:Hp) (a:Addr) (ns:List Int) (at_ many:Nat),vs=[.ref a,.int (at_:Int),.int (many:Int)]/\aqs2 F H/\SqE K F a (ns.map V.int)/\ns.length <= 63/\at_ + many <= 900/\many <= 12 /\
 ∀ (l:Addr) (H':Hp) (names:List Str),aqs2 H H'->H l=none->H' l=some (.lst (names.map V.str))->names.length=many->names.Nodup->(∀ x∈names,aE x)->Q (.ref l) H'
section
variable {P:Aj} {w:World} {K:Frag} {mg:Str->Option Value} {base:Heap}
theorem jt:FnScope ["script","at","many","letters","names","k","rest","size","name","j"] ["script","at","many"] (af axx):=fsc
theorem aJa {f:Addr} {fd:Ak} (F:Fun K "_law_names" "_law_names" axx f fd) (T:Txt mg) (zr:mg "range"=none) (G:Fn P w K mg base 1 "_law_cell" ["script","k"] (spD K 2 aqm)):FnOk P w K mg base CX0 2 f fd ["script","at","many"] (aqd4 K):=by
 obtain ⟨fc,fdc,okc,mc,kc,bc⟩:=G;refine F.ok jt (k:=1) (fun vs H Q E h=>by obtain ⟨_,_,_,_,_,rfl,_⟩:=h; rfl) fun cdv A outer s H vs Q E hr h=>⟨_,ak (gp (i:=3) jt.nd rfl (.inl rfl) ar) (ak (gp (i:=4) jt.nd rfl (.inl rfl) (aF bg)) (ak
  (aV2 Ba rfl (avf rfl zr (aa (pv 2) bg)) (aqc (i:=5) jt.nd rfl (.inl rfl))
   (ak (gp (i:=6) jt.nd rfl (.inl rfl) (au okc (hm hr) rfl mc kc bc .nil aqt (aa (pv 0) (aa (axz aw9 (pv 1) (pv 5)) bg))))
   (ak (gp (i:=7) jt.nd rfl (.inl rfl) (axz aw9 aq (axz aYi (pv 6) aq)))
   (ak (gp (i:=8) jt.nd rfl (.inl rfl) ar)
   (ak (aV2 Ba rfl (avf rfl zr (aa (pv 7) bg)) (aqc (i:=9) jt.nd rfl (.inl rfl))
    (ak (gp (i:=6) jt.nd rfl (.inl rfl) (axz aqdq (pv 6) aq))
    (el (gp (i:=8) jt.nd rfl (.inl rfl) (axz avx (pv 8) (aks aqgj (pv 3) (axz aYi (pv 6) aq) (fun _ _=>rfl)))))))
   (ak (aWy Ba (aW (aXj (aqb4 hr)) (pv 8) (pv 4) (by rfl))
    (el (gp (i:=8) jt.nd rfl (.inl rfl) (axz avx (aks aqgj (pv 3) (axz aYi (axz aw9 (aqfl PySem.F.plainAttrs_str PySem.F.slot_str_index PySem.F.type_str_index aqg8 (pv 3) (aa (aks aqgj (pv 8) aq (fun _ _=>rfl)) bg)) aq) aq) (fun _ _=>rfl)) (aw6 aqic (pv 8) (ak2 aq) aQ7)))))
   (el (ajj (aqfl B4 Cq Cu axl (pv 4) (aa (pv 8) bg))))))))))
  (el (aV (pv 4))))),?_⟩
 obtain ⟨F0,a,ns,at_,many,rfl,sm,ha,hn,h9,hm,k⟩:=h;refine ⟨by show 0 <= Ag; decide,fun l hl=>?_⟩;refine ⟨_,rfl,(many:Int),rfl,by omega,by omega,aQi (n:=((many:Nat):Int).toNat) (fun i σ' H'=>∃ c5 c6 c7 c8 c9 names,σ'=[some (.ref a),some (.int (at_:Int)),some (.int (many:Int)),some (.str aj4),some (.ref l),c5,c6,c7,c8,c9]/\aqs2 H H'/\H' l=some (.lst (names.map V.str))/\names.length=i/\names.Nodup/\∀ x∈names,aE x)
  ⟨none,none,none,none,none,[],rfl,gd hl,ac,rfl,nodup_nil,by simp⟩ (fun i σ' H' hi hI=>?_) fun σ' H' hI=>?_⟩
 ·obtain ⟨c5,c6,c7,c8,c9,names,rfl,s1,hl1,hnl,hnd,hok⟩:=hI
  have hi':i < many:=by simpa using hi
  have ce:=aqe8 ns (at_ + i) (by omega);rw [show (((at_ + i:Nat):Nat):Int)=(at_:Int) + (0 + (i:Int)) by omega] at ce;refine ⟨_,rfl,_,rfl,_,rfl,_,_,rfl,rfl,F0,[MB.ax4 ns,.int ((at_:Int) + (0 + (i:Int)))],_,sm.trans s1,.cons (.lst ha (aq4 ns)) (.cons (.int _) .nil),rfl,ce,fun v F' H2 e2 r2=>?_⟩;cases r2;generalize cellOf ns (at_ + i)=c;have s2:=s1.trans e2.hh;have hl2:=e2.hh _ _ hl1;clear e2 hl1 s1;refine ⟨_,rfl,_,_,rfl,rfl,(by show (0:Int) < 8; decide),_,_,rfl,rfl,?_⟩;have b0:=Hh c (b:=8) (by decide);have b1:=Fs c (b:=8) (by decide);dsimp only;generalize hsz:1 + c % 8=size;refine ⟨_,rfl,size,rfl,by omega,by omega,aQi (n:=size.toNat) (fun j σ3 H3=>∃ (r:Int) (x:Str) (c9:Option V),σ3=[some (.ref a),some (.int (at_:Int)),some (.int (many:Int)),some (.str aj4),some (.ref l),some (.int (0 + (i:Int))),some (.int r),some (.int size),some (.str x),c9]/\H3=H2/\x.length=j/\∀ d∈x.cps.toList,97 <= d/\d < 123)
   ⟨c,"",c9,rfl,rfl,rfl,fun d hd=>by rw [show (C3 "").cps.toList=[] by decide +kernel] at hd; cases hd⟩ (fun j σ3 H3 hj hI=>?_) fun σ3 H3 hI=>?_⟩
  ·obtain ⟨r,x,c9,rfl,rfl,hx,hxl⟩:=hI
   have q0:=Hh (r / 8) (b:=26) (by decide);have q1:=Fs (r / 8) (b:=26) (by decide);refine ⟨_,rfl,_,_,rfl,rfl,⟨by decide,by decide⟩,?_⟩;refine ⟨_,rfl,_,rfl,_,rfl,_,_,rfl,rfl,(by show (0:Int) < 26; decide),aj4,_,_,rfl,rfl,awa,akk q0 q1,_,_,rfl,rfl,?_,?_⟩
   ·show x.length + 1 <= Ag
    rw [Au]; omega
   ·refine ⟨_,_,_,rfl,rfl,?_,fun d hd=>?_⟩
    ·rw [avn,aqd3,length_append,<- avn,hx]; rfl
    ·rw [aqd3] at hd
     rcases Fk.mp hd with hd | hd
     ·exact hxl d hd
     ·simp at hd; omega
  ·obtain ⟨r,x,c9,rfl,rfl,hx,hxl⟩:=hI
   have hx0:aE x:=⟨by omega,by omega,hxl⟩;clear hxl;obtain ⟨m0,_,hm0⟩:=aqhk hx0 names (by omega);refine ⟨fun m σ4 H4=>∃ y,σ4=[some (.ref a),some (.int (at_:Int)),some (.int (many:Int)),some (.str aj4),some (.ref l),some (.int (0 + (i:Int))),some (.int r),some (.int size),some (.str y),c9]/\H4=H3/\aE y/\adv m y ∉ names,⟨m0,x,rfl,rfl,hx0,hm0⟩,?_⟩;rintro m σ4 H4 ⟨y,rfl,rfl,hy,hadv⟩;refine ⟨_,rfl,_,rfl,H4,.str y,names.map D.str,false,aqs2.refl _,.str y,.lst (.inl (.inl hl2)) (aju names),avp hy 20,aqr hok 19,_,rfl,?_⟩;simp only [Aw,if_false];rw [avi]
   by_cases hin:y∈names
   ·rw [decide_eq_true hin,if_pos rfl]
    have hm1:1 <= m:=by
     rcases Nat.eq_zero_or_pos m with e | e
     ·subst e; rw [aqhj hy] at hadv; exact absurd hin hadv
     ·exact e
    refine ⟨fun σ5 H5=>∃ z,σ5=[some (.ref a),some (.int (at_:Int)),some (.int (many:Int)),some (.str aj4),some (.ref l),some (.int (0 + (i:Int))),some (.int r),some (.int size),some (.str z),c9]/\H5=H4/\aE z/\adv (m - 1) z ∉ names,fun σ5 H5 hz=>⟨m - 1,by omega,hz⟩,?_⟩;obtain ⟨c,t,ec,h1,h2,ey⟩:=azd hy;obtain ⟨aqr2,ho⟩:=aJg (c - 97) (by omega);rw [show 97 + (c - 97)=c by omega] at ho;have at0:atI y.cps.toList (0:Int)=some c:=by rw [ec]; exact az9 (j:=0) rfl
    have hyl:y.length <= Ag:=by rw [Au]; have:=hy.2.1; omega
    have q0:=Hh (((c - 97:Nat):Int) + 1) (b:=26) (by decide);have q1:=Fs (((c - 97:Nat):Int) + 1) (b:=26) (by decide);refine ⟨_,rfl,_,rfl,rfl,_,rfl,y,_,c,rfl,rfl,hyl,at0,aj4,⟨#[c]⟩,c - 97,aqr2,rfl,rfl,ho,_,_,rfl,rfl,_,_,rfl,rfl,(by show (0:Int) < 26; decide),aj4,_,_,rfl,rfl,awa,akk q0 q1,_,rfl,_,rfl,y,rfl,rfl,rfl,hy.1,hyl,_,_,rfl,rfl,?_,?_⟩
    ·show 1 + (y.cps.toList.drop 1).toArray.size <= Ag
     rw [Au]
     have:=hy.2.1
     rw [avn] at this;simp at this ⊢;omega
    ·have e5:((⟨#[97 + ((((c - 97:Nat):Int) + 1) % 26).toNat]⟩:Str)++(⟨(y.cps.toList.drop 1).toArray⟩:Str))=adv 1 y:=by
      rw [aql1,aJs ec,ec];congr 3
     refine ⟨_,?_,rfl,aqoa hy 1,?_⟩
     ·rw [e5]; rfl
     ·rw [aqle hy,show 1 + (m - 1)=m by omega]; exact hadv
   ·rw [decide_eq_false hin,if_neg (by simp)]
    refine ⟨_,rfl,.inl ⟨rfl,_,SqL.of hl2⟩,_,rfl,l,_,_,rfl,rfl,hl2,?_,?_⟩
    ·rw [length_map,Au]; omega
    ·refine ⟨_,_,_,_,_,names++[y],rfl,fun b u hb=>?_,?_,by simp [hnl],?_,fun z hz=>?_⟩
     ·rw [ah (ae hb hl)]; exact s2 _ _ hb
     ·rw [ac,map_append]; rfl
     ·exact List.nodup_append.mpr ⟨hnd,by simp,fun p hp q hq=>by simp at hq; subst hq; rintro rfl; exact hin hp⟩
     ·rcases Fk.mp hz with hz | hz
      ·exact hok z hz
      ·simp at hz; subst hz; exact hy
 ·obtain ⟨c5,c6,c7,c8,c9,names,rfl,s1,hl1,hnl,hnd,hok⟩:=hI
  exact ⟨_,rfl,k l H' names s1 hl hl1 (by simpa using hnl) hnd hok⟩
end
abbrev aqez:Stmt:=top 8
abbrev sInit:Stmt:=axe (top 51) 0
abbrev aqf5:Stmt:=axe (top 51) 1
abbrev sCast:Stmt:=axe (top 51) 2
abbrev sLift:Stmt:=axe (top 51) 3
abbrev sLay:Stmt:=axe (top 51) 4
abbrev sHeap:Stmt:=axe (top 51) 5
abbrev aqf6:Stmt:=axe (top 51) 6
abbrev sNums:Stmt:=axe (top 51) 9
theorem sb:¬ (("standing":Str)="ballots"):=by decide +kernel
def flds (l d:Addr):List (Str × V):=aqr4 "ballots" (.ref d) (aqr4 "standing" (.ref l) [])
theorem av8 (l d:Addr):(flds l d).lookup ("standing":Str)=some (.ref l):=by
 unfold flds;rw [aqn,if_neg sb,aqn,if_pos rfl]
theorem az6 (l d:Addr):(flds l d).lookup ("ballots":Str)=some (.ref d):=by
 unfold flds;rw [aqn,if_pos rfl]
theorem aG {l d:Addr} {m:Str} (h1:¬ m="ballots":=by decide +kernel) (h2:¬ m="standing":=by decide +kernel):(flds l d).lookup m=none:=by
 unfold flds;rw [aqn,if_neg h1,aqn,if_neg h2];rfl
abbrev aqs8:=List (List Int × Int)
def kd (kv:aqs8):List (List Key × V):=kv.map fun p=>(p.1.map Sum.inl,.int p.2)
def look (kv:aqs8) (k:List Int):Option Int:=(kv.find? fun p=>decide (p.1=k)).map (·.2)
def put (kv:aqs8) (k:List Int) (v:Int):aqs8:=if (look kv k).isSome=true then kv.map fun p=>if p.1=k then (p.1,v) else p else kv++[(k,v)]
def drop (kv:aqs8) (k:List Int):aqs8:=kv.filter fun p=>decide (p.1 ≠ k)
theorem aZ4 (kv:aqs8) (k:List Int):aqqs (kd kv) (k.map Sum.inl)=(look kv k).map V.int:=by
 unfold aqqs kd look;rw [List.find?_map]
 have:((fun x:List Key × V=>decide (x.1=k.map Sum.inl)) ∘ fun p:List Int × Int=>(p.1.map Sum.inl,V.int p.2))=fun p=>decide (p.1=k):=by
  funext p
  simp only [Jk]
  by_cases e:p.1=k
  ·simp [e]
  ·simp [e]; exact fun z=>e (aJi z)
 rw [this];cases kv.find? fun p=>decide (p.1=k) <;> rfl
theorem aqkr (kv:aqs8) (k:List Int):aqcp (kd kv) (k.map Sum.inl)=kd (drop kv k):=by
 unfold aqcp kd drop;rw [List.filter_map];congr 1;apply List.filter_congr;intro p _;simp only [Jk]
 by_cases e:p.1=k
 ·simp [e]
 ·simp [e]; exact fun z=>e (aJi z)
theorem aqme (kv:aqs8) (k:List Int) (v:Int):aqr3 (kd kv) (k.map Sum.inl) (.int v)=kd (put kv k v):=by
 have any:((kd kv).any fun x=>decide (x.1=k.map Sum.inl))=(look kv k).isSome:=by
  rw [aj5,aZ4];cases look kv k <;> rfl
 unfold aqr3 put;rw [any]
 by_cases h:(look kv k).isSome=true
 ·rw [if_pos h,if_pos h]
  unfold kd;rw [map_map,map_map];apply map_congr_left;intro p _;simp only [Jk]
  by_cases e:p.1=k
  ·simp [e]
  ·rw [if_neg e,if_neg fun z=>e (aJi z)]
 ·rw [if_neg h,if_neg h]
  unfold kd;rw [map_append];rfl
theorem aqk2 (kv:aqs8):(kd kv).length=kv.length:=by simp [kd]
structure HallAt (C:Addr) (H:Hp) (p l d:Addr) (names:List Str) (kv:aqs8):Prop where
 ob:∃ dx,H p=some (.ins C dx (flds l d))
 st:H l=some (.lst (names.map V.str))
 ba:H d=some (.dT (kd kv))
theorem HallAt.keep {C:Addr} {H H':Hp} {p l d:Addr} {names:List Str} {kv:aqs8} (h:HallAt C H p l d names kv) (s:aqs2 H H'):HallAt C H' p l d names kv:=by
 obtain ⟨⟨dx,h1⟩,h2,h3⟩:=h;exact ⟨⟨dx,s _ _ h1⟩,s _ _ h2,s _ _ h3⟩
structure Hx (K:Frag) (mg:Str->Option Value) (C Ct Cm Cn Cf:Addr):Prop where
 cl:Cls K C
 nS:aJt K C "standing"
 nB:aJt K C "ballots"
 mgC:mg "Hall"=some (.ref C)
 m6:∃ t,mg "MOST_STANDING"=some (.int 6 t)
 m12:∃ t,mg "MOST_PILES"=some (.int 12 t)
 m18:∃ t,mg "MOST_BALLOTS"=some (.int 1000000000000000000 t)
 et:ExcC K Ct
 mt:mg "Taken"=some (.ref Ct)
 em:ExcC K Cm
 mm:mg "TooMany"=some (.ref Cm)
 en:ExcC K Cn
 mn:mg "NoName"=some (.ref Cn)
 ef:ExcC K Cf
 mf:mg "TooFew"=some (.ref Cf)
 tT:ExcH K Ct Ct
 mT:ExcS K Cm Ct
 mM:ExcH K Cm Cm
 nT:ExcS K Cn Ct
 nM:ExcS K Cn Cm
 nN:ExcH K Cn Cn
 fT:ExcS K Cf Ct
 fM:ExcS K Cf Cm
 fN:ExcS K Cf Cn
 fF:ExcH K Cf Cf
 zr:mg "range"=none
 zlen:mg "len"=none
 zlist:mg "list"=none
 ztuple:mg "tuple"=none
 zsorted:mg "sorted"=none
 zmax:mg "max"=none
 zall:mg "all"=none
 zenum:mg "enumerate"=none
 zint:mg "int"=none
def spInit (C:Addr):Sp:=fun vs H Q _=>∃ (p dx:Addr),vs=[.ref p]/\H p=some (.ins C dx [])/\∀ (l d:Addr) (H':Hp),H l=none->H d=none->HallAt C H' p l d [] []->(∀ b o,H b=some o->b ≠ p->H' b=some o)->Q .non H'
def aK7 (C Ct Cm:Addr):Sp:=fun vs H Q E=>∃ (p l d:Addr) (names:List Str) (kv:aqs8) (x:Str),vs=[.ref p,.str x]/\HallAt C H p l d names kv/\names.length <= 6/\aE x/\(∀ y∈names,aE y) /\
 (x∈names->E (.ref Ct) none H)/\(x ∉ names->6 <= names.length->E (.ref Cm) none H)/\(x ∉ names->names.length < 6->Q .non (upd H l (.lst ((names++[x]).map V.str))))
def aK9 (C:Addr):Sp:=fun vs H Q _=>∃ (p l d:Addr) (names:List Str) (kv:aqs8),vs=[.ref p]/\HallAt C H p l d names kv/\∀ n,H n=none->Q (.ref n) (upd H n (.lst (names.map V.str)))
def spLay (C:Addr):Sp:=fun vs H Q _=>∃ (p l d b:Addr) (names:List Str) (kv:aqs8) (k:List Int) (v:Int),vs=[.ref p,.ref b,.int v]/\HallAt C H p l d names kv/\kv.length <= 12/\H b=some (.tup (k.map V.int)) /\
 Q .non (upd H d (.dT (kd (if v=0 then drop kv k else put kv k v))))
section
variable {P:Aj} {w:World} {K:Frag} {mg:Str->Option Value} {base:Heap} {C Ct Cm Cn Cf:Addr}
theorem scI:FnScope ["self"] ["self"] (af sInit):=fsc
theorem aqjb {f:Addr} {fd:Ak} (F:Fun K "__init__" "Hall.__init__" sInit f fd) (T:Hx K mg C Ct Cm Cn Cf):FnOk P w K mg base CX0 1 f fd ["self"] (spInit C):=by
 refine F.ok scI (fun vs H Q E h=>?_) (fun cdv A outer s H vs Q E hr h=>?_)
 ·obtain ⟨p,dx,rfl,_⟩:=h
  rfl
 ·obtain ⟨p,dx,rfl,hp,k⟩:=h
  refine ⟨_,ak (aqiq (pv 0) (aF bg) rfl) (el (aqiq (pv 0) aW5 rfl)),?_⟩;refine ⟨by show 0 <= Ag; decide,fun l hl=>?_⟩;have npl:p ≠ l:=ae hp hl;refine ⟨_,rfl,p,C,dx,[],rfl,(by rw [ah npl]; exact hp),T.cl,T.nS,(by show 0 < 1000; decide),?_⟩;intro d hd;have npd:p ≠ d:=by rintro rfl; rw [ac] at hd; cases hd
  have nld:l ≠ d:=by rintro rfl; rw [ah npl.symm,ac] at hd; cases hd
  rw [ah npd.symm,ah nld.symm] at hd;refine ⟨_,rfl,p,C,dx,_,rfl,(by rw [ah npd,ac]),T.cl,T.nB,(by show 1 < 1000; decide),?_⟩;refine k l d _ hl hd ⟨⟨dx,ac⟩,by rw [ah npl.symm,ah nld,ah npl.symm,ac]; rfl,by rw [ah npd.symm,ac]; rfl⟩ fun b o e hb=>?_;rw [ah hb,ah (ae e hd),ah hb,ah (ae e hl)];exact e
theorem scS:FnScope ["self","name"] ["self","name"] (af aqf5):=fsc
theorem aqfq {f:Addr} {fd:Ak} (F:Fun K "stand" "Hall.stand" aqf5 f fd) (T:Hx K mg C Ct Cm Cn Cf):FnOk P w K mg base (CXm P w) 2 f fd ["self","name"] (aK7 C Ct Cm):=by
 obtain ⟨t6,h6⟩:=T.m6;refine fnM F scS (k:=1) (fun vs H Q E h=>?_) (fun cdv A outer s H vs Q E hr h=>?_)
 ·obtain ⟨_,_,_,_,_,_,rfl,_⟩:=h
  rfl
 ·obtain ⟨p,l,d,names,kv,x,rfl,S,h6l,hx,hok,kt,km,k⟩:=h
  obtain ⟨⟨dx,h1⟩,h2,h3⟩:=id S;refine ⟨_,ak (ax8 (aW (aXj (aqb4 hr)) (pv 1) (azs (pv 0) rfl) (by rfl)) (el (axk T.et T.mt rfl (aa ar bg))) aL)
   (ak (ax8 (aW op_ge (aqe aD rfl T.zlen akf (aa (azs (pv 0) rfl) bg)) (aW4 (v:=.int 6) rfl h6 ⟨t6,rfl⟩) (ax _)) (el (axk T.em T.mm rfl (aa ar bg))) aL)
   (el (ajj (aqfl B4 Cq Cu axl (azs (pv 0) rfl) (aa (pv 1) bg))))),?_⟩
  refine ⟨_,rfl,_,rfl,p,C,dx,_,_,rfl,h1,T.cl,T.nS,av8 _ _,H,.str x,names.map D.str,false,aqs2.refl _,.str x,.lst (.inl (.inl h2)) (aju names),avp hx 20,aqr hok 19,_,rfl,?_⟩;simp only [Aw,if_false];rw [avi]
  by_cases hin:x∈names
  ·rw [decide_eq_true hin]
   refine aqrb ?_;exact ⟨by show 1 <= Ag; decide,kt hin⟩
  ·rw [decide_eq_false hin]
   refine aqrc ?_;refine ⟨_,rfl,p,C,dx,_,_,rfl,h1,T.cl,T.nS,av8 _ _,l,_,rfl,.inl (SqL.of h2),_,_,rfl,rfl,_,rfl,?_⟩;rw [length_map]
   by_cases h6':6 <= names.length
   ·rw [decide_eq_true (show (6:Int) <= (names.length:Int) by omega)]
    refine aqrb ?_;exact ⟨by show 1 <= Ag; decide,km hin h6'⟩
   ·rw [decide_eq_false (show ¬ (6:Int) <= (names.length:Int) by omega)]
    refine aqrc ?_;refine ⟨_,rfl,p,C,dx,_,_,rfl,h1,T.cl,T.nS,av8 _ _,.inl ⟨rfl,_,SqL.of h2⟩,_,rfl,l,_,_,rfl,rfl,h2,by rw [length_map,Au]; omega,?_⟩
    have:=k hin (by omega)
    rw [map_append] at this;exact this
theorem scN:FnScope ["self"] ["self"] (af aqf6):=fsc
theorem aqfs {f:Addr} {fd:Ak} (F:Fun K "names" "Hall.names" aqf6 f fd) (T:Hx K mg C Ct Cm Cn Cf):FnOk P w K mg base CX0 1 f fd ["self"] (aK9 C):=by
 refine F.ok scN (fun vs H Q E h=>?_) (fun cdv A outer s H vs Q E hr h=>?_)
 ·obtain ⟨_,_,_,_,_,rfl,_⟩:=h
  rfl
 ·obtain ⟨p,l,d,names,kv,rfl,S,k⟩:=h
  obtain ⟨⟨dx,h1⟩,h2,h3⟩:=id S;refine ⟨_,el (aV (ajv aj0 rfl T.zlist aJp (aa (azs (pv 0) rfl) bg))),?_⟩;exact ⟨_,rfl,p,C,dx,_,_,rfl,h1,T.cl,T.nS,av8 _ _,l,_,rfl,.inl (SqL.of h2),fun n hn=>k n hn⟩
theorem scL:FnScope ["self","marks","many"] ["self","marks","many"] (af sLay):=fsc
theorem aqmo {f:Addr} {fd:Ak} (F:Fun K "lay" "Hall.lay" sLay f fd) (T:Hx K mg C Ct Cm Cn Cf):FnOk P w K mg base CX0 1 f fd ["self","marks","many"] (spLay C):=by
 refine F.ok scL (fun vs H Q E h=>?_) (fun cdv A outer s H vs Q E hr h=>?_)
 ·obtain ⟨_,_,_,_,_,_,_,_,rfl,_⟩:=h
  rfl
 ·obtain ⟨p,l,d,b,names,kv,k,v,rfl,S,h12,hb,q⟩:=h
  obtain ⟨⟨dx,h1⟩,h2,h3⟩:=id S;have hb':H b=some (.tup ((k.map Sum.inl:List Key).map kV)):=by rw [awd]; exact hb
  refine ⟨_,el (ax8 (aW aKq (pv 2) aq (ax _)) (el (ajj (aqbr (aqe0 hr) (azs (pv 0) rfl) (pv 1) aV4 ⟨rfl,rfl,rfl,rfl⟩)))
   (el (aqdh (aqe0 hr) (azs (pv 0) rfl) (pv 1) (pv 2) rfl))),?_⟩
  refine ⟨_,rfl,rfl,_,rfl,?_⟩
  by_cases hv:v=0
  ·subst hv
   rw [if_pos rfl] at q;refine aqrb ?_;refine ⟨_,rfl,p,C,dx,_,_,rfl,h1,T.cl,T.nB,az6 _ _,d,rfl,.inr ⟨_,.inl h3⟩,_,rfl,kd kv,k.map Sum.inl,b,h3,rfl,hb',fun v hv=>?_,fun hv=>?_⟩
   ·rw [aqkr]; exact q
   ·rw [aZ4] at hv
    have:drop kv k=kv:=by
     unfold drop;rw [D7];intro p hp
     simp
     rintro rfl
     have:(kv.find? fun x=>decide (x.1=p.1)) ≠ none:=by
      rw [ne_eq,Il];intro z;exact z p hp (by simp)
     cases e:kv.find? fun x=>decide (x.1=p.1) with
     | none=>exact this e
     | some y=>unfold look at hv; rw [e] at hv; cases hv
    rw [this] at q;have e2:upd H d (.dT (kd kv))=H:=by
     funext c
     by_cases hc:c=d
     ·subst hc; rw [ac,h3]
     ·rw [ah hc]
    rw [e2] at q;exact q
  ·rw [if_neg hv] at q
   rw [decide_eq_false (by simp [hv])];refine aqrc ?_;refine ⟨_,rfl,_,rfl,p,C,dx,_,_,rfl,h1,T.cl,T.nB,az6 _ _,_,rfl,d,_,rfl,DPut.t (k:=k.map Sum.inl) h3 hb' (by rw [aqk2,Au]; omega),?_⟩;rw [aqme];exact q
end
def aqr9 (st xs:List Str):List Int:=(st.zipIdx.filter fun p=>decide (p.1∈xs)).map fun p=>(p.2:Int)
theorem aqo9 (st xs:List Str):((xs.map fun y=>decide (y∈st)).all id)=decide (∀ y∈xs,y∈st):=by
 rw [Bg]
 simp
def aqbd (C Cn:Addr):Sp:=fun vs H Q E=>∃ (p l d z:Addr) (names:List Str) (kv:aqs8) (xs:List Str),vs=[.ref p,.ref z]/\HallAt C H p l d names kv/\H z=some (.lst (xs.map V.str))/\names.length <= 6/\xs.length <= 9/\(∀ y∈names,aE y)/\(∀ y∈xs,aE y) /\
 ((¬ ∀ y∈xs,y∈names)->∀ H',aqs2 H H'->E (.ref Cn) none H')/\((∀ y∈xs,y∈names)->∀ r H',aqs2 H H'->H r=none->H' r=some (.lst ((aqr9 names xs).map V.int))->Q (.ref r) H')
def strV:V->Str
 | .str x=>x
 | _=>""
section
variable {P:Aj} {w:World} {K:Frag} {mg:Str->Option Value} {base:Heap} {C Ct Cm Cn Cf:Addr}
theorem scM:FnScope ["self","names"] ["self","names"] (af sNums):=fsc
theorem aqj9 {f:Addr} {fd:Ak} (F:Fun K "numbers_of" "Hall.numbers_of" sNums f fd) (T:Hx K mg C Ct Cm Cn Cf):FnOk P w K mg base (CXm P w) 2 f fd ["self","names"] (aqbd C Cn):=by
 refine fnM F scM (k:=1) (fun vs H Q E h=>?_) (fun cdv A outer s H vs Q E hr h=>?_)
 ·obtain ⟨_,_,_,_,_,_,_,rfl,_⟩:=h
  rfl
 ·obtain ⟨p,l,d,z,names,kv,xs,rfl,S,hz,h6,h9,hok,hxs,ke,kq⟩:=h
  obtain ⟨⟨dx,h1⟩,h2,h3⟩:=id S;refine ⟨_,ak (ax8 (aq2 (aq1 (aqe (aQr rfl) rfl T.zall aqhc (aa (ax1 (cl:=_) (N':=["name","self"]) (js:=[none,some 0]) (tc:=aJu) (te:=tOp (rInD K false) (aqqv 0) (tFld K (aqqv 1) "standing")) (by o_reads)
    (aH (pv 1)) (fun _ _ _ _ _=>pgc 0) pif0
    (fun _ _ _ _ _=>aj3 (aqdp rfl (aqb4 hr)) (pv 0) (aqdk rfl (pv 1) rfl) (by rfl))) bg)))) (el (axk T.en T.mn rfl (aa ar bg))) aL)
   (el (aV (ax1 (cl:=_) (N':=["number","name","names"]) (js:=[none,none,some 1]) (g:=gTup K 2 (aY9 (ax9 0) (aY9 (ax9 1) gNil))) (tc:=tTest (tOp (rInD K false) (aqqv 1) (aqqv 2))) (te:=aqqv 0) (by o_reads)
    (aW2 rfl T.zenum (azs (pv 0) rfl)) (fun _ _ _ _ _=>aqdj rfl rfl (aqw (pgc 0) (aqw (pgc 1) ak4)))
    (fun _ _ _ _ _=>.inr ⟨_,rfl,aW (aqdp rfl (aqb4 hr)) (pv 1) (pv 2) (by rfl)⟩) (fun _ _ _ _ _=>pv 0)))),?_⟩
  refine ⟨_,rfl,z,rfl,⟨_,SqL.of hz⟩,aJn (SqL.of hz) (by rw [length_map,Au]; omega) (fun _=>true) (fun v=>.bl (decide (strV v∈names))) (fun σ=>∃ c,σ=[c,some (.ref p)]) ⟨none,rfl⟩ (fun i x σ' H' hx hS sm=>?_) fun r hr'=>?_⟩
  ·obtain ⟨c,rfl⟩:=hS
   obtain ⟨y,hy,rfl⟩:∃ y∈xs,x=V.str y:=by
    rw [getElem?_map] at hx;cases e:xs[i]? with
    | none=>rw [e] at hx; cases hx
    | some q=>rw [e] at hx; exact ⟨q,mem_of_getElem? e,(Option.some.inj hx).symm⟩
   refine ⟨⟨_,rfl⟩,fun R h=>h,fun R _ h=>?_⟩;refine ⟨_,rfl,_,rfl,p,C,dx,_,_,rfl,sm _ _ h1,T.cl,T.nS,av8 _ _,H',.str y,names.map D.str,false,aqs2.refl _,.str y,.lst (.inl (.inl (sm _ _ h2))) (aju names),avp (hxs y hy) 20,aqr hok 19,?_⟩;simp only [Aw,if_false];rw [avi];exact h
  ·rw [D7.mpr (by simp),map_map]
   have sm1:aqs2 H (upd H r (.lst (xs.map ((fun v=>V.bl (decide (strV v∈names))) ∘ V.str)))):=gd hr';refine ⟨r,xs.map fun y=>decide (y∈names),rfl,?_,?_⟩
   ·rw [map_map]; exact SqL.of ac
   ·rw [aqo9]
    refine ⟨_,rfl,?_⟩;generalize upd H r (.lst (xs.map ((fun v=>V.bl (decide (strV v∈names))) ∘ V.str)))=H1 at sm1 ⊢
    by_cases hall:∀ y∈xs,y∈names
    ·rw [decide_eq_true hall]
     refine aqrc ?_;refine ⟨_,rfl,p,C,dx,_,_,rfl,sm1 _ _ h1,T.cl,T.nS,av8 _ _,l,rfl,⟨_,SqL.of (sm1 _ _ h2)⟩,aqah (SqL.of (sm1 _ _ h2)) (by rw [length_map,Au]; omega) (fun _ v=>decide (strV v∈xs)) (fun i _=>.int (i:Int)) (fun σ=>∃ c c',σ=[c,c',some (.ref z)]) ⟨none,none,rfl⟩ (fun i x σ' H' hx hS sm=>?_) fun r2 H2 hr2 sm2 hl2=>?_⟩
     ·obtain ⟨c,c',rfl⟩:=hS
      obtain ⟨y,hy,rfl⟩:∃ y∈names,x=V.str y:=by
       rw [getElem?_map] at hx;cases e:names[i]? with
       | none=>rw [e] at hx; cases hx
       | some q=>rw [e] at hx; exact ⟨q,mem_of_getElem? e,(Option.some.inj hx).symm⟩
      refine ⟨⟨_,_,rfl⟩,fun R h=>?_,fun R _ h=>⟨_,rfl,h⟩⟩;refine ⟨_,rfl,_,rfl,H',.str y,xs.map D.str,false,aqs2.refl _,.str y,.lst (.inl (.inl (sm _ _ (sm1 _ _ hz)))) (aju xs),avp (hok y hy) 20,aqr hxs 19,_,rfl,?_⟩;simp only [Aw,if_false];rw [avi];exact h
     ·refine kq hall r2 H2 (sm1.trans sm2) (sm1.free hr2) ?_
      rw [hl2];congr 2;unfold aqr9;rw [List.zipIdx_map,List.filter_map,map_map,map_map];rfl
    ·rw [decide_eq_false hall]
     refine aqrb ?_;exact ⟨by show 1 <= Ag; decide,ke hall _ sm1⟩
end
def lay (kv:aqs8) (k:List Int) (v:Int):aqs8:=if v=0 then drop kv k else put kv k v
def wt (kv:aqs8) (k:List Int):Int:=(look kv k).getD 0
def aqes (C Cm Cn:Addr):Sp:=fun vs H Q E=>∃ (p l d z:Addr) (names:List Str) (kv:aqs8) (xs:List Str) (v:Int),vs=[.ref p,.int v,.ref z]/\HallAt C H p l d names kv/\H z=some (.lst (xs.map V.str))/\names.length <= 6/\xs.length <= 9/\kv.length <= 12/\(∀ y∈names,aE y)/\(∀ y∈xs,aE y) /\
 ((¬ ∀ y∈xs,y∈names)->∀ H',aqs2 H H'->E (.ref Cn) none H') /\
 ((∀ y∈xs,y∈names)->((look kv (aqr9 names xs)).isSome=false/\12 <= kv.length) \/ 10 ^ 18 < wt kv (aqr9 names xs) + v->∀ H',aqs2 H H'->E (.ref Cm) none H') /\
 ((∀ y∈xs,y∈names)->¬ (((look kv (aqr9 names xs)).isSome=false/\12 <= kv.length) \/ 10 ^ 18 < wt kv (aqr9 names xs) + v)->∀ H',(∀ b o,H b=some o->b ≠ d->H' b=some o)->H' d=some (.dT (kd (lay kv (aqr9 names xs) (wt kv (aqr9 names xs) + v))))->Q .non H')
def aqeq (C Cf Cn:Addr):Sp:=fun vs H Q E=>∃ (p l d z:Addr) (names:List Str) (kv:aqs8) (xs:List Str) (v:Int),vs=[.ref p,.int v,.ref z]/\HallAt C H p l d names kv/\H z=some (.lst (xs.map V.str))/\names.length <= 6/\xs.length <= 9/\kv.length <= 12/\(∀ y∈names,aE y)/\(∀ y∈xs,aE y) /\
 ((¬ ∀ y∈xs,y∈names)->∀ H',aqs2 H H'->E (.ref Cn) none H') /\
 ((∀ y∈xs,y∈names)->wt kv (aqr9 names xs) < v->∀ H',aqs2 H H'->E (.ref Cf) none H') /\
 ((∀ y∈xs,y∈names)->¬ wt kv (aqr9 names xs) < v->∀ H',(∀ b o,H b=some o->b ≠ d->H' b=some o)->H' d=some (.dT (kd (lay kv (aqr9 names xs) (wt kv (aqr9 names xs) - v))))->Q .non H')
def swap (kv:aqs8):List (Int × List Int):=kv.map fun p=>(p.2,p.1)
def aWb (K:Frag) (C:Addr):Sp:=fun vs H Q _=>∃ (p l d:Addr) (names:List Str) (kv:aqs8),vs=[.ref p]/\HallAt C H p l d names kv/\kv.length < 60/\(∀ q∈kv,q.1.length < 60) /\
 ∀ v F' H' A,Own K F' H' v (.lst ((aQy (swap kv)).map aW0)) A->aqs2 F' H'->(∀ b,A b->F' b=none/\H b=none)->aqs2 H H'->Q v H'
section
variable {P:Aj} {w:World} {K:Frag} {mg:Str->Option Value} {base:Heap} {C Ct Cm Cn Cf:Addr}
theorem scC:FnScope ["self","many","names","marks","together"] ["self","many","names"] (af sCast):=fsc
theorem aqje {f fn fl:Addr} {fd fdn fdl:Ak} (F:Fun K "cast" "Hall.cast" sCast f fd) (T:Hx K mg C Ct Cm Cn Cf) (GN:FnOk P w K mg base (CXm P w) 2 fn fdn ["self","names"] (aqbd C Cn)) (bN:L2.Binds K fdn ["self","names"] []) (mN:Meth K C "numbers_of" fn)
  (GL:FnOk P w K mg base CX0 1 fl fdl ["self","marks","many"] (spLay C)) (bL:L2.Binds K fdl ["self","marks","many"] []) (mL:Meth K C "lay" fl):FnOk P w K mg base (CXm P w) 3 f fd ["self","many","names"] (aqes C Cm Cn):=by
 obtain ⟨t12,h12⟩:=T.m12;obtain ⟨t18,h18⟩:=T.m18;refine fnM F scC (k:=2) (fun vs H Q E h=>?_) (fun cdv A outer s H vs Q E hr h=>?_)
 ·obtain ⟨_,_,_,_,_,_,_,_,rfl,_⟩:=h
  rfl
 ·obtain ⟨p,l,d,z,names,kv,xs,v,rfl,S,hz,h6,h9,hkv,hok,hxs,ke,km,kq⟩:=h
  obtain ⟨⟨dx,h1⟩,h2,h3⟩:=id S;have hr1:Room 1 _:=hm hr;refine ⟨_,ak (gp (i:=3) scC.nd rfl (.inl rfl) (ajv axf rfl T.ztuple aX9 (aa (aqg (pv 0) T.cl mN GN hr bN .nil passM (aa (pv 2) bg)) bg)))
   (ak (ax8 (PW.pt (aqin (aqip (aqbs (aqe0 hr) (pv 3) (azs (pv 0) rfl))) (aqdg (aW op_ge (aqe aqcw rfl T.zlen akf (aa (azs (pv 0) rfl) bg)) (aW4 (v:=.int 12) rfl h12 ⟨t12,rfl⟩) (ax _))))) (el (axk T.em T.mm rfl (aa ar bg))) aL)
   (ak (gp (i:=4) scC.nd rfl (.inl rfl) (axz aw9 (aXh (aqe0 hr) (azs (pv 0) rfl) (pv 3) aq ⟨rfl,rfl,rfl,rfl⟩) (pv 1)))
   (ak (ax8 (aW op_gt (pv 4) (aW4 (v:=.int 1000000000000000000) rfl h18 ⟨t18,rfl⟩) (ax _)) (el (axk T.em T.mm rfl (aa ar bg))) aL)
   (el (ajj (aqg (pv 0) T.cl mL GL hr1 bL .nil aqt (aa (pv 3) (aa (pv 4) bg)))))))),?_⟩
  refine ⟨_,rfl,p,dx,_,rfl,h1,aG,_,rfl,p,l,d,z,names,kv,xs,rfl,S,hz,h6,h9,hok,hxs,fun hn H' sm=>⟨Cn,rfl,ke hn H' sm⟩,fun hin r H1 sm1 hr0 hr1'=>?_⟩;generalize hk:aqr9 names xs=k at *;refine ⟨r,_,rfl,.inl ⟨SqL.of hr1',fun b hb=>?_⟩⟩;have sm2:aqs2 H (upd H1 b (.tup (k.map V.int))):=sm1.trans (gd hb);have hb2:(upd H1 b (.tup (k.map V.int))) b=some (.tup ((k.map Sum.inl:List Key).map kV)):=by rw [ac,awd]
  have hb2':(upd H1 b (.tup (k.map V.int))) b=some (.tup (k.map V.int)):=ac;generalize upd H1 b (.tup (k.map V.int))=H2 at sm2 hb2 hb2' ⊢;have S2:=S.keep sm2;have g:aqsc H2 d (.ref b) (aqqs (kd kv) (k.map Sum.inl)):=aqsc.t S2.ba hb2;rw [aZ4] at g;have fin:wt kv k + v <= 10 ^ 18->¬ ((look kv k).isSome=false/\12 <= kv.length)->∀ H',Q .non H' \/ True:=fun _ _ _=>.inr trivial;have go:(((look kv k).isSome=false/\12 <= kv.length)->∀ H',aqs2 H H'->E (.ref Cm) none H'):=fun h=>km hin (.inl h);refine ⟨_,rfl,_,rfl,p,C,dx,_,_,rfl,sm2 _ _ h1,T.cl,T.nB,az6 _ _,d,_,rfl,g,_,rfl,?_⟩;have tail:¬ ((look kv k).isSome=false/\12 <= kv.length)->(H2 p=some (.ins C dx (flds l d))):=fun _=>sm2 _ _ h1;rw [show ((look kv k).map V.int).isSome=(look kv k).isSome by cases look kv k <;> rfl];have e12:((kd kv).length:Int)=(kv.length:Int):=by rw [aqk2]
  have big:(((look kv k).map V.int).getD (.int 0))=.int (wt kv k):=by unfold wt; cases look kv k <;> rfl
  by_cases hs:(look kv k).isSome=true
  ·rw [hs]
   refine aqrc ?_;refine aqrc ?_;refine ⟨_,rfl,p,C,dx,_,_,rfl,sm2 _ _ h1,T.cl,T.nB,az6 _ _,d,rfl,.inr ⟨_,.inl S2.ba⟩,_,rfl,_,g,?_⟩;rw [big];refine ⟨_,rfl,_,_,rfl,rfl,?_⟩;refine ⟨_,rfl,_,_,rfl,rfl,_,rfl,?_⟩
   by_cases hb18:(1000000000000000000:Int) < wt kv k + v
   ·rw [decide_eq_true hb18]
    refine aqrb ?_;exact ⟨by show 1 <= Ag; decide,km hin (.inr hb18) _ sm2⟩
   ·rw [decide_eq_false hb18]
    refine aqrc ?_;refine ⟨_,rfl,p,dx,_,rfl,sm2 _ _ h1,aG,_,rfl,_,rfl,p,l,d,b,names,kv,k,_,rfl,S2,hkv,hb2',?_⟩;exact kq hin (by rw [hs]; rintro (h | h); cases h.1; exact hb18 h) _ (fun c o hc hcd=>by rw [ah hcd]; exact sm2 _ _ hc) ac
  ·have hs':(look kv k).isSome=false:=by simpa using hs
   rw [hs'];refine aqrb ?_;refine ⟨_,rfl,p,C,dx,_,_,rfl,sm2 _ _ h1,T.cl,T.nB,az6 _ _,d,_,rfl,S2.ba,_,_,rfl,rfl,_,rfl,?_⟩;rw [e12]
   by_cases hl12:12 <= kv.length
   ·rw [decide_eq_true (show (12:Int) <= (kv.length:Int) by omega)]
    refine aqrb ?_;exact ⟨by show 1 <= Ag; decide,km hin (.inl ⟨hs',hl12⟩) _ sm2⟩
   ·rw [decide_eq_false (show ¬ (12:Int) <= (kv.length:Int) by omega)]
    refine aqrc ?_;refine ⟨_,rfl,p,C,dx,_,_,rfl,sm2 _ _ h1,T.cl,T.nB,az6 _ _,d,rfl,.inr ⟨_,.inl S2.ba⟩,_,rfl,_,g,?_⟩;rw [big];refine ⟨_,rfl,_,_,rfl,rfl,?_⟩;refine ⟨_,rfl,_,_,rfl,rfl,_,rfl,?_⟩
    by_cases hb18:(1000000000000000000:Int) < wt kv k + v
    ·rw [decide_eq_true hb18]
     refine aqrb ?_;exact ⟨by show 1 <= Ag; decide,km hin (.inr hb18) _ sm2⟩
    ·rw [decide_eq_false hb18]
     refine aqrc ?_;refine ⟨_,rfl,p,dx,_,rfl,sm2 _ _ h1,aG,_,rfl,_,rfl,p,l,d,b,names,kv,k,_,rfl,S2,hkv,hb2',?_⟩;exact kq hin (by rintro (h | h); exact hl12 h.2; exact hb18 h) _ (fun c o hc hcd=>by rw [ah hcd]; exact sm2 _ _ hc) ac
theorem scF:FnScope ["self","many","names","marks","lying"] ["self","many","names"] (af sLift):=fsc
theorem aqja {f fn fl:Addr} {fd fdn fdl:Ak} (F:Fun K "lift" "Hall.lift" sLift f fd) (T:Hx K mg C Ct Cm Cn Cf) (GN:FnOk P w K mg base (CXm P w) 2 fn fdn ["self","names"] (aqbd C Cn)) (bN:L2.Binds K fdn ["self","names"] []) (mN:Meth K C "numbers_of" fn)
  (GL:FnOk P w K mg base CX0 1 fl fdl ["self","marks","many"] (spLay C)) (bL:L2.Binds K fdl ["self","marks","many"] []) (mL:Meth K C "lay" fl):FnOk P w K mg base (CXm P w) 3 f fd ["self","many","names"] (aqeq C Cf Cn):=by
 refine fnM F scF (k:=2) (fun vs H Q E h=>?_) (fun cdv A outer s H vs Q E hr h=>?_)
 ·obtain ⟨_,_,_,_,_,_,_,_,rfl,_⟩:=h
  rfl
 ·obtain ⟨p,l,d,z,names,kv,xs,v,rfl,S,hz,h6,h9,hkv,hok,hxs,ke,kf,kq⟩:=h
  obtain ⟨⟨dx,h1⟩,h2,h3⟩:=id S;have hr1:Room 1 _:=hm hr;refine ⟨_,ak (gp (i:=3) scF.nd rfl (.inl rfl) (ajv axf rfl T.ztuple aX9 (aa (aqg (pv 0) T.cl mN GN hr bN .nil passM (aa (pv 2) bg)) bg)))
   (ak (gp (i:=4) scF.nd rfl (.inl rfl) (aXh (aqe0 hr) (azs (pv 0) rfl) (pv 3) aq ⟨rfl,rfl,rfl,rfl⟩))
   (ak (ax8 (aW aqj2 (pv 4) (pv 1) (ax _)) (el (axk T.ef T.mf rfl (aa ar bg))) aL)
   (el (ajj (aqg (pv 0) T.cl mL GL hr1 bL .nil aqt (aa (pv 3) (aa (axz aw7 (pv 4) (pv 1)) bg))))))),?_⟩
  refine ⟨_,rfl,p,dx,_,rfl,h1,aG,_,rfl,p,l,d,z,names,kv,xs,rfl,S,hz,h6,h9,hok,hxs,fun hn H' sm=>⟨Cn,rfl,ke hn H' sm⟩,fun hin r H1 sm1 hr0 hr1'=>?_⟩;generalize hk:aqr9 names xs=k at *;refine ⟨r,_,rfl,.inl ⟨SqL.of hr1',fun b hb=>?_⟩⟩;have sm2:aqs2 H (upd H1 b (.tup (k.map V.int))):=sm1.trans (gd hb);have hb2:(upd H1 b (.tup (k.map V.int))) b=some (.tup ((k.map Sum.inl:List Key).map kV)):=by rw [ac,awd]
  have hb2':(upd H1 b (.tup (k.map V.int))) b=some (.tup (k.map V.int)):=ac;generalize upd H1 b (.tup (k.map V.int))=H2 at sm2 hb2 hb2' ⊢;have S2:=S.keep sm2;have g:aqsc H2 d (.ref b) (aqqs (kd kv) (k.map Sum.inl)):=aqsc.t S2.ba hb2;rw [aZ4] at g;have big:(((look kv k).map V.int).getD (.int 0))=.int (wt kv k):=by unfold wt; cases look kv k <;> rfl
  refine ⟨_,rfl,p,C,dx,_,_,rfl,sm2 _ _ h1,T.cl,T.nB,az6 _ _,d,rfl,.inr ⟨_,.inl S2.ba⟩,_,rfl,_,g,?_⟩;rw [big];refine ⟨_,rfl,_,rfl,_,_,rfl,rfl,_,rfl,?_⟩
  by_cases hlt:wt kv k < v
  ·rw [decide_eq_true hlt]
   refine aqrb ?_;exact ⟨by show 1 <= Ag; decide,kf hin hlt _ sm2⟩
  ·rw [decide_eq_false hlt]
   refine aqrc ?_;refine ⟨_,rfl,p,dx,_,rfl,sm2 _ _ h1,aG,_,rfl,_,rfl,_,rfl,_,_,rfl,rfl,p,l,d,b,names,kv,k,_,rfl,S2,hkv,hb2',?_⟩;exact kq hin hlt _ (fun c o hc hcd=>by rw [ah hcd]; exact sm2 _ _ hc) ac
end
section
variable {P:Aj} {w:World} {K:Frag} {mg:Str->Option Value} {base:Heap} {C Ct Cm Cn Cf:Addr}
theorem aQ1:FnScope ["heap","weights","weight","marks","key"] ["heap"] (af aqez):=fsc
theorem aqj5 {f:Addr} {fd:Ak} (F:Fun K "tidy" "tidy" aqez f fd) (T:Hx K mg C Ct Cm Cn Cf):FnOk P w K mg base CX0 2 f fd ["heap"] (spO K 1 aqi5) :=
 F.ok aQ1 (k:=1) (fun vs H Q E h=>by obtain ⟨F,ds,d,_,r,hl,_⟩:=h; rw [r.length,hl]; rfl) fun cdv A outer s H vs Q E hr h=>⟨_,ak (gp (i:=1) aQ1.nd rfl (.inr rfl) aW5) (ak
  (aV2 Ba rfl (aH (pv 0)) (aqbp rfl (aqw (aqc (i:=2) aQ1.nd rfl (.inl rfl)) (aqw (aqc (i:=3) aQ1.nd rfl (.inl rfl)) ak4)))
   (ak (gp (i:=4) aQ1.nd rfl (.inl rfl) (ajv axf rfl T.ztuple aX9 (aa (pv 3) bg)))
   (el (aqdh (aqe0 hr) (pv 1) (pv 4) (axz aw9 (aXh (aqe0 hr) (pv 1) (pv 4) aq ⟨rfl,rfl,rfl,rfl⟩) (pv 2)) rfl))))
  (el (aV (ax1 (cl:=_) (N':=["key","weights"]) (js:=[none,some 1]) (tc:=aJu) (te:=tTup (ako (tDGet (aqqv 1) (aqqv 0)) (ako (tCB (rLOf K) (ako (aqqv 0) aqqw)) aqqw))) (by o_reads)
   (aH (aqe (aX7 hr.units rfl) rfl T.zsorted azh (aa (pv 1) bg)))
   (fun _ _ _ _ _=>pgc 0)
   pif0
   (fun _ _ _ _ _=>azc (aa (aqiw (aqe0 hr) (pv 1) (pv 0) (fun _ _=>rfl)) (aa (ajv (aqan rfl) rfl T.zlist aJp (aa (pv 0) bg)) bg))))))),by
  obtain ⟨F0,ds,o,sm,r,hl,hg,k⟩:=h;exact aKx sm r hl hg k⟩
theorem scH:FnScope ["self"] ["self"] (af sHeap):=fsc
theorem aKb (kv:aqs8):aqhr (.lst (kv.map DL.aqr5))=some (swap kv):=by
 have one:∀ p:List Int × Int,aqk4 (DL.aqr5 p)=some (p.2,p.1):=by
  intro p
  have:∀ l:List Int,(l.map D.int).mapM kInt=some l:=by
   intro l
   induction l with
   | nil=>rfl
   | cons a l ih=>rw [map_cons,mapM_cons,ih]; rfl
  simp [aqk4,DL.aqr5,aqk5,this]
 unfold aqhr swap
 induction kv with
 | nil=>rfl
 | cons p kv ih =>
  simp only [map_cons,mapM_cons,one] at ih ⊢;rw [ih]; rfl
theorem aKy {kv:aqs8} (h:kv.length < 60) (hm:∀ q∈kv,q.1.length < 60):aqi5 [.lst (kv.map DL.aqr5)]=some (.lst ((aQy (swap kv)).map aW0)):=by
 unfold aqi5;dsimp only;rw [aKb];simp only [Option.bind_some];rw [if_pos];refine ⟨by simpa [swap] using h,?_⟩;rw [Gv];intro p hp;obtain ⟨q,hq,rfl⟩:=Bf.mp hp;exact decide_eq_true (hm q hq)
theorem aqjc {f:Addr} {fd:Ak} (F:Fun K "heap" "Hall.heap" sHeap f fd) (T:Hx K mg C Ct Cm Cn Cf) (G:Fn P w K mg base 2 "tidy" ["heap"] (spO K 1 aqi5)):FnOk P w K mg base CX0 3 f fd ["self"] (aWb K C):=by
 obtain ⟨ft,fdt,okt,mt,kt,bt⟩:=G;refine F.ok scH (k:=2) (fun vs H Q E h=>?_) (fun cdv A outer s H vs Q E hr h=>?_)
 ·obtain ⟨_,_,_,_,_,rfl,_⟩:=h
  rfl
 ·obtain ⟨p,l,d,names,kv,rfl,S,h60,hm60,k⟩:=h
  obtain ⟨⟨dx,h1⟩,h2,h3⟩:=id S;refine ⟨_,el (aV (au okt hr rfl mt kt bt .nil aqt (aa (aqiv (ax1 (cl:=_) (N':=["marks","many"]) (js:=[none,none]) (g:=gTup K 2 (aY9 (ax9 0) (aY9 (ax9 1) gNil))) (tc:=aJu) (te:=tTup (ako (aqqv 1) (ako (tCB (rLOf K) (ako (aqqv 0) aqqw)) aqqw))) (by o_reads)
   (aqbo (azs (pv 0) rfl)) (fun _ _ _ _ _=>aqdj rfl rfl (aqw (pgc 0) (aqw (pgc 1) ak4)))
   pif0 (fun _ _ _ _ _=>azc (aa (pv 1) (aa (ajv (aqan rfl) rfl T.zlist aJp (aa (pv 0) bg)) bg))))) bg))),?_⟩
  refine ⟨_,rfl,p,C,dx,_,_,rfl,h1,T.cl,T.nB,az6 _ _,d,kd kv,rfl,h3,fun o=>?_⟩;have sd:∀ b u,H b=some u->b ≠ d->(upd H d (.frz o (.dT (kd kv)))) b=some u:=fun b u hb hbd=>by rw [ah hbd]; exact hb
  have fd:(upd H d (.frz o (.dT (kd kv)))) d=some (.frz o (.dT (kd kv))):=ac;generalize hH1:upd H d (.frz o (.dT (kd kv)))=H1 at sd fd;refine aKg (kv:=kv) fd (by rw [Au]; omega) ⟨none,none,rfl⟩ fun n H2 F2 hn sm2 hd2 sF2 Fd Fl hts=>?_;obtain ⟨ts,hts1,hts2⟩:=hts;refine ⟨d,o,.dT (kd kv),hd2,fun o' u' z=>?_,?_⟩
  ·have z':H d=some (.frz o' u'):=z
   rw [h3] at z'; cases z'
  ·have ndn:n ≠ d:=by rintro rfl; rw [fd] at hn; cases hn
   have sF3:aqs2 F2 (upd H2 d (.dT (kd kv))):=fun b u hb=>by rw [ah (ae hb Fd)]; exact sF2 _ _ hb
   have smH:aqs2 H (upd H2 d (.dT (kd kv))):=fun b u hb=>by
    by_cases hbd:b=d
    ·subst hbd; rw [ac,<- h3,hb]
    ·rw [ah hbd]; exact sm2 _ _ (sd _ _ hb hbd)
   refine ⟨_,[.lst (kv.map DL.aqr5)],_,aqs2.refl _,.cons (.lst (.inl (.inl (by rw [ah ndn]; exact hts1))) ((aqv sF3).2 hts2)) .nil,rfl,aKy h60 hm60,fun v F' H3 A e ow hA=>?_⟩;exact k v F' H3 A ow e.fh (fun b hb=>⟨(hA b hb).1,smH.free (hA b hb).2⟩) (smH.trans e.hh)
end
def step (w:Str) (v:Int) (xs st:List Str) (kv:aqs8):D × List Str × aqs8 :=
 if w="stand" then (if xs.headD ""∈st then (.tup [.str "Taken"],st,kv) else if 6 <= st.length then (.tup [.str "TooMany"],st,kv) else (.non,st++[xs.headD ""],kv))
 else if ∀ y∈xs,y∈st then
  (if w="lift"/\wt kv (aqr9 st xs) < v then (.tup [.str "TooFew"],st,kv)
   else if w="cast"/\(10 ^ 18 < wt kv (aqr9 st xs) + v \/ ((look kv (aqr9 st xs)).isSome=false/\12 <= kv.length)) then (.tup [.str "TooMany"],st,kv)
   else (.non,st,lay kv (aqr9 st xs) (if w="lift" then wt kv (aqr9 st xs) - v else wt kv (aqr9 st xs) + v)))
 else (.tup [.str "NoName"],st,kv)
theorem aqeo (w:Str) (v:Int) (xs st:List Str) (kv:aqs8):shp 20 (step w v xs st kv).1=true:=by
 have s1:shp 20 (.tup [.str "Taken"])=true:=by decide +kernel
 have s2:shp 20 (.tup [.str "TooMany"])=true:=by decide +kernel
 have s3:shp 20 (.tup [.str "TooFew"])=true:=by decide +kernel
 have s4:shp 20 (.tup [.str "NoName"])=true:=by decide +kernel
 unfold step;split
 ·split
  ·exact s1
  ·split
   ·exact s2
   ·rfl
 ·split
  ·split
   ·exact s3
   ·split
    ·exact s2
    ·rfl
  ·exact s4
theorem axy {K:Frag} {H:Hp} {t:Addr} {y:Str} (h:H t=some (.tup [.str y])):Rep K H (.ref t) (.tup [.str y]):=.tup (.inl (.inl h)) (.cons (.str y) .nil)
theorem iteNe {d e:D} {A B:Prop} (h:eqD d e=true) (hB:B):if (if true=true then !eqD d e else eqD d e)=true then A else B:=by
 rw [h]; exact hB
theorem aqdr (st xs:List Str):(aqr9 st xs).Pairwise (· < ·):=by
 unfold aqr9;rw [pairwise_map];have h:st.zipIdx.Pairwise fun a b=>a.2 < b.2:=by
  have:(st.zipIdx.map Prod.snd).Pairwise (· < ·):=by
   rw [List.zipIdx_map_snd];exact List.pairwise_lt_range'
  exact List.pairwise_map.mp this
 exact (h.sublist Hn).imp fun {a b} h=>by omega
theorem aqg9 {st xs:List Str} {a:Int}:a∈aqr9 st xs ↔ ∃ (i:Nat) (hi:i < st.length),st[i]∈xs/\a=(i:Int):=by
 unfold aqr9;rw [mem_map];constructor
 ·rintro ⟨⟨y,i⟩,hp,rfl⟩
  obtain ⟨h1,h2⟩:=C0.mp hp
  have:=Hi.mp h1
  simp at this;obtain ⟨hi,rfl⟩:=Ai.mp this;exact ⟨i,hi,by simpa using h2,rfl⟩
 ·rintro ⟨i,hi,hx,rfl⟩
  refine ⟨(st[i],i),C0.mpr ⟨Hi.mpr (by simp [hi]),by simpa using hx⟩,rfl⟩
abbrev s_did:Stmt:=top 55
def spDid (K:Frag) (C:Addr):Sp:=fun vs H Q _=>∃ (p l d z:Addr) (w:Str) (v:Int) (st xs:List Str) (kv:aqs8),vs=[.ref p,.str w,.int v,.ref z]/\(w="stand" \/ w="cast" \/ w="lift")/\(w="stand"->xs ≠ [])/\HallAt C H p l d st kv/\H z=some (.lst (xs.map V.str)) /\
 st.length <= 6/\xs.length <= 9/\kv.length <= 12/\(∀ y∈st,aE y)/\(∀ y∈xs,aE y) /\
 ∀ r H',Rep K H' r (step w v xs st kv).1->(∀ b o,H b=some o->b ≠ l->b ≠ d->H' b=some o)->H' l=some (.lst ((step w v xs st kv).2.1.map V.str))->H' d=some (.dT (kd (step w v xs st kv).2.2))->Q r H'
section
variable {P:Aj} {w:World} {K:Frag} {mg:Str->Option Value} {base:Heap} {C Ct Cm Cn Cf:Addr}
theorem awv:FnScope ["hall","word","many","some","told"] ["hall","word","many","some"] (af s_did):=fsc
theorem aqhs {X:Cx} {K:Frag} (h:X.K=K):IxR X (rIxL K):=by subst h; exact av5
theorem azw {σ:L2.St} {v:V} (h:σ.length=5):(σ.set 4 (some v))[4]?=some (some v):=by
 rw [getElem?_set_self (by omega)]
theorem avb {a b c:Addr} (h1:ExcH K a c) (h2:ExcS K b c):a ≠ b:=by
 rintro rfl
 have:=h1.su
 rw [h2.su] at this;cases this
def aqi7 (x:Str):TS:=tAsg (tTup (ako (tC (.str x)) aqqw)) (ax9 4)
theorem aqmq {f fS fC fL:Addr} {fd fdS fdC fdL:Ak} (F:Fun K "_law_did" "_law_did" s_did f fd) (T:Hx K mg C Ct Cm Cn Cf) (GS:FnOk P w K mg base (CXm P w) 2 fS fdS ["self","name"] (aK7 C Ct Cm)) (bS:L2.Binds K fdS ["self","name"] []) (mS:Meth K C "stand" fS)
  (GC:FnOk P w K mg base (CXm P w) 3 fC fdC ["self","many","names"] (aqes C Cm Cn)) (bC:L2.Binds K fdC ["self","many","names"] []) (mC:Meth K C "cast" fC) (GL:FnOk P w K mg base (CXm P w) 3 fL fdL ["self","many","names"] (aqeq C Cf Cn)) (bL:L2.Binds K fdL ["self","many","names"] []) (mL:Meth K C "lift" fL) :
  FnOk P w K mg base CX0 4 f fd ["hall","word","many","some"] (spDid K C):=by
 refine F.ok awv (k:=3) (fun vs H Q E h=>?_) (fun cdv A outer s H vs Q E hr h=>?_)
 ·obtain ⟨_,_,_,_,_,_,_,_,_,rfl,_⟩:=h
  rfl
 ·obtain ⟨p,l,d,z,wd,v,st,xs,kv,rfl,hw,hne,S,hz,h6,h9,h12,hok,hxs,k⟩:=h
  have hr2:Room 2 _:=hm hr;refine ⟨_,ak (gp (i:=4) awv.nd rfl (.inl rfl) (azc (aa ar bg)))
   (ak (aWz (OK:=fun c=>c=Ct \/ c=Cm \/ c=Cn \/ c=Cf) (th:=fun c D σ H=>(c=Ct->aqi7 "Taken" D σ H)/\(c=Cm->aqi7 "TooMany" D σ H)/\(c=Cn->aqi7 "NoName" D σ H)/\(c=Cf->aqi7 "TooFew" D σ H)) ⟨rfl,rfl⟩
    (fun pins R ok=>el (ax8 (aW aKq (pv 1) ar (ax _)) (el (gp (i:=4) awv.nd rfl (.inl rfl) (aqg (pv 0) T.cl mS GS hr2 bS .nil (ajw ok) (aa (aks (aqhs (K:=K) rfl) (pv 3) aq (fun _ _=>rfl)) bg))))
     (el (ax8 (aW aKq (pv 1) ar (ax _)) (el (gp (i:=4) awv.nd rfl (.inl rfl) (aqg (pv 0) T.cl mC GC hr bC .nil (ajw ok) (aa (pv 2) (aa (pv 3) bg)))))
      (el (gp (i:=4) awv.nd rfl (.inl rfl) (aqg (pv 0) T.cl mL GL hr bL .nil (ajw ok) (aa (pv 2) (aa (pv 3) bg)))))))))
    (fun c hc=>?_)) (el (aV (pv 4)))),?_⟩
  ·rcases hc with rfl | rfl | rfl | rfl
   ·exact aW3 (aZo T.tT rfl T.mt fun a oe=>el (gp (i:=4) awv.nd rfl (.inl rfl) (azc (aa ar bg)))) fun _ _ _ h=>h.1 rfl
   ·exact aW3 (ak3 T.mT rfl T.mt (aZo T.mM rfl T.mm fun a oe=>el (gp (i:=4) awv.nd rfl (.inl rfl) (azc (aa ar bg))))) fun _ _ _ h=>h.2.1 rfl
   ·exact aW3 (ak3 T.nT rfl T.mt (ak3 T.nM rfl T.mm (aZo T.nN rfl T.mn fun a oe=>el (gp (i:=4) awv.nd rfl (.inl rfl) (azc (aa ar bg)))))) fun _ _ _ h=>h.2.2.1 rfl
   ·exact aW3 (ak3 T.fT rfl T.mt (ak3 T.fM rfl T.mm (ak3 T.fN rfl T.mn (aZo T.fF rfl T.mf fun a oe=>el (gp (i:=4) awv.nd rfl (.inl rfl) (azc (aa ar bg))))))) fun _ _ _ h=>h.2.2.2 rfl
  ·refine ⟨by show 1 <= Ag; decide,fun t0 ht0=>?_⟩
   have s0:aqs2 H (upd H t0 (.tup [.str "nothing"])):=gd ht0;generalize upd H t0 (.tup [.str "nothing"])=H0 at s0 ⊢;have S0:=S.keep s0;obtain ⟨⟨dx,h1⟩,h2,h3⟩:=id S0;have ntm:Ct ≠ Cm:=avb T.tT T.mT;have ntn:Ct ≠ Cn:=avb T.tT T.nT;have ntf:Ct ≠ Cf:=avb T.tT T.fT;have nmn:Cm ≠ Cn:=avb T.mM T.nM;have nmf:Cm ≠ Cf:=avb T.mM T.fM;have nnf:Cn ≠ Cf:=avb T.nN T.fN;have told:∀ (x:Str) (D:Ends) (σ':L2.St) (H1:Hp),σ'.length=5->(∀ t H',aqs2 H1 H'->H' t=some (.tup [.str x])->D.nx (σ'.set 4 (some (.ref t))) H')->aqi7 x D σ' H1:=by
    intro x D σ' H1 hl hk;exact ⟨by show 1 <= Ag; decide,fun t ht=>hk t _ (gd ht) ac⟩
   by_cases hst:wd="stand"
   ·subst hst
    obtain ⟨x,aqr2,rfl⟩:∃ x aqr2,xs=x :: aqr2:=by
     cases xs with
     | nil=>exact absurd rfl (hne rfl)
     | cons a l=>exact ⟨a,l,rfl⟩
    have e0:step "stand" v (x :: aqr2) st kv=(if x∈st then (.tup [.str "Taken"],st,kv) else if 6 <= st.length then (.tup [.str "TooMany"],st,kv) else (.non,st++[x],kv)):=by unfold step; rw [if_pos rfl]; rfl
    rw [e0] at k;refine ⟨_,rfl,rfl,_,rfl,?_⟩;refine aqrb ?_;refine ⟨_,rfl,p,dx,_,rfl,h1,aG,_,rfl,z,_,_,_,rfl,rfl,SqL.of (s0 _ _ hz),az9 (j:=0) rfl,?_⟩;refine ⟨p,l,d,st,kv,x,rfl,S0,h6,hxs x (by simp),hok,fun hin=>?_,fun hin h6'=>?_,fun hin h6'=>?_⟩
    ·rw [if_pos hin] at k
     refine ⟨Ct,rfl,.inl rfl,fun σ' hσ=>⟨fun _=>told _ _ _ _ hσ fun t H' sm ht=>?_,fun e=>absurd e ntm,fun e=>absurd e ntn,fun e=>absurd e ntf⟩⟩;exact ⟨_,azw hσ,k _ _ (axy ht) (fun c o hc _ _=>sm _ _ (s0 _ _ hc)) (sm _ _ h2) (sm _ _ h3)⟩
    ·rw [if_neg hin,if_pos h6'] at k
     refine ⟨Cm,rfl,.inr (.inl rfl),fun σ' hσ=>⟨fun e=>absurd e.symm ntm,fun _=>told _ _ _ _ hσ fun t H' sm ht=>?_,fun e=>absurd e nmn,fun e=>absurd e nmf⟩⟩;exact ⟨_,azw hσ,k _ _ (axy ht) (fun c o hc _ _=>sm _ _ (s0 _ _ hc)) (sm _ _ h2) (sm _ _ h3)⟩
    ·rw [if_neg hin,if_neg (by omega)] at k
     have nld:d ≠ l:=az1 h3 h2 nofun;exact ⟨_,rfl,k .non _ .non (fun c o hc hcl _=>by rw [ah hcl]; exact s0 _ _ hc) ac (by rw [ah nld]; exact h3)⟩
   ·refine ⟨_,rfl,rfl,_,rfl,?_⟩
    rw [decide_eq_false (show ¬ V.str wd=V.str "stand" from fun z=>hst (V.str.inj z))];refine aqrc ?_;have nam:(¬ ∀ y∈xs,y∈st)->step wd v xs st kv=(.tup [.str "NoName"],st,kv):=fun hall=>by unfold step; rw [if_neg hst,if_neg hall]
    have ldn:l ≠ d:=az1 h2 h3 nofun;rcases hw with hw | hw | hw
    ·exact absurd hw hst
    ·subst hw
     have e1:(∀ y∈xs,y∈st)->step "cast" v xs st kv=(if 10 ^ 18 < wt kv (aqr9 st xs) + v \/ ((look kv (aqr9 st xs)).isSome=false/\12 <= kv.length) then (.tup [.str "TooMany"],st,kv) else (.non,st,lay kv (aqr9 st xs) (wt kv (aqr9 st xs) + v))):=by
      intro hall;unfold step;rw [if_neg (by decide +kernel),if_pos hall,if_neg (fun z=>absurd z.1 (by decide +kernel)),if_neg (show ¬ ("cast":Str)="lift" by decide +kernel)]
      by_cases hc:10 ^ 18 < wt kv (aqr9 st xs) + v \/ ((look kv (aqr9 st xs)).isSome=false/\12 <= kv.length)
      ·rw [if_pos ⟨rfl,hc⟩,if_pos hc]
      ·rw [if_neg fun z=>hc z.2,if_neg hc]
     refine ⟨_,rfl,rfl,_,rfl,?_⟩;refine aqrb ?_;refine ⟨_,rfl,p,dx,_,rfl,h1,aG,_,rfl,_,rfl,p,l,d,z,st,kv,xs,v,rfl,S0,s0 _ _ hz,h6,h9,h12,hok,hxs,fun hn H1 sm1=>?_,fun hall hc H1 sm1=>?_,fun hall hc H1 keep hd1=>?_⟩
     ·rw [nam hn] at k
      refine ⟨Cn,rfl,.inr (.inr (.inl rfl)),fun σ' hσ=>⟨fun e=>absurd e.symm ntn,fun e=>absurd e.symm nmn,fun _=>told _ _ _ _ hσ fun t H' sm ht=>?_,fun e=>absurd e nnf⟩⟩;exact ⟨_,azw hσ,k _ _ (axy ht) (fun c o hc _ _=>sm _ _ (sm1 _ _ (s0 _ _ hc))) (sm _ _ (sm1 _ _ h2)) (sm _ _ (sm1 _ _ h3))⟩
     ·rw [e1 hall,if_pos (hc.elim .inr .inl)] at k
      refine ⟨Cm,rfl,.inr (.inl rfl),fun σ' hσ=>⟨fun e=>absurd e.symm ntm,fun _=>told _ _ _ _ hσ fun t H' sm ht=>?_,fun e=>absurd e nmn,fun e=>absurd e nmf⟩⟩;exact ⟨_,azw hσ,k _ _ (axy ht) (fun c o hc _ _=>sm _ _ (sm1 _ _ (s0 _ _ hc))) (sm _ _ (sm1 _ _ h2)) (sm _ _ (sm1 _ _ h3))⟩
     ·rw [e1 hall,if_neg (fun z=>hc (z.elim .inr .inl))] at k
      exact ⟨_,rfl,k .non _ .non (fun c o hc _ hcd=>keep _ _ (s0 _ _ hc) hcd) (keep _ _ h2 ldn) hd1⟩
    ·subst hw
     have e1:(∀ y∈xs,y∈st)->step "lift" v xs st kv=(if wt kv (aqr9 st xs) < v then (.tup [.str "TooFew"],st,kv) else (.non,st,lay kv (aqr9 st xs) (wt kv (aqr9 st xs) - v))):=by
      intro hall;unfold step;rw [if_neg (by decide +kernel),if_pos hall,if_pos (show ("lift":Str)="lift" from rfl)]
      by_cases hc:wt kv (aqr9 st xs) < v
      ·rw [if_pos ⟨rfl,hc⟩,if_pos hc]
      ·rw [if_neg fun z=>hc z.2,if_neg hc,if_neg fun z=>absurd z.1 (by decide +kernel)]
     refine ⟨_,rfl,rfl,_,rfl,?_⟩;rw [decide_eq_false (show ¬ V.str "lift"=V.str "cast" by decide +kernel)];refine aqrc ?_;refine ⟨_,rfl,p,dx,_,rfl,h1,aG,_,rfl,_,rfl,p,l,d,z,st,kv,xs,v,rfl,S0,s0 _ _ hz,h6,h9,h12,hok,hxs,fun hn H1 sm1=>?_,fun hall hc H1 sm1=>?_,fun hall hc H1 keep hd1=>?_⟩
     ·rw [nam hn] at k
      refine ⟨Cn,rfl,.inr (.inr (.inl rfl)),fun σ' hσ=>⟨fun e=>absurd e.symm ntn,fun e=>absurd e.symm nmn,fun _=>told _ _ _ _ hσ fun t H' sm ht=>?_,fun e=>absurd e nnf⟩⟩;exact ⟨_,azw hσ,k _ _ (axy ht) (fun c o hc _ _=>sm _ _ (sm1 _ _ (s0 _ _ hc))) (sm _ _ (sm1 _ _ h2)) (sm _ _ (sm1 _ _ h3))⟩
     ·rw [e1 hall,if_pos hc] at k
      refine ⟨Cf,rfl,.inr (.inr (.inr rfl)),fun σ' hσ=>⟨fun e=>absurd e.symm ntf,fun e=>absurd e.symm nmf,fun e=>absurd e.symm nnf,fun _=>told _ _ _ _ hσ fun t H' sm ht=>?_⟩⟩;exact ⟨_,azw hσ,k _ _ (axy ht) (fun c o hc _ _=>sm _ _ (sm1 _ _ (s0 _ _ hc))) (sm _ _ (sm1 _ _ h2)) (sm _ _ (sm1 _ _ h3))⟩
     ·rw [e1 hall,if_neg hc] at k
      exact ⟨_,rfl,k .non _ .non (fun c o hc _ hcd=>keep _ _ (s0 _ _ hc) hcd) (keep _ _ h2 ldn) hd1⟩
end
abbrev aXa:Stmt:=axe (top 51) 10
def nmAt (names:List Str) (k:Int):Str:=names.getD k.toNat ⟨#[]⟩
def Below (n:Nat) (s:List Int):Prop:=∀ k∈s,0 <= k/\k < (n:Int)
def awp (K:Frag) (C:Addr):Sp:=fun vs H Q _=>∃ (p l d z:Addr) (names:List Str) (kv:aqs8) (s:List Int),vs=[.ref p,.ref z]/\HallAt C H p l d names kv/\SqL K H z (s.map V.int)/\Below names.length s/\s.length <= 100 /\
 ∀ r,H r=none->Q (.ref r) (upd H r (.lst ((s.map fun k=>nmAt names k).map V.str)))
def intV:V->Int
 | .int i=>i
 | _=>0
theorem ix_tK {X:Cx} {K:Frag} (h:X.K=K):IxR X (rIxT K):=by subst h; exact aKc
theorem nm_at {names:List Str} {k:Int} (h0:0 <= k) (h1:k < (names.length:Int)):atI (names.map V.str) k=some (.str (nmAt names k)):=by
 obtain ⟨i,rfl⟩:=Jl h0;have hi:i < names.length:=by omega
 refine az9 ?_;unfold nmAt;simp [hi]
section
variable {P:Aj} {w:World} {K:Frag} {mg:Str->Option Value} {base:Heap} {C Ct Cm Cn Cf:Addr}
theorem scO:FnScope ["self","numbers"] ["self","numbers"] (af aXa):=fsc
theorem aYl {f:Addr} {fd:Ak} (F:Fun K "names_of" "Hall.names_of" aXa f fd) (T:Hx K mg C Ct Cm Cn Cf):FnOk P w K mg base CX0 1 f fd ["self","numbers"] (awp K C):=by
 refine F.ok scO (k:=0) (fun vs H Q E h=>?_) (fun cdv A outer s H vs Q E hr h=>?_)
 ·obtain ⟨_,_,_,_,_,_,_,rfl,_⟩:=h
  rfl
 ·obtain ⟨p,l,d,z,names,kv,s,rfl,S,hz,hb,h100,k⟩:=h
  obtain ⟨⟨dx,h1⟩,h2,h3⟩:=id S;refine ⟨_,el (aV (ax1 (cl:=_) (N':=["number","self"]) (js:=[none,some 0]) (tc:=aJu) (te:=tOp (rIxL K) (tFld K (aqqv 1) "standing") (aqqv 0)) (by o_reads)
    (aH (pv 1)) (fun _ _ _ _ _=>pgc 0) pif0
    (fun _ _ _ _ _=>aks (aqhs rfl) (aqdk rfl (pv 1) rfl) (pv 0) (fun _ _=>rfl)))),?_⟩
  refine ⟨_,rfl,z,rfl,⟨_,hz⟩,aJn hz (by rw [length_map,Au]; omega) (fun _=>true) (fun v=>.str (nmAt names (intV v))) (fun σ=>∃ c,σ=[c,some (.ref p)]) ⟨none,rfl⟩ (fun i x σ' H' hx hS sm=>?_) fun r hr'=>?_⟩
  ·obtain ⟨c,rfl⟩:=hS
   obtain ⟨y,hy,rfl⟩:∃ y∈s,x=V.int y:=by
    rw [getElem?_map] at hx;cases e:s[i]? with
    | none=>rw [e] at hx; cases hx
    | some q=>rw [e] at hx; exact ⟨q,mem_of_getElem? e,(Option.some.inj hx).symm⟩
   exact ⟨⟨_,rfl⟩,fun R h=>h,fun R _ h=>⟨_,rfl,p,C,dx,_,_,rfl,sm _ _ h1,T.cl,T.nS,av8 _ _,_,rfl,l,_,y,_,rfl,rfl,SqL.of (sm _ _ h2),nm_at (hb y hy).1 (hb y hy).2,h⟩⟩
  ·rw [D7.mpr (by simp),map_map]
   have:=k r hr'
   rw [map_map] at this;exact this
end
def awe (kv:aqs8):D:=.lst ((ajl (kv.map (·.1))).map fun k=>DL.aqr5 (k,wt kv k))
theorem aqhy:∀ {kv:aqs8},(kv.map (·.1)).Nodup->∀ m,wtK (swap kv) m=wt kv m
 | [],_,m=>rfl
 | p :: kv,hn,m=>by
  rw [map_cons,nodup_cons] at hn;have ih:=aqhy hn.2 m
  by_cases e:p.1=m
  ·have z:wt kv m=0:=by
    unfold wt look
    have:(kv.find? fun p=>decide (p.1=m))=none:=by
     rw [Il];intro q hq
     simp
     intro e2;exact hn.1 (by rw [e,<- e2]; exact Bf.mpr ⟨q,hq,rfl⟩)
    rw [this]; rfl
   have h1:wt (p :: kv) m=p.2:=by unfold wt look; rw [List.find?_cons_of_pos (by simpa using e)]; rfl
   rw [h1];unfold wtK swap at ih ⊢;rw [map_cons,Ec (by simpa using e),map_cons,List.sum_cons,ih,z];omega
  ·have h1:wt (p :: kv) m=wt kv m:=by unfold wt look; rw [List.find?_cons_of_neg (by simpa using e)]
   rw [h1,<- ih];unfold wtK swap;rw [map_cons,filter_cons_of_neg (by simpa using e)]
theorem ajh {kv:aqs8} (hn:(kv.map (·.1)).Nodup):oD (.lst ((aQy (swap kv)).map aW0))=some (awe kv):=by
 have e:(swap kv).map (fun p=>p.2)=kv.map (·.1):=by unfold swap; rw [map_map]; rfl
 have e2:aQy (swap kv)=(ajl (kv.map (·.1))).map fun k=>(wt kv k,k):=by
  unfold aQy;rw [e];apply map_congr_left;intro m _;rw [aqhy hn]
 rw [e2,map_map];have ow:∀ l:List Int,oDs (l.map (O.sh ∘ D.int))=some (l.map D.int):=by
  intro l
  induction l with
  | nil=>rfl
  | cons a l ih=>simp [oDs,oD,ih]
 have one:∀ l:List (List Int),oDs (l.map (aW0 ∘ fun k=>(wt kv k,k)))=some (l.map fun k=>DL.aqr5 (k,wt kv k)):=by
  intro l
  induction l with
  | nil=>rfl
  | cons a l ih =>
   have h1:oD (aW0 (wt kv a,a))=some (DL.aqr5 (a,wt kv a)):=by
    simp [aW0,DL.aqr5,oD,oDs,DL.ow,ow]
   simp only [map_cons,Jk,oDs];rw [h1];refine Eq.trans (congrArg (fun z=>(some (DL.aqr5 (a,wt kv a))).bind fun d=>z.map (d :: ·)) ih) ?_;rfl
 unfold awe;simp only [oD];rw [one];rfl
abbrev aqf7:Stmt:=axe (top 51) 8
abbrev aqf8:Stmt:=axe (top 51) 7
theorem aqcv {α:Type} {K:Frag} {z:Addr} {ws:List α} {inj:α->V} {j:Nat} {te:TE} {js:List (Option Nat)} {σ:L2.St} {H:Hp} {Q:Addr->Hp->Prop} (hz:SqL K H z (ws.map inj)) (hlen:ws.length < Ag) (c:α->List Str) (S:L2.St->Prop) (hS:S (mkS js σ))
  (step:∀ (x:α) (σ':L2.St) (H':Hp),x∈ws->S σ'->aqs2 H H'->S (σ'.set j (some (inj x)))/\∀ R:VK,(∀ r,H' r=none->R (.ref r) (upd H' r (.lst ((c x).map V.str))))->te (σ'.set j (some (inj x))) H' R)
  (k:∀ l H' F,H l=none->aqs2 H H'->aqs2 F H'->F l=none->(∃ ts,H' l=some (.lst ts)/\Reps K F ts (ws.map fun x=>.lst ((c x).map D.str)))->Q l H') :
  ∀ l,H l=none->∃ W:Nat->Nat->L2.St->Hp->Prop,(∃ m,W 0 m (mkS js σ) (upd H l (.lst [])))/\∀ i m σ H,W i m σ H ->
   ((Itl K z).stop i H/\Q l H) \/ ((Itl K z).go i H/\∀ x H',(Itl K z).yld i H x H'->ax9 j x σ H' fun σ2 H2=>aJu σ2 H2 fun b H3 =>
     if b=true then te σ2 H3 fun y H4=>∃ acc,H4 l=some (.lst acc)/\acc.length < Ag/\∃ m',m' < m/\W (i + 1) m' σ2 (upd H4 l (.lst (acc++[y]))) else ∃ m',m' < m/\W (i + 1) m' σ2 H3):=by
 intro l hl;refine ⟨fun i m σ' H'=>m=ws.length - i/\i <= ws.length/\S σ'/\aqs2 H H'/\∃ F ts,aqs2 F H'/\F l=none/\H' l=some (.lst ts)/\ts.length=i/\Reps K F ts ((ws.take i).map fun x=>.lst ((c x).map D.str)),⟨_,rfl,zero_le _,hS,gd hl,fun _=>none,[],(fun b o e=>by cases e),rfl,ac,rfl,.nil⟩,?_⟩;rintro i m σ' H' ⟨rfl,hi,hs,sm,F,ts,sF,Fl,hl',hts,rp⟩
 by_cases hlt:i < ws.length
 ·refine .inr ⟨⟨_,inj ws[i],sm.seq hz,by simp [hlt]⟩,fun x H2 y=>?_⟩
  obtain ⟨eH,y⟩:=y;rw [eH];have hx:=y _ (sm.seq hz);rw [getElem?_map,getElem?_eq_getElem hlt] at hx;obtain rfl:=(Option.some.inj hx).symm;obtain ⟨h1,h2⟩:=step ws[i] σ' H' (getElem_mem hlt) hs sm;dsimp only [aJu,ax9];rw [if_pos rfl];refine h2 _ fun q hq=>?_;have s2:aqs2 H' (upd H' q (.lst ((c ws[i]).map V.str))):=gd hq;have nql:q ≠ l:=(ae hl' hq).symm;have Fq:F q=none:=sF.free hq;have sA:aqs2 F (upd F q (.lst ((c ws[i]).map V.str))):=gd Fq;refine ⟨ts,s2 _ _ hl',by omega,_,(by omega:ws.length - (i + 1) < ws.length - i),rfl,hlt,h1,fun b o' hb=>?_,upd F q (.lst ((c ws[i]).map V.str)),ts++[.ref q],fun b o' hb=>?_,?_,ac,by simp [hts],?_⟩
  ·rw [ah (ae hb hl)]
   exact s2 _ _ (sm _ _ hb)
  ·by_cases hbq:b=q
   ·subst hbq
    rw [ac] at hb;rw [ah nql,ac]; exact hb
   ·rw [ah hbq] at hb
    rw [ah (ae hb Fl),ah hbq];exact sF _ _ hb
  ·rw [ah nql.symm]; exact Fl
  ·rw [take_succ_eq_append_getElem hlt,map_append]
   exact aw1 ((aqv sA).2 rp) (.lst (.inl (.inl ac)) (aju _))
 ·have e1:i=ws.length:=by omega
  subst e1;refine .inl ⟨⟨_,sm.seq hz,by rw [length_map]; omega⟩,?_⟩;rw [take_length] at rp;exact k l H' F hl sm sF Fl ⟨ts,hl',rp⟩
theorem aQh (M:Int):awe [([0],M)]=hM M:=rfl
theorem aqff {K:Frag} {F:Hp} {v:V} {M:Int} (h:Rep K F v (hM M)):∃ zh t q,v=.ref zh/\SqE K F zh [.ref t]/\SqT K F t [.int M,.ref q]/\SqE K F q [.int 0]:=by
 cases h with
 | lst h r =>
 cases r with
 | cons r1 r2 =>
 cases r2;cases r1 with
 | tup ht r =>
 cases r with
 | cons ra r =>
 cases ra;cases r with
 | cons rb r =>
 cases r;cases rb with
 | lst hq rr =>
 cases rr with
 | cons rc rr =>
 cases rc;cases rr;exact ⟨_,_,_,rfl,h,ht,hq⟩
def aWa (K:Frag) (C Cn:Addr):Sp:=fun vs H Q E=>∃ (p l d z:Addr) (names:List Str) (kv:aqs8) (xs:List Str) (seats:Int),vs=[.ref p,.int seats,.ref z]/\HallAt C H p l d names kv/\H z=some (.lst (xs.map V.str))/\names.length <= 6/\xs.length <= 9/\(∀ y∈names,aE y)/\(∀ y∈xs,aE y) /\
 ((¬ ∀ y∈xs,y∈names)->∀ H',aqs2 H H'->E (.ref Cn) none H') /\
 ((∀ y∈xs,y∈names)->∃ a M,names=[a]/\kv=[([0],M)]/\seats=1/\((xs=[a]/\∀ H',aqs2 H H'->Q .non H') \/ (xs=[]/\∀ v H',aqs2 H H'->Rep K H' v (.tup [.lst [.str a],.lst [.lst [.str a]]])->Q v H')))
section
variable {P:Aj} {w:World} {K:Frag} {mg:Str->Option Value} {base:Heap} {C Ct Cm Cn Cf:Addr}
theorem scJ:FnScope ["self","seats","names","members","heap","found"] ["self","seats","names"] (af aqf7):=fsc
theorem aqfx {f fM fH fO:Addr} {fd fdM fdH fdO:Ak} (F:Fun K "judge" "Hall.judge" aqf7 f fd) (T:Hx K mg C Ct Cm Cn Cf) (GM:FnOk P w K mg base (CXm P w) 2 fM fdM ["self","names"] (aqbd C Cn)) (bM:L2.Binds K fdM ["self","names"] []) (mM:Meth K C "numbers_of" fM)
  (GH:FnOk P w K mg base CX0 3 fH fdH ["self"] (aWb K C)) (bH:L2.Binds K fdH ["self"] []) (mH:Meth K C "heap" fH) (GO:FnOk P w K mg base CX0 1 fO fdO ["self","numbers"] (awp K C)) (bO:L2.Binds K fdO ["self","numbers"] []) (mO:Meth K C "names_of" fO)
  (Gl:Fn P w K mg base 4 "left_out" ["heap","seats","members"] (spD K 3 axc)):FnOk P w K mg base (CXm P w) 5 f fd ["self","seats","names"] (aWa K C Cn):=by
 obtain ⟨fl,fdl,okl,ml,kl,bl⟩:=Gl;refine fnM F scJ (k:=4) (fun vs H Q E h=>?_) (fun cdv A outer s H vs Q E hr h=>?_)
 ·obtain ⟨_,_,_,_,_,_,_,_,rfl,_⟩:=h
  rfl
 ·obtain ⟨p,l,d,z,names,kv,xs,seats,rfl,S,hz,h6,h9,hok,hxs,ke,kq⟩:=h
  obtain ⟨⟨dx,h1⟩,h2,h3⟩:=id S;have hr1:Room 1 _:=hm hr;have hr2:Room 2 _:=hm hr;have hr3:Room 3 _:=hm hr;refine ⟨_,ak (gp (i:=3) scJ.nd rfl (.inl rfl) (aqg (pv 0) T.cl mM GM hr2 bM .nil passM (aa (pv 2) bg)))
   (ak (gp (i:=4) scJ.nd rfl (.inr rfl) (ax0 (pv 0) T.cl mH GH hr3 bH .nil aqt))
   (ak (gp (i:=5) scJ.nd rfl (.inl rfl) (au okl hr rfl ml kl bl .nil aqt (aa (pv 4) (aa (pv 1) (aa (pv 3) bg)))))
   (ak (ax8 (aqip (aqmh (pv 5))) (el (aV aV4)) aL)
   (el (aV (azc (aa (aqg (pv 0) T.cl mO GO hr1 bO .nil aqt (aa (aks aKc (pv 5) aq (fun _ _=>rfl)) bg))
    (aa (ax1 (cl:=_) (N':=["place","self","heap"]) (js:=[none,some 0,some 4]) (tc:=aJu) (by o_reads)
     (aH (aks aKc (pv 5) aq (fun _ _=>rfl))) (fun _ _ _ _ _=>pgc 0) pif0
     (fun _ _ _ _ _=>aqg (pv 1) T.cl mO GO hr1 bO .nil aqt (aa (aks (ix_tK (K:=K) rfl) (aks (aqhs (K:=K) rfl) (pv 2) (pv 0) (fun _ _=>rfl)) aq (fun _ _=>rfl)) bg))) bg)))))))),?_⟩
  refine ⟨_,rfl,p,dx,_,rfl,h1,aG,_,rfl,p,l,d,z,names,kv,xs,rfl,S,hz,h6,h9,hok,hxs,fun hn H' sm=>⟨Cn,rfl,ke hn H' sm⟩,fun hin r H1 sm1 hr0 hr1'=>?_⟩;obtain ⟨a,M,rfl,rfl,rfl,kr⟩:=kq hin;clear kq;refine ⟨_,rfl,p,dx,_,rfl,sm1 _ _ h1,aG,p,l,d,[a],[([0],M)],rfl,S.keep sm1,by show 1 < 60; decide,fun q hq=>by rw [A0.mp hq]; show 1 < 60; decide,fun v2 F2 H2 A2 ow2 sF2 hA2 sm2=>?_⟩;have rf:=ow2.rep sF2 (ajh (by simp)) (fun _ _=>rfl);rw [aQh] at rf;clear ow2 sF2 hA2;have bel:Below ([a]:List Str).length [0]:=fun k hk=>by rw [A0.mp hk]; exact ⟨by decide,by show (0:Int) < 1; decide⟩
  rcases kr with ⟨rfl,kq⟩ | ⟨rfl,kq⟩
  ·have en:aqr9 [a] [a]=[0]:=by unfold aqr9; simp
   rw [en] at hr1';refine ⟨_,rfl,_,rfl,_,rfl,H2,[hM M,.int 1,.lst [.int 0]],_,aqs2.refl _,.cons rf (.cons (.int _) (.cons (.lst (.inl (.inl (sm2 _ _ hr1'))) (aq4 [0])) .nil)),rfl,aqju M,fun v3 F3 H3 e3 r3=>?_⟩;cases r3;refine ⟨_,rfl,_,rfl,?_⟩;refine aqrb ?_;exact kq _ (sm1.trans (sm2.trans e3.hh))
  ·have en:aqr9 [a] []=[]:=by unfold aqr9; simp
   rw [en] at hr1';refine ⟨_,rfl,_,rfl,_,rfl,H2,[hM M,.int 1,.lst []],_,aqs2.refl _,.cons rf (.cons (.int _) (.cons (.lst (.inl (.inl (sm2 _ _ hr1'))) .nil) .nil)),rfl,aqjt M,fun v3 F3 H3 e3 r3=>?_⟩;have smA:=sm1.trans (sm2.trans e3.hh);refine ⟨_,rfl,_,rfl,?_⟩;cases r3 with
   | @tup t vs _ hT rr =>
   cases rr with
   | cons ra rr =>
   cases rr with
   | cons rb rr =>
   cases rr;cases ra with
   | @lst z0 vs0 _ hq0 rr0 =>
   cases rb with
   | @lst z1 vs1 _ hq1 rr1 =>
   cases rr0 with
   | cons x rr0 =>
   cases x;cases rr0;cases rr1 with
   | cons x rr1 =>
   cases x;cases rr1;have hT3:=seqT e3.fh hT;have hq03:=aqqy e3.fh hq0;have hq13:=aqqy e3.fh hq1;clear hT hq0 hq1;refine aqrc ?_;have na:nmAt [a] 0=a:=rfl;refine ⟨_,rfl,p,dx,_,rfl,smA _ _ h1,aG,_,rfl,t,_,_,_,rfl,rfl,hT3,rfl,p,l,d,z0,[a],[([0],M)],[0],rfl,S.keep smA,hq03.l,bel,by decide,fun r0 hr0'=>?_⟩;have sm4:aqs2 H3 (upd H3 r0 (.lst [.str a])):=gd hr0';have h4r:(upd H3 r0 (.lst [.str a])) r0=some (.lst [.str a]):=ac;rw [show (([0]:List Int).map fun k=>nmAt [a] k).map V.str=[.str a] from rfl];generalize upd H3 r0 (.lst [.str a])=H4 at sm4 h4r ⊢;obtain ⟨zh,tp,q,rfl,hz1,htp,hq⟩:=aqff rf;refine ⟨_,rfl,t,_,_,_,rfl,rfl,seqT sm4 hT3,rfl,z1,rfl,⟨_,(aqqy sm4 hq13).l⟩,aqcv (ws:=[(0:Int)]) (inj:=V.int) (aqqy sm4 hq13).l (by decide) (fun _=>[a]) (fun σ=>∃ c,σ=[c,some (.ref p),some (.ref zh)]) ⟨none,rfl⟩ (fun i σ' H' hi hS sm'=>?_) fun n H5 F5 hn sm5 sF5 Fn hts=>?_⟩
   ·obtain ⟨c,rfl⟩:=hS
    rw [A0.mp hi];have smB:=sm4.trans sm';have smC:=e3.hh.trans smB;refine ⟨⟨_,rfl⟩,fun R hR=>?_⟩;exact ⟨_,rfl,p,dx,_,rfl,smB _ _ (smA _ _ h1),aG,_,rfl,_,rfl,zh,_,_,_,rfl,rfl,(aqqy smC hz1).l,az9 (j:=0) rfl,tp,_,_,_,rfl,rfl,seqT smC htp,az9 (j:=1) rfl,p,l,d,q,[a],[([0],M)],[0],rfl,S.keep (smA.trans smB),(aqqy smC hq).l,bel,by decide,hR⟩
   ·obtain ⟨ts,hn5,rts⟩:=hts
    refine ⟨by show 2 <= Ag; decide,fun t ht=>?_⟩;have sm6:aqs2 H5 (upd H5 t (.tup [.ref r0,.ref n])):=gd ht;exact kq _ _ (smA.trans (sm4.trans (sm5.trans sm6))) (.tup (.inl (.inl ac)) (.cons (.lst (.inl (.inl (sm6 _ _ (sm5 _ _ h4r)))) (.cons (.str a) .nil)) (.cons (.lst (.inl (.inl (sm6 _ _ hn5))) ((aqv (sF5.trans sm6)).2 rts)) .nil)))
end
theorem aqha {K:Frag} {z:Addr} {xs ys:List V} {j:Nat} {te:TE} {js:List (Option Nat)} {σ:L2.St} {H:Hp} {Q:Addr->Hp->Prop} (hz:SqL K H z xs) (hy:ys.length=xs.length) (hlen:xs.length < Ag) (S:L2.St->Prop) (hS:S (mkS js σ))
  (step:∀ (i:Nat) (x y:V) (σ':L2.St) (H':Hp),xs[i]?=some x->ys[i]?=some y->S σ'->aqs2 H H'->S (σ'.set j (some x))/\(∀ R:VK,R y H'->te (σ'.set j (some x)) H' R))
  (k:∀ l,H l=none->Q l (upd H l (.lst ys))) :
  ∀ l,H l=none->∃ W:Nat->Nat->L2.St->Hp->Prop,(∃ m,W 0 m (mkS js σ) (upd H l (.lst [])))/\∀ i m σ H,W i m σ H ->
   ((Itl K z).stop i H/\Q l H) \/ ((Itl K z).go i H/\∀ x H',(Itl K z).yld i H x H'->ax9 j x σ H' fun σ2 H2=>aJu σ2 H2 fun b H3 =>
     if b=true then te σ2 H3 fun y H4=>∃ acc,H4 l=some (.lst acc)/\acc.length < Ag/\∃ m',m' < m/\W (i + 1) m' σ2 (upd H4 l (.lst (acc++[y]))) else ∃ m',m' < m/\W (i + 1) m' σ2 H3):=by
 intro l hl;refine ⟨fun i m σ' H'=>m=xs.length - i/\i <= xs.length/\S σ'/\H'=upd H l (.lst (ys.take i)),⟨_,rfl,zero_le _,hS,by simp⟩,?_⟩;rintro i m σ' H' ⟨rfl,hi,hs,rfl⟩;have sm:aqs2 H (upd H l (.lst (ys.take i))):=gd hl
 by_cases hlt:i < xs.length
 ·have hlt':i < ys.length:=by omega
  refine .inr ⟨⟨xs,xs[i],sm.seq hz,by simp [hlt]⟩,fun x H2 y=>?_⟩;obtain ⟨rfl,y⟩:=y;obtain ⟨s1,s3⟩:=step i x ys[i] σ' _ (y xs (sm.seq hz)) (getElem?_eq_getElem hlt') hs sm;dsimp only [aJu,ax9];rw [if_pos rfl];refine s3 _ ⟨_,ac,by rw [length_take]; omega,_,(by omega:xs.length - (i + 1) < xs.length - i),rfl,hlt,s1,?_⟩;rw [take_succ_eq_append_getElem hlt']
  funext b
  by_cases hb:b=l
  ·subst hb; rw [ac,ac]
  ·rw [ah hb,ah hb,ah hb]
 ·have e1:i=xs.length:=by omega
  subst e1;refine .inl ⟨⟨xs,sm.seq hz,le_refl _⟩,?_⟩;rw [<- hy,take_length];exact k l hl
def aqd7 (C:Addr):Sp:=fun vs H Q _=>∃ (p l d:Addr) (a:Str) (M:Int),vs=[.ref p,.int 6]/\HallAt C H p l d [a] [([0],M)]/\1 <= M/\M <= 10 ^ 18/\∀ r H',aqs2 H H'->H' r=some (.lst [.str a])->Q (.ref r) H'
section
variable {P:Aj} {w:World} {K:Frag} {mg:Str->Option Value} {base:Heap} {C Ct Cm Cn Cf:Addr}
theorem scB:FnScope ["self","seats","told"] ["self","seats"] (af aqf8):=fsc
theorem aYo {f fH fO:Addr} {fd fdH fdO:Ak} (F:Fun K "bench_of" "Hall.bench_of" aqf8 f fd) (T:Hx K mg C Ct Cm Cn Cf)
  (GH:FnOk P w K mg base CX0 3 fH fdH ["self"] (aWb K C)) (bH:L2.Binds K fdH ["self"] []) (mH:Meth K C "heap" fH) (GO:FnOk P w K mg base CX0 1 fO fdO ["self","numbers"] (awp K C)) (bO:L2.Binds K fdO ["self","numbers"] []) (mO:Meth K C "names_of" fO)
  (Gb:Fn P w K mg base 7 "bench" ["heap","seats"] (spD K 2 aZ3)):FnOk P w K mg base CX0 8 f fd ["self","seats"] (aqd7 C):=by
 obtain ⟨fb,fdb,okb,mb,kb,bb⟩:=Gb;refine F.ok scB (k:=7) (fun vs H Q E h=>?_) (fun cdv A outer s H vs Q E hr h=>?_)
 ·obtain ⟨_,_,_,_,_,rfl,_⟩:=h
  rfl
 ·obtain ⟨p,l,d,a,M,rfl,S,M1,M2,k⟩:=h
  obtain ⟨⟨dx,h1⟩,h2,h3⟩:=id S;have hr1:Room 1 _:=hm hr;have hr3:Room 3 _:=hm hr;refine ⟨_,ak (gp (i:=2) scB.nd rfl (.inl rfl) (au okb hr rfl mb kb bb .nil aqt (aa (ax0 (pv 0) T.cl mH GH hr3 bH .nil aqt) (aa (pv 1) bg))))
   (el (aV (aqg (pv 0) T.cl mO GO hr1 bO .nil aqt (aa (ax1 (cl:=_) (N':=["row"]) (js:=[none]) (tc:=aJu) (te:=tOp (rIxT K) (aqqv 0) (tC (.int 0))) (by o_reads)
    (aH (axz aZx (aks aKc (pv 2) aq (fun _ _=>rfl)) (aks aKc (pv 2) aq (fun _ _=>rfl)))) (fun _ _ _ _ _=>pgc 0) pif0
    (fun _ _ _ _ _=>aks (ix_tK rfl) (pv 0) aq (fun _ _=>rfl))) bg)))),?_⟩
  refine ⟨_,rfl,p,dx,_,rfl,h1,aG,p,l,d,[a],[([0],M)],rfl,S,by show 1 < 60; decide,fun q hq=>by rw [A0.mp hq]; show 1 < 60; decide,fun v2 F2 H2 A2 ow2 sF2 hA2 sm2=>?_⟩;have rf:=ow2.rep sF2 (ajh (by simp)) (fun _ _=>rfl);rw [aQh] at rf;clear ow2 sF2 hA2;refine ⟨_,rfl,H2,[hM M,.int 6],_,aqs2.refl _,.cons rf (.cons (.int _) .nil),rfl,aql6 M1 M2,fun v3 F3 H3 e3 r3=>?_⟩;have s3:=sm2.trans e3.hh;cases r3 with
  | @tup t vs _ hT rr =>
  cases rr with
  | cons ra rr =>
  cases rr with
  | cons rb rr =>
  cases rr with
  | cons rc rr =>
  cases rr;clear ra;cases rb with
  | @lst z1 vs1 _ hq1 rr1 =>
  cases rc with
  | @lst z2 vs2 _ hq2 rr2 =>
  cases rr2;cases rr1 with
  | cons x rr1 =>
  cases rr1;cases x with
  | @tup tr vr _ hTr rrr =>
  cases rrr with
  | cons y rrr =>
  cases y;have hT3:=seqT e3.fh hT;have hTr3:=seqT e3.fh hTr;clear hT;refine ⟨_,rfl,p,dx,_,rfl,s3 _ _ h1,aG,_,rfl,t,_,_,_,rfl,rfl,hT3,rfl,_,rfl,t,_,_,_,rfl,rfl,hT3,rfl,z1,z2,_,_,rfl,rfl,aqqy e3.fh hq1,aqqy e3.fh hq2,by show 1 <= Ag; decide,fun q hq=>?_⟩;have sm4:aqs2 H3 (upd H3 q (.lst [.ref tr])):=gd hq;have hq4:(upd H3 q (.lst [.ref tr])) q=some (.lst [.ref tr]):=ac;rw [show ([V.ref tr]++[]:List V)=[.ref tr] from rfl];generalize upd H3 q (.lst [.ref tr])=H4 at sm4 hq4 ⊢;have s4:=s3.trans sm4;refine ⟨q,rfl,⟨_,SqL.of hq4⟩,aqha (ys:=[.int 0]) (SqL.of hq4) rfl (by show 1 < Ag; decide) (fun σ=>∃ c,σ=[c]) ⟨none,rfl⟩ (fun i x y σ' H' hx hy hS sm=>?_) fun z hz=>?_⟩
  ·obtain ⟨c,rfl⟩:=hS
   obtain ⟨rfl,rfl⟩:x=.ref tr/\y=.int 0:=by
    match i,hx,hy with
    | 0,hx,hy=>exact ⟨(Option.some.inj hx).symm,(Option.some.inj hy).symm⟩
   exact ⟨⟨_,rfl⟩,fun R h=>⟨_,rfl,tr,_,_,_,rfl,rfl,seqT (sm4.trans sm) hTr3,az9 (j:=0) rfl,h⟩⟩
  ·have smz:=gd (o:=.lst [.int 0]) hz
   have hz5:(upd H4 z (.lst [.int 0])) z=some (.lst [.int 0]):=ac;generalize upd H4 z (.lst [.int 0])=H5 at smz hz5 ⊢;have s5:=s4.trans smz;exact ⟨p,l,d,z,[a],[([0],M)],[0],rfl,S.keep s5,SqL.of hz5,fun k hk=>by rw [A0.mp hk]; exact ⟨by decide,by show (0:Int) < 1; decide⟩,by decide,fun r hr=>k r _ (s5.trans (gd hr)) ac⟩
end
abbrev aWp:Stmt:=top 56
structure OneX (K:Frag) (Cb Ct Cm Cn Cf Cs Cr c:Addr) (bt bm bn bf:Bool):Prop where
 hb:ExcH K c Cb
 i:ExcI K c
 kv:An K (.ref c) (.type "ValueError")=some true
 kt:An K (.ref c) (.ref Ct)=some bt
 km:An K (.ref c) (.ref Cm)=some bm
 kn:An K (.ref c) (.ref Cn)=some bn
 kf:An K (.ref c) (.ref Cf)=some bf
 ks:An K (.ref c) (.ref Cs)=some false
 kr:An K (.ref c) (.ref Cr)=some false
structure Kx (K:Frag) (mg:Str->Option Value) (Cb Ct Cm Cn Cf Cs Cr:Addr):Prop where
 mb:mg "BenchError"=some (.ref Cb)
 mv:mg "ValueError"=none
 ms:mg "NoShare"=some (.ref Cs)
 mr:mg "NoRow"=some (.ref Cr)
 zi:mg "isinstance"=none
 xt:OneX K Cb Ct Cm Cn Cf Cs Cr Ct true false false false
 xm:OneX K Cb Ct Cm Cn Cf Cs Cr Cm false true false false
 xn:OneX K Cb Ct Cm Cn Cf Cs Cr Cn false false true false
 xf:OneX K Cb Ct Cm Cn Cf Cs Cr Cf false false false true
def aqca (bt bm bn bf:Bool):List V:=[.bl true,.bl bt,.bl bm,.bl bn,.bl bf,.bl false,.bl false]
def tkd (bt bm bn bf:Bool):TS:=fun E σ H=>σ.length=6/\∀ t H' σ',aqs2 H H'->H' t=some (.lst (aqca bt bm bn bf))->σ'.length=σ.length->σ'[4]?=some (some (.ref t))->E.nx σ' H'
def ThK (Ct Cm Cn Cf c:Addr):TS:=fun E σ H=>(c=Ct->tkd true false false false E σ H)/\(c=Cm->tkd false true false false E σ H)/\(c=Cn->tkd false false true false E σ H)/\(c=Cf->tkd false false false true E σ H)
def Ref (w:Str) (v:Int) (xs st:List Str) (kv:aqs8) (x:Str):Prop:=(w="judge"/\x="NoName"/\¬ ∀ y∈xs,y∈st) \/ ((w="stand" \/ w="cast" \/ w="lift")/\(step w v xs st kv).1=.tup [.str x])
def aZ5 (x:Str):List V:=aqca (decide (x="Taken")) (decide (x="TooMany")) (decide (x="NoName")) (decide (x="TooFew"))
structure CallOk (C:Addr) (H:Hp) (p l d z:Addr) (w:Str) (xs st:List Str) (kv:aqs8):Prop where
 S:HallAt C H p l d st kv
 hz:H z=some (.lst (xs.map V.str))
 hs:w="stand"->xs ≠ []
 h6:st.length <= 6
 h9:xs.length <= 9
 h12:kv.length <= 12
 ok:∀ y∈st,aE y
 xok:∀ y∈xs,aE y
theorem aK1 {w:Str} {v:Int} {xs st:List Str} {kv:aqs8} {x:Str} (h:(step w v xs st kv).1=.tup [.str x]):(step w v xs st kv).2.1=st/\(step w v xs st kv).2.2=kv:=by
 unfold step at h ⊢;split at h
 ·rename_i c1
  rw [if_pos c1];split at h
  ·rename_i c2; rw [if_pos c2]; exact ⟨rfl,rfl⟩
  ·rename_i c2
   rw [if_neg c2];split at h
   ·rename_i c3; rw [if_pos c3]; exact ⟨rfl,rfl⟩
   ·cases h
 ·rename_i c1
  rw [if_neg c1];split at h
  ·rename_i c2
   rw [if_pos c2];split at h
   ·rename_i c3; rw [if_pos c3]; exact ⟨rfl,rfl⟩
   ·rename_i c3
    rw [if_neg c3];split at h
    ·rename_i c4; rw [if_pos c4]; exact ⟨rfl,rfl⟩
    ·cases h
  ·rename_i c2; rw [if_neg c2]; exact ⟨rfl,rfl⟩
theorem aj6 (v:Int) (x:Str) (st:List Str) (kv:aqs8):step "stand" v [x] st kv=(if x∈st then (.tup [.str "Taken"],st,kv) else if 6 <= st.length then (.tup [.str "TooMany"],st,kv) else (.non,st++[x],kv)):=by unfold step; rw [if_pos rfl]; rfl
theorem aQz {w:Str} {v:Int} {xs st:List Str} {kv:aqs8} (h:¬ w="stand") (hn:¬ ∀ y∈xs,y∈st):step w v xs st kv=(.tup [.str "NoName"],st,kv):=by unfold step; rw [if_neg h,if_neg hn]
theorem ajr {v:Int} {xs st:List Str} {kv:aqs8} (hall:∀ y∈xs,y∈st):step "cast" v xs st kv=(if 10 ^ 18 < wt kv (aqr9 st xs) + v \/ ((look kv (aqr9 st xs)).isSome=false/\12 <= kv.length) then (.tup [.str "TooMany"],st,kv) else (.non,st,lay kv (aqr9 st xs) (wt kv (aqr9 st xs) + v))):=by
 unfold step;rw [if_neg (by decide +kernel),if_pos hall,if_neg (fun z=>absurd z.1 (by decide +kernel)),if_neg (show ¬ ("cast":Str)="lift" by decide +kernel)]
 by_cases hc:10 ^ 18 < wt kv (aqr9 st xs) + v \/ ((look kv (aqr9 st xs)).isSome=false/\12 <= kv.length)
 ·rw [if_pos ⟨rfl,hc⟩,if_pos hc]
 ·rw [if_neg fun z=>hc z.2,if_neg hc]
theorem axh {v:Int} {xs st:List Str} {kv:aqs8} (hall:∀ y∈xs,y∈st):step "lift" v xs st kv=(if wt kv (aqr9 st xs) < v then (.tup [.str "TooFew"],st,kv) else (.non,st,lay kv (aqr9 st xs) (wt kv (aqr9 st xs) - v))):=by
 unfold step;rw [if_neg (by decide +kernel),if_pos hall,if_pos (show ("lift":Str)="lift" from rfl)]
 by_cases hc:wt kv (aqr9 st xs) < v
 ·rw [if_pos ⟨rfl,hc⟩,if_pos hc]
 ·rw [if_neg fun z=>hc z.2,if_neg hc,if_neg fun z=>absurd z.1 (by decide +kernel)]
def aqd5 (C:Addr):Sp:=fun vs H Q _=>∃ (p l d z:Addr) (w x:Str) (v:Int) (st xs:List Str) (kv:aqs8),vs=[.ref p,.str w,.int v,.ref z]/\CallOk C H p l d z w xs st kv/\Ref w v xs st kv x/\∀ t H',aqs2 H H'->H' t=some (.lst (aZ5 x))->Q (.ref t) H'
section
variable {P:Aj} {w:World} {K:Frag} {mg:Str->Option Value} {base:Heap} {C Ct Cm Cn Cf Cb Cs Cr:Addr}
theorem avr:FnScope ["hall","word","many","some","told","e"] ["hall","word","many","some"] (af aWp):=fsc
theorem aqfw {f fS fC fL fJ:Addr} {fd fdS fdC fdL fdJ:Ak} (F:Fun K "_law_kinds" "_law_kinds" aWp f fd) (T:Hx K mg C Ct Cm Cn Cf) (U:Kx K mg Cb Ct Cm Cn Cf Cs Cr) (GS:FnOk P w K mg base (CXm P w) 2 fS fdS ["self","name"] (aK7 C Ct Cm)) (bS:L2.Binds K fdS ["self","name"] []) (mS:Meth K C "stand" fS)
  (GC:FnOk P w K mg base (CXm P w) 3 fC fdC ["self","many","names"] (aqes C Cm Cn)) (bC:L2.Binds K fdC ["self","many","names"] []) (mC:Meth K C "cast" fC) (GL:FnOk P w K mg base (CXm P w) 3 fL fdL ["self","many","names"] (aqeq C Cf Cn)) (bL:L2.Binds K fdL ["self","many","names"] []) (mL:Meth K C "lift" fL)
  (GJ:FnOk P w K mg base (CXm P w) 5 fJ fdJ ["self","seats","names"] (aWa K C Cn)) (bJ:L2.Binds K fdJ ["self","seats","names"] []) (mJ:Meth K C "judge" fJ):FnOk P w K mg base CX0 6 f fd ["hall","word","many","some"] (aqd5 C):=by
 refine F.ok avr (k:=5) (fun vs H Q E h=>?_) (fun cdv A outer s H vs Q E hr h=>?_)
 ·obtain ⟨_,_,_,_,_,_,_,_,_,_,rfl,_⟩:=h
  rfl
 ·obtain ⟨p,l,d,z,wd,x,v,st,xs,kv,rfl,ok,rf,k⟩:=h
  have hr2:Room 2 _:=hm hr;have hr3:Room 3 _:=hm hr;refine ⟨_,ak (gp (i:=4) avr.nd rfl (.inl rfl) aV4)
   (ak (aWz (OK:=fun c=>c=Ct \/ c=Cm \/ c=Cn \/ c=Cf) (th:=fun c=>ThK Ct Cm Cn Cf c) ⟨rfl,rfl⟩
    (fun pins R okx=>el (ax8 (aW aKq (pv 1) ar (ax _)) (el (ajj (aqg (pv 0) T.cl mS GS hr2 bS .nil (ajw okx) (aa (aks (aqhs (K:=K) rfl) (pv 3) aq (fun _ _=>rfl)) bg))))
     (el (ax8 (aW aKq (pv 1) ar (ax _)) (el (ajj (aqg (pv 0) T.cl mC GC hr3 bC .nil (ajw okx) (aa (pv 2) (aa (pv 3) bg)))))
      (el (ax8 (aW aKq (pv 1) ar (ax _)) (el (ajj (aqg (pv 0) T.cl mJ GJ hr bJ .nil (ajw okx) (aa (pv 2) (aa (pv 3) bg)))))
       (el (ajj (aqg (pv 0) T.cl mL GL hr3 bL .nil (ajw okx) (aa (pv 2) (aa (pv 3) bg)))))))))))
    (fun c hc=>?_)) (el (aV (pv 4)))),?_⟩
  ·obtain ⟨bt,bm,bn,bf,Z,hth⟩:∃ bt bm bn bf,OneX K Cb Ct Cm Cn Cf Cs Cr c bt bm bn bf/\∀ (E:Ends) (σ:L2.St) (H:Hp),ThK Ct Cm Cn Cf c E σ H->tkd bt bm bn bf E σ H:=by
    rcases hc with rfl | rfl | rfl | rfl
    ·exact ⟨_,_,_,_,U.xt,fun _ _ _ h=>h.1 rfl⟩
    ·exact ⟨_,_,_,_,U.xm,fun _ _ _ h=>h.2.1 rfl⟩
    ·exact ⟨_,_,_,_,U.xn,fun _ _ _ h=>h.2.2.1 rfl⟩
    ·exact ⟨_,_,_,_,U.xf,fun _ _ _ h=>h.2.2.2 rfl⟩
   refine aW3 (aqfh (i:=5) Z.hb rfl U.mb avr.nd rfl rfl (fun a oe hx =>
    ak (gp (i:=4) avr.nd rfl (.inl rfl) (aF (aa (aqe (ax5 (a:=a) (oe:=oe) rfl (.head _) hx Z.i) rfl U.zi aP (aa (pv 5) (aa (aqix rfl U.mv (by decide +kernel) (v:=.ty "ValueError") rfl) bg)))
     (aa (aqe (ax5 (a:=a) (oe:=oe) rfl (.head _) hx Z.i) rfl U.zi aP (aa (pv 5) (aa (aV3 rfl T.mt) bg)))
     (aa (aqe (ax5 (a:=a) (oe:=oe) rfl (.head _) hx Z.i) rfl U.zi aP (aa (pv 5) (aa (aV3 rfl T.mm) bg)))
     (aa (aqe (ax5 (a:=a) (oe:=oe) rfl (.head _) hx Z.i) rfl U.zi aP (aa (pv 5) (aa (aV3 rfl T.mn) bg))) bg))))))
    (el (gp (i:=4) avr.nd rfl (.inl rfl) (axz aqmn (pv 4) (aF (aa (aqe (ax5 (a:=a) (oe:=oe) rfl (.head _) hx Z.i) rfl U.zi aP (aa (pv 5) (aa (aV3 rfl T.mf) bg)))
     (aa (aqe (ax5 (a:=a) (oe:=oe) rfl (.head _) hx Z.i) rfl U.zi aP (aa (pv 5) (aa (aV3 rfl U.ms) bg)))
     (aa (aqe (ax5 (a:=a) (oe:=oe) rfl (.head _) hx Z.i) rfl U.zi aP (aa (pv 5) (aa (aV3 rfl U.mr) bg))) bg))))))))) fun E σ H1 h=>?_
   intro a;have h':=hth _ _ _ h;obtain ⟨hl,h'⟩:=h'
   ·obtain ⟨x0,x1,x2,x3,x4,x5,rfl⟩:∃ x0 x1 x2 x3 x4 x5,σ=[x0,x1,x2,x3,x4,x5]:=by
     match σ,hl with
     | [x0,x1,x2,x3,x4,x5],_=>exact ⟨_,_,_,_,_,_,rfl⟩
    refine ⟨_,rfl,_,_,_,rfl,fun u h=>h,Z.kv,?_⟩;refine ⟨_,rfl,_,_,_,rfl,fun u h=>h,Z.kt,?_⟩;refine ⟨_,rfl,_,_,_,rfl,fun u h=>h,Z.km,?_⟩;refine ⟨_,rfl,_,_,_,rfl,fun u h=>h,Z.kn,?_⟩;refine ⟨by show 4 <= Ag; decide,fun p1 n1=>?_⟩;refine ⟨_,rfl,?_⟩;refine ⟨_,rfl,_,_,_,rfl,fun u h=>h,Z.kf,?_⟩;refine ⟨_,rfl,_,_,_,rfl,fun u h=>h,Z.ks,?_⟩;refine ⟨_,rfl,_,_,_,rfl,fun u h=>h,Z.kr,?_⟩;refine ⟨by show 3 <= Ag; decide,fun p2 n2=>?_⟩;refine ⟨p1,p2,[.bl true,.bl bt,.bl bm,.bl bn],[.bl bf,.bl false,.bl false],rfl,rfl,by rw [ah (ae ac n2)]; exact ac,ac,by show 7 <= Ag; decide,fun p3 n3=>?_⟩;exact h' p3 _ _ ((gd n1).trans ((gd n2).trans (gd n3))) ac rfl rfl
  ·have ntm:Ct ≠ Cm:=avb T.tT T.mT
   have ntn:Ct ≠ Cn:=avb T.tT T.nT;have ntf:Ct ≠ Cf:=avb T.tT T.fT;have nmn:Cm ≠ Cn:=avb T.mM T.nM;have nmf:Cm ≠ Cf:=avb T.mM T.fM;have nnf:Cn ≠ Cf:=avb T.nN T.fN;obtain ⟨S,hz,hs,h6,h9,h12,hok,hxs⟩:=ok;obtain ⟨⟨dx,h1⟩,h2,h3⟩:=id S;have fin:∀ (bt bm bn bf:Bool) (H1:Hp) (σ:L2.St),aZ5 x=aqca bt bm bn bf->aqs2 H H1->σ.length=6->tkd bt bm bn bf { nx:=fun σ H=>∃ v,σ[4]?=some (some v)/\Q v H,rt:=Q } σ H1:=fun bt bm bn bf H1 σ e sm h6=>⟨h6,fun t H' σ' sm' ht _ h4=>⟨_,h4,k _ _ (sm.trans sm') (by rw [e]; exact ht)⟩⟩;have et:x="Taken"->aZ5 x=aqca true false false false:=fun e=>by subst e; decide +kernel
   have em:x="TooMany"->aZ5 x=aqca false true false false:=fun e=>by subst e; decide +kernel
   have en:x="NoName"->aZ5 x=aqca false false true false:=fun e=>by subst e; decide +kernel
   have ef:x="TooFew"->aZ5 x=aqca false false false true:=fun e=>by subst e; decide +kernel
   have alle:∀ (c:Addr) (bt bm bn bf:Bool) (H1:Hp) (σ':L2.St),σ'.length=6->aZ5 x=aqca bt bm bn bf->aqs2 H H1->(c=Ct->bt=true/\bm=false/\bn=false/\bf=false)->(c=Cm->bt=false/\bm=true/\bn=false/\bf=false)->(c=Cn->bt=false/\bm=false/\bn=true/\bf=false)->(c=Cf->bt=false/\bm=false/\bn=false/\bf=true)->ThK Ct Cm Cn Cf c { nx:=fun σ H=>∃ v,σ[4]?=some (some v)/\Q v H,rt:=Q } σ' H1:=fun c bt bm bn bf H1 σ' l6 e sm a1 a2 a3 a4=>⟨fun h=>by obtain ⟨rfl,rfl,rfl,rfl⟩:=a1 h; exact fin _ _ _ _ H1 σ' e sm l6,fun h=>by obtain ⟨rfl,rfl,rfl,rfl⟩:=a2 h; exact fin _ _ _ _ H1 σ' e sm l6,fun h=>by obtain ⟨rfl,rfl,rfl,rfl⟩:=a3 h; exact fin _ _ _ _ H1 σ' e sm l6,fun h=>by obtain ⟨rfl,rfl,rfl,rfl⟩:=a4 h; exact fin _ _ _ _ H1 σ' e sm l6⟩;have gT:∀ H1,x="Taken"->aqs2 H H1->∀ σ':L2.St,σ'.length=6->ThK Ct Cm Cn Cf Ct { nx:=fun σ H=>∃ v,σ[4]?=some (some v)/\Q v H,rt:=Q } σ' H1:=fun H1 e sm σ' l6=>alle Ct _ _ _ _ H1 σ' l6 (et e) sm (fun _=>⟨rfl,rfl,rfl,rfl⟩) (fun e=>absurd e ntm) (fun e=>absurd e ntn) (fun e=>absurd e ntf);have gM:∀ H1,x="TooMany"->aqs2 H H1->∀ σ':L2.St,σ'.length=6->ThK Ct Cm Cn Cf Cm { nx:=fun σ H=>∃ v,σ[4]?=some (some v)/\Q v H,rt:=Q } σ' H1:=fun H1 e sm σ' l6=>alle Cm _ _ _ _ H1 σ' l6 (em e) sm (fun e=>absurd e.symm ntm) (fun _=>⟨rfl,rfl,rfl,rfl⟩) (fun e=>absurd e nmn) (fun e=>absurd e nmf);have gN:∀ H1,x="NoName"->aqs2 H H1->∀ σ':L2.St,σ'.length=6->ThK Ct Cm Cn Cf Cn { nx:=fun σ H=>∃ v,σ[4]?=some (some v)/\Q v H,rt:=Q } σ' H1:=fun H1 e sm σ' l6=>alle Cn _ _ _ _ H1 σ' l6 (en e) sm (fun e=>absurd e.symm ntn) (fun e=>absurd e.symm nmn) (fun _=>⟨rfl,rfl,rfl,rfl⟩) (fun e=>absurd e nnf);have gF:∀ H1,x="TooFew"->aqs2 H H1->∀ σ':L2.St,σ'.length=6->ThK Ct Cm Cn Cf Cf { nx:=fun σ H=>∃ v,σ[4]?=some (some v)/\Q v H,rt:=Q } σ' H1:=fun H1 e sm σ' l6=>alle Cf _ _ _ _ H1 σ' l6 (ef e) sm (fun e=>absurd e.symm ntf) (fun e=>absurd e.symm nmf) (fun e=>absurd e.symm nnf) (fun _=>⟨rfl,rfl,rfl,rfl⟩);have str:∀ {y:Str},(D.tup [.str y])=.tup [.str x]->x=y:=fun e=>by injection e with e; injection e with e _; injection e with e; exact e.symm
   have n1:¬ V.str "judge"=V.str "stand"/\¬ V.str "judge"=V.str "cast"/\¬ V.str "cast"=V.str "stand"/\¬ V.str "lift"=V.str "stand"/\¬ V.str "lift"=V.str "cast"/\¬ V.str "lift"=V.str "judge":=by decide +kernel
   rcases rf with ⟨rfl,hx,hn⟩ | ⟨hw,hx⟩
   ·refine ⟨_,rfl,rfl,_,rfl,?_⟩
    rw [decide_eq_false n1.1];refine aqrc ?_;refine ⟨_,rfl,rfl,_,rfl,?_⟩;rw [decide_eq_false n1.2.1];refine aqrc ?_;refine ⟨_,rfl,rfl,_,rfl,?_⟩;refine aqrb ?_;exact ⟨_,rfl,p,dx,_,rfl,h1,aG,_,rfl,_,rfl,p,l,d,z,st,kv,xs,v,rfl,S,hz,h6,h9,hok,hxs,fun _ H1 sm=>⟨Cn,rfl,.inr (.inr (.inl rfl)),fun σ' hσ=>gN H1 hx sm σ' hσ⟩,fun h=>absurd h hn⟩
   ·rcases hw with rfl | rfl | rfl
    ·obtain ⟨y,aqr2,rfl⟩:∃ y aqr2,xs=y :: aqr2:=by
      cases xs with
      | nil=>exact absurd rfl (hs rfl)
      | cons a l=>exact ⟨a,l,rfl⟩
     have e0:step "stand" v (y :: aqr2) st kv=(if y∈st then (.tup [.str "Taken"],st,kv) else if 6 <= st.length then (.tup [.str "TooMany"],st,kv) else (.non,st++[y],kv)):=by unfold step; rw [if_pos rfl]; rfl
     rw [e0] at hx;refine ⟨_,rfl,rfl,_,rfl,?_⟩;refine aqrb ?_;refine ⟨_,rfl,p,dx,_,rfl,h1,aG,_,rfl,z,_,_,_,rfl,rfl,SqL.of hz,az9 (j:=0) rfl,p,l,d,st,kv,y,rfl,S,h6,hxs y (by simp),hok,fun hin=>?_,fun hin h6'=>?_,fun hin h6'=>?_⟩
     ·rw [if_pos hin] at hx
      exact ⟨Ct,rfl,.inl rfl,fun σ' hσ=>gT H (str hx) (aqs2.refl _) σ' hσ⟩
     ·rw [if_neg hin,if_pos h6'] at hx
      exact ⟨Cm,rfl,.inr (.inl rfl),fun σ' hσ=>gM H (str hx) (aqs2.refl _) σ' hσ⟩
     ·rw [if_neg hin,if_neg (by omega)] at hx
      cases hx
    ·refine ⟨_,rfl,rfl,_,rfl,?_⟩
     rw [decide_eq_false n1.2.2.1];refine aqrc ?_;refine ⟨_,rfl,rfl,_,rfl,?_⟩;refine aqrb ?_;refine ⟨_,rfl,p,dx,_,rfl,h1,aG,_,rfl,_,rfl,p,l,d,z,st,kv,xs,v,rfl,S,hz,h6,h9,h12,hok,hxs,fun hn H1 sm1=>?_,fun hall hc H1 sm1=>?_,fun hall hc H1 keep hd1=>?_⟩
     ·rw [aQz (by decide +kernel) hn] at hx
      exact ⟨Cn,rfl,.inr (.inr (.inl rfl)),fun σ' hσ=>gN H1 (str hx) sm1 σ' hσ⟩
     ·rw [ajr hall,if_pos (hc.elim .inr .inl)] at hx
      exact ⟨Cm,rfl,.inr (.inl rfl),fun σ' hσ=>gM H1 (str hx) sm1 σ' hσ⟩
     ·rw [ajr hall,if_neg (fun z=>hc (z.elim .inr .inl))] at hx
      cases hx
    ·refine ⟨_,rfl,rfl,_,rfl,?_⟩
     rw [decide_eq_false n1.2.2.2.1];refine aqrc ?_;refine ⟨_,rfl,rfl,_,rfl,?_⟩;rw [decide_eq_false n1.2.2.2.2.1];refine aqrc ?_;refine ⟨_,rfl,rfl,_,rfl,?_⟩;rw [decide_eq_false n1.2.2.2.2.2];refine aqrc ?_;refine ⟨_,rfl,p,dx,_,rfl,h1,aG,_,rfl,_,rfl,p,l,d,z,st,kv,xs,v,rfl,S,hz,h6,h9,h12,hok,hxs,fun hn H1 sm1=>?_,fun hall hc H1 sm1=>?_,fun hall hc H1 keep hd1=>?_⟩
     ·rw [aQz (by decide +kernel) hn] at hx
      exact ⟨Cn,rfl,.inr (.inr (.inl rfl)),fun σ' hσ=>gN H1 (str hx) sm1 σ' hσ⟩
     ·rw [axh hall,if_pos hc] at hx
      exact ⟨Cf,rfl,.inr (.inr (.inr rfl)),fun σ' hσ=>gF H1 (str hx) sm1 σ' hσ⟩
     ·rw [axh hall,if_neg hc] at hx
      cases hx
end
abbrev awy:Stmt:=top 57
abbrev aqf4:Stmt:=top 58
def Four (x:Str):Prop:=x="Taken" \/ x="TooMany" \/ x="NoName" \/ x="TooFew"
def awo (C:Addr):Sp:=fun vs H Q _=>∃ (p l d z:Addr) (w x:Str) (v:Int) (st xs:List Str) (kv:aqs8),vs=[.ref p,.str w,.int v,.ref z,.str x]/\CallOk C H p l d z w xs st kv/\Ref w v xs st kv x/\Four x/\∀ H',aqs2 H H'->Q (.bl true) H'
def aqer (C:Addr):Sp:=fun vs H Q _=>∃ (p l d z:Addr) (w:Str) (v:Int) (st xs:List Str) (kv:aqs8),vs=[.ref p,.str w,.int v,.ref z]/\(w="stand" \/ w="cast" \/ w="lift")/\CallOk C H p l d z w xs st kv/\(step w v xs st kv).1=.non /\
 ∀ H',(∀ b o,H b=some o->b ≠ l->b ≠ d->H' b=some o)->HallAt C H' p l d (step w v xs st kv).2.1 (step w v xs st kv).2.2->Q (.bl true) H'
theorem aqih {C:Addr} {H H':Hp} {p l d:Addr} {st:List Str} {kv:aqs8} (S:HallAt C H p l d st kv) (k:∀ b o,H b=some o->b ≠ l->b ≠ d->H' b=some o) (hl:H' l=some (.lst (st.map V.str))) (hd:H' d=some (.dT (kd kv))):aqs2 H H':=fun b o hb=>by
 by_cases e1:b=l
 ·subst e1; rw [S.st] at hb; rw [hl]; exact hb
 ·by_cases e2:b=d
  ·subst e2; rw [S.ba] at hb; rw [hd]; exact hb
  ·exact k b o hb e1 e2
section
variable {P:Aj} {w:World} {K:Frag} {mg:Str->Option Value} {base:Heap} {C Ct Cm Cn Cf:Addr}
theorem aQ2:FnScope ["hall","word","many","some","due","wanted"] ["hall","word","many","some","due"] (af awy):=fsc
theorem aYk {f:Addr} {fd:Ak} (F:Fun K "_law_refused" "_law_refused" awy f fd) (Gd:Fn P w K mg base 4 "_law_did" ["hall","word","many","some"] (spDid K C)) (Gk:Fn P w K mg base 6 "_law_kinds" ["hall","word","many","some"] (aqd5 C)):FnOk P w K mg base CX0 7 f fd ["hall","word","many","some","due"] (awo C):=by
 obtain ⟨fd_,fdd,okd,md,kd_,bd⟩:=Gd;obtain ⟨fk,fdk,okk,mk,kk,bk⟩:=Gk;refine F.ok aQ2 (k:=6) (fun vs H Q E h=>?_) (fun cdv A outer s H vs Q E hr h=>?_)
 ·obtain ⟨_,_,_,_,_,_,_,_,_,_,rfl,_⟩:=h
  rfl
 ·obtain ⟨p,l,d,z,wd,x,v,st,xs,kv,rfl,ok,rf,x4,k⟩:=h
  have hr4:Room 4 _:=hm hr;refine ⟨_,ak (ax8 (PW.pt (aqin (aW op_ne (pv 1) ar (ax _)) (aqdg (aW (aYg hr.units) (au okd hr4 rfl md kd_ bd .nil aqt (aa (pv 0) (aa (pv 1) (aa (pv 2) (aa (pv 3) bg))))) (azc (aa (pv 4) bg)) (ax _))))) (el (aV ak7)) aL)
   (PSs.imp (t':=fun E σ H'=>∃ c5,σ=[some (.ref p),some (.str wd),some (.int v),some (.ref z),some (.str x),c5]/\aqs2 H H'/\E.rt=Q) (ak (gp (i:=5) aQ2.nd rfl (.inl rfl) (aF (aa ak7 (aa (aj3 aKq (pv 4) ar (ax _)) (aa (aj3 aKq (pv 4) ar (ax _)) (aa (aj3 aKq (pv 4) ar (ax _)) (aa (aj3 aKq (pv 4) ar (ax _)) (aa ak7 (aa ak7 bg)))))))))
   (el (aV (aj3 (aw8 hr.units) (au okk hr rfl mk kk bk .nil aqt (aa (pv 0) (aa (pv 1) (aa (pv 2) (aa (pv 3) bg))))) (pv 5) (ax _))))) fun E σ H1 ht=>?_),?_⟩
  ·obtain ⟨c5,rfl,sm,eq⟩:=ht
   refine ⟨_,rfl,rfl,_,rfl,rfl,_,rfl,rfl,_,rfl,rfl,by show 7 <= Ag; decide,fun t ht=>?_⟩;have s1:=gd (o:=.lst (aZ5 x)) ht;have ht1:(upd H1 t (.lst (aZ5 x))) t=some (.lst (aZ5 x)):=ac;have ek:aZ5 x=[.bl true,.bl (decide (V.str x=V.str "Taken")),.bl (decide (V.str x=V.str "TooMany")),.bl (decide (V.str x=V.str "NoName")),.bl (decide (V.str x=V.str "TooFew")),.bl false,.bl false]:=by
    unfold aZ5 aqca
    simp
   rw [<- ek];generalize upd H1 t (.lst (aZ5 x))=H2 at s1 ht1 ⊢;have s2:=sm.trans s1;refine ⟨_,rfl,_,rfl,_,rfl,_,rfl,p,l,d,z,wd,x,v,st,xs,kv,rfl,⟨ok.S.keep s2,s2 _ _ ok.hz,ok.hs,ok.h6,ok.h9,ok.h12,ok.ok,ok.xok⟩,rf,fun t3 H3 s3 ht3=>?_⟩;have rp:∀ F:Hp,Reps K F (aZ5 x) [.bl true,.bl (decide (x="Taken")),.bl (decide (x="TooMany")),.bl (decide (x="NoName")),.bl (decide (x="TooFew")),.bl false,.bl false]:=fun F=>.cons (.bl _) (.cons (.bl _) (.cons (.bl _) (.cons (.bl _) (.cons (.bl _) (.cons (.bl _) (.cons (.bl _) .nil))))));refine ⟨_,rfl,H3,_,_,aqs2.refl _,.lst (.inl (.inl ht3)) (rp _),.lst (.inl (.inl (s3 _ _ ht1))) (rp _),rfl,rfl,?_⟩;simp only [Aw,if_false];rw [ajz (n:=20) rfl,eq];exact k _ (s2.trans s3)
  ·rcases id rf with ⟨rfl,_,_⟩ | ⟨hw,hx⟩
   ·refine ⟨_,rfl,rfl,_,rfl,?_⟩
    rw [decide_eq_true rfl];refine aqrc ?_;refine aqrc ?_;exact ⟨_,rfl,aqs2.refl _,rfl⟩
   ·refine ⟨_,rfl,rfl,_,rfl,?_⟩
    rw [decide_eq_false (show ¬ V.str wd=V.str "judge" by rcases hw with rfl | rfl | rfl <;> decide +kernel)];refine aqrb ?_;refine ⟨_,rfl,_,rfl,_,rfl,_,rfl,p,l,d,z,wd,v,st,xs,kv,rfl,hw,ok.hs,ok.S,ok.hz,ok.h6,ok.h9,ok.h12,ok.ok,ok.xok,fun r H1 rep kp hl hd=>?_⟩;obtain ⟨e1,e2⟩:=aK1 hx;rw [e1] at hl;rw [e2] at hd;have sm:=aqih ok.S kp hl hd;have shx:=aqeo wd v xs st kv;rw [hx] at rep shx;refine ⟨_,rfl,by show 1 <= Ag; decide,fun t ht=>?_⟩;have s1:=gd (o:=.tup [.str x]) ht;refine ⟨_,_,_,aqs2.refl _,(aqv s1).1 rep,axy ac,shx,shx,_,rfl,iteNe (ajz shx) ?_⟩;exact ⟨_,rfl,sm.trans s1,rfl⟩
theorem aqig:FnScope ["hall","word","many","some"] ["hall","word","many","some"] (af aqf4):=fsc
theorem aqjd {f:Addr} {fd:Ak} (F:Fun K "_law_done" "_law_done" aqf4 f fd) (Gd:Fn P w K mg base 4 "_law_did" ["hall","word","many","some"] (spDid K C)):FnOk P w K mg base CX0 5 f fd ["hall","word","many","some"] (aqer C):=by
 obtain ⟨fd_,fdd,okd,md,kd_,bd⟩:=Gd;refine F.ok aqig (k:=4) (fun vs H Q E h=>?_) (fun cdv A outer s H vs Q E hr h=>?_)
 ·obtain ⟨_,_,_,_,_,_,_,_,_,rfl,_⟩:=h
  rfl
 ·obtain ⟨p,l,d,z,wd,v,st,xs,kv,rfl,hw,ok,hx,k⟩:=h
  refine ⟨_,el (aV (aj3 aqj3 (au okd hr rfl md kd_ bd .nil aqt (aa (pv 0) (aa (pv 1) (aa (pv 2) (aa (pv 3) bg))))) aV4 (ax _))),?_⟩;refine ⟨_,rfl,_,rfl,_,rfl,_,rfl,p,l,d,z,wd,v,st,xs,kv,rfl,hw,ok.hs,ok.S,ok.hz,ok.h6,ok.h9,ok.h12,ok.ok,ok.xok,fun r H1 rep kp hl hd=>?_⟩;rw [hx] at rep;cases rep;refine ⟨rfl,?_⟩;rw [decide_eq_true rfl];obtain ⟨⟨dx,h1⟩,h2,h3⟩:=id ok.S;exact k _ kp ⟨⟨dx,kp _ _ h1 (az1 h1 h2 nofun) (az1 h1 h3 nofun)⟩,hl,hd⟩
end
abbrev aWr:Stmt:=top 59
theorem aqdm {P:Aj} {w:World} {X:Cx}:aky (CXm P w) X (fun _ _ _=>False):=by
 rintro pins σ H s e s' I ⟨C,H1,h,_⟩;exact h.elim
def Kp (l d:Addr) (H H':Hp):Prop:=∀ b o,H b=some o->b ≠ l->b ≠ d->H' b=some o
theorem Kp.of {l d:Addr} {H H':Hp} (s:aqs2 H H'):Kp l d H H':=fun b o h _ _=>s b o h
theorem Kp.trans {l d:Addr} {H H1 H2:Hp} (s:Kp l d H H1) (t:Kp l d H1 H2):Kp l d H H2:=fun b o h h1 h2=>t b o (s b o h h1 h2) h1 h2
theorem ay {C:Addr} {H:Hp} {p l d z:Addr} {st:List Str} {kv:aqs8} (S:HallAt C H p l d st kv) (hz:H z=none) {w:Str} {xs:List Str} (h6:st.length <= 6) (h12:kv.length <= 12) (ok:∀ y∈st,aE y) (xok:∀ y∈xs,aE y) (h9:xs.length <= 9) (hs:w="stand"->xs ≠ []):CallOk C (upd H z (.lst (xs.map V.str))) p l d z w xs st kv :=
 ⟨S.keep (gd hz),ac,hs,h6,h9,h12,ok,xok⟩
theorem aqho (a:Str):aqr9 [a] [a]=[0]:=by unfold aqr9; simp
theorem all1 (a:Str):∀ y∈([a]:List Str),y∈([a]:List Str):=fun _ h=>h
theorem lay1 (kv:aqs8) (m v:Int) (hv:v ≠ 0) (h:kv=[] \/ kv=[([0],m)]):lay kv [0] v=[([0],v)]:=by
 unfold lay put look;rcases h with rfl | rfl <;> simp [hv]
theorem lay0 (m:Int):lay [([0],m)] [0] 0=[]:=by
 unfold lay drop
 simp
theorem wt1 (m:Int):wt [([0],m)] [0]=m:=by unfold wt look; simp
theorem wt0:wt [] [0]=0:=rfl
section
variable (a:Str) {m v:Int}
theorem aZk:step "stand" v [a] [] []=(.non,[a],[]):=by rw [aj6]; simp
theorem aqbc (kv:aqs8):step "stand" v [a] [a] kv=(.tup [.str "Taken"],[a],kv):=by rw [aj6]; simp
theorem aK6 (h1:1 <= m) (h2:m <= 10 ^ 18):step "cast" m [a] [a] []=(.non,[a],[([0],m)]):=by
 rw [ajr (all1 a),aqho,wt0,if_neg (by rintro (h | h); omega; exact absurd h.2 (by decide)),F8,lay1 [] m m (by omega) (.inl rfl)]
theorem aK5 (h1:1 <= m + v) (h2:m + v <= 10 ^ 18):step "cast" v [a] [a] [([0],m)]=(.non,[a],[([0],m + v)]):=by
 rw [ajr (all1 a),aqho,wt1,if_neg (by rintro (h | h); omega; exact absurd h.2 (by show ¬ 12 <= 1; decide)),lay1 _ m _ (by omega) (.inr rfl)]
theorem aqep (h:10 ^ 18 < m + v):step "cast" v [a] [a] [([0],m)]=(.tup [.str "TooMany"],[a],[([0],m)]):=by
 rw [ajr (all1 a),aqho,wt1,if_pos (.inl h)]
theorem aK3 (h:v < m):step "lift" v [a] [a] [([0],m)]=(.non,[a],[([0],m - v)]):=by
 rw [axh (all1 a),aqho,wt1,if_neg (by omega),lay1 _ m _ (by omega) (.inr rfl)]
theorem aK4:step "lift" m [a] [a] [([0],m)]=(.non,[a],[]):=by
 rw [axh (all1 a),aqho,wt1,if_neg (by omega),M0,lay0]
theorem aK2 {kv:aqs8} (h:wt kv [0] < v):step "lift" v [a] [a] kv=(.tup [.str "TooFew"],[a],kv):=by
 rw [axh (all1 a),aqho,if_pos h]
end
def aqd6 (C:Addr):Sp:=fun vs H Q _=>∃ (p l d n:Addr) (a b c:Str) (aqr2:List Str) (m:Int),vs=[.ref p,.ref n,.int m]/\HallAt C H p l d [] []/\H n=some (.lst ((a :: b :: c :: aqr2).map V.str))/\aE a/\aE b/\a ≠ b/\2 <= m/\m < 1000000000000000000/\∀ H',Kp l d H H'->HallAt C H' p l d [a] []->Q (.bl true) H'
section
variable {P:Aj} {w:World} {K:Frag} {mg:Str->Option Value} {base:Heap} {C Ct Cm Cn Cf:Addr}
theorem awu:FnScope ["hall","names","many","a","b","c"] ["hall","names","many"] (af aWr):=fsc
set_option maxHeartbeats 8000000 in
theorem aqfz {f fH fB fJ:Addr} {fd fdH fdB fdJ:Ak} (F:Fun K "_law_first" "_law_first" aWr f fd) (T:Hx K mg C Ct Cm Cn Cf) (Gr:Fn P w K mg base 7 "_law_refused" ["hall","word","many","some","due"] (awo C)) (Gd:Fn P w K mg base 5 "_law_done" ["hall","word","many","some"] (aqer C))
  (GH:FnOk P w K mg base CX0 3 fH fdH ["self"] (aWb K C)) (bH:L2.Binds K fdH ["self"] []) (mH:Meth K C "heap" fH) (GB:FnOk P w K mg base CX0 8 fB fdB ["self","seats"] (aqd7 C)) (bB:L2.Binds K fdB ["self","seats"] []) (mB:Meth K C "bench_of" fB)
  (GJ:FnOk P w K mg base (CXm P w) 5 fJ fdJ ["self","seats","names"] (aWa K C Cn)) (bJ:L2.Binds K fdJ ["self","seats","names"] []) (mJ:Meth K C "judge" fJ):FnOk P w K mg base CX0 9 f fd ["hall","names","many"] (aqd6 C):=by
 obtain ⟨fr,fdr,okr,mr,kr,br⟩:=Gr;obtain ⟨fd_,fdd,okd,md,kd_,bd⟩:=Gd;refine F.ok awu (k:=8) (fun vs H Q E h=>?_) (fun cdv A outer s H vs Q E hr h=>?_)
 ·obtain ⟨_,_,_,_,_,_,_,_,_,rfl,_⟩:=h
  rfl
 ·obtain ⟨p,l,d,n,a,b,c,aqr2,m,rfl,S,hn,na,nb,nab,m2,m18,k⟩:=h
  have hr3:Room 3 _:=hm hr;have hr5:Room 5 _:=hm hr;have hr7:Room 7 _:=hm hr;have hA:∀ y∈[a],aE y:=fun y h=>by rw [A0.mp h]; exact na
  have hB:∀ y∈[b],aE y:=fun y h=>by rw [A0.mp h]; exact nb
  have hAB:∀ y∈[a,b],aE y:=fun y h=>by rcases Ao.mp h with rfl | h; exact na; exact hB y h
  have h0:∀ y∈([]:List Str),aE y:=fun y h=>by cases h
  refine ⟨_,ak (aqir (aw6 aWe (pv 1) aQ7 (ak2 aq)) (aqiu rfl (aqw (aqc (i:=3) awu.nd rfl (.inl rfl)) (aqw (aqc (i:=4) awu.nd rfl (.inl rfl)) (aqw (aqc (i:=5) awu.nd rfl (.inl rfl)) ak4)))))
   (ak (ax8 (PW.pt (aqb2 (aq2 (aq1 (au okr hr7 rfl mr kr br .nil aqt (aa (pv 0) (aa ar (aa (pv 2) (aa (aF (aa (pv 3) bg)) (aa ar bg)))))))) (aw2 (aq2 (aq1 (au okr hr7 rfl mr kr br .nil aqt (aa (pv 0) (aa ar (aa (aq) (aa (aF (aa (pv 3) bg)) (aa ar bg))))))))))) (el (aV ak7)) aL)
   (ak (ax8 (PW.pt (aqb2 (aq2 (aq1 (au okd hr5 rfl md kd_ bd .nil aqt (aa (pv 0) (aa ar (aa (aq) (aa (aF (aa (pv 3) bg)) bg))))))) (aw2 (aq2 (aq1 (au okr hr7 rfl mr kr br .nil aqt (aa (pv 0) (aa ar (aa (aq) (aa (aF (aa (pv 3) bg)) (aa ar bg))))))))))) (el (aV ak7)) aL)
   (ak (ax8 (PW.pt (aqb2 (aq2 (aq1 (au okr hr7 rfl mr kr br .nil aqt (aa (pv 0) (aa ar (aa (pv 2) (aa (aF (aa (pv 3) bg)) (aa ar bg)))))))) (aw2 (aq2 (aq1 (au okr hr7 rfl mr kr br .nil aqt (aa (pv 0) (aa ar (aa (pv 2) (aa (aF (aa (pv 3) (aa (pv 4) bg))) (aa ar bg))))))))))) (el (aV ak7)) aL)
   (ak (ax8 (PW.pt (aqb2 (aq2 (aq1 (au okd hr5 rfl md kd_ bd .nil aqt (aa (pv 0) (aa ar (aa (pv 2) (aa (aF (aa (pv 3) bg)) bg))))))) (aw2 (aq2 (aq1 (au okr hr7 rfl mr kr br .nil aqt (aa (pv 0) (aa ar (aa (axz aw9 (pv 2) aq) (aa (aF (aa (pv 3) bg)) (aa ar bg))))))))))) (el (aV ak7)) aL)
   (ak (ax8 (PW.pt (aqb2 (aW (aYg hr.units) (ax0 (pv 0) T.cl mH GH hr3 bH .nil aqt) (aF (aa (azc (aa (pv 2) (aa (aF (aa aq bg)) bg))) bg)) (ax _)) (aqb2 (aW (aYg hr.units) (aqg (pv 0) T.cl mB GB hr bB .nil aqt (aa aq bg)) (aF (aa (pv 3) bg)) (ax _)) (aw2 (aW aZv (aqg (pv 0) T.cl mJ GJ hr5 bJ .nil aqdm (aa aq (aa (aF (aa (pv 3) bg)) bg))) aV4 (ax _)))))) (el (aV ak7)) aL)
   (ak (ax8 (PW.pt (aqb2 (aW (aYg hr.units) (aqg (pv 0) T.cl mJ GJ hr5 bJ .nil aqdm (aa aq (aa (aF bg) bg))) (azc (aa (aF (aa (pv 3) bg)) (aa (aF (aa (aF (aa (pv 3) bg)) bg)) bg))) (ax _)) (aw2 (aq2 (aq1 (au okr hr7 rfl mr kr br .nil aqt (aa (pv 0) (aa ar (aa (aq) (aa (aF (aa (pv 4) bg)) (aa ar bg))))))))))) (el (aV ak7)) aL)
   (ak (ax8 (aq2 (aq1 (au okr hr7 rfl mr kr br .nil aqt (aa (pv 0) (aa ar (aa (axz aw7 (axz aw9 (axz aYf aq aq) aq) (pv 2)) (aa (aF (aa (pv 3) bg)) (aa ar bg)))))))) (el (aV ak7)) aL)
   (ak (ax8 (PW.pt (aqb2 (aq2 (aq1 (au okd hr5 rfl md kd_ bd .nil aqt (aa (pv 0) (aa ar (aa (axz aw7 (pv 2) aq) (aa (aF (aa (pv 3) bg)) bg))))))) (aw2 (aq2 (aq1 (au okd hr5 rfl md kd_ bd .nil aqt (aa (pv 0) (aa ar (aa (axz aw7 (axz aYf aq aq) aq) (aa (aF (aa (pv 3) bg)) bg)))))))))) (el (aV ak7)) aL)
   (el (aV (aW6 (aj3 (aw8 hr.units) (ax0 (pv 0) T.cl mH GH hr3 bH .nil aqt) (aF (aa (azc (aa (axz aYf aq aq) (aa (aF (aa aq bg)) bg))) bg)) (ax _)) (aW6 (au okd hr5 rfl md kd_ bd .nil aqt (aa (pv 0) (aa ar (aa (axz aYf aq aq) (aa (aF (aa (pv 3) bg)) bg))))) (aqfi (aj3 (aw8 hr.units) (ax0 (pv 0) T.cl mH GH hr3 bH .nil aqt) (aF bg) (ax _))))))))))))))),?_⟩
  refine ⟨_,rfl,3,rfl,n,_,rfl,SqL.of hn,fun z0 hz0=>?_⟩;have ec:cutV ((a :: b :: c :: aqr2).map V.str) none (some 3)=[.str a,.str b,.str c]:=by simp [cutV,HT.sIx]
  rw [ec];have s0:aqs2 H (upd H z0 (.lst [.str a,.str b,.str c])):=gd hz0;refine ⟨z0,_,rfl,SqL.of ac,rfl,_,_,rfl,_,_,rfl,_,_,rfl,rfl,?_⟩;have S0:=S.keep s0;have K0:Kp l d H _:=Kp.of s0;generalize upd H z0 (.lst [.str a,.str b,.str c])=H0 at S0 K0 ⊢;clear s0 hz0 ec hn S;refine ⟨_,rfl,_,rfl,_,rfl,by show 1 <= Ag; decide,fun z hz=>⟨p,l,d,z,"cast","NoName",m,[],[a],[],rfl,ay S0 hz (by show _ <= _; exact le_of_ble_eq_true rfl) (by show _ <= _; exact le_of_ble_eq_true rfl) h0 hA (by show _ <= _; exact le_of_ble_eq_true rfl) (fun _=>cons_ne_nil _ _),.inr ⟨.inr (.inl rfl),by rw [aQz (by decide +kernel) (by simp)]⟩,.inr (.inr (.inl rfl)),fun H1 s1=>⟨_,rfl,aqrc ?_⟩⟩⟩;have t1:=(gd hz).trans s1;have S1:=S0.keep t1;have K1:=K0.trans (Kp.of t1);clear t1 s1 hz S0 K0;refine ⟨_,rfl,_,rfl,by show 1 <= Ag; decide,fun z hz=>⟨p,l,d,z,"judge","NoName",1,[],[a],[],rfl,ay S1 hz (by show _ <= _; exact le_of_ble_eq_true rfl) (by show _ <= _; exact le_of_ble_eq_true rfl) h0 hA (by show _ <= _; exact le_of_ble_eq_true rfl) (fun _=>cons_ne_nil _ _),.inl ⟨rfl,rfl,by simp⟩,.inr (.inr (.inl rfl)),fun H2 s2=>⟨_,rfl,aqrc ?_⟩⟩⟩;have t2:=(gd hz).trans s2;have S2:=S1.keep t2;have K2:=K1.trans (Kp.of t2);clear t2 s2 hz S1 K1;refine ⟨_,rfl,_,rfl,by show 1 <= Ag; decide,fun z hz=>⟨p,l,d,z,"stand",0,[],[a],[],rfl,.inl rfl,ay S2 hz (by show _ <= _; exact le_of_ble_eq_true rfl) (by show _ <= _; exact le_of_ble_eq_true rfl) h0 hA (by show _ <= _; exact le_of_ble_eq_true rfl) (fun _=>cons_ne_nil _ _),by rw [aZk a],fun H3 k3 T3=>⟨_,rfl,aqrc ?_⟩⟩⟩;rw [aZk a] at T3;have S3:=T3;have K3:=K2.trans ((Kp.of (gd hz)).trans k3);clear k3 T3 hz S2 K2;refine ⟨_,rfl,_,rfl,by show 1 <= Ag; decide,fun z hz=>⟨p,l,d,z,"stand","Taken",0,[a],[a],[],rfl,ay S3 hz (by show _ <= _; exact le_of_ble_eq_true rfl) (by show _ <= _; exact le_of_ble_eq_true rfl) hA hA (by show _ <= _; exact le_of_ble_eq_true rfl) (fun _=>cons_ne_nil _ _),.inr ⟨.inl rfl,by rw [aqbc a]⟩,.inl rfl,fun H4 s4=>⟨_,rfl,aqrc ?_⟩⟩⟩;have t4:=(gd hz).trans s4;have S4:=S3.keep t4;have K4:=K3.trans (Kp.of t4);clear t4 s4 hz S3 K3;refine ⟨_,rfl,_,rfl,_,rfl,by show 1 <= Ag; decide,fun z hz=>⟨p,l,d,z,"lift","TooFew",m,[a],[a],[],rfl,ay S4 hz (by show _ <= _; exact le_of_ble_eq_true rfl) (by show _ <= _; exact le_of_ble_eq_true rfl) hA hA (by show _ <= _; exact le_of_ble_eq_true rfl) (fun _=>cons_ne_nil _ _),.inr ⟨.inr (.inr rfl),by rw [aK2 a (by rw [wt0]; omega)]⟩,.inr (.inr (.inr rfl)),fun H5 s5=>⟨_,rfl,aqrc ?_⟩⟩⟩;have t5:=(gd hz).trans s5;have S5:=S4.keep t5;have K5:=K4.trans (Kp.of t5);clear t5 s5 hz S4 K4;refine ⟨_,rfl,_,rfl,_,rfl,_,rfl,by show 2 <= Ag; decide,fun z hz=>⟨p,l,d,z,"lift","NoName",m,[a],[a,b],[],rfl,ay S5 hz (by show _ <= _; exact le_of_ble_eq_true rfl) (by show _ <= _; exact le_of_ble_eq_true rfl) hA hAB (by show _ <= _; exact le_of_ble_eq_true rfl) (fun _=>cons_ne_nil _ _),.inr ⟨.inr (.inr rfl),by rw [aQz (by decide +kernel) (by simpa using fun h=>nab h.symm)]⟩,.inr (.inr (.inl rfl)),fun H6 s6=>⟨_,rfl,aqrc ?_⟩⟩⟩;have t6:=(gd hz).trans s6;have S6:=S5.keep t6;have K6:=K5.trans (Kp.of t6);clear t6 s6 hz S5 K5;refine ⟨_,rfl,_,rfl,_,rfl,by show 1 <= Ag; decide,fun z hz=>⟨p,l,d,z,"cast",m,[a],[a],[],rfl,.inr (.inl rfl),ay S6 hz (by show _ <= _; exact le_of_ble_eq_true rfl) (by show _ <= _; exact le_of_ble_eq_true rfl) hA hA (by show _ <= _; exact le_of_ble_eq_true rfl) (fun _=>cons_ne_nil _ _),by rw [aK6 a (by omega) (by omega)],fun H7 k7 T7=>⟨_,rfl,aqrc ?_⟩⟩⟩;rw [aK6 a (by omega) (by omega)] at T7;have S7:=T7;have K7:=K6.trans ((Kp.of (gd hz)).trans k7);clear k7 T7 hz S6 K6;refine ⟨_,rfl,_,rfl,_,_,rfl,rfl,_,rfl,by show 1 <= Ag; decide,fun z hz=>⟨p,l,d,z,"lift","TooFew",(m + 1),[a],[a],[([0],m)],rfl,ay S7 hz (by show _ <= _; exact le_of_ble_eq_true rfl) (by show _ <= _; exact le_of_ble_eq_true rfl) hA hA (by show _ <= _; exact le_of_ble_eq_true rfl) (fun _=>cons_ne_nil _ _),.inr ⟨.inr (.inr rfl),by rw [aK2 a (by rw [wt1]; omega)]⟩,.inr (.inr (.inr rfl)),fun H8 s8=>⟨_,rfl,aqrc ?_⟩⟩⟩;have t8:=(gd hz).trans s8;have S8:=S7.keep t8;have K8:=K7.trans (Kp.of t8);clear t8 s8 hz S7 K7;have heapC:∀ {Hx:Hp} {v:V} {M:Int},Rep K Hx v (hM M)->∀ {e t q:Addr},Hx q=some (.lst [.int 0])->Hx t=some (.tup [.int M,.ref q])->Hx e=some (.lst [.ref t])->Rep K Hx v (hM M)/\Rep K Hx (.ref e) (hM M):=fun r e t q hq ht he=>⟨r,.lst (.inl (.inl he)) (.cons (.tup (.inl (.inl ht)) (.cons (.int _) (.cons (.lst (.inl (.inl hq)) (.cons (.int 0) .nil)) .nil))) .nil)⟩;have l60:∀ M:Int,∀ q∈([([0],M)]:aqs8),q.1.length < 60:=fun M q hq=>by rw [A0.mp hq]; show 1 < 60; decide
  have shM:∀ M:Int,shp 20 (hM M)=true:=fun _=>rfl;obtain ⟨dx,o1⟩:=S8.ob;refine ⟨_,rfl,p,dx,_,rfl,o1,aG,p,l,d,[a],[([0],m)],rfl,S8,by show 1 < 60; decide,l60 m,fun v1 F1 G1 A1 ow1 sF1 hA1 sm1=>?_⟩;have rf1:=ow1.rep sF1 (ajh (by simp)) (fun _ _=>rfl);rw [aQh] at rf1;refine ⟨_,rfl,by show 1 <= Ag; decide,fun q hq=>⟨by show 2 <= Ag; decide,fun t ht=>⟨by show 1 <= Ag; decide,fun e he=>?_⟩⟩⟩;have sq:=gd (o:=.lst [.int 0]) hq;have stt:=gd (o:=.tup [.int m,.ref q]) ht;have se:=gd (o:=.lst [.ref t]) he;obtain ⟨r1,r2⟩:=heapC ((aqv (sq.trans (stt.trans se))).1 rf1) (e:=e) (t:=t) (q:=q) (se _ _ (stt _ _ ac)) (se _ _ ac) ac;refine ⟨_,_,_,aqs2.refl _,r1,r2,shM m,shM m,_,rfl,iteNe (ajz (shM m)) ?_⟩;have t9:=sm1.trans (sq.trans (stt.trans se));have S9:=S8.keep t9;have K9:=K8.trans (Kp.of t9);generalize upd (upd (upd G1 q (.lst [.int 0])) t (.tup [.int m,.ref q])) e (.lst [.ref t])=H9 at S9 K9 ⊢;clear t9 r1 r2 sq stt se he ht hq rf1 sm1 hA1 sF1 ow1 S8 K8 o1 dx;have shA:shp 20 (.lst [.str a])=true:=aqr hA 19;obtain ⟨dx,o1⟩:=S9.ob;refine ⟨_,rfl,p,dx,_,rfl,o1,aG,p,l,d,a,m,rfl,S9,by omega,by omega,fun r H10 s10 hr=>⟨_,rfl,by show 1 <= Ag; decide,fun e he=>?_⟩⟩;have t10:=s10.trans (gd (o:=.lst [.str a]) he);refine ⟨_,.lst [.str a],.lst [.str a],aqs2.refl _,.lst (.inl (.inl (gd he _ _ hr))) (.cons (.str a) .nil),.lst (.inl (.inl ac)) (.cons (.str a) .nil),shA,shA,_,rfl,iteNe (ajz shA) ?_⟩;have S10:=S9.keep t10;have K10:=K9.trans (Kp.of t10);generalize upd H10 e (.lst [.str a])=G10 at S10 K10 ⊢;clear t10 s10 hr he S9 K9 o1 dx;obtain ⟨dx,o1⟩:=S10.ob;have aA:¬ (¬ ∀ y∈([a]:List Str),y∈([a]:List Str)):=fun h=>h (all1 a);have aN:¬ (¬ ∀ y∈([]:List Str),y∈([a]:List Str)):=fun h=>h (by simp);refine ⟨_,rfl,p,dx,_,rfl,o1,aG,_,rfl,by show 1 <= Ag; decide,fun z hz=>⟨p,l,d,z,[a],[([0],m)],[a],1,rfl,S10.keep (gd hz),ac,by show 1 <= 6; decide,by show 1 <= 9; decide,hA,hA,fun h=>absurd h aA,fun _=>⟨a,m,rfl,rfl,rfl,.inl ⟨rfl,fun H11 s11=>?_⟩⟩⟩⟩;refine .inr ⟨rfl,_,rfl,?_⟩;rw [decide_eq_true rfl];refine aqrc ?_;have t11:=(gd hz).trans s11;have S11:=S10.keep t11;have K11:=K10.trans (Kp.of t11);clear t11 s11 hz S10 K10 o1 dx;obtain ⟨dx,o1⟩:=S11.ob;have shJ:shp 20 (.tup [.lst [.str a],.lst [.lst [.str a]]])=true:=by
   have h1:aqqx 18 ([a].map D.str)=true:=aqr hA 18;have h2:aqqx 17 ([a].map D.str)=true:=aqr hA 17;show (aqqx 18 ([a].map D.str) && ((aqqx 17 ([a].map D.str) && true) && true))=true;rw [h1,h2]; rfl
  refine ⟨_,rfl,p,dx,_,rfl,o1,aG,by show 0 <= Ag; decide,fun z hz=>⟨p,l,d,z,[a],[([0],m)],[],1,rfl,S11.keep (gd hz),ac,by show 1 <= 6; decide,by show 0 <= 9; decide,hA,h0,fun h=>absurd h aN,fun _=>⟨a,m,rfl,rfl,rfl,.inr ⟨rfl,fun v2 H12 s12 rep=>?_⟩⟩⟩⟩;refine ⟨_,rfl,by show 1 <= Ag; decide,fun e1 g1=>⟨_,rfl,by show 1 <= Ag; decide,fun e2 g2=>⟨by show 1 <= Ag; decide,fun e3 g3=>⟨by show 2 <= Ag; decide,fun t g4=>?_⟩⟩⟩⟩;have u1:=gd (o:=.lst [.str a]) g1;have u2:=gd (o:=.lst [.str a]) g2;have u3:=gd (o:=.lst [.ref e2]) g3;have u4:=gd (o:=.tup [.ref e1,.ref e3]) g4;refine ⟨_,.tup [.lst [.str a],.lst [.lst [.str a]]],.tup [.lst [.str a],.lst [.lst [.str a]]],aqs2.refl _,(aqv (u1.trans (u2.trans (u3.trans u4)))).1 rep,.tup (.inl (.inl ac)) (.cons (.lst (.inl (.inl (u4 _ _ (u3 _ _ (u2 _ _ ac))))) (.cons (.str a) .nil)) (.cons (.lst (.inl (.inl (u4 _ _ ac))) (.cons (.lst (.inl (.inl (u4 _ _ (u3 _ _ ac)))) (.cons (.str a) .nil)) .nil)) .nil)),shJ,shJ,_,rfl,iteNe (ajz shJ) ?_⟩;have t12:=(gd hz).trans (s12.trans (u1.trans (u2.trans (u3.trans u4))));have S12:=S11.keep t12;have K12:=K11.trans (Kp.of t12);generalize upd (upd (upd (upd H12 e1 (.lst [.str a])) e2 (.lst [.str a])) e3 (.lst [.ref e2])) t (.tup [.ref e1,.ref e3])=G12 at S12 K12 ⊢;clear t12 s12 hz u1 u2 u3 u4 g1 g2 g3 g4 rep S11 K11 o1 dx;refine ⟨_,rfl,_,rfl,by show 1 <= Ag; decide,fun z hz=>⟨p,l,d,z,"judge","NoName",1,[a],[b],[([0],m)],rfl,ay S12 hz (by show _ <= _; exact le_of_ble_eq_true rfl) (by show _ <= _; exact le_of_ble_eq_true rfl) hA hB (by show _ <= _; exact le_of_ble_eq_true rfl) (fun _=>cons_ne_nil _ _),.inl ⟨rfl,rfl,by simpa using fun h=>nab h.symm⟩,.inr (.inr (.inl rfl)),fun H13 s13=>⟨_,rfl,aqrc ?_⟩⟩⟩;have t13:=(gd hz).trans s13;have S13:=S12.keep t13;have K13:=K12.trans (Kp.of t13);clear t13 s13 hz S12 K12;refine ⟨_,rfl,_,_,rfl,rfl,⟨by decide,by decide,by decide⟩,_,_,rfl,rfl,_,rfl,_,_,rfl,rfl,_,rfl,by show 1 <= Ag; decide,fun z hz=>⟨p,l,d,z,"cast","TooMany",((10:Int) ^ 18 + 1 - m),[a],[a],[([0],m)],rfl,ay S13 hz (by show _ <= _; exact le_of_ble_eq_true rfl) (by show _ <= _; exact le_of_ble_eq_true rfl) hA hA (by show _ <= _; exact le_of_ble_eq_true rfl) (fun _=>cons_ne_nil _ _),.inr ⟨.inr (.inl rfl),by rw [aqep a (show (10:Int) ^ 18 < m + ((10:Int) ^ 18 + 1 - m) by omega)]⟩,.inr (.inl rfl),fun H14 s14=>⟨_,rfl,aqrc ?_⟩⟩⟩;have t14:=(gd hz).trans s14;have S14:=S13.keep t14;have K14:=K13.trans (Kp.of t14);clear t14 s14 hz S13 K13;refine ⟨_,rfl,_,rfl,_,_,rfl,rfl,_,rfl,by show 1 <= Ag; decide,fun z hz=>⟨p,l,d,z,"lift",(m - 1),[a],[a],[([0],m)],rfl,.inr (.inr rfl),ay S14 hz (by show _ <= _; exact le_of_ble_eq_true rfl) (by show _ <= _; exact le_of_ble_eq_true rfl) hA hA (by show _ <= _; exact le_of_ble_eq_true rfl) (fun _=>cons_ne_nil _ _),by rw [aK3 a (by omega)],fun H15 k15 T15=>⟨_,rfl,aqrc ?_⟩⟩⟩;rw [aK3 a (by omega)] at T15;have S15:=T15;have K15:=K14.trans ((Kp.of (gd hz)).trans k15);clear k15 T15 hz S14 K14;rw [show m - (m - 1)=1 by omega] at S15;refine ⟨_,rfl,_,_,rfl,rfl,⟨by decide,by decide,by decide⟩,_,_,rfl,rfl,_,rfl,by show 1 <= Ag; decide,fun z hz=>⟨p,l,d,z,"cast",((10:Int) ^ 18 - 1),[a],[a],[([0],1)],rfl,.inr (.inl rfl),ay S15 hz (by show _ <= _; exact le_of_ble_eq_true rfl) (by show _ <= _; exact le_of_ble_eq_true rfl) hA hA (by show _ <= _; exact le_of_ble_eq_true rfl) (fun _=>cons_ne_nil _ _),by rw [aK5 a (by decide) (by decide)],fun H16 k16 T16=>⟨_,rfl,aqrc ?_⟩⟩⟩;rw [aK5 a (by decide) (by decide)] at T16;have S16:=T16;have K16:=K15.trans ((Kp.of (gd hz)).trans k16);clear k16 T16 hz S15 K15;have e18:(1:Int) + ((10:Int) ^ 18 - 1)=10 ^ 18:=by decide
  rw [e18] at S16;obtain ⟨dx,o1⟩:=S16.ob;refine ⟨_,rfl,p,dx,_,rfl,o1,aG,p,l,d,[a],[([0],10 ^ 18)],rfl,S16,by show 1 < 60; decide,l60 _,fun v1 F1 G1 A1 ow1 sF1 hA1 sm1=>?_⟩;have rf1:=ow1.rep sF1 (ajh (by simp)) (fun _ _=>rfl);rw [aQh] at rf1;refine ⟨_,_,rfl,rfl,⟨by decide,by decide,by decide⟩,by show 1 <= Ag; decide,fun q hq=>⟨by show 2 <= Ag; decide,fun t ht=>⟨by show 1 <= Ag; decide,fun e he=>?_⟩⟩⟩;have sq:=gd (o:=.lst [.int 0]) hq;have stt:=gd (o:=.tup [.int ((10:Int) ^ (18:Int).toNat),.ref q]) ht;have se:=gd (o:=.lst [.ref t]) he;obtain ⟨r1,r2⟩:=heapC ((aqv (sq.trans (stt.trans se))).1 rf1) (e:=e) (t:=t) (q:=q) (se _ _ (stt _ _ ac)) (se _ _ ac) ac;refine ⟨_,_,_,aqs2.refl _,r1,r2,shM _,shM _,?_⟩;simp only [Aw,if_false];rw [ajz (shM _)];refine ⟨_,rfl,aqrb ?_⟩;have t17:=sm1.trans (sq.trans (stt.trans se));have S17:=S16.keep t17;have K17:=K16.trans (Kp.of t17);clear t17 r1 r2 rf1 sm1 hA1 sF1 ow1 S16 K16 o1 dx;generalize upd (upd (upd G1 q (.lst [.int 0])) t (.tup [.int ((10:Int) ^ (18:Int).toNat),.ref q])) e (.lst [.ref t])=H17 at S17 K17 ⊢;refine ⟨_,rfl,_,_,rfl,rfl,⟨by decide,by decide,by decide⟩,_,rfl,by show 1 <= Ag; decide,fun z hz=>⟨p,l,d,z,"lift",(10:Int) ^ 18,[a],[a],[([0],10 ^ 18)],rfl,.inr (.inr rfl),ay S17 hz (by show _ <= _; exact le_of_ble_eq_true rfl) (by show _ <= _; exact le_of_ble_eq_true rfl) hA hA (by show _ <= _; exact le_of_ble_eq_true rfl) (fun _=>cons_ne_nil _ _),by rw [aK4 a],fun HA kA TA=>⟨_,rfl,aqrb ?_⟩⟩⟩;rw [aK4 a] at TA;have SA:HallAt C HA p l d [a] []:=TA;have KA:=K17.trans ((Kp.of (gd hz)).trans kA);clear kA TA hz;obtain ⟨dx,o1⟩:=SA.ob;refine ⟨_,rfl,p,dx,_,rfl,o1,aG,p,l,d,[a],[],rfl,SA,by show 0 < 60; decide,(fun q hq=>by cases hq),fun v3 F3 G3 A3 ow3 sF3 hA3 sm3=>?_⟩;have rf3:=ow3.rep sF3 (ajh (by simp)) (fun _ _=>rfl);refine ⟨by show 0 <= Ag; decide,fun e he=>?_⟩;have se:=gd (o:=.lst []) he;refine ⟨_,.lst [],.lst [],aqs2.refl _,(aqv se).1 rf3,.lst (.inl (.inl ac)) .nil,rfl,rfl,?_⟩;simp only [Aw,if_false];rw [ajz (n:=20) rfl];exact k _ (KA.trans (Kp.of (sm3.trans se))) (SA.keep (sm3.trans se))
end
def aqrr (k j:Nat):Bool:=decide ((k:Int) / 2 ^ j % 2=1)
def mk4 (k:Nat):List Nat:=(Ax 4).filter (aqrr k)
def aqga (k:Nat):List Int:=(mk4 k).map fun (j:Nat)=>(j:Int)
def L12:List (List Int):=(Ax 12).map aqga
def KV (m:Int) (k:Nat):aqs8:=(L12.take k).map fun q=>(q,m)
def aqb1 (N:List Str) (k:Nat):List Str:=(mk4 k).map fun j=>N.getD j ⟨#[]⟩
theorem aqod:L12.Nodup:=by decide +kernel
theorem aqlg {k:Nat} (h:k < 12):L12[k]?=some (aqga k):=by unfold L12; simp [h]
theorem avh {kv:aqs8} {k:List Int} (h:k ∉ kv.map (·.1)):look kv k=none:=by
 unfold look
 have:(kv.find? fun p=>decide (p.1=k))=none:=by
  rw [Il];intro p hp e;exact h (Bf.mpr ⟨p,hp,of_decide_eq_true e⟩)
 rw [this]; rfl
theorem aqee (m:Int) (k:Nat):(KV m k).map (·.1)=L12.take k:=by unfold KV; rw [map_map]; exact map_id _
theorem aqhm (m:Int) {k:Nat} (h:k <= 12):(KV m k).length=k:=by
 have e:L12.length=12:=rfl;unfold KV; rw [length_map,length_take,e]; omega
theorem aqoe (m:Int) {k:Nat} (h:k < 12):look (KV m k) (aqga k)=none:=by
 apply avh;rw [aqee];intro hm;obtain ⟨i,hi,e⟩:=getElem_of_mem hm;rw [length_take] at hi;rw [Jb] at e;have e12:L12.length=12:=rfl;have hk:L12[k]=aqga k:=by have:=aqlg h; rw [getElem?_eq_getElem (by omega)] at this; exact Option.some.inj this
 exact (Bo.mp aqod i k (by omega) (by omega) (by omega)) (e.trans hk.symm)
theorem aqli (m:Int) {k:Nat} (h:k < 12):KV m (k + 1)=KV m k++[(aqga k,m)]:=by
 have e12:L12.length=12:=rfl;have hk:L12[k]=aqga k:=by have:=aqlg h; rw [getElem?_eq_getElem (by omega)] at this; exact Option.some.inj this
 unfold KV;rw [take_succ_eq_append_getElem (by omega),map_append];exact congrArg (fun q=>(L12.take k).map (fun q=>(q,m))++[(q,m)]) hk
theorem aqio {kv:aqs8} {k:List Int} {v:Int} (h:look kv k=none):put kv k v=kv++[(k,v)]:=by unfold put; rw [h]; rfl
theorem aqm9 {kv:aqs8} {k:List Int} (h:look kv k=none):wt kv k=0:=by unfold wt; rw [h]; rfl
theorem aqjw {kv:aqs8} {k:List Int} {v:Int} (h:look kv k=none) (hv:v ≠ 0):lay kv k v=kv++[(k,v)]:=by unfold lay; rw [if_neg hv,aqio h]
theorem aqal {m:Int} {xs st:List Str} {kv:aqs8} (hall:∀ y∈xs,y∈st) (h1:1 <= m) (h2:m <= 10 ^ 18) (hl:look kv (aqr9 st xs)=none) (h12:kv.length < 12):step "cast" m xs st kv=(.non,st,kv++[(aqr9 st xs,m)]):=by
 rw [ajr hall,aqm9 hl,if_neg (by rintro (h | h); omega; omega),F8,aqjw hl (by omega)]
theorem aVj {m:Int} {xs st:List Str} {kv:aqs8} (hall:∀ y∈xs,y∈st) (hl:look kv (aqr9 st xs)=none) (h12:12 <= kv.length):step "cast" m xs st kv=(.tup [.str "TooMany"],st,kv):=by
 rw [ajr hall,if_pos (.inr ⟨by rw [hl]; rfl,h12⟩)]
theorem aqjh {st xs:List Str} {l:List Int} (hl:l.Pairwise (· < ·)) (h:∀ a,a∈aqr9 st xs ↔ a∈l):aqr9 st xs=l:=by
 have p:(aqr9 st xs).Perm l:=(Ik ((aqdr st xs).imp fun h=>M8 h) (hl.imp fun h=>M8 h)).mpr h;rw [aXz p ((aqdr st xs).imp fun h=>M3 h)];exact (aXz (List.Perm.refl l) (hl.imp fun h=>M3 h)).symm
section
variable {N:List Str} (hN:N.length=7) (nd:N.Nodup)
include hN nd
theorem aqhf {i j:Nat} (hi:i < 7) (hj:j < 7) (e:N[i]=N[j]):i=j:=by
 apply Dm;intro ne;rcases Nat.lt_or_gt_of_ne ne with lt | lt
 ·exact (Bo.mp nd _ _ (by omega) (by omega) lt) e
 ·exact (Bo.mp nd _ _ (by omega) (by omega) lt) e.symm
theorem aqds {J:List Nat} {xs:List Str} (hJ:J.Pairwise (· < ·)) (h6:∀ j∈J,j < 6) (hx:∀ y,y∈xs ↔ ∃ j,∃ h:j < 7,j∈J/\y=N[j]):aqr9 (N.take 6) xs=J.map fun (j:Nat)=>(j:Int):=by
 refine aqjh ?_ fun a=>?_
 ·rw [pairwise_map]
  exact hJ.imp fun h=>by omega
 ·rw [aqg9,mem_map]
  constructor
  ·rintro ⟨i,hi,h1,rfl⟩
   rw [length_take] at hi;rw [Jb] at h1;obtain ⟨j,hj,h2,e⟩:=(hx _).mp h1
   have:=aqhf hN nd (by omega) hj e
   subst this;exact ⟨i,h2,rfl⟩
  ·rintro ⟨j,hj,rfl⟩
   have:=h6 j hj
   refine ⟨j,by rw [length_take]; omega,?_,rfl⟩;rw [Jb];exact (hx _).mpr ⟨j,by omega,hj,rfl⟩
theorem aWd {k:Nat} (y:Str):y∈(aqb1 N k).reverse ↔ ∃ j,∃ h:j < 7,j∈mk4 k/\y=N[j]:=by
 unfold aqb1;rw [List.mem_reverse,mem_map];constructor
 ·rintro ⟨j,hj,rfl⟩
  have:j < 4:=Bt.mp (C0.mp hj).1
  exact ⟨j,by omega,hj,by simp [show j < N.length by omega]⟩
 ·rintro ⟨j,h,hj,rfl⟩
  exact ⟨j,hj,by simp [show j < N.length by omega]⟩
theorem aqdb {k:Nat}:∀ y∈(aqb1 N k).reverse,y∈N.take 6:=fun y hy=>by
 obtain ⟨j,h,hj,rfl⟩:=(aWd hN nd y).mp hy
 have:j < 4:=Bt.mp (C0.mp hj).1
 exact Cc.mpr ⟨j,by omega,rfl⟩
theorem aZl (k:Nat):aqr9 (N.take 6) (aqb1 N k).reverse=aqga k:=by
 refine aqds hN nd (List.Pairwise.sublist Hn Ga) (fun j hj=>?_) (aWd hN nd)
 have:j < 4:=Bt.mp (C0.mp hj).1
 omega
theorem aXk:aqr9 (N.take 6) [N[5]]=[5]:=by
 refine aqds hN nd (J:=[5]) (by simp) (by simp) fun y=>?_;constructor
 ·intro h; exact ⟨5,by omega,by simp,A0.mp h⟩
 ·rintro ⟨j,h,hj,rfl⟩
  have:=A0.mp hj
  subst this
  simp
theorem aZ0:aqr9 (N.take 6) []=[]:=by unfold aqr9; simp
theorem aqdc:N[6] ∉ N.take 6:=fun h=>by
 obtain ⟨j,hj,e⟩:=Cc.mp h
 have:=aqhf hN nd (by omega) (by omega) e
 omega
theorem aqo6 {i:Nat} (h:i < 7):N[i] ∉ N.take i:=fun hm=>by
 obtain ⟨j,hj,e⟩:=Cc.mp hm
 have:=aqhf hN nd (by omega) (by omega) e
 omega
end
def KW (m:Int):aqs8:=(L12.drop 1).map fun q=>(q,m)
theorem aqlj (m:Int):KV m 12=([],m) :: KW m:=rfl
theorem KW_no (m:Int):([]:List Int) ∉ (KW m).map (·.1):=by
 have e:(KW m).map (·.1)=L12.drop 1:=by unfold KW; rw [map_map]; exact map_id _
 rw [e]; decide +kernel
theorem KV_5 (m:Int):look (KV m 12) [5]=none:=avh (by rw [aqee]; decide +kernel)
theorem KW_5 (m:Int):look (KW m) [5]=none:=avh (by
 have e:(KW m).map (·.1)=L12.drop 1:=by unfold KW; rw [map_map]; exact map_id _
 rw [e]; decide +kernel)
theorem aqge {m:Int} {st:List Str} (h:aqr9 st []=[]):step "lift" m [] st (KV m 12)=(.non,st,KW m):=by
 have w:wt (KV m 12) []=m:=by rw [aqlj]; unfold wt look; simp
 rw [axh (by simp),h,w,if_neg (by omega),M0,aqlj]
 have:lay (([],m) :: KW m) [] 0=KW m:=by
  unfold lay drop;rw [if_pos rfl,filter_cons_of_neg (by simp),D7];intro q hq
  simp
  intro e;exact KW_no m (Bf.mpr ⟨q,hq,e⟩)
 rw [this]
theorem aqlh (m:Int):(KW m).length=11:=rfl
def KZ (m:Int):aqs8:=KW m++[([5],1)]
theorem aVw (m:Int):(KZ m).map (·.1)=L12.drop 1++[[5]]:=by unfold KZ KW; rw [map_append,map_map]; rfl
theorem aqhl (m:Int):(KZ m).length=12:=rfl
theorem aqcb (m:Int):(ajl ((KZ m).map (·.1))).length=12:=by rw [aVw]; decide +kernel
theorem aqc7 (m:Int):look (KZ m) []=none:=avh (by rw [aVw]; decide +kernel)
theorem aqjx (m:Int):((KZ m).map (·.1)).Nodup:=by rw [aVw]; decide +kernel
theorem aqjy (m:Int):∀ q∈KZ m,q.1.length < 60:=fun q hq=>by
 have h:∀ k∈L12.drop 1++[[5]],k.length < 60:=by decide +kernel
 exact h _ (by rw [<- aVw m]; exact Bf.mpr ⟨q,hq,rfl⟩)
abbrev aJ5:Stmt:=top 60
def aK8 (C:Addr):Sp:=fun vs H Q _=>∃ (p l d n:Addr) (N:List Str) (hN:N.length=7) (m:Int),vs=[.ref p,.ref n,.int m]/\HallAt C H p l d [N[0]] []/\H n=some (.lst (N.map V.str))/\n ≠ l/\N.Nodup/\(∀ y∈N,aE y)/\1 <= m/\m <= 10 ^ 18/\∀ H',Kp l d H H'->Q (.bl true) H'
def pow4:List Int:=[1,2,4,8]
theorem aqit:∀ i:Nat,i < 4->atI (pow4.map V.int) (i:Int)=some (.int (2 ^ i)):=by decide +kernel
theorem aqis:∀ i:Nat,i < 4->(0:Int) < 2 ^ i/\(2:Int) ^ i < 1073741824:=by decide +kernel
section
variable {P:Aj} {w:World} {K:Frag} {mg:Str->Option Value} {base:Heap} {C Ct Cm Cn Cf:Addr}
theorem aqfe {X:Cx} {elt target iter:Expr} {ifs:List Expr} {scope:Scope} {pos:Pos} {cl:List (Str × Addr)} {N':List Str} {js:List (Option Nat)} {wi:TI} {g:TG} {tc:TT} {te:TE} {i:Nat} {y:Str} {py spos:Pos} (hN:X.N.Nodup) (hi':X.N[i]?=some y) (hy:X.env.scope.names.lookup y=some .local)
  (hsw:Hw (.ListComp elt [⟨target,iter,ifs,0⟩] scope pos) (some (.Name y py)) spos.line X.env=pure true) (k:CompOk X scope cl N' js) (hi:PI X target iter wi)
  (hg:∀ C s₀ H₀ ex pn,PG (aO X N' scope cl C s₀ H₀ ex pn) target g) (ht:∀ C s₀ H₀ ex pn,PIfs (aO X N' scope cl C s₀ H₀ ex pn) ifs tc) (he:∀ C s₀ H₀ ex pn,PE (aO X N' scope cl C s₀ H₀ ex pn) elt te) (hs:∀ x,B7 iter X.env x=pure x:=by intro _; rfl) :
  PS X (.Assign [.Name y py] (.ListComp elt [⟨target,iter,ifs,0⟩] scope pos) spos) (tAsg (aqbb wi g tc te js) (ax9 i)) :=
 aqdi hN hi' hy hsw k.calm hi (axn k.clo) k.free k.hcl k.hhas k.cell k.kind k.names hg ht he hs
theorem avd:FnScope ["hall","names","many","name","k","some"] ["hall","names","many"] (af aJ5):=fsc
set_option maxHeartbeats 8000000 in
theorem aqbv {f fH fN:Addr} {fd fdH fdN:Ak} (F:Fun K "_law_second" "_law_second" aJ5 f fd) (T:Hx K mg C Ct Cm Cn Cf) (Gr:Fn P w K mg base 7 "_law_refused" ["hall","word","many","some","due"] (awo C)) (Gd:Fn P w K mg base 5 "_law_done" ["hall","word","many","some"] (aqer C))
  (GH:FnOk P w K mg base CX0 3 fH fdH ["self"] (aWb K C)) (bH:L2.Binds K fdH ["self"] []) (mH:Meth K C "heap" fH) (GN:FnOk P w K mg base CX0 1 fN fdN ["self"] (aK9 C)) (bN:L2.Binds K fdN ["self"] []) (mN:Meth K C "names" fN):FnOk P w K mg base CX0 9 f fd ["hall","names","many"] (aK8 C):=by
 obtain ⟨fr,fdr,okr,mr,kr,br⟩:=Gr;obtain ⟨fd_,fdd,okd,md,kd_,bd⟩:=Gd;refine F.ok avd (k:=8) (fun vs H Q E h=>?_) (fun cdv A outer s H vs Q E hr h=>?_)
 ·obtain ⟨_,_,_,_,_,_,_,rfl,_⟩:=h
  rfl
 ·obtain ⟨p,l,d,n,N,hN,m,rfl,S,hn,nl,nd,hok,m1,m18,k⟩:=h
  have hr1:Room 1 _:=hm hr;have hr3:Room 3 _:=hm hr;have hr5:Room 5 _:=hm hr;have hr7:Room 7 _:=hm hr;have hnd:n ≠ d:=az1 hn S.ba nofun;have nat_at:∀ j:Nat,(h:j < 7)->atI (N.map V.str) (j:Int)=some (.str N[j]):=fun j h=>az9 (by rw [getElem?_map,getElem?_eq_getElem (by omega)]; rfl);have one:∀ j:Nat,(h:j < 7)->∀ y∈[N[j]],aE y:=fun j h y hy=>by rw [A0.mp hy]; exact hok _ (getElem_mem _)
  have tok:∀ j:Nat,∀ y∈N.take j,aE y:=fun j y hy=>hok y (List.mem_of_mem_take hy);have tl:∀ j:Nat,j <= 6->(N.take j).length <= 6:=fun j h=>by rw [length_take]; omega
  have h0:∀ y∈([]:List Str),aE y:=fun y h=>by cases h
  refine ⟨_,ak (aV2 Ba rfl (aH (aw6 aWe (pv 1) (ak2 aq) (ak2 aq))) (aqc (i:=3) avd.nd rfl (.inl rfl)) (el (ax8 (aq2 (aq1 (au okd hr5 rfl md kd_ bd .nil aqt (aa (pv 0) (aa ar (aa (aq) (aa (aF (aa (pv 3) bg)) bg))))))) (el (aV ak7)) aL)))
   (ak (ax8 (aq2 (aq1 (au okr hr7 rfl mr kr br .nil aqt (aa (pv 0) (aa ar (aa (aq) (aa (aF (aa (aks av5 (pv 1) aq (fun _ _=>rfl)) bg)) (aa ar bg)))))))) (el (aV ak7)) aL)
   (ak (ax8 (aq2 (aq1 (au okr hr7 rfl mr kr br .nil aqt (aa (pv 0) (aa ar (aa (aq) (aa (aF (aa (aks av5 (pv 1) aq (fun _ _=>rfl)) bg)) (aa ar bg)))))))) (el (aV ak7)) aL)
   (ak (aV2 Ba rfl (avf rfl T.zr (aa aq bg)) (aqc (i:=4) avd.nd rfl (.inr rfl)) (ak (aqfe (i:=5) avd.nd rfl rfl rfl (cl:=_) (N':=["j","names","k"]) (js:=[none,some 1,some 4]) (by o_reads)
     (avf rfl T.zr (aa aq bg))
     (fun _ _ _ _ _=>pgc 0)
     (fun _ _ _ _ _=>.inr ⟨_,rfl,aW aKq (axz aYi (axz aqdq (pv 2) (aks (aqhs (K:=K) rfl) (aF (aa aq (aa aq (aa aq (aa aq bg))))) (pv 0) (fun _ _=>rfl))) aq) aq (ax _)⟩)
     (fun _ _ _ _ _=>aks (aqhs (K:=K) rfl) (pv 1) (pv 0) (fun _ _=>rfl)))
    (el (ax8 (aq2 (aq1 (au okd hr5 rfl md kd_ bd .nil aqt (aa (pv 0) (aa ar (aa (pv 2) (aa (aqbq (pv 5) aQ7 aQ7 (ak2 (pe_un aqel aq))) bg))))))) (el (aV ak7)) aL))))
   (ak (ax8 (aq2 (aq1 (au okr hr7 rfl mr kr br .nil aqt (aa (pv 0) (aa ar (aa (aq) (aa (aF (aa (aks av5 (pv 1) aq (fun _ _=>rfl)) bg)) (aa ar bg)))))))) (el (aV ak7)) aL)
   (ak (ax8 (aq2 (aq1 (au okr hr7 rfl mr kr br .nil aqt (aa (pv 0) (aa ar (aa (aq) (aa (aF (aa (aks av5 (pv 1) aq (fun _ _=>rfl)) bg)) (aa ar bg)))))))) (el (aV ak7)) aL)
   (ak (ax8 (PW.pt (aqb2 (aq2 (aq1 (au okd hr5 rfl md kd_ bd .nil aqt (aa (pv 0) (aa ar (aa (pv 2) (aa (aF bg) bg))))))) (aw2 (aq2 (aq1 (au okd hr5 rfl md kd_ bd .nil aqt (aa (pv 0) (aa ar (aa (aq) (aa (aF (aa (aks av5 (pv 1) aq (fun _ _=>rfl)) bg)) bg)))))))))) (el (aV ak7)) aL)
   (el (aV (aW6 (aj3 (aw8 hr.units) (ax0 (pv 0) T.cl mN GN hr1 bN .nil aqt) (aw6 aWe (pv 1) aQ7 (ak2 aq)) (ax _)) (aW6 (aj3 aKq (aqe aD rfl T.zlen akf (aa (ax0 (pv 0) T.cl mH GH hr3 bH .nil aqt) bg)) aq (ax _)) (aqfi (au okr hr7 rfl mr kr br .nil aqt (aa (pv 0) (aa ar (aa (aq) (aa (aF bg) (aa ar bg))))))))))))))))),?_⟩
  refine ⟨_,rfl,1,rfl,6,rfl,n,_,rfl,SqL.of hn,fun z0 hz0=>?_⟩;have ec:cutV (N.map V.str) (some 1) (some 6)=((N.drop 1).take 5).map V.str:=by
   simp [cutV,HT.sIx,hN]
  rw [ec];have s0:aqs2 H (upd H z0 (.lst (((N.drop 1).take 5).map V.str))):=gd hz0;have hz1:(upd H z0 (.lst (((N.drop 1).take 5).map V.str))) z0=some (.lst (((N.drop 1).take 5).map V.str)):=ac;have S0:=S.keep s0;have K0:Kp l d H _:=Kp.of s0;have nz0:z0 ≠ l:=(ae S.st hz0).symm;generalize upd H z0 (.lst (((N.drop 1).take 5).map V.str))=H0 at S0 K0 hz1 s0 ⊢;have l5:(((N.drop 1).take 5).map V.str).length=5:=by simp [hN]
  have nz0d:z0 ≠ d:=az1 hz1 S0.ba nofun;refine ⟨z0,rfl,⟨_,SqL.of hz1⟩,aqa0 (K:=K) (a:=z0) (xs:=((N.drop 1).take 5).map V.str) (fun i σ' H'=>∃ c3 c4 c5,σ'=[some (.ref p),some (.ref n),some (.int m),c3,c4,c5]/\Kp l d H0 H'/\HallAt C H' p l d (N.take (i + 1)) [])
   ⟨none,none,none,rfl,Kp.of (aqs2.refl _),by rw [show N.take (0 + 1)=[N[0]] by rw [take_succ_eq_append_getElem (by omega)]; simp]; exact S0⟩ (fun i σ' H' _ hI=>by obtain ⟨_,_,_,_,k1,_⟩:=hI; exact SqL.of (k1 _ _ hz1 nz0 nz0d)) (fun i x σ' H' hx hI=>?_) fun σ' H' hI=>?_⟩
  ·obtain ⟨c3,c4,c5,rfl,k1,S1⟩:=hI
   have hi5:i < 5:=by
    apply Dm;intro h;rw [Kj (by omega)] at hx;cases hx
   have ex:x=.str N[i + 1]:=by
    rw [getElem?_map,Jf hi5,Mh,Nat.add_comm,getElem?_eq_getElem (by omega)] at hx;exact (Option.some.inj hx).symm
   subst ex;have ln:(N.take (i + 1)).length=i + 1:=by rw [length_take]; omega
   have e:step "stand" 0 [N[i + 1]] (N.take (i + 1)) []=(.non,N.take (i + 1 + 1),[]):=by
    rw [aj6,if_neg (aqo6 hN nd (by omega)),if_neg (by rw [ln]; omega),take_succ_eq_append_getElem (i:=i + 1) (by omega)]
   refine ⟨_,rfl,_,rfl,by show 1 <= Ag; decide,fun z hz=>⟨p,l,d,z,"stand",0,N.take (i + 1),[N[i + 1]],[],rfl,.inl rfl,ay S1 hz (tl _ (by omega)) (by show 0 <= 12; decide) (tok _) (one _ (by omega)) (by show 1 <= 9; decide) (fun _=>cons_ne_nil _ _),by rw [e],fun H2 k2 S2=>⟨_,rfl,aqrc ?_⟩⟩⟩;rw [e] at S2;exact ⟨_,_,_,rfl,k1.trans ((Kp.of (gd hz)).trans k2),S2⟩
  obtain ⟨c3,c4,c5,rfl,k1,S1⟩:=hI;rw [l5] at S1;have S1:HallAt C H' p l d (N.take 6) []:=S1;have K1:=K0.trans k1;clear k1 K0 S0 s0 hz1 nz0 nz0d hz0 ec l5;have hn1:∀ {H2:Hp},Kp l d H H2->H2 n=some (.lst (N.map V.str)):=fun k=>k _ _ hn nl hnd;have e6:step "stand" 0 [N[6]] (N.take 6) []=(.tup [.str "TooMany"],N.take 6,[]):=by
   rw [aj6,if_neg (aqdc hN nd),if_pos (by rw [length_take]; omega)]
  have e2:step "stand" 0 [N[2]] (N.take 6) []=(.tup [.str "Taken"],N.take 6,[]):=by
   rw [aj6,if_pos (Cc.mpr ⟨2,by omega,rfl⟩)]
  generalize H'=H1 at S1 K1 ⊢;refine ⟨_,rfl,_,rfl,n,_,_,_,rfl,rfl,SqL.of (hn1 K1),nat_at 6 (by decide),by show 1 <= Ag; decide,fun z hz=>⟨p,l,d,z,"stand","TooMany",0,(N.take 6),[N[6]],[],rfl,ay S1 hz (tl 6 (by decide)) (by show 0 <= 12; decide) (tok 6) (one 6 (by decide)) (by show _ <= _; exact le_of_ble_eq_true rfl) (fun _=>cons_ne_nil _ _),.inr ⟨.inl rfl,by rw [e6]⟩,.inr (.inl rfl),fun H2 s2=>⟨_,rfl,aqrc ?_⟩⟩⟩;have t2:=(gd hz).trans s2;have S2:=S1.keep t2;have K2:=K1.trans (Kp.of t2);clear t2 s2 hz S1 K1;refine ⟨_,rfl,_,rfl,n,_,_,_,rfl,rfl,SqL.of (hn1 K2),nat_at 2 (by decide),by show 1 <= Ag; decide,fun z hz=>⟨p,l,d,z,"stand","Taken",0,(N.take 6),[N[2]],[],rfl,ay S2 hz (tl 6 (by decide)) (by show 0 <= 12; decide) (tok 6) (one 2 (by decide)) (by show _ <= _; exact le_of_ble_eq_true rfl) (fun _=>cons_ne_nil _ _),.inr ⟨.inl rfl,by rw [e2]⟩,.inl rfl,fun H3 s3=>⟨_,rfl,aqrc ?_⟩⟩⟩;have t3:=(gd hz).trans s3;have S3:=S2.keep t3;have K3:=K2.trans (Kp.of t3);clear t3 s3 hz S2 K2;refine ⟨12,rfl,by decide,by decide,aQi (n:=12) (fun i σ' H'=>∃ c3 c4 c5,σ'=[some (.ref p),some (.ref n),some (.int m),c3,c4,c5]/\Kp l d H H'/\HallAt C H' p l d (N.take 6) (KV m i)) ⟨_,_,_,rfl,K3,S3⟩ (fun i σ' H' hi hI=>?_) fun σ' H' hI=>?_⟩
  ·obtain ⟨c3,c4,c5,rfl,k1,S1⟩:=hI
   have hn':=hn1 k1;refine ⟨4,rfl,by decide,by decide,fun r hr0=>?_⟩;refine ⟨fun j mm σ2 H2=>mm=4 - j/\j <= 4/\(∃ c0,σ2=[c0,some (.ref n),some (.int (0 + (i:Int)))])/\aqs2 H' H2/\H2 r=some (.lst ((((Ax j).filter (aqrr i)).map fun q=>N.getD q ⟨#[]⟩).map V.str)),⟨_,rfl,zero_le _,⟨none,rfl⟩,gd hr0,ac⟩,?_⟩;rintro j mm σ2 H2 ⟨rfl,hj,⟨c0,rfl⟩,sm,hr2⟩
   by_cases hlt:j < 4
   ·refine .inr ⟨hlt,fun x H4 yl=>?_⟩
    obtain ⟨e1,rfl⟩:=yl;rw [e1];have e0:(0:Int) + (j:Int)=(j:Int):=by omega
    rw [e0];refine ⟨_,rfl,by show 4 <= Ag; decide,fun q hq=>⟨_,rfl,q,_,_,_,rfl,rfl,SqL.of ac,aqit j hlt,_,_,rfl,rfl,aqis j hlt,_,_,rfl,rfl,(by show (0:Int) < 2; decide),rfl,_,rfl,?_⟩⟩;have sq:=gd (o:=.lst (pow4.map V.int)) hq;have sm2:=sm.trans sq;have hr3':=sq _ _ hr2;have hlen:((((Ax j).filter (aqrr i)).map fun q=>N.getD q ⟨#[]⟩).map V.str).length <= 4:=by
     rw [length_map,length_map]
     have:=length_filter_le (aqrr i) (Ax j)
     rw [List.length_range] at this;omega
    have rs:(Ax (j + 1)).filter (aqrr i)=(Ax j).filter (aqrr i)++(if aqrr i j=true then [j] else []):=by
     rw [List.range_succ,Mu];congr 1
     by_cases hb:aqrr i j=true
     ·simp [hb]
     ·simp [hb]
    have eb:decide (V.int ((0 + (i:Int)) / 2 ^ j % 2)=V.int 1)=aqrr i j:=by
     unfold aqrr;rw [F8]
     simp
    dsimp only;rw [eb]
    by_cases hb:aqrr i j=true
    ·rw [hb]
     refine aqrb ?_;refine ⟨_,rfl,_,rfl,n,_,_,_,rfl,rfl,SqL.of (sm2 _ _ hn'),nat_at j (by omega),_,hr3',by rw [Au]; omega,_,(by omega:4 - (j + 1) < 4 - j),rfl,hlt,⟨_,rfl⟩,fun b o hb=>?_,?_⟩
     ·rw [ah (ae hb hr0)]; exact sm2 _ _ hb
     ·rw [ac,rs,if_pos hb,map_append,map_append]
      simp [show j < N.length by omega]
    ·have hb':aqrr i j=false:=by simpa using hb
     rw [hb'];refine aqrc ?_;refine ⟨_,(by omega:4 - (j + 1) < 4 - j),rfl,hlt,⟨_,rfl⟩,sm2,?_⟩;rw [rs,if_neg hb,append_nil];exact hr3'
   ·have e4:j=4:=by omega
    subst e4;refine .inl ⟨le_refl _,?_⟩;have hr4:H2 r=some (.lst ((aqb1 N i).map V.str)):=hr2;have sl:(aqb1 N i).length <= 4:=by
     unfold aqb1 mk4;rw [length_map];exact length_filter_le (aqrr i) (Ax 4)
    have sok:∀ y∈(aqb1 N i).reverse,aE y:=fun y hy=>tok 6 y (aqdb hN nd y hy);have e:step "cast" m (aqb1 N i).reverse (N.take 6) (KV m i)=(.non,N.take 6,KV m (i + 1)):=by
     rw [aqal (aqdb hN nd) m1 m18 (by rw [aZl hN nd]; exact aqoe m hi) (by rw [aqhm m (by omega)]; exact hi),aZl hN nd,aqli m hi]
    have S2:=S1.keep sm;refine ⟨_,rfl,_,rfl,_,rfl,_,rfl,_,rfl,r,_,rfl,SqL.of hr4,by decide,by rw [MB.aW1,Ls,length_map,Au]; omega,fun z hz=>?_⟩;rw [MB.aW1,<- List.map_reverse];refine ⟨p,l,d,z,"cast",m,N.take 6,(aqb1 N i).reverse,KV m i,rfl,.inr (.inl rfl),ay S2 hz (tl 6 (by decide)) (by rw [aqhm m (by omega)]; omega) (tok 6) sok (by rw [Ls]; omega) (fun e=>absurd e (by decide +kernel)),by rw [e],fun H5 k5 S5=>⟨_,rfl,aqrc ?_⟩⟩;rw [e] at S5;exact ⟨_,_,_,rfl,k1.trans ((Kp.of (sm.trans (gd hz))).trans k5),S5⟩
  obtain ⟨c3',c4',c5',rfl,K4,S4⟩:=hI;clear K3 S3;have l12:(KV m 12).length=12:=aqhm m (by decide);have in5:∀ y∈[N[5]],y∈N.take 6:=fun y hy=>by rw [A0.mp hy]; exact Cc.mpr ⟨5,by omega,rfl⟩
  have e5:step "cast" 1 [N[5]] (N.take 6) (KV m 12)=(.tup [.str "TooMany"],N.take 6,KV m 12):=aVj in5 (by rw [aXk hN nd]; exact KV_5 m) (by omega);have e7:step "cast" 1 [N[6]] (N.take 6) (KV m 12)=(.tup [.str "NoName"],N.take 6,KV m 12):=aQz (by decide +kernel) fun h=>aqdc hN nd (h _ (by simp));refine ⟨_,rfl,_,rfl,n,_,_,_,rfl,rfl,SqL.of (hn1 K4),nat_at 5 (by decide),by show 1 <= Ag; decide,fun z hz=>⟨p,l,d,z,"cast","TooMany",1,(N.take 6),[N[5]],(KV m 12),rfl,ay S4 hz (tl 6 (by decide)) (by rw [l12]; decide) (tok 6) (one 5 (by decide)) (by show _ <= _; exact le_of_ble_eq_true rfl) (fun _=>cons_ne_nil _ _),.inr ⟨.inr (.inl rfl),by rw [e5]⟩,.inr (.inl rfl),fun H5 s5=>⟨_,rfl,aqrc ?_⟩⟩⟩;have t5:=(gd hz).trans s5;have S5:=S4.keep t5;have K5:=K4.trans (Kp.of t5);clear t5 s5 hz S4 K4;refine ⟨_,rfl,_,rfl,n,_,_,_,rfl,rfl,SqL.of (hn1 K5),nat_at 6 (by decide),by show 1 <= Ag; decide,fun z hz=>⟨p,l,d,z,"cast","NoName",1,(N.take 6),[N[6]],(KV m 12),rfl,ay S5 hz (tl 6 (by decide)) (by rw [l12]; decide) (tok 6) (one 6 (by decide)) (by show _ <= _; exact le_of_ble_eq_true rfl) (fun _=>cons_ne_nil _ _),.inr ⟨.inr (.inl rfl),by rw [e7]⟩,.inr (.inr (.inl rfl)),fun H6 s6=>⟨_,rfl,aqrc ?_⟩⟩⟩;have t6:=(gd hz).trans s6;have S6:=S5.keep t6;have K6:=K5.trans (Kp.of t6);clear t6 s6 hz S5 K5;have e8:step "lift" m [] (N.take 6) (KV m 12)=(.non,N.take 6,KW m):=aqge (aZ0 hN nd);refine ⟨_,rfl,_,rfl,by show 0 <= Ag; decide,fun z hz=>⟨p,l,d,z,"lift",m,N.take 6,[],KV m 12,rfl,.inr (.inr rfl),ay S6 hz (tl 6 (by decide)) (by rw [l12]; decide) (tok 6) h0 (by show 0 <= 9; decide) (fun e=>absurd e (by decide +kernel)),by rw [e8],fun H7 k7 S7=>⟨_,rfl,aqrc ?_⟩⟩⟩;rw [e8] at S7;have S7:HallAt C H7 p l d (N.take 6) (KW m):=S7;have K7:=K6.trans ((Kp.of (gd hz)).trans k7);clear k7 hz S6 K6;have e9:step "cast" 1 [N[5]] (N.take 6) (KW m)=(.non,N.take 6,KZ m):=by
   rw [aqal in5 (by decide) (by decide) (by rw [aXk hN nd]; exact KW_5 m) (by rw [aqlh]; decide),aXk hN nd]; rfl
  refine ⟨_,rfl,_,rfl,n,_,_,_,rfl,rfl,SqL.of (hn1 K7),nat_at 5 (by decide),by show 1 <= Ag; decide,fun z hz=>⟨p,l,d,z,"cast",1,N.take 6,[N[5]],KW m,rfl,.inr (.inl rfl),ay S7 hz (tl 6 (by decide)) (by rw [aqlh]; decide) (tok 6) (one 5 (by decide)) (by show 1 <= 9; decide) (fun _=>cons_ne_nil _ _),by rw [e9],fun H8 k8 S8=>⟨_,rfl,aqrc ?_⟩⟩⟩;rw [e9] at S8;have S8:HallAt C H8 p l d (N.take 6) (KZ m):=S8;have K8:=K7.trans ((Kp.of (gd hz)).trans k8);clear k8 hz S7 K7;obtain ⟨dx,o1⟩:=S8.ob;refine ⟨_,rfl,p,dx,_,rfl,o1,aG,p,l,d,N.take 6,KZ m,rfl,S8,fun r hr0=>?_⟩;have s9:=gd (o:=.lst ((N.take 6).map V.str)) hr0;have K9:=K8.trans (Kp.of s9);have S9:=S8.keep s9;have hr9:(upd H8 r (.lst ((N.take 6).map V.str))) r=some (.lst ((N.take 6).map V.str)):=ac;generalize upd H8 r (.lst ((N.take 6).map V.str))=H9 at S9 K9 hr9 ⊢;refine ⟨_,rfl,6,rfl,n,_,rfl,SqL.of (hn1 K9),fun z hz=>?_⟩;have ec6:cutV (N.map V.str) none (some 6)=(N.take 6).map V.str:=by simp [cutV,HT.sIx,hN]
  rw [ec6];have s10:=gd (o:=.lst ((N.take 6).map V.str)) hz;have sh6:shp 20 (.lst ((N.take 6).map D.str))=true:=aqr (tok 6) 19;refine ⟨_,.lst ((N.take 6).map D.str),.lst ((N.take 6).map D.str),aqs2.refl _,.lst (.inl (.inl (s10 _ _ hr9))) (aju _),.lst (.inl (.inl ac)) (aju _),sh6,sh6,?_⟩;simp only [Aw,if_false];rw [ajz sh6];refine ⟨_,rfl,aqrb ?_⟩;have S10:=S9.keep s10;obtain ⟨dx,o1⟩:=S10.ob;refine ⟨_,rfl,p,dx,_,rfl,o1,aG,p,l,d,N.take 6,KZ m,rfl,S10,by rw [aqhl]; decide,aqjy m,fun v3 F3 G3 A3 ow3 sF3 hA3 sm3=>?_⟩;have rf3:=ow3.rep sF3 (ajh (aqjx m)) (fun _ _=>rfl);unfold awe at rf3;cases rf3 with
  | @lst zh vs _ hqh rrh =>
  have ln:=rrh.length;rw [length_map,aqcb] at ln;refine ⟨zh,_,rfl,.inl hqh.l,rfl,?_⟩;rw [ln,show decide (V.int ((12:Nat):Int)=V.int 12)=true from rfl];refine ⟨_,rfl,aqrb ?_⟩;have S11:=S10.keep sm3;have e10:step "cast" 1 [] (N.take 6) (KZ m)=(.tup [.str "TooMany"],N.take 6,KZ m):=aVj (by simp) (by rw [aZ0 hN nd]; exact aqc7 m) (by rw [aqhl]; decide);exact ⟨_,rfl,by show 0 <= Ag; decide,fun z hz=>⟨p,l,d,z,"cast","TooMany",1,N.take 6,[],KZ m,rfl,ay S11 hz (tl 6 (by decide)) (by rw [aqhl]; decide) (tok 6) h0 (by show 0 <= 9; decide) (fun e=>absurd e (by decide +kernel)),.inr ⟨.inr (.inl rfl),by rw [e10]⟩,.inr (.inl rfl),fun H12 s12=>k _ (K9.trans (Kp.of (s10.trans (sm3.trans ((gd hz).trans s12)))))⟩⟩
end
theorem aqn1 {K:Frag} {F0:Hp} {vs:List V} {ds:List D} {dd:D} (r:Reps K F0 vs ds) (hl:ds.length=1) (hg:lawD ds=some dd):∃ (a:Addr) (ns:List Int),vs=[.ref a]/\SqE K F0 a (ns.map V.int)/\ns.length <= 63/\dd=.bl true:=by
 cases r with
 | nil=>cases hl
 | cons r1 r=>cases r with
  | cons _ _=>cases hl
  | nil =>
   obtain ⟨ns,hn,hg⟩:=bind_some hg;split at hg
   ·rename_i h63
    cases hg;have e:=aJh hn;subst e;cases r1 with
    | lst hq rr =>
     refine ⟨_,ns,rfl,?_,h63,rfl⟩
     have:∀ {vs:List V} {ns:List Int},Reps K F0 vs (ns.map D.int)->vs=ns.map V.int:=by
      intro vs ns
      induction ns generalizing vs with
      | nil=>intro h; cases h; rfl
      | cons n ns ih =>
       intro h;cases h with
       | cons h t=>cases h; rw [ih t]; rfl
     rw [<- this rr];exact hq
   ·cases hg
section
variable {P:Aj} {w:World} {K:Frag} {mg:Str->Option Value} {base:Heap} {C Ct Cm Cn Cf:Addr}
theorem aqbi:FnScope ["script","names","many","hall"] ["script"] (af aqf3):=fsc
set_option maxHeartbeats 8000000 in
theorem aqmp {f fI:Addr} {fd fdI:Ak} (F:Fun K "law" "law" aqf3 f fd) (T:Hx K mg C Ct Cm Cn Cf) (Gn:Fn P w K mg base 2 "_law_names" ["script","at","many"] (aqd4 K)) (Gc:Fn P w K mg base 1 "_law_cell" ["script","k"] (spD K 2 aqm))
  (G1:Fn P w K mg base 9 "_law_first" ["hall","names","many"] (aqd6 C)) (G2:Fn P w K mg base 9 "_law_second" ["hall","names","many"] (aK8 C)) (M:Mk K C fI) (GI:FnOk P w K mg base CX0 1 fI fdI ["self"] (spInit C)) (bI:L2.Binds K fdI ["self"] []):FnOk P w K mg base CX0 12 f fd ["script"] (spD K 1 aqhp):=by
 obtain ⟨fn,fdn,okn,mn_,kn,bn⟩:=Gn;obtain ⟨fc,fdc,okc,mc,kc,bc⟩:=Gc;obtain ⟨f1,fd1,ok1,m1,k1,b1⟩:=G1;obtain ⟨f2,fd2,ok2,m2,k2,b2⟩:=G2;refine F.ok aqbi (k:=11) (fun vs H Q E h=>by obtain ⟨F,ds,d,_,r,hl,_⟩:=h; rw [r.length,hl]; rfl) fun cdv A outer s H vs Q E hr h=>?_;have hr1:Room 1 _:=hm hr;have hr2:Room 2 _:=hm hr;have hr9:Room 9 _:=hm hr;obtain ⟨F0,ds,dd,sm0,r,hl,hg,k⟩:=h;obtain ⟨a,ns,rfl,ha,h63,rfl⟩:=aqn1 r hl hg;clear r hl hg;refine ⟨_,ak (gp (i:=1) aqbi.nd rfl (.inl rfl) (au okn hr2 rfl mn_ kn bn .nil aqt (aa (pv 0) (aa aq (aa aq bg)))))
  (ak (gp (i:=2) aqbi.nd rfl (.inl rfl) (axz aw9 aq (axz aYi (au okc hr1 rfl mc kc bc .nil aqt (aa (pv 0) (aa aq bg))) (axz aw7 (axz aYf aq aq) aq))))
  (ak (gp (i:=3) aqbi.nd rfl (.inl rfl) (aqfj M GI hr2 rfl T.mgC bI .nil aqt))
  (el (aV (aW6 (au ok1 hr9 rfl m1 k1 b1 .nil aqt (aa (pv 3) (aa (pv 1) (aa (pv 2) bg)))) (aqfi (au ok2 hr9 rfl m2 k2 b2 .nil aqt (aa (pv 3) (aa (pv 1) (aa (pv 2) bg)))))))))),?_⟩
 refine ⟨_,rfl,F0,a,ns,0,7,rfl,sm0,ha,h63,by omega,by omega,fun n H1 N s1 hn0 hn1 hN hnd hok=>?_⟩;have ce:=aqe8 ns 7 (by omega);refine ⟨_,rfl,F0,[MB.ax4 ns,.int 7],_,sm0.trans s1,.cons (.lst ha (aq4 ns)) (.cons (.int _) .nil),rfl,ce,fun v F' H2 e2 r2=>?_⟩;cases r2;generalize cellOf ns 7=c;refine ⟨_,_,rfl,rfl,⟨by decide,by decide,by decide⟩,_,_,rfl,rfl,_,_,rfl,rfl,(by show (0:Int) < 10 ^ 18 - 2; decide),_,_,rfl,rfl,?_⟩;have b0:=Hh c (b:=10 ^ 18 - 2) (by decide);have b1':=Fs c (b:=10 ^ 18 - 2) (by decide);have hm1:2 <= 2 + c % (10 ^ 18 - 2):=by omega
 have hm2:2 + c % (10 ^ 18 - 2) < 1000000000000000000:=by
  have:(10:Int) ^ 18=1000000000000000000:=by decide
  omega
 dsimp only;rw [show (2:Int) + c % (10 ^ (18:Int).toNat - 2)=2 + c % (10 ^ 18 - 2) from rfl];generalize 2 + c % (10 ^ 18 - 2)=m at hm1 hm2 ⊢;clear b0 b1';intro p dx np ndx nep;refine ⟨p,dx,rfl,ac,fun l d H3 hl hd S3 kp3=>⟨rfl,?_⟩⟩;have s2:aqs2 H2 (upd (upd H2 dx (.own p)) p (.ins C dx [])):=fun b o e=>by
  rw [ah (ae e np),ah (ae e ndx)];exact e
 have s3:aqs2 H2 H3:=fun b o e=>kp3 b o (s2 _ _ e) (ae e np);have hn2:=e2.hh _ _ hn1;have hn3:=s3 _ _ hn2;have nl:n ≠ l:=ae hn2 (s2.free hl);obtain ⟨x0,x1,x2,aqr2,rfl⟩:∃ x0 x1 x2 aqr2,N=x0 :: x1 :: x2 :: aqr2:=by
  match N,hN with
  | x0 :: x1 :: x2 :: aqr2,_=>exact ⟨_,_,_,_,rfl⟩
 have n01:x0 ≠ x1:=fun e=>by
  have:=(Fo.mp hnd).1
  exact this (by simp [e])
 refine ⟨_,rfl,_,rfl,_,rfl,p,l,d,n,x0,x1,x2,aqr2,m,rfl,S3,hn3,hok _ (by simp),hok _ (by simp),n01,hm1,hm2,fun H4 k4 S4=>⟨_,rfl,aqrb ?_⟩⟩;have hn4:=k4 _ _ hn3 nl (az1 hn3 S3.ba nofun);refine ⟨_,rfl,_,rfl,_,rfl,p,l,d,n,_,hN,m,rfl,S4,hn4,nl,hnd,hok,by omega,by omega,fun H5 k5=>?_⟩;have s02:=s1.trans e2.hh;have sm:aqs2 H H5:=fun b o hb=>k5 _ _ (k4 _ _ (s3 _ _ (s02 _ _ hb)) (ae (s02 _ _ hb) (s2.free hl)) (ae (s02 _ _ hb) (s2.free hd))) (ae (s02 _ _ hb) (s2.free hl)) (ae (s02 _ _ hb) (s2.free hd));exact k (.bl true) F0 _ ⟨aqs2.refl _,sm0.trans sm,sm,fun _ _ h=>.inl h⟩ (.bl true)
end
def Dn (K:Frag) (x:Str) (st:Stmt):Prop:=∃ (f:Addr) (od an:Option Addr) (sl:Array (Option Value)) (oc kV dc pm cd ct:Value),nsIn K Am x=some (some (.ref f))/\K.lookup f=some ⟨oc,od,.func (fnOf x x (aqz st) (aqi st) (af st) .none kV dc pm an cd ct),sl⟩/\Ni K cd x=true/\Ha K (.ref f)=true
theorem dm {K:Frag} {x:Str} {st:Stmt} {f:Addr} {od an:Option Addr} {sl:Array (Option Value)} {oc kV dc pm cd ct:Value} (a:nsIn K Am x=some (some (.ref f))) (l:K.lookup f=some ⟨oc,od,.func (fnOf x x (aqz st) (aqi st) (af st) .none kV dc pm an cd ct),sl⟩) (c:Ni K cd x=true) (k:Ha K (.ref f)=true):Dn K x st:=⟨f,od,an,sl,oc,kV,dc,pm,cd,ct,a,l,c,k⟩
theorem dn {P:Aj} {w:World} {K:Frag} {mg:Str->Option Value} {base h:Heap} (X:K.In h) (G:h.Ns Am mg) {x:Str} {st:Stmt} {k:Nat} {ps:List Str} {sp:Sp} (d:Dn K x st) (ok:∀ {f:Addr} {fd:Ak},Fun K x x st f fd->FnOk P w K mg base CX0 k f fd ps sp) (b:∀ (kV doc pm:Value) (an:Option Addr) (cdv ct:Value) (us:List Value),us.length=ps.length->Ia (fnOf x x (aqz st) (aqi st) (af st) .none kV doc pm an cdv ct) ⟨us,[]⟩=pure (ps.zip us)):Fn P w K mg base k x ps sp:=by
 obtain ⟨f,od,an,sl,oc,kV,dc,pm,cd,ct,a,l,c,kk⟩:=d;have F:=aqgt (st:=st) l c kk;exact ⟨_,_,ok F,mg_of X G a,kk,F.binds (ps:=ps) b⟩
theorem dn1 {P:Aj} {w:World} {K:Frag} {mg:Str->Option Value} {base h:Heap} (X:K.In h) (G:h.Ns Am mg) {x p0:Str} {st:Stmt} {k:Nat} {sp:Sp} (d:Dn K x st) (ok:∀ {f:Addr} {fd:Ak},Fun K x x st f fd->FnOk P w K mg base CX0 k f fd [p0] sp) (b:∀ (kV doc pm:Value) (an:Option Addr) (cdv ct:Value) a0,Ia (fnOf x x (aqz st) (aqi st) (af st) .none kV doc pm an cdv ct) ⟨[a0],[]⟩=pure ([p0].zip [a0])):Fn P w K mg base k x [p0] sp :=
 dn X G d ok fun _ _ _ _ _ _ us hl=>by
  obtain ⟨a0,rfl⟩:=B9.mp hl;exact b _ _ _ _ _ _ a0
theorem dn2 {P:Aj} {w:World} {K:Frag} {mg:Str->Option Value} {base h:Heap} (X:K.In h) (G:h.Ns Am mg) {x p0 p1:Str} {st:Stmt} {k:Nat} {sp:Sp} (d:Dn K x st) (ok:∀ {f:Addr} {fd:Ak},Fun K x x st f fd->FnOk P w K mg base CX0 k f fd [p0,p1] sp) (b:∀ (kV doc pm:Value) (an:Option Addr) (cdv ct:Value) a0 a1,Ia (fnOf x x (aqz st) (aqi st) (af st) .none kV doc pm an cdv ct) ⟨[a0,a1],[]⟩=pure ([p0,p1].zip [a0,a1])):Fn P w K mg base k x [p0,p1] sp :=
 dn X G d ok fun _ _ _ _ _ _ us hl=>by
  cases us with
  | nil=>cases hl
  | cons a0 us =>
   obtain ⟨a1,rfl⟩:=B9.mp (Nat.succ.inj hl);exact b _ _ _ _ _ _ a0 a1
theorem dn3 {P:Aj} {w:World} {K:Frag} {mg:Str->Option Value} {base h:Heap} (X:K.In h) (G:h.Ns Am mg) {x p0 p1 p2:Str} {st:Stmt} {k:Nat} {sp:Sp} (d:Dn K x st) (ok:∀ {f:Addr} {fd:Ak},Fun K x x st f fd->FnOk P w K mg base CX0 k f fd [p0,p1,p2] sp) (b:∀ (kV doc pm:Value) (an:Option Addr) (cdv ct:Value) a0 a1 a2,Ia (fnOf x x (aqz st) (aqi st) (af st) .none kV doc pm an cdv ct) ⟨[a0,a1,a2],[]⟩=pure ([p0,p1,p2].zip [a0,a1,a2])):Fn P w K mg base k x [p0,p1,p2] sp :=
 dn X G d ok fun _ _ _ _ _ _ us hl=>by
  cases us with
  | nil=>cases hl
  | cons a0 us =>
   cases us with
   | nil=>cases hl
   | cons a1 us =>
    obtain ⟨a2,rfl⟩:=B9.mp (Nat.succ.inj (Nat.succ.inj hl));exact b _ _ _ _ _ _ a0 a1 a2
theorem dn4 {P:Aj} {w:World} {K:Frag} {mg:Str->Option Value} {base h:Heap} (X:K.In h) (G:h.Ns Am mg) {x p0 p1 p2 p3:Str} {st:Stmt} {k:Nat} {sp:Sp} (d:Dn K x st) (ok:∀ {f:Addr} {fd:Ak},Fun K x x st f fd->FnOk P w K mg base CX0 k f fd [p0,p1,p2,p3] sp) (b:∀ (kV doc pm:Value) (an:Option Addr) (cdv ct:Value) a0 a1 a2 a3,Ia (fnOf x x (aqz st) (aqi st) (af st) .none kV doc pm an cdv ct) ⟨[a0,a1,a2,a3],[]⟩=pure ([p0,p1,p2,p3].zip [a0,a1,a2,a3])):Fn P w K mg base k x [p0,p1,p2,p3] sp :=
 dn X G d ok fun _ _ _ _ _ _ us hl=>by
  cases us with
  | nil=>cases hl
  | cons a0 us =>
   cases us with
   | nil=>cases hl
   | cons a1 us =>
    cases us with
    | nil=>cases hl
    | cons a2 us =>
     obtain ⟨a3,rfl⟩:=B9.mp (Nat.succ.inj (Nat.succ.inj (Nat.succ.inj hl)));exact b _ _ _ _ _ _ a0 a1 a2 a3
def Dx (K:Frag) (C:Addr) (x y:Str) (st:Stmt):Prop:=∃ (f:Addr) (od an:Option Addr) (sl:Array (Option Value)) (oc kV dc pm cd ct:Value),Aq K (.ref C) x=some (some (.ref f))/\Ho K (.ref f)=true/\K.lookup f=some ⟨oc,od,.func (fnOf x y (aqz st) (aqi st) (af st) .none kV dc pm an cd ct),sl⟩/\Ni K cd y=true/\Ha K (.ref f)=true
theorem dx {K:Frag} {C:Addr} {x y:Str} {st:Stmt} {f:Addr} {od an:Option Addr} {sl:Array (Option Value)} {oc kV dc pm cd ct:Value} (a:Aq K (.ref C) x=some (some (.ref f))) (i:Ho K (.ref f)=true) (l:K.lookup f=some ⟨oc,od,.func (fnOf x y (aqz st) (aqi st) (af st) .none kV dc pm an cd ct),sl⟩) (c:Ni K cd y=true) (k:Ha K (.ref f)=true):Dx K C x y st:=⟨f,od,an,sl,oc,kV,dc,pm,cd,ct,a,i,l,c,k⟩
theorem mx {P:Aj} {w:World} {K:Frag} {mg:Str->Option Value} {base:Heap} {C:Addr} {x y:Str} {st:Stmt} {k:Nat} {ps:List Str} {sp:Sp} {CX:CXT} (d:Dx K C x y st) (ok:∀ {f:Addr} {fd:Ak},Fun K x y st f fd->FnOk P w K mg base CX k f fd ps sp) (b:∀ (kV doc pm:Value) (an:Option Addr) (cdv ct:Value) (us:List Value),us.length=ps.length->Ia (fnOf x y (aqz st) (aqi st) (af st) .none kV doc pm an cdv ct) ⟨us,[]⟩=pure (ps.zip us)):∃ f fd,FnOk P w K mg base CX k f fd ps sp/\L2.Binds K fd ps []/\Meth K C x f:=by
 obtain ⟨f,od,an,sl,oc,kV,dc,pm,cd,ct,a,i,l,c,kk⟩:=d;have F:=aqgt (st:=st) l c kk;exact ⟨_,_,ok F,F.binds (ps:=ps) b,a,i,kk⟩
theorem len1 {p0:Str} {Q:List Value->Prop} (h:∀ a0,Q [a0]) (us:List Value) (hl:us.length=[p0].length):Q us:=by
 obtain ⟨a0,rfl⟩:=B9.mp hl;exact h a0
theorem len2 {p0 p1:Str} {Q:List Value->Prop} (h:∀ a0 a1,Q [a0,a1]) (us:List Value) (hl:us.length=[p0,p1].length):Q us:=by
 cases us with
 | nil=>cases hl
 | cons a0 us=>exact len1 (p0:=p1) (Q:=fun us=>Q (a0 :: us)) (h a0) us (Nat.succ.inj hl)
theorem len3 {p0 p1 p2:Str} {Q:List Value->Prop} (h:∀ a0 a1 a2,Q [a0,a1,a2]) (us:List Value) (hl:us.length=[p0,p1,p2].length):Q us:=by
 cases us with
 | nil=>cases hl
 | cons a0 us=>exact len2 (p0:=p1) (p1:=p2) (Q:=fun us=>Q (a0 :: us)) (h a0) us (Nat.succ.inj hl)
theorem len4 {p0 p1 p2 p3:Str} {Q:List Value->Prop} (h:∀ a0 a1 a2 a3,Q [a0,a1,a2,a3]) (us:List Value) (hl:us.length=[p0,p1,p2,p3].length):Q us:=by
 cases us with
 | nil=>cases hl
 | cons a0 us=>exact len3 (p0:=p1) (p1:=p2) (p2:=p3) (Q:=fun us=>Q (a0 :: us)) (h a0) us (Nat.succ.inj hl)
theorem len5 {p0 p1 p2 p3 p4:Str} {Q:List Value->Prop} (h:∀ a0 a1 a2 a3 a4,Q [a0,a1,a2,a3,a4]) (us:List Value) (hl:us.length=[p0,p1,p2,p3,p4].length):Q us:=by
 cases us with
 | nil=>cases hl
 | cons a0 us=>exact len4 (p0:=p1) (p1:=p2) (p2:=p3) (p3:=p4) (Q:=fun us=>Q (a0 :: us)) (h a0) us (Nat.succ.inj hl)
theorem all_mk {l:Hb} {w:World} {K:Frag} {h:Heap} {mg:Str->Option Value} {fa C Ct Cm Cn Cf Cb Cs Cr:Addr} {tk0 tk1 tk2:Tok} (X:K.In h) (G:h.Ns Am mg) (hfa:mg "law"=some (.ref fa))
  (aC:nsIn K Am "Hall"=some (some (.ref C)))
  (d0:Dn K "first_purses" ajt)
  (d1:Dn K "below" aWu)
  (d2:Dn K "least" aWo)
  (d3:Dn K "weight_of" azo)
  (d4:Dn K "likes_each" axw)
  (d5:Dn K "agreed" aJ9)
  (d6:Dn K "likers" aJ8)
  (d7:Dn K "divisor" awz)
  (d8:Dn K "common_bottom" ajb)
  (d9:Dn K "tops_over" azq)
  (d10:Dn K "weight_at" azp)
  (d11:Dn K "share" aWl)
  (d12:Dn K "rate" aqf0)
  (d13:Dn K "liked" aWn)
  (d14:Dn K "offers" aJ7)
  (d15:Dn K "minus" aWm)
  (d16:Dn K "purse_behind" ajs)
  (d17:Dn K "paid" aqf2)
  (d18:Dn K "rounds" aJ6)
  (d19:Dn K "candidates_of" ajc)
  (d20:Dn K "weighed" awx)
  (d21:Dn K "wait" aqey)
  (d22:Dn K "waits" aWk)
  (d23:Dn K "plus" aqf1)
  (d24:Dn K "purses_behind" aq9)
  (d25:Dn K "grown" aWq)
  (d26:Dn K "last_purses" aj8)
  (d27:Dn K "bench" aWt)
  (d28:Dn K "members_liked" aja)
  (d29:Dn K "claim" aWs)
  (d30:Dn K "choices" aw0)
  (d31:Dn K "left_out" avt)
  (d32:Dn K "_law_cell" azr)
  (d33:Dn K "tidy" aqez)
  (d34:Dn K "_law_names" axx)
  (d35:Dn K "_law_did" s_did)
  (d36:Dn K "_law_kinds" aWp)
  (d37:Dn K "_law_refused" awy)
  (d38:Dn K "_law_done" aqf4)
  (d39:Dn K "_law_first" aWr)
  (d40:Dn K "_law_second" aJ5)
  (d41:Dn K "law" aqf3)
  (e0:Dx K C "__init__" "Hall.__init__" sInit)
  (e1:Dx K C "stand" "Hall.stand" aqf5)
  (e2:Dx K C "heap" "Hall.heap" sHeap)
  (e3:Dx K C "cast" "Hall.cast" sCast)
  (e4:Dx K C "lift" "Hall.lift" sLift)
  (e5:Dx K C "lay" "Hall.lay" sLay)
  (e6:Dx K C "numbers_of" "Hall.numbers_of" sNums)
  (e7:Dx K C "names_of" "Hall.names_of" aXa)
  (e8:Dx K C "names" "Hall.names" aqf6)
  (e9:Dx K C "bench_of" "Hall.bench_of" aqf8)
  (e10:Dx K C "judge" "Hall.judge" aqf7)
  (pg:E8 K C Str.empty=true)
  (hd:Fz K C=true)
  (po:Ir K C=true)
  (sa:Aq K (.ref C) "__setattr__"=some (some (.builtin "object.__setattr__")))
  (mk:J8 K C=true)
  (kc:Ha K (.ref C)=true)
  (nS:Aq K (.ref C) "standing"=some none)
  (nB:Aq K (.ref C) "ballots"=some none)
  (y0:nsIn K Am "MOST_STANDING"=some (some (.int 6 tk0)))
  (y1:nsIn K Am "MOST_PILES"=some (some (.int 12 tk1)))
  (y2:nsIn K Am "MOST_BALLOTS"=some (some (.int 1000000000000000000 tk2)))
  (xaCt:nsIn K Am "Taken"=some (some (.ref Ct)))
  (xeCt:Eo K Ct [.type "ValueError",.type "Exception",.type "BaseException",.type "object"] "ValueError.__new__"=true)
  (xtCt:Dc K (.ref Ct)=some (.type "type"))
  (xbCt:As K Ct (.type "BaseException")=some true)
  (xsCt:As K Ct (.ref Ct)=some true)
  (xaCm:nsIn K Am "TooMany"=some (some (.ref Cm)))
  (xeCm:Eo K Cm [.type "ValueError",.type "Exception",.type "BaseException",.type "object"] "ValueError.__new__"=true)
  (xtCm:Dc K (.ref Cm)=some (.type "type"))
  (xbCm:As K Cm (.type "BaseException")=some true)
  (xsCm:As K Cm (.ref Cm)=some true)
  (xaCn:nsIn K Am "NoName"=some (some (.ref Cn)))
  (xeCn:Eo K Cn [.type "ValueError",.type "Exception",.type "BaseException",.type "object"] "ValueError.__new__"=true)
  (xtCn:Dc K (.ref Cn)=some (.type "type"))
  (xbCn:As K Cn (.type "BaseException")=some true)
  (xsCn:As K Cn (.ref Cn)=some true)
  (xaCf:nsIn K Am "TooFew"=some (some (.ref Cf)))
  (xeCf:Eo K Cf [.type "ValueError",.type "Exception",.type "BaseException",.type "object"] "ValueError.__new__"=true)
  (xtCf:Dc K (.ref Cf)=some (.type "type"))
  (xbCf:As K Cf (.type "BaseException")=some true)
  (xsCf:As K Cf (.ref Cf)=some true)
  (xaCb:nsIn K Am "BenchError"=some (some (.ref Cb)))
  (xeCb:Eo K Cb [.type "ValueError",.type "Exception",.type "BaseException",.type "object"] "ValueError.__new__"=true)
  (xtCb:Dc K (.ref Cb)=some (.type "type"))
  (xbCb:As K Cb (.type "BaseException")=some true)
  (xaCs:nsIn K Am "NoShare"=some (some (.ref Cs)))
  (xaCr:nsIn K Am "NoRow"=some (some (.ref Cr)))
  (xnCmCt:As K Cm (.ref Ct)=some false)
  (xnCnCt:As K Cn (.ref Ct)=some false)
  (xnCnCm:As K Cn (.ref Cm)=some false)
  (xnCfCt:As K Cf (.ref Ct)=some false)
  (xnCfCm:As K Cf (.ref Cm)=some false)
  (xnCfCn:As K Cf (.ref Cn)=some false)
  (gg:F6 K (.builtin "object.__class__") "__get__"=some (some (.builtin "getset_descriptor.__get__")))
  (gk:J9 K (.builtin "object.__class__")=some true)
  (xBCt:As K Ct (.ref Cb)=some true)
  (gaCt:Aq K (.ref Ct) "__getattribute__"=some (some (.builtin "BaseException.__getattribute__")))
  (gcCt:Aq K (.ref Ct) "__class__"=some (some (.builtin "object.__class__")))
  (goCt:As K Ct (.type "object")=some true)
  (gnCt:Aq K (.ref Ct) "__getattr__"=some none)
  (kvCt:An K (.ref Ct) (.type "ValueError")=some true)
  (kCtCt:An K (.ref Ct) (.ref Ct)=some true)
  (kCtCm:An K (.ref Ct) (.ref Cm)=some false)
  (kCtCn:An K (.ref Ct) (.ref Cn)=some false)
  (kCtCf:An K (.ref Ct) (.ref Cf)=some false)
  (kCtCs:An K (.ref Ct) (.ref Cs)=some false)
  (kCtCr:An K (.ref Ct) (.ref Cr)=some false)
  (xBCm:As K Cm (.ref Cb)=some true)
  (gaCm:Aq K (.ref Cm) "__getattribute__"=some (some (.builtin "BaseException.__getattribute__")))
  (gcCm:Aq K (.ref Cm) "__class__"=some (some (.builtin "object.__class__")))
  (goCm:As K Cm (.type "object")=some true)
  (gnCm:Aq K (.ref Cm) "__getattr__"=some none)
  (kvCm:An K (.ref Cm) (.type "ValueError")=some true)
  (kCmCt:An K (.ref Cm) (.ref Ct)=some false)
  (kCmCm:An K (.ref Cm) (.ref Cm)=some true)
  (kCmCn:An K (.ref Cm) (.ref Cn)=some false)
  (kCmCf:An K (.ref Cm) (.ref Cf)=some false)
  (kCmCs:An K (.ref Cm) (.ref Cs)=some false)
  (kCmCr:An K (.ref Cm) (.ref Cr)=some false)
  (xBCn:As K Cn (.ref Cb)=some true)
  (gaCn:Aq K (.ref Cn) "__getattribute__"=some (some (.builtin "BaseException.__getattribute__")))
  (gcCn:Aq K (.ref Cn) "__class__"=some (some (.builtin "object.__class__")))
  (goCn:As K Cn (.type "object")=some true)
  (gnCn:Aq K (.ref Cn) "__getattr__"=some none)
  (kvCn:An K (.ref Cn) (.type "ValueError")=some true)
  (kCnCt:An K (.ref Cn) (.ref Ct)=some false)
  (kCnCm:An K (.ref Cn) (.ref Cm)=some false)
  (kCnCn:An K (.ref Cn) (.ref Cn)=some true)
  (kCnCf:An K (.ref Cn) (.ref Cf)=some false)
  (kCnCs:An K (.ref Cn) (.ref Cs)=some false)
  (kCnCr:An K (.ref Cn) (.ref Cr)=some false)
  (xBCf:As K Cf (.ref Cb)=some true)
  (gaCf:Aq K (.ref Cf) "__getattribute__"=some (some (.builtin "BaseException.__getattribute__")))
  (gcCf:Aq K (.ref Cf) "__class__"=some (some (.builtin "object.__class__")))
  (goCf:As K Cf (.type "object")=some true)
  (gnCf:Aq K (.ref Cf) "__getattr__"=some none)
  (kvCf:An K (.ref Cf) (.type "ValueError")=some true)
  (kCfCt:An K (.ref Cf) (.ref Ct)=some false)
  (kCfCm:An K (.ref Cf) (.ref Cm)=some false)
  (kCfCn:An K (.ref Cf) (.ref Cn)=some false)
  (kCfCf:An K (.ref Cf) (.ref Cf)=some true)
  (kCfCs:An K (.ref Cf) (.ref Cs)=some false)
  (kCfCr:An K (.ref Cf) (.ref Cr)=some false)
  (z0:nsIn K Am "range"=some none)
  (z1:nsIn K Am "len"=some none)
  (z2:nsIn K Am "list"=some none)
  (z3:nsIn K Am "tuple"=some none)
  (z4:nsIn K Am "sorted"=some none)
  (z5:nsIn K Am "max"=some none)
  (z6:nsIn K Am "all"=some none)
  (z7:nsIn K Am "enumerate"=some none)
  (z8:nsIn K Am "int"=some none)
  (z9:nsIn K Am "ValueError"=some none)
  (z10:nsIn K Am "isinstance"=some none)
  (z11:nsIn K Am "abs"=some none)
  (z12:nsIn K Am "set"=some none)
  (z13:nsIn K Am "sum"=some none)
  (z14:nsIn K Am "zip"=some none) :
  ∃ fd:Ak,(∀ (s:Shared) (v:Value),Iu s fd ⟨[v],[]⟩ [("script",v)])/\∀ base:Heap,K.In base->base.Ns Am mg->FnOk l.prog w K mg base CX0 12 fa fd ["script"] (spD K 1 aqhp):=by
 obtain ⟨f,od,an,sl,oc,kV,dc,pm,cd,ct,a,l1,c,kk⟩:=d41;have e:=hfa.symm.trans (mg_of X G a);cases e;have T:Hx K mg C Ct Cm Cn Cf:=⟨⟨pg,hd,po,sa⟩,nS,nB,mg_of X G aC,⟨_,mg_of X G y0⟩,⟨_,mg_of X G y1⟩,⟨_,mg_of X G y2⟩,(aU xeCt).1,mg_of X G xaCt,(aU xeCm).1,mg_of X G xaCm,(aU xeCn).1,mg_of X G xaCn,(aU xeCf).1,mg_of X G xaCf,⟨xtCt,(aU xeCt).2,xbCt,xsCt⟩,⟨xtCt,(aU xeCt).2,xbCt,xnCmCt⟩,⟨xtCm,(aU xeCm).2,xbCm,xsCm⟩,⟨xtCt,(aU xeCt).2,xbCt,xnCnCt⟩,⟨xtCm,(aU xeCm).2,xbCm,xnCnCm⟩,⟨xtCn,(aU xeCn).2,xbCn,xsCn⟩,⟨xtCt,(aU xeCt).2,xbCt,xnCfCt⟩,⟨xtCm,(aU xeCm).2,xbCm,xnCfCm⟩,⟨xtCn,(aU xeCn).2,xbCn,xnCfCn⟩,⟨xtCf,(aU xeCf).2,xbCf,xsCf⟩,Bj X G z0,Bj X G z1,Bj X G z2,Bj X G z3,Bj X G z4,Bj X G z5,Bj X G z6,Bj X G z7,Bj X G z8⟩;have U:Kx K mg Cb Ct Cm Cn Cf Cs Cr:=⟨mg_of X G xaCb,Bj X G z9,mg_of X G xaCs,mg_of X G xaCr,Bj X G z10,⟨⟨xtCb,(aU xeCb).2,xbCb,xBCt⟩,⟨(aU xeCt).2,gaCt,gcCt,gg,gk,goCt,xbCt,gnCt⟩,kvCt,kCtCt,kCtCm,kCtCn,kCtCf,kCtCs,kCtCr⟩,⟨⟨xtCb,(aU xeCb).2,xbCb,xBCm⟩,⟨(aU xeCm).2,gaCm,gcCm,gg,gk,goCm,xbCm,gnCm⟩,kvCm,kCmCt,kCmCm,kCmCn,kCmCf,kCmCs,kCmCr⟩,⟨⟨xtCb,(aU xeCb).2,xbCb,xBCn⟩,⟨(aU xeCn).2,gaCn,gcCn,gg,gk,goCn,xbCn,gnCn⟩,kvCn,kCnCt,kCnCm,kCnCn,kCnCf,kCnCs,kCnCr⟩,⟨⟨xtCb,(aU xeCb).2,xbCb,xBCf⟩,⟨(aU xeCf).2,gaCf,gcCf,gg,gk,goCf,xbCf,gnCf⟩,kvCf,kCfCt,kCfCm,kCfCn,kCfCf,kCfCs,kCfCr⟩⟩;have T1:Txt mg:=⟨Bj X G z11,Bj X G z6,Bj X G z7,Bj X G z1,Bj X G z2,Bj X G z12,Bj X G z4,Bj X G z13,Bj X G z14⟩;have F:=aqgt (st:=aqf3) l1 c kk;refine ⟨fnOf "law" "law" (aqz aqf3) (aqi aqf3) (af aqf3) .none kV dc pm an cd ct,fun s v=>.of_eq rfl,fun base _ _=>?_⟩;have D1:=@dn1 l.prog w K mg base h X G;have D2:=@dn2 l.prog w K mg base h X G;have D3:=@dn3 l.prog w K mg base h X G;have D4:=@dn4 l.prog w K mg base h X G;have G_first_purses:=D2 d0 (fun F=>aku F T1) fun _ _ _ _ _ _ _ _ =>rfl;have G_below:=D2 d1 (fun F=>aqg2 F T1) fun _ _ _ _ _ _ _ _ =>rfl;have G_least:=D1 d2 (fun F=>aqfv F T1 G_below) fun _ _ _ _ _ _ _ =>rfl;have G_weight_of:=D1 d3 (fun F=>aXl F T1) fun _ _ _ _ _ _ _ =>rfl;have G_likes_each:=D2 d4 (fun F=>aQ9 F T1) fun _ _ _ _ _ _ _ _ =>rfl;have G_agreed:=D2 d5 (fun F=>aqbz F T1 G_likes_each) fun _ _ _ _ _ _ _ _ =>rfl;have G_likers:=D2 d6 (fun F=>aqby F T1 G_agreed) fun _ _ _ _ _ _ _ _ =>rfl;have G_divisor:=D2 d7 (fun F=>aYm F T1) fun _ _ _ _ _ _ _ _ =>rfl;have G_common_bottom:=D1 d8 (fun F=>av0 F T1 G_divisor) fun _ _ _ _ _ _ _ =>rfl;have G_tops_over:=D2 d9 (fun F=>aXn F T1) fun _ _ _ _ _ _ _ _ =>rfl;have G_weight_at:=D2 d10 (fun F=>aXm F T1) fun _ _ _ _ _ _ _ _ =>rfl;have G_share:=D2 d11 (fun F=>aqfr F T1 G_divisor) fun _ _ _ _ _ _ _ _ =>rfl;have G_rate:=D4 d12 (fun F=>aqj6 F T1 G_likers G_common_bottom G_tops_over G_weight_at G_share) fun _ _ _ _ _ _ _ _ _ _ =>rfl;have G_liked:=D1 d13 (fun F=>aqfu F T1) fun _ _ _ _ _ _ _ =>rfl;have G_offers:=D3 d14 (fun F=>aqbx F T1 G_weight_of G_rate G_liked) fun _ _ _ _ _ _ _ _ _ =>rfl;have G_minus:=D2 d15 (fun F=>aqft F T1 G_share) fun _ _ _ _ _ _ _ _ =>rfl;have G_purse_behind:=D2 d16 (fun F=>akt F T1 G_below G_minus) fun _ _ _ _ _ _ _ _ =>rfl;have G_paid:=D4 d17 (fun F=>aqj8 F T1 G_purse_behind G_likers) fun _ _ _ _ _ _ _ _ _ _ =>rfl;have G_rounds:=D2 d18 (fun F=>aqbw F T1 G_first_purses G_least G_offers G_paid) fun _ _ _ _ _ _ _ _ =>rfl;have G_candidates_of:=D1 d19 (fun F=>av1 F T1) fun _ _ _ _ _ _ _ =>rfl;have G_weighed:=D3 d20 (fun F=>aYj F T1) fun _ _ _ _ _ _ _ _ _ =>rfl;have G_wait:=D3 d21 (fun F=>aqj4 F T1 G_likers G_common_bottom G_weight_of G_weighed G_tops_over G_share G_weight_at) fun _ _ _ _ _ _ _ _ _ =>rfl;have G_waits:=D4 d22 (fun F=>aqfp F T1 G_wait G_liked) fun _ _ _ _ _ _ _ _ _ _ =>rfl;have G_plus:=D2 d23 (fun F=>aqj7 F T1 G_share) fun _ _ _ _ _ _ _ _ =>rfl;have G_purses_behind:=D3 d24 (fun F=>avy F T1 G_likers G_plus) fun _ _ _ _ _ _ _ _ _ =>rfl;have G_grown:=D4 d25 (fun F=>aqfy F T1 G_least G_waits G_purses_behind) fun _ _ _ _ _ _ _ _ _ _ =>rfl;have G_last_purses:=D3 d26 (fun F=>aQa F T1 G_first_purses) fun _ _ _ _ _ _ _ _ _ =>rfl;have G_bench:=D2 d27 (fun F=>aqg1 F T1 G_rounds G_candidates_of G_grown G_last_purses) fun _ _ _ _ _ _ _ _ =>rfl;have G_members_liked:=D3 d28 (fun F=>avz F T1) fun _ _ _ _ _ _ _ _ _ =>rfl;have G_claim:=D4 d29 (fun F=>aqg0 F T1 G_agreed G_weight_at G_weight_of) fun _ _ _ _ _ _ _ _ _ _ =>rfl;have G_choices:=D1 d30 (fun F=>aYn F T1) fun _ _ _ _ _ _ _ =>rfl;have G_left_out:=D3 d31 (fun F=>aV5 F T1 G_members_liked G_agreed G_claim G_choices G_liked) fun _ _ _ _ _ _ _ _ _ =>rfl;have G__law_cell:=D2 d32 (fun F=>aXo F T1) fun _ _ _ _ _ _ _ _ =>rfl;have N:=@dn l.prog w K mg base h X G;obtain ⟨_,_,oI,bI,mI⟩:=mx (P:=l.prog) (w:=w) (mg:=mg) (base:=base) e0 (fun F=>aqjb F T) (fun _ _ _ _ _ _=>len1 fun _=>rfl);obtain ⟨_,_,oS,bS,mS⟩:=mx (P:=l.prog) (w:=w) (mg:=mg) (base:=base) e1 (fun F=>aqfq F T) (fun _ _ _ _ _ _=>len2 fun _ _=>rfl);obtain ⟨_,_,oL,bL,mL⟩:=mx (P:=l.prog) (w:=w) (mg:=mg) (base:=base) e5 (fun F=>aqmo F T) (fun _ _ _ _ _ _=>len3 fun _ _ _=>rfl);obtain ⟨_,_,oM,bM,mM⟩:=mx (P:=l.prog) (w:=w) (mg:=mg) (base:=base) e6 (fun F=>aqj9 F T) (fun _ _ _ _ _ _=>len2 fun _ _=>rfl);obtain ⟨_,_,oO,bO,mO⟩:=mx (P:=l.prog) (w:=w) (mg:=mg) (base:=base) e7 (fun F=>aYl F T) (fun _ _ _ _ _ _=>len2 fun _ _=>rfl);obtain ⟨_,_,oN,bN,mN⟩:=mx (P:=l.prog) (w:=w) (mg:=mg) (base:=base) e8 (fun F=>aqfs F T) (fun _ _ _ _ _ _=>len1 fun _=>rfl);obtain ⟨_,_,oC,bC,mC⟩:=mx (P:=l.prog) (w:=w) (mg:=mg) (base:=base) e3 (fun F=>aqje F T oM bM mM oL bL mL) (fun _ _ _ _ _ _=>len3 fun _ _ _=>rfl);obtain ⟨_,_,oF,bF,mF⟩:=mx (P:=l.prog) (w:=w) (mg:=mg) (base:=base) e4 (fun F=>aqja F T oM bM mM oL bL mL) (fun _ _ _ _ _ _=>len3 fun _ _ _=>rfl);have Gt:=N d33 (fun F=>aqj5 F T) (fun _ _ _ _ _ _=>len1 fun _=>rfl);obtain ⟨_,_,oH,bH,mH⟩:=mx (P:=l.prog) (w:=w) (mg:=mg) (base:=base) e2 (fun F=>aqjc F T Gt) (fun _ _ _ _ _ _=>len1 fun _=>rfl);obtain ⟨_,_,oB,bB,mB⟩:=mx (P:=l.prog) (w:=w) (mg:=mg) (base:=base) e9 (fun F=>aYo F T oH bH mH oO bO mO G_bench) (fun _ _ _ _ _ _=>len2 fun _ _=>rfl);obtain ⟨_,_,oJ,bJ,mJ⟩:=mx (P:=l.prog) (w:=w) (mg:=mg) (base:=base) e10 (fun F=>aqfx F T oM bM mM oH bH mH oO bO mO G_left_out) (fun _ _ _ _ _ _=>len3 fun _ _ _=>rfl);have Gn:=N d34 (fun F=>aJa F T1 T.zr G__law_cell) (fun _ _ _ _ _ _=>len3 fun _ _ _=>rfl);have Gd:=N d35 (fun F=>aqmq F T oS bS mS oC bC mC oF bF mF) (fun _ _ _ _ _ _=>len4 fun _ _ _ _=>rfl);have Gk:=N d36 (fun F=>aqfw F T U oS bS mS oC bC mC oF bF mF oJ bJ mJ) (fun _ _ _ _ _ _=>len4 fun _ _ _ _=>rfl);have Gr:=N d37 (fun F=>aYk F Gd Gk) (fun _ _ _ _ _ _=>len5 fun _ _ _ _ _=>rfl);have Ge:=N d38 (fun F=>aqjd F Gd) (fun _ _ _ _ _ _=>len4 fun _ _ _ _=>rfl);have G1:=N d39 (fun F=>aqfz F T Gr Ge oH bH mH oB bB mB oJ bJ mJ) (fun _ _ _ _ _ _=>len3 fun _ _ _=>rfl);have G2:=N d40 (fun F=>aqbv F T Gr Ge oH bH mH oN bN mN) (fun _ _ _ _ _ _=>len3 fun _ _ _=>rfl);exact aqmp F T Gn G__law_cell G1 G2 ⟨mk,mI.at_,mI.fn,kc⟩ oI bI
theorem walk {l:Hb} {qq:Aj} {loose:List Str} {XP:(Str->Option Value)->Heap->Prop} {YP:World->Heap->Prop} {d:DefRec} {K:Params->Frag} (hlaw:∀ ns:List Int,ns.length <= 63->aqhp [.lst (ns.map .int)]=some (.bl true)) (hn:l.most=some 63) (hdf:d.params.defaults=[])
  (hY:∀ (w:World) (h:Heap),YP w h->(K w.params).In h)
  (F:∀ (w:World) (mg:Str->Option Value) (fa:Addr) (h:Heap),(K w.params).In h->h.Ns Am mg->mg d.name=some (.ref fa) ->
   ∃ fd:Ak,(∀ (s:Shared) (u:Value),Iu s fd ⟨[u],[]⟩ [("script",u)])/\∀ base:Heap,(K w.params).In base->base.Ns Am mg->FnOk l.prog w (K w.params) mg base CX0 12 fa fd ["script"] (spD (K w.params) 1 aqhp)) :
  Lv qq loose XP YP l.row.toRowW d [] (fun f vs=>PySem.call f vs) :=
 DL.aqd0 (n:=63) (k:=12) (x:="script") (CX:=fun _=>CX0) (sp:=fun w=>spD (K w.params) 1 aqhp) hn (by decide) hdf ⟨rfl,by decide,by decide⟩ hY F (fun _ _ a ns hl hS=>aqn0 (hlaw ns hl) hS) fun _ _ _ _ _ z=>z
end L_k64
namespace PySem.W.Fast
theorem tw17653652572702675079:True:=⟨⟩
theorem tw3637163661366108212:True:=⟨⟩
theorem tw14820460431909311066:True:=⟨⟩
theorem tw1609097043646350796:True:=⟨⟩
theorem tw5510975079450595193:True:=⟨⟩
theorem tw4445259754521426137:True:=⟨⟩
theorem tw12693410075582569913:True:=⟨⟩
theorem tw10158945447243191462:True:=⟨⟩
theorem tw2180701417141012583:True:=⟨⟩
theorem tw5407267747269106821:True:=⟨⟩
theorem tw12771877678597845109:True:=⟨⟩
theorem tw14081309585694912817:True:=⟨⟩
theorem tw1964559938337975326:True:=⟨⟩
theorem tw13661131615194103531:True:=⟨⟩
theorem tw16664476359523396540:True:=⟨⟩
theorem tw12642564329838750917:True:=⟨⟩
theorem tw1255377806917778507:True:=⟨⟩
theorem tw6644788893173271195:True:=⟨⟩
theorem tw4606396518528992305:True:=⟨⟩
theorem tw17394385564597085301:True:=⟨⟩
theorem tw13265615854114349885:True:=⟨⟩
theorem tw10851820773382239002:True:=⟨⟩
theorem tw8971398785519800873:True:=⟨⟩
theorem tw11593156737892106416:True:=⟨⟩
theorem tw14377493500819127213:True:=⟨⟩
theorem tw6497345994799574480:True:=⟨⟩
theorem tw13440649585150233627:True:=⟨⟩
theorem tw134613419067537412:True:=⟨⟩
theorem tw10164669465216740882:True:=⟨⟩
theorem tw17125235753104494351:True:=⟨⟩
theorem tw14887315977053457322:True:=⟨⟩
theorem tw3438434838056953647:True:=⟨⟩
theorem tw10977738219922939414:True:=⟨⟩
theorem tw4088323939480711162:True:=⟨⟩
theorem tw14870397595532956505:True:=⟨⟩
theorem tw6260743508393368348:True:=⟨⟩
theorem tw11091739871032337331:True:=⟨⟩
theorem tw8202770889379693594:True:=⟨⟩
theorem tw15940541127092079336:True:=⟨⟩
theorem tw13516098435195936745:True:=⟨⟩
theorem tw6286582540845130098:True:=⟨⟩
theorem tw15367823552739524084:True:=⟨⟩
theorem tw837351167248648455:True:=⟨⟩
theorem tw1355866197505813560:True:=⟨⟩
theorem tw7618828217807625229:True:=⟨⟩
theorem tw8716506987733794135:True:=⟨⟩
theorem tw14861756228849844044:True:=⟨⟩
theorem tw793236156578343846:True:=⟨⟩
theorem tw9978675055933818278:True:=⟨⟩
theorem tw13911934785664635240:True:=⟨⟩
theorem tw16975180523985695086:True:=⟨⟩
theorem tw1661753393003981420:True:=⟨⟩
theorem tw13808963889380186683:True:=⟨⟩
theorem tw3679485629696091082:True:=⟨⟩
theorem tw1769716068403096897:True:=⟨⟩
theorem tw4405576511481965525:True:=⟨⟩
theorem tw3681757413980593764:True:=⟨⟩
theorem tw7688190525776786872:True:=⟨⟩
theorem tw6346514958989898593:True:=⟨⟩
theorem tw5482054730719571033:True:=⟨⟩
end PySem.W.Fast
open PySem PySem.W PyProof.Rows
set_option maxRecDepth 100000 in
set_option maxHeartbeats 0 in
theorem PySem.Challenge.cw_pursebench_k64_refused_and_then_done_holds : PySem.Challenge.rw_pursebench_k64_refused_and_then_done.Holds := by
 w_on; o_law; k_head; (case hw=>w_witness2)
 k_fill
 refine L_k64.walk (l:=PySem.Challenge.rw_pursebench_k64_refused_and_then_done) L_k64.law_true rfl rfl (fun w h Y=>PySem.W.kIn_of Y) ?F
 case F =>
  intro w mg fa h KX G hmg
  refine' L_k64.all_mk KX G hmg ?_ ?_ ?_ ?_ ?_ ?_ ?_ ?_ ?_ ?_ ?_ ?_ ?_ ?_ ?_ ?_ ?_ ?_ ?_ ?_ ?_ ?_ ?_ ?_ ?_ ?_ ?_ ?_ ?_ ?_ ?_ ?_ ?_ ?_ ?_ ?_ ?_ ?_ ?_ ?_ ?_ ?_ ?_ ?_ ?_ ?_ ?_ ?_ ?_ ?_ ?_ ?_ ?_ ?_ ?_ ?_ ?_ ?_ ?_ ?_ ?_ ?_ ?_ ?_ ?_ ?_ ?_ ?_ ?_ ?_ ?_ ?_ ?_ ?_ ?_ ?_ ?_ ?_ ?_ ?_ ?_ ?_ ?_ ?_ ?_ ?_ ?_ ?_ ?_ ?_ ?_ ?_ ?_ ?_ ?_ ?_ ?_ ?_ ?_ ?_ ?_ ?_ ?_ ?_ ?_ ?_ ?_ ?_ ?_ ?_ ?_ ?_ ?_ ?_ ?_ ?_ ?_ ?_ ?_ ?_ ?_ ?_ ?_ ?_ ?_ ?_ ?_ ?_ ?_ ?_ ?_ ?_ ?_ ?_ ?_ ?_ ?_ ?_ ?_ ?_ ?_ ?_ ?_ ?_ ?_ ?_ ?_ ?_ ?_ ?_ ?_ ?_ ?_ ?_ ?_ ?_ ?_ ?_ ?_ ?_ ?_ ?_
  all_goals first | (refine' L_k64.dm ?a ?l ?c ?k; (case a=>k_is); (case l=>k_is); (case c=>k_is); (case k=>k_is)) | (refine' L_k64.dx ?a ?i ?l ?c ?k; (case a=>k_is); (case i=>k_is); (case l=>k_is); (case c=>k_is); (case k=>k_is)) | k_is | k_exc | kit_is | skip
