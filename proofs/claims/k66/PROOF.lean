import PyProof.Rows.All
import Wide.All
import OpenK.AllK
import Wide.FinOn
import PyProof.EqAt
import PyProof.EqKinds
import PyProof.TupleCall
import KE.KDictSum
import KE.KRevIter
import KE.KEqDict
import PySem.Str
import PySem.Challenge.RW_pursebench_k66_whole_heap_alone
set_option Elab.async false
set_option linter.all false
local macro_rules | `(tactic| o_shape)=>`(tactic| first | exact Or.inl rfl | exact Or.inr rfl)
local macro_rules | `(tactic| o_reads)=>`(tactic| exact ⟨rfl,rfl,by repeat' (first | exact True.intro | rfl | o_shape | refine ⟨?_,?_⟩),by decide,rfl,by decide⟩)
set_option bootstrap.genMatcherCode false
set_option genSizeOf false
set_option genSizeOfSpec false
open PySem renaming wpAny_bind→Ac, wpAny_pure→Ad, sizeLine→Aj, Program→Ak, FuncData→Am, sizeLine_eq→Ao, starEach→Aq, mainGlobals→Ar, wpAny_ite_split→As, wpAny_call_entry→A0, wpAny_newObj_type→Ba, wpAny_holding→Bc, bootBuiltins→Be, wpAny_mono→Bk, wpAny_callSpecial?_slot→Bl, codeAny_builtin→Bm, compareOp→Bn, wpAny_dictEntries→Bq, wpAny_setState_of→Bw, sysModules→Ca, assignEach→Cb, rawInt→Cc, wpAny_Call_Name_kw→Cd, foldedSetIterable→Cj, wpAny_setField→Ck, wpAny_askSetting→Cq, tupleKind_room_in1→Ct, wpAny_typeNameOfWhole_itemiter→Cu, intKind→Cw, codeAny_mono→Cy, wpAny_typeNameOfWhole_keyiter→C2, relabel→C3, behindInMarks→Dd, plainId_quiet→De, backTo→Dg, wpAny_fieldsOf→Di, wpAny_passesOwn→Du, wpAny_truthy_bool→Dv, binaryOp→Dw, wpAny_field→D0, codeAny→D7, mem_of_lookup→D8, wpAny_setEntries_of→D9, pyNext→Eb, wpAny_rule→Ei, IsItemIter→Em, wpAny_setField_rec→En, wpAny_dictEpoch→Eo, attributeBase→Ep, wpAny_attempt→Es, builtinLookup_eq_fast→Eu, wpAny_pyIter_slot→Ez, firstArgMember→E6, wpAny_eqBool_int→E9, scanBound→Fc, wpAny_isInstance→Fe, tupleKind→Fv, wpAny_newTuple→Gg, wpAny_isOneOf_itemiter→Gi, wpAny_notOrdered_dict→Gr, wpAny_load→Gu, IsPair→Gx, wpAny_newList→G2, wpAny_execs_nil→G9, letOwnedTupleGo→Ha, typeLookup_type→He, wpAny_specialOf→Hf, wpAny_updateSeq→Hg, callerA→Hq, swapsWith→Hu, bindArgs→Hz, wpAny_runValue→Ic, isSubtype_type→Ig, wpAny_missedRemoval_other→Ik, wpAny_pyIter_list→Io, BindsTo→Ir, keywordEach→Iu, unsupported→Ja, wpAny_Call_method→Jc, assign→Je, wpAny_comprehension_free→Jh, holding→Ju, setsByText→Jy, wpAny_nextOf_list_item→J1, wpAny_isTrue_Compare1→Kg, wpAny_isOneOf_keyiter→Kl, pyIter→Kq, subscripted→Ks, ZipApart→Kt, relayAll→Kv, wpAny_of_eq→Kw, entryFor_alias→Kx, wpAny_letGo→K4, Keyword→K9, valueAt→Lc, wpAny_standAt→Lj, wpAny_handled→Ln, IsItemIterOut→Lr, builtinsNs→Lu, typeLookup→Lw, typeIs_str→Lz, closureFor→L0, backToKw→Mf, getItem→Mg, seqIndex_neg→Mh, wpAny_typeOf→Ml, collect→Mm, getMethod→Mv, Result→Mw, cellsFrom→Mx, updateSeq→Mz, Fin→M5, seqIndex_of→M6, wpAny_throw→M7, loadIfAlive→M9, standAt→Nb, newList→Nc, ElemsOf→Nd, GenState→Ng, isTrue→Nh, ReadsAll→Ni, compEnvC→Nj, entryFor→Nk, newExc→Nl, raiseNew→Nm, setField→Np
open PySem.Heap renaming get?_push_of_some→Ae, lt_size→Af, get?_push_size→Ah, get?_update_other→Av, get?_update_self→Bh, size_push→Bx, size_update→Cr, get?_push_ne→E2
open List renaming mem_map→Ag, getElem?_eq_some_iff→Ai, mem_cons→An, range→Ap, filter_eq_self→Au, mem_range→Ax, mem_filter→Ay, pairwise_iff_getElem→Bj, length_eq_zero_iff→Ce, length_eq_one_iff→Cm, mem_append→C6, replicate→Dh, getElem?_append_left→Dp, drop_eq_getElem_cons→Ds, lookup→Dy, mem_filterMap→Ee, take_of_length_le→Eh, mem_singleton→Ek, mem_reverse→Ff, getElem?_eq_none_iff→Fg, pairwise_cons→Fs, find?_eq_none→Fu, eraseIdx_cons_succ→Fx, pairwise_lt_range→Ge, find?_cons_of_pos→Gj, eq_nil_iff_forall_not_mem→Gw, mem_append_left→G4, nodup_cons→Hc, mem_zipIdx_iff_getElem?→Hi, replicate_succ→Hk, length_pos_iff→Hm, idxOf_lt_length_of_mem→Hr, getElem?_append_right→Ia, length_eraseIdx_of_lt→Ie, zip_cons_cons→Ii, mem_of_find?_eq_some→Il, take_sublist→Iv, reverse_cons→Iw, ext_getElem?→Iy, append_assoc→I0, nodup_append→Jb, sublist_append_left→Jj, nodup_range→Jn, any_eq_true→Js, find?_cons_of_neg→J4, nil_append→Kf, length_singleton→Ki, getElem?_toArray→Kj, getElem?_eq_none→Kk, singleton_append→Ko, pairwise_reverse→Kp, getElem?_of_mem→Ku, perm_cons_erase→Ky, mem_erase_of_ne→Kz, mem_of_mem_take→K8, toList_toArray→Lf, getElem?_take→L3, getElem_idxOf→L7, range_sublist→Mc
open Bool renaming false_ne_true→Al, false_eq_true→Aw, eq_iff_iff→Az, and_eq_true→Df, or_eq_true→Ka, or_false→Lk
open False renaming elim→A5
open PySem.PassesOwn renaming never→A6
open PySem.W renaming findIn→A9, mg_none_of→Bo, emptyDict→Bv, instObj→C5, kas_asc→Dz, mroIn→Er, plainGet→Fb, kas_place→Fy, hasDictIn→F6, kas_desc→G7, keepIn→Hb, OpenLaw→Hd, plainGet_of→Hj, isFn→Ho, lookIn→Hy, kas_sort→Ih, methodObj→Im, plainOver→Ip, specialIn→Iq, cellsFrom_some→Jw, takerIn→J6, makesIn→J7, methodCall_KW→Kh, typeIn→Kr, kas_bin→La, callWith_K0→Ld, WalkO→Ll, clsIn→Lp, callWith_K→Lv, kas_descPart→Mq, codeIn→My, kas_tail3→M3, kas_count→M4, kas_rev→Nf
open Int renaming toNat_natCast→Bb, natAbs_natCast→Bf, emod_lt_of_pos→Bt, emod_nonneg→Co, gcd→Ea, fmod_eq_emod_of_nonneg→E4, eq_ofNat_of_zero_le→F5, le_trans→F9, natAbs_mul→Gh, mul_nonneg→Gk, mul_le_mul_of_nonneg_right→Gz, mul_pos→G8, fdiv_eq_ediv_of_nonneg→Hw, fdiv_eq_ediv_of_dvd→Jt, le_refl→K7, ediv_mul_cancel→Lh, lt_of_le_of_lt→Ma
open PySem.Around renaming under_plainId→Bg, under→Md
open PySem.Obj renaming mapSeq→Bi, mapFields→Cz, data_mapFields→El, isFreed_of_fields→Gp, data_mapDictKeys→K6
open PyProof.Rows renaming callWith_type1→Bp, seqObj→Br, firstMet→Dm, listUpdate_at→G3, entry_proto_collect'→G6, lt_int→Hl, AllBare→Hn, room_in_shaped→Ib, subscriptTail→Jg, entry_list_iadd'→Jm, envOfC→Jv, subscriptTail_builtinR→Jx, size_push'→Jz, sortedHeap→J0, entry_list_sort→Kb, get?_update_seq→Kc, slot_list_sort→K0, args_list_sort→K1, sortedHeap_old→K2, seqEpoch_at→K3, firstMet_succ→Lm, sortedHeap_at→Lo, Subscript_→Lx, plain_sorted→Mn, entry_sorted→Mo, args_sorted1→Mp, listItems_at→Mr, general'→Ms, kind_sorted→M8, SortKind→Nn
open PySem.F renaming plain_extend_loop→Bu, slot_dict_itemiterator_next→By, plain_list_iadd→Cf, plainAttrs_list→Cg, slot_list_append→C0, type_list_append→C1, slot_dict_keyiterator_next→Dk, called_set→Ej, plain_proto_collect→E1, slot_dict_itemiterator_iter→Fm, plainAttrs_dict→Fz, slot_dict_get→Gq, slot_dict_items_iter→Hh, args_dict_get_3→Jp, slot_dict_items→Jr, entry_dict_get→J2, slot_dict_iter→J3, slot_tuple_lt→Kd, slot_dict_pop→Km, slot_dict_len→Kn, entry_extend_loop→Lg
open Ne renaming symm→Bz
open PySem.Builtin.Dict_items renaming ownsTuple→B0, pairFromOwner→D5, ownedTupleIsFree→Fk, ownedTupleFields→Fo
open PySem.Builtin.List renaming listExtendWith→Ci, listLengthHint→C9, listSameRef→D6, listTooLong→Fi
open PySem.Heap.SameBut renaming update→Cn
open PySem.Calls renaming spliced_cons→Cp, call_function_entry→Dr, callWith_builtin→Ef, spliced_nil→Ex, evalArgs_plain→G5, Name_function_global→Hv
open Rat renaming mul_le_mul_of_nonneg_right→Cv, normalize_eq_mkRat→Dc, div_mul_cancel→Dl, mul_le_mul_of_nonneg_left→Ed, mul_assoc→Et, le_of_mul_le_mul_right→E8, le_of_lt→Gm, le_trans→Ht, mul_comm→J5, mul_div_cancel→Mb, le_refl→Na
open Function renaming comp_def→C4, comp→Fp
open Option renaming map_eq_some_iff→C7, isSome_iff_exists→Jf, isNone_some→L8, isNone_none→L9
open PySem.Str renaming ofString→C8
open Array renaming perm_iff_toList_perm→Dj, getElem?_eq_getElem→Dq, getD_eq_getD_getElem?→Ey, map→Lb, append_assoc→Ls, forIn_toList→L6
open Classical renaming byContradiction→Dt
open PySem.SetTable renaming grown→Ec
open PySem.SeqAt renaming canLay_of_shaped→Eg
open PySem.Builtin.Dict renaming showsAll→Ew, takeOut→K5
open Nat renaming mul_lt_mul_of_pos_right→E3, mul_le_mul_right→E7, gcd→Jd, le_max_right→Jk, le_mul_of_pos_right→Jo, le_max_left→J8, div_le_self→Ke, mul_le_mul_left→Li, le_of_dvd→Lq, not_lt→L1, pos_of_ne_zero→L4, pow_succ→Mt, mul_comm→Mu
open PySem.PyData renaming canLay0→E5, eqv→Gv, eqvAll→G0, canLayAll0→Iz, depthAll→J9
open PySem.Builtin.SmallTypes renaming nextOf→Fh, ownedTupleIsFree→Fj
open PyProof.Rows.F renaming plain_set_update_loop→Fw, entry_set_update_loop→Jl
open PySem.SetTable.below renaming go→Gd
open List.Sublist renaming map→Gy
open PySem.Shared renaming TypeIs→G1
open PySem.Builtin.Str renaming strSliceIndices→Hs, occurrences→Jq
open PySem.SetTable.Slot renaming noConfusion→Ij
open List.Perm renaming eq_of_pairwise→Ji
open PySem.Builtin.Int renaming intBits→Le
open PySem.Heap.IsSliceOf renaming new→Ly
open PySem.W.KasT renaming kasWp→L5, bind→M0
open PySem.Code renaming isFrame→Me
open Iff renaming rfl→Mi
open PySem.pickOrder renaming go→Mj
open List (all_eq_true all_map any_cons any_eq_true append_nil drop_of_length_le ext_getElem filterMap_cons filter_cons filter_cons_of_neg filter_cons_of_pos filter_sublist find?_cons forIn_cons getD_eq_getElem?_getD getElem?_eq_getElem getElem?_map getElem?_set_ne getElem?_set_self getElem_inj getElem_map getElem_mem getElem_of_mem length_append length_cons length_filter_le length_map length_reverse length_take mapM_cons map_append map_congr_left map_cons map_map map_nil map_reverse mem_append_right mem_cons mem_cons_of_mem mem_cons_self mem_map mem_of_getElem? nodup_cons nodup_nil not_mem_nil of_mem_zip pairwise_cons pairwise_map size_toArray sum_cons take_length take_succ_eq_append_getElem)
open Option (isSome_map)
open Nat (le_of_lt le_refl le_succ le_trans lt_irrefl lt_of_le_of_lt lt_of_lt_of_le lt_succ_of_lt lt_succ_self lt_trans mod_lt mul_ne_zero mul_pos ne_of_gt ne_of_lt pow_add pow_le_pow_right zero_le)
open Array (getElem?_eq_none getElem?_toList length_toList)
open PySem.W (Frag codeIn fnOf keepIn mg_none_of mg_of nsIn)
set_option maxRecDepth 100000
namespace L2
open PySem PySem.Spec PyProof.Rows
abbrev Key:=Sum Int Str
def _qlv:Key->Value->Bool
 | .inl k,v=>Value.isInt k v
 | .inr x,v=>Value.isStrOf x v
def keyH(w:World):Key->Int
 | .inl k=>hashInt k
 | .inr x=>hashStr w x
theorem _qa:∀{k:Key}{v:Value},_qlv k v=true->(∃i t,k=Sum.inl i/\v=Value.int i t)\/(∃x t,k=Sum.inr x/\v=Value.str x t)
 | .inl i,v,h=>by
  obtain⟨t,e⟩:=Value.isInt_shape (k:=i) (v:=v) h;exact .inl ⟨i,t,rfl,e⟩
 | .inr x,v,h=>by
  obtain⟨t,e⟩:=Value.isStrOf_shape (x:=x) (v:=v) h;exact .inr ⟨x,t,rfl,e⟩
theorem _qfs(i:Int) (t:Tok):_qlv (.inl i) (.int i t)=true:=by simp[_qlv,Value.isInt]
theorem _qfr(x:Str) (t:Tok):_qlv (.inr x) (.str x t)=true:=by simp[_qlv,Value.isStrOf]
theorem _qr8(a b:Int):decide ((Sum.inl a:Key)=Sum.inl b)=(a==b):=by
 by_cases e:a=b
 ·subst e;simp
 ·have h:¬ (Sum.inl a:Key)=Sum.inl b:=λq=>e (Sum.inl.inj q)
  rw[decide_eq_false h];exact(beq_eq_false_iff_ne.mpr e).symm
theorem _qr5(a b:Str):decide ((Sum.inr a:Key)=Sum.inr b)=decide (a=b):=by
 by_cases e:a=b
 ·subst e;simp
 ·have h:¬ (Sum.inr a:Key)=Sum.inr b:=λq=>e (Sum.inr.inj q)
  rw[decide_eq_false h,decide_eq_false e]
theorem _qr7(a:Int) (b:Str):decide ((Sum.inl a:Key)=Sum.inr b)=false:=decide_eq_false (λq=>nomatch q)
theorem _qr6(a:Str) (b:Int):decide ((Sum.inr a:Key)=Sum.inl b)=false:=decide_eq_false (λq=>nomatch q)
def _qp(prog:Ak) (w:World):PySem.KeyKind prog w Key where
 is:=_qlv
 hash:=keyH w
 inj:=λv a b ha hb=>by
  rcases _qa ha with⟨i,t,rfl,rfl⟩|⟨x,t,rfl,rfl⟩
  ·rcases _qa hb with⟨j,u,rfl,e⟩|⟨y,u,rfl,e⟩
   ·injection e with e1 _;rw[e1]
   ·exact nomatch e
  ·rcases _qa hb with⟨j,u,rfl,e⟩|⟨y,u,rfl,e⟩
   ·exact nomatch e
   ·injection e with e1 _;rw[e1]
 byValue:=λk v h=>by
  rcases _qa h with⟨i,t,rfl,rfl⟩|⟨x,t,rfl,rfl⟩<;>rfl
 pyHash:=λhv h=>by
  rcases _qa hv with⟨i,t,rfl,rfl⟩|⟨x,t,rfl,rfl⟩
  ·exact wpAny_pyHash_int h
  ·exact wpAny_pyHash_str h
 eqBool:=λhu hv h=>by
  rcases _qa hu with⟨i,t,rfl,rfl⟩|⟨x,t,rfl,rfl⟩
  ·rcases _qa hv with⟨j,u,rfl,rfl⟩|⟨y,u,rfl,rfl⟩
   ·rw[_qr8]at h;exact E9 h
   ·rw[_qr7]at h;exact SeqAt.EqAt.int_str i t y u _ _ _ _ h
  ·rcases _qa hv with⟨j,u,rfl,rfl⟩|⟨y,u,rfl,rfl⟩
   ·rw[_qr6]at h;exact SeqAt.EqAt.str_int x t j u _ _ _ _ h
   ·rw[_qr5]at h;exact wpAny_eqBool_str h
 «strs»:=λk x t v h=>by
  rcases _qa h with⟨i,u,rfl,e⟩|⟨y,u,rfl,e⟩
  ·exact nomatch e
  ·injection e with e1 _
   subst e1;cases v<;>rfl
theorem _Yu(prog:Ak) (w:World) (i:Int) (t:Tok):(_qp prog w).is (.inl i) (.int i t)=true:=_qfs i t
theorem _Yt(prog:Ak) (w:World) (x:Str) (t:Tok):(_qp prog w).is (.inr x) (.str x t)=true:=_qfr x t
inductive V where
 |non|bl (b:Bool)|int (i:Int)|str (x:Str)|byt (b:Array UInt8)|flt (b:UInt64)|ref (a:Addr)|ty (n:String)
 deriving DecidableEq
def _qwm:V->Value->Prop
 | .non,u=>u=Value.none
 | .bl b,u=>u=Value.bool b
 | .int i,u=>∃t,u=Value.int i t
 | .str x,u=>∃t,u=Value.str x t
 | .byt b,u=>∃t,u=Value.bytes b t
 | .flt b,u=>∃t,u=Value.float b t
 | .ref a,u=>u=Value.ref a
 | .ty n,u=>u=Value.type n
abbrev _qwi:List V->List Value->Prop:=Paired _qwm
theorem _qwi.length{xs:List V}{us:List Value}(r:_qwi xs us):xs.length=us.length:=Paired.length r
theorem _qwi.get:∀{xs:List V}{us:List Value}{i:Nat}{x:V},_qwi xs us->xs[i]?=some x->∃u,us[i]?=some u/\_qwm x u
 |_,_,_,_,.nil,e=>by simp at e
 |_,_,0,_,.cons r _,e=>by simp at e;subst e;exact⟨_,rfl,r⟩
 |_,_,i+1,x,.cons _ t,e=>by
  obtain⟨u,h1,h2⟩:=_qwi.get (i:=i) (x:=x) t (by simpa using e);exact⟨u,by simpa using h1,h2⟩
theorem _qwi.set{x:V}{u:Value}(r:_qwm x u):∀{xs:List V}{us:List Value}(i:Nat),_qwi xs us->_qwi (xs.set i x) (us.set i u)
 |_,_,_,.nil=>.nil
 |_,_,0,.cons _ t=>.cons r t
 |_,_,i+1,.cons q t=>.cons q (_qwi.set r i t)
theorem _qwi.append:∀{xs ys:List V}{us ws:List Value},_qwi xs us->_qwi ys ws->_qwi (xs++ys) (us++ws)
 |_,_,_,_,.nil,s=>s
 |_,_,_,_,.cons r t,s=>.cons r (_qwi.append t s)
theorem _qwi.take:∀{xs:List V}{us:List Value}(n:Nat),_qwi xs us->_qwi (xs.take n) (us.take n)
 |_,_,0,_=>.nil
 |_,_,_+1,.nil=>.nil
 |_,_,n+1,.cons r t=>.cons r (_qwi.take n t)
theorem _qwi.drop:∀{xs:List V}{us:List Value}(n:Nat),_qwi xs us->_qwi (xs.drop n) (us.drop n)
 |_,_,0,r=>r
 |_,_,_+1,.nil=>.nil
 |_,_,n+1,.cons _ t=>_qwi.drop n t
theorem _qwi.none_of:∀{xs:List V}{us:List Value}{i:Nat},_qwi xs us->xs[i]?=none->us[i]?=none:=fun{xs us i} r e=>by
 have h1:=r.length;have h2:xs.length<=i:=Fg.mp e;exact Fg.mpr (by omega)
def _qwn:Option V->Option Value->Prop
 |some v,some u=>_qwm v u
 |none,none=>True
 |_,_=>False
def KV{κ:Type}:List (κ×V)->List (κ×Value)->Prop:=Paired fun(p:κ×V) (q:κ×Value)=>p.1=q.1/\_qwm p.2 q.2
def kV:Key->V
 | .inl i=>.int i
 | .inr x=>.str x
inductive HO where
 |lst (xs:List V)
 |tup (xs:List V)
 |dK (kvs:List (Key×V))|dT (kvs:List (List Key×V))
 |set (S:Int->Bool) (n:Nat)
 |ins (C dx:Addr) (fs:List (Str×V))
 |own (x:Addr)
 |xd (fs:List (Str×V))
 |met (f x:Addr)
 |rng (lo hi:Int)
 |frz (o:Obj) (u:HO)
 |tbl (ps:Array Value)
 |ext (φ:Heap->Prop)
abbrev Hp:=Addr->Option HO
def upd(H:Hp) (a:Addr) (o:HO):Hp:=λb=>if b=a then some o else H b
theorem _b{H:Hp}{a:Addr}{o:HO}:upd H a o a=some o:=by unfold upd;rw[if_pos rfl]
theorem _f{H:Hp}{a b:Addr}{o:HO}(h:b≠a):upd H a o b=H b:=by unfold upd;rw[if_neg h]
theorem _qgs{H:Hp}{a:Addr}{o u:HO}:upd (upd H a o) a u=upd H a u:=by
 funext b;unfold upd;split<;>rfl
theorem _xf{H:Hp}{a b:Addr}{o u:HO}(h:H a=some o) (h':H b=some u) (d:o≠u):a≠b:=by
 intro e;subst e;rw[h]at h';exact d (Option.some.inj h')
theorem _d{H:Hp}{a b:Addr}{o:HO}(h:H a=some o) (h':H b=none):a≠b:=by
 intro e;subst e;rw[h]at h';cases h'
section
variable(P:Ak) (w:World)
def _z5(H:Hp) (h:Heap) (a:Addr):HO->Prop
 | .lst xs=>xs.length<=Aj/\∃(its:List Value) (n:Nat),_qwi xs its/\h.get? a=some {cls:=.type "list",data:=.seq its.toArray n}
 | .tup xs=>xs.length<=Aj/\∃its:List Value,_qwi xs its/\IsTup h a its.toArray
 | .dK kvs=>kvs.length<=Aj/\(a==Ca)=false/\∃vs,KV kvs vs/\h.DictOf (_qp P w) a vs
 | .dT kvs=>kvs.length<=Aj/\(a==Ca)=false/\∃xs:List (List Key×Addr×Value),
   Paired (fun(p:List Key×V) (q:List Key×Addr×Value)=>p.1=q.1/\H q.2.1=some (.tup (p.1.map kV))/\_qwm p.2 q.2.2) kvs xs/\
   ∃o es ep,h.get? a=some o/\o.ExactDict/\o.data=.dict es ep/\es.toList=xs.map (entryOfKey (Fv (_qp P w)))/\(xs.map (·.1)).Nodup
 | .set S n=>h.SetOf (Cw P w) a S n
 | .ins C dx fs=>H dx=some (.own a)/\fs.length<=1000/\dx≠a/\h.get? a=some (C5 C dx)/\
   ∃mA,h.Ns1 dx mA/\(∀f,_qwn (fs.lookup f) (mA f))/\PySem.Within mA (fs.map (·.1))
 | .own _=>∃o,h.get? a=some o
 | .xd fs=>∃mA,h.Ns1 a mA/\∀f,_qwn (fs.lookup f) (mA f)
 | .rng lo hi=>∃t u v,h.get? a=some {cls:=.type "range",data:=.fields #[.int lo t,.int hi u,.int 1 v] }
 | .frz o u=>h.get? a=some o/\_z5 H h a u
 | .tbl ps=>h.get? a=some {cls:=.none,data:=.fields ps}
 | .met f x=>h.get? a=some (Im (.ref f) (.ref x))
 | .ext φ=>φ h/\(∃o,h.get? a=some o)/\∀h1 h2:Heap,φ h1->(∀o,h1.get? a=some o->h2.get? a=some o)->φ h2
def HOk(H:Hp) (h:Heap):Prop:=∀a o,H a=some o->_z5 P w H h a o
end
section
variable{P:Ak}{w:World}{H H':Hp}{h h':Heap}{a:Addr}{o:HO}
theorem _z5.lt(x:_z5 P w H h a o):a<h.objs.size:=by
 cases o with
 |lst xs=>obtain⟨_,_,_,_,e⟩:=x;exact Af e
 |tup xs=>obtain⟨_,_,_,p⟩:=x;exact p.lt
 |dK kvs=>obtain⟨_,_,_,_,o,_,_,e,_⟩:=x;exact Af e
 |dT kvs=>obtain⟨_,_,_,_,o,_,_,e,_⟩:=x;exact Af e
 |set S n=>obtain⟨o,_,_,_,e,_⟩:=x;exact Af e
 |ins C dx fs=>obtain⟨_,_,_,e,_⟩:=x;exact Af e
 |own y=>obtain⟨_,e⟩:=x;exact Af e
 |xd fs=>obtain⟨_,⟨_,_,_,e,_⟩,_⟩:=x;exact Af e
 |rng lo hi=>obtain⟨_,_,_,e⟩:=x;exact Af e
 |frz ob u=>obtain⟨e,_⟩:=x;exact Af e
 |tbl ps=>exact Af (show h.get? a=some _ from x)
 |met f y=>exact Af (show h.get? a=some _ from x)
 |ext φ=>obtain⟨_,⟨_,e⟩,_⟩:=x;exact Af e
theorem Paired.mapP{α β:Type}{F G:α->β->Prop}:∀{l₁:List α}{l₂:List β},Paired F l₁ l₂->(∀a b,F a b->G a b)->Paired G l₁ l₂
 |_,_,.nil,_=>.nil
 |_,_,.cons r t,f=>.cons (f _ _ r) (Paired.mapP t f)
theorem _z5.stay(x:_z5 P w H h a o) (k:∀b u,(b=a\/H b=some (.own a))->h.get? b=some u->h'.get? b=some u)
  (ho:∀b,H b=some (.own a)->H' b=some (.own a)) (ht:∀b xs,H b=some (.tup xs)->H' b=some (.tup xs)):_z5 P w H' h' a o:=by
 induction o with
 |lst xs=>obtain⟨z,its,n,r,e⟩:=x;exact⟨z,its,n,r,k _ _ (.inl rfl) e⟩
 |tup xs=>obtain⟨z,its,r,ob,e,c⟩:=x;exact⟨z,its,r,ob,k _ _ (.inl rfl) e,c⟩
 |dK kvs=>obtain⟨z,y,vs,r,ob,es,ep,e,c⟩:=x;exact⟨z,y,vs,r,ob,es,ep,k _ _ (.inl rfl) e,c⟩
 |dT kvs=>
  obtain⟨z,y,xs,r,ob,es,ep,e,c⟩:=x;exact⟨z,y,xs,Paired.mapP r λp q z=>⟨z.1,ht _ _ z.2.1,z.2.2⟩,ob,es,ep,k _ _ (.inl rfl) e,c⟩
 |set S n=>obtain⟨ob,es,ep,t,e,c⟩:=x;exact⟨ob,es,ep,t,k _ _ (.inl rfl) e,c⟩
 |ins C dx fs=>
  obtain⟨d,z,ne,e,mA,⟨od,es,ep,e2,c⟩,r⟩:=x;exact⟨ho _ d,z,ne,k _ _ (.inl rfl) e,mA,⟨od,es,ep,k _ _ (.inr d) e2,c⟩,r⟩
 |own y=>obtain⟨ob,e⟩:=x;exact⟨ob,k _ _ (.inl rfl) e⟩
 |xd fs=>obtain⟨mA,⟨od,es,ep,e,c⟩,r⟩:=x;exact⟨mA,⟨od,es,ep,k _ _ (.inl rfl) e,c⟩,r⟩
 |rng lo hi=>obtain⟨t,u,v,e⟩:=x;exact⟨t,u,v,k _ _ (.inl rfl) e⟩
 |frz ob u ih=>obtain⟨e,q⟩:=x;exact⟨k _ _ (.inl rfl) e,ih q⟩
 |tbl ps=>
  have e:h.get? a=some {cls:=.none,data:=.fields ps}:=x;show h'.get? a=some {cls:=.none,data:=.fields ps};exact k a _ (.inl rfl) e
 |met f y=>
  have e:h.get? a=some (Im (.ref f) (.ref y)):=x;show h'.get? a=some (Im (.ref f) (.ref y));exact k a _ (.inl rfl) e
 |ext φ=>obtain⟨p,⟨o,e⟩,st⟩:=x;exact⟨st _ _ p λo q=>k _ _ (.inl rfl) q,⟨o,k _ _ (.inl rfl) e⟩,st⟩
theorem HOk.lt(x:HOk P w H h) (e:H a=some o):a<h.objs.size:=(x a o e).lt
theorem HOk.fresh(x:HOk P w H h) (e:h.objs.size<=a):H a=none:=by
 cases q:H a with
 |none=>rfl
 |some u=>exact absurd (lt_of_lt_of_le (x.lt q) e) (lt_irrefl _)
theorem HOk.kept(x:HOk P w H h) (k:∀b u,h.get? b=some u->h'.get? b=some u):HOk P w H h':=λa o e=>
 (x a o e).stay (λb u _ q=>k b u q) (λ_ q=>q) λ_ _ q=>q
theorem HOk.laid(x:HOk P w H h) (k:∀b u,h.get? b=some u->h'.get? b=some u) (hp:h.objs.size<=a) (new:_z5 P w (upd H a o) h' a o):HOk P w (upd H a o) h':=λb u e=>by
 have hn:=x.fresh hp
 by_cases hb:b=a
 ·subst hb;rw[_b]at e;cases e;exact new
 ·rw[_f hb]at e
  exact(x b u e).stay (λc v _ q=>k c v q) (λc q=>by rw[_f (_d q hn)];exact q) λc xs q=>by rw[_f (_d q hn)];exact q
end
def Rd(H:Hp) (a:Addr) (u:HO):Prop:=H a=some u\/ ∃o,H a=some (.frz o u)
theorem Rd.of{H:Hp}{a:Addr}{u:HO}(h:H a=some u):Rd H a u:=.inl h
theorem Rd.ok{P:Ak}{w:World}{H:Hp}{h:Heap}{a:Addr}{u:HO}(r:Rd H a u) (x:HOk P w H h):_z5 P w H h a u:=by
 rcases r with r|⟨o,r⟩
 ·exact x a u r
 ·obtain⟨_,q⟩:=x a _ r
  exact q
def Mut:Option HO->Prop
 |some (.lst _)=>True
 |some (.dK _)=>True
 |some (.dT _)=>True
 |some (.set _ _)=>True
 |some (.ins _ _ _)=>True
 |some (.ext _)=>True
 |_=>False
section
variable{P:Ak}{w:World}{H:Hp}{h h':Heap}{x e:Addr}{o':HO}
theorem HOk.write(ok:HOk P w H h) (mu:Mut (H x)) (he:e=x\/H e=some (.own x)) (k:∀b u,b≠e->h.get? b=some u->h'.get? b=some u) (heo:∃u,h'.get? e=some u)
  (new:_z5 P w (upd H x o') h' x o'):HOk P w (upd H x o') h':=λb u q=>by
 have nown:∀c y,H c=some (.own y)->c≠x:=λc y r z=>by subst z;rw[r]at mu;exact mu
 have ntup:∀c xs,H c=some (.tup xs)->c≠x:=λc xs r z=>by subst z;rw[r]at mu;exact mu
 by_cases hb:b=x
 ·subst hb;rw[_b]at q;cases q;exact new
 ·rw[_f hb]at q
  by_cases hbe:b=e
  ·have q':H b=some (.own x):=by
    rcases he with z|z
    ·exact absurd (hbe.trans z) hb
    ·rw[hbe];exact z
   rw[q]at q';cases q';obtain⟨v,hv⟩:=heo;exact⟨v,by rw[hbe];exact hv⟩
  ·refine(ok b u q).stay (λc v hc r=>k c v ?_ r) (λc r=>by rw[_f (nown c b r)];exact r) λc xs r=>by rw[_f (ntup c xs r)];exact r
   rcases hc with rfl|hc
   ·exact hbe
   ·rintro rfl
    rcases he with z|z
    ·exact nown c b hc z
    ·rw[hc]at z;cases z;exact hb rfl
end
structure Un(fs ex:List Addr) (H H':Hp) (h h':Heap):Prop where
 keep:∀b o,h.get? b=some o->H b=none->b∉fs->b∉ex->h'.get? b=some o
 slot:∀b o,h.get? b=some o->H b=none->b∈fs->b∉ex->∃sl,h'.get? b=some {o with slots:=sl}
 free:∀b o,h.get? b=some o->H b=none->b∉ex->H' b=none
 there:∀b o,h.get? b=some o->b∉ex->∃o',h'.get? b=some o'
 tups:∀b xs,H b=some (.tup xs)->H' b=some (.tup xs)
 frzs:∀b o u,H b=some (.frz o u)->H' b=some (.frz o u)
 tbls:∀b ps,H b=some (.tbl ps)->∃more,H' b=some (.tbl (ps++more))
section
variable{fs fs' ex ex':List Addr}{H H1 H2:Hp}{h h1 h2 h':Heap}{a x e:Addr}{o:HO}
theorem Un.any(u:Un fs ex H H1 h h1){b:Addr}{ob:Obj}(q:h.get? b=some ob) (n:H b=none) (hx:b∉ex):∃sl,h1.get? b=some {ob with slots:=sl}:=by
 by_cases hb:b∈fs
 ·exact u.slot b ob q n hb hx
 ·exact⟨ob.slots,u.keep b ob q n hb hx⟩
theorem Un.trans(a:Un fs ex H H1 h h1) (b:Un fs ex H1 H2 h1 h2):Un fs ex H H2 h h2 where
 keep:=λc ob q n hc hx=>b.keep c ob (a.keep c ob q n hc hx) (a.free c ob q n hx) hc hx
 slot:=λc ob q n hc hx=>by
  obtain⟨sl,e1⟩:=a.slot c ob q n hc hx;obtain⟨sl',e2⟩:=b.slot c _ e1 (a.free c ob q n hx) hc hx;exact⟨sl',e2⟩
 free:=λc ob q n hx=>by
  obtain⟨o',e1⟩:=a.there c ob q hx;exact b.free c o' e1 (a.free c ob q n hx) hx
 there:=λc ob q hx=>by
  obtain⟨o',e1⟩:=a.there c ob q hx;exact b.there c o' e1 hx
 tups:=λc xs q=>b.tups c xs (a.tups c xs q)
 frzs:=λc ob xs q=>b.frzs c ob xs (a.frzs c ob xs q)
 tbls:=λc ps q=>by
  obtain⟨m1,e1⟩:=a.tbls c ps q;obtain⟨m2,e2⟩:=b.tbls c _ e1;exact⟨m1++m2,by rw[e2,Ls]⟩
theorem Un.kept(k:∀b u,h.get? b=some u->h'.get? b=some u):Un fs ex H H h h':=
 ⟨λb ob q _ _ _=>k b ob q,λb ob q _ _ _=>⟨ob.slots,k b ob q⟩,λ_ _ _ n _=>n,λb ob q _=>⟨ob,k b ob q⟩,λ_ _ q=>q,λ_ _ _ q=>q,λ_ ps q=>⟨#[],by rw[q];simp⟩⟩
theorem Un.refl:Un fs ex H H h h:=Un.kept λ_ _ q=>q
theorem Un.laid(k:∀b u,h.get? b=some u->h'.get? b=some u) (hp:h.objs.size<=a) (hn:H a=none):Un fs ex H (upd H a o) h h' where
 keep:=λb u q _ _ _=>k b u q
 slot:=λb u q _ _ _=>⟨u.slots,k b u q⟩
 free:=λb u q n _=>by rw[_f (ne_of_lt (lt_of_lt_of_le (Af q) hp))];exact n
 there:=λb u q _=>⟨u,k b u q⟩
 tups:=λb xs q=>by rw[_f (_d q hn)];exact q
 frzs:=λb u xs q=>by rw[_f (_d q hn)];exact q
 tbls:=λb ps q=>⟨#[],by rw[_f (_d q hn),q];simp⟩
theorem Un.write(mu:Mut (H x)) (he:e=x\/H e=some (.own x)) (k:∀b u,b≠e->h.get? b=some u->h'.get? b=some u) (heo:∃u,h'.get? e=some u):Un fs ex H (upd H x o) h h':=by
 have hx:∀b,H b=none->b≠x:=λb n z=>by subst z;rw[n]at mu;exact mu
 have hb:∀b,H b=none->b≠e:=λb n z=>by
  subst z;rcases he with r|r
  ·exact hx b n r
  ·rw[n]at r;cases r
 have hm:∀b u,H b=some u->¬Mut (some u)->b≠x:=λb u q nm z=>by subst z;rw[q]at mu;exact nm mu
 refine⟨λb u q n _ _=>k b u (hb b n) q,λb u q n _ _=>⟨u.slots,k b u (hb b n) q⟩,λb u q n _=>by rw[_f (hx b n)];exact n,λb u q _=>?_,
  λb xs q=>by rw[_f (hm b _ q λz=>z)];exact q,λb u xs q=>by rw[_f (hm b _ q λz=>z)];exact q,λb ps q=>⟨#[],by rw[_f (hm b _ q λz=>z),q];simp⟩⟩
 by_cases hbe:b=e
 ·subst hbe;exact heo
 ·exact⟨u,k b u hbe q⟩
theorem Un.mono(u:Un fs ex H H1 h h1) (hs:∀b∈fs,b∈fs') (hx:∀b∈ex,b∈ex'):Un fs' ex' H H1 h h1:=
 ⟨λb ob q n hb he=>u.keep b ob q n (λz=>hb (hs b z)) λz=>he (hx b z),λ_ _ q n _ he=>u.any q n λz=>he (hx _ z),λb ob q n he=>u.free b ob q n λz=>he (hx b z),λb ob q he=>u.there b ob q λz=>he (hx b z),u.tups,u.frzs,u.tbls⟩
end
def trk(h:Heap) (H:Hp):List Addr:=(Ap h.objs.size).filter λa=>(H a).isSome
def hidT(h:Heap) (H:Hp):Heap:=PySem.W.hideAll h (trk h H)
theorem _qfz(h:Heap) (H:Hp):(hidT h H).objs.size=h.objs.size:=PySem.W.hideAll_size _ _
theorem _qkp{h:Heap}{H:Hp}{b:Addr}{o:Obj}(e:h.get? b=some o) (n:H b=none):(hidT h H).get? b=some o:=
 PySem.W.hideAll_get _ e λhm=>by
  have q:(H b).isSome=true:=(Ay.mp hm).2;rw[n]at q;simp at q
theorem _qnm{h:Heap}{H:Hp}{b:Addr}{o:Obj}(e:(hidT h H).get? b=some o):h.get? b=some o/\H b=none:=by
 have e':h.get? b=some o:=PySem.W.of_hideAll (trk h H) e;refine⟨e',?_⟩;cases q:H b with
 |none=>rfl
 |some x=>
  have hm:b∈trk h H:=Ay.mpr ⟨Ax.mpr (Af e'),by simp[q]⟩;have z:(hidT h H).get? b=none:=PySem.W.hideAll_none (trk h H) hm;rw[z]at e;cases e
def allNews(g h:Heap) (L:Addr):List (Addr×Obj):=(Ap h.objs.size).filterMap λa=>if a=L\/(g.get? a).isSome=true then none else(h.get? a).map λo=>(a,o)
def _qvb(g h:Heap) (L d:Addr):List (Addr×Obj):=(allNews g h L).filter λp=>decide (p.1≠d)
structure Mod(K:Frag) (mg:Str->Option Value) (base:Heap):Prop where
 kin:K.In base
 glob:base.Ns Ar mg
 blt:∃mb,base.Ns Lu mb/\∀x:Str,x≠"__name__"->mb x=Be x
 nolimit:base.NoLimit
structure Cx where
 prog:Ak
 w:World
 K:Frag
 mg:Str->Option Value
 base:Heap
 A:Around
 N:List Str
 s₀:Shared
 H₀:Hp
 env:Env
 outer:List Env
 stack:List Env
 ex:List Addr
 fn:Str->Bool
 calm:Bool
 pn:List (Addr×Obj)
 xe:Value->Shared->Prop
def frs(l:List Env):List Addr:=l.filterMap (·.frame)
abbrev Cx.fs(X:Cx):List Addr:=frs X.outer
def Vis(sc:Scope) (x:Str):Prop:=sc.names.lookup x=some .local\/sc.names.lookup x=some .cell\/sc.names.lookup x=some .free
def Loc(sc:Scope) (x:Str):Prop:=sc.names.lookup x=some .local\/sc.names.lookup x=some .cell
def _qws(env:Env) (h:Heap) (m:Str->Option Value) (x:Str) (u:Value):Prop:=
 (env.kindOf x=some .local/\m x=some u)\/((env.kindOf x=some .cell\/env.kindOf x=some .free)/\∃c,env.cells.lookup x=some c/\h.IsCell c (some u))
structure Cx.Ok(X:Cx):Prop where
 mod:Mod X.K X.mg X.base
 kind:X.env.scope.kind=.function
 glob:X.env.globals=Ar
 blt:X.env.builtins=Lu
 above:X.s₀.heap.objs.size<=X.env.locals
 inj:∀x y c,X.env.cells.lookup x=some c->X.env.cells.lookup y=some c->x=y
 has:∀x,(X.env.kindOf x=some .cell\/X.env.kindOf x=some .free)->∃c,X.env.cells.lookup x=some c
 cab:∀x c,X.fn x=true->X.env.cells.lookup x=some c->X.s₀.heap.objs.size<=c
 hd:X.calm=true->X.A.handled=none
 frames:X.A.frames=some X.stack
 stk:X.stack=X.outer\/(X.stack=X.env::X.outer/\X.env.frame=some X.env.locals)
 exf:∀b∈X.ex,b≠X.env.locals/\∀x c,X.env.cells.lookup x=some c->c≠b
 bs:∀b o,X.base.get? b=some o->X.s₀.heap.get? b=some o/\X.H₀ b=none
 bsz:X.base.objs.size<=X.s₀.heap.objs.size
 noex:∀b o,X.base.get? b=some o->b∉X.ex
 exfs:∀b∈X.ex,b∉X.fs
 funs:X.s₀.heap.FunFrames X.base X.outer
 frf:∀b∈X.fs,X.H₀ b=none
structure Inv(X:Cx) (pins:List (Addr×Obj)) (σ:List (Option V)) (H:Hp) (s:Shared):Prop where
 ok:X.Ok
 os:s.os=X.s₀.os
 bare:Hn s.gens
 base:Un X.fs X.ex X.H₀ H X.s₀.heap s.heap
 loc:∃m,s.heap.Ns X.env.locals m/\∀(i:Nat) (x:Str) (v:V),X.N[i]?=some x->σ[i]?=some (some v)->Vis X.env.scope x->∃u,_qwm v u/\_qws X.env s.heap m x u
 cell:∀x c,X.env.cells.lookup x=some c->∃v,s.heap.IsCell c v
 free:H X.env.locals=none
 freeC:∀x c,X.env.cells.lookup x=some c->H c=none
 pin:∀p∈X.pn++pins,s.heap.get? p.1=some p.2/\H p.1=none/\p.1≠X.env.locals/\p.1∉X.fs/\∀v,p.2.data≠ .cell v
 hok:HOk X.prog X.w H s.heap
 len:σ.length=X.N.length
section
variable{X:Cx}{pins:List (Addr×Obj)}{σ:List (Option V)}{H H':Hp}{s:Shared}{h':Heap}
theorem Cx.Ok.nofr(ok:X.Ok){b:Addr}{o:Obj}(e:X.base.get? b=some o):b∉X.fs:=λhb=>by
 have:=(ok.funs.mem hb).1
 rw[e]at this;cases this
theorem Inv.bs(I:Inv X pins σ H s):∀b o,X.base.get? b=some o->s.heap.get? b=some o/\H b=none:=λb o e=>
 ⟨I.base.keep b o (I.ok.bs b o e).1 (I.ok.bs b o e).2 (I.ok.nofr e) (I.ok.noex b o e),I.base.free b o (I.ok.bs b o e).1 (I.ok.bs b o e).2 (I.ok.noex b o e)⟩
theorem Inv.bk(I:Inv X pins σ H s):∀b o,X.base.get? b=some o->s.heap.get? b=some o:=λb o e=>(I.bs b o e).1
theorem Inv.mod(I:Inv X pins σ H s):Mod X.K X.mg X.base:=I.ok.mod
theorem Inv.kIn(I:Inv X pins σ H s):X.K.In s.heap:=I.ok.mod.kin.keeps I.bk
theorem Inv.nolimit(I:Inv X pins σ H s):s.heap.NoLimit:=I.ok.mod.nolimit.keeps I.bk
theorem Inv.lt(I:Inv X pins σ H s):X.env.locals<s.heap.objs.size:=let⟨_,hn,_⟩:=I.loc;hn.lt
theorem Inv.sz(I:Inv X pins σ H s):X.s₀.heap.objs.size<=s.heap.objs.size:=le_trans I.ok.above (le_of_lt I.lt)
theorem Inv.nofs(I:Inv X pins σ H s){a:Addr}(h:s.heap.objs.size<=a):a∉X.fs:=λhb=>by
 obtain⟨_,o,ho,_⟩:=I.ok.funs.mem hb;exact absurd (lt_of_lt_of_le (Af ho) (le_trans I.sz h)) (lt_irrefl _)
theorem Inv.cne(I:Inv X pins σ H s):∀x c,X.env.cells.lookup x=some c->c≠X.env.locals:=λx c e z=>by
 obtain⟨v,o,ho,hd⟩:=I.cell x c e;obtain⟨m,⟨o',es,ep,ho',hd',_⟩,_⟩:=I.loc;rw[z,ho']at ho;cases ho;rw[hd']at hd;cases hd
theorem Inv.funs(I:Inv X pins σ H s):s.heap.FunFrames X.base X.outer:=by
 have all:∀(l:List Env),(∀b∈frs l,b∈X.fs)->X.s₀.heap.FunFrames X.base l->s.heap.FunFrames X.base l:=by
  intro l
  induction l with
  |nil=>intro _ _;trivial
  |cons env r ih=>
   intro hs hl;obtain⟨hk,⟨L,o,hf,hn,ho,hd⟩,hr⟩:=hl;have hL:L∈X.fs:=hs L (by unfold frs;rw[filterMap_cons,hf];exact mem_cons_self);obtain⟨sl,e⟩:=I.base.slot L o ho (I.ok.frf L hL) hL λz=>I.ok.exfs L z hL;exact⟨hk,⟨L,_,hf,hn,e,hd⟩,ih (λb hb=>hs b (by unfold frs;rw[filterMap_cons,hf];exact mem_cons_of_mem _ hb)) hr⟩
 exact all X.outer (λ_ hb=>hb) I.ok.funs
theorem Inv.stack(I:Inv X pins σ H s):s.heap.FunFrames X.base X.stack:=by
 rcases I.ok.stk with e|⟨e,hf⟩
 ·rw[e];exact I.funs
 ·rw[e]
  obtain⟨m,hn,_⟩:=I.loc;refine .cons (by rw[I.ok.kind];decide) hf hn ?_ I.funs;exact Heap.get?_none_of_le (le_trans I.ok.bsz I.ok.above)
theorem Inv.stkSub(I:Inv X pins σ H s):∀b∈frs X.stack,b∈X.env.locals::X.fs:=λb hb=>by
 rcases I.ok.stk with e|⟨e,hf⟩
 ·rw[e]at hb;exact mem_cons_of_mem _ hb
 ·rw[e]at hb
  unfold frs at hb;rw[filterMap_cons,hf]at hb;exact hb
theorem Inv.stkFree(I:Inv X pins σ H s):∀b∈frs X.stack,H b=none:=λb hb=>by
 rcases An.mp (I.stkSub b hb)with e|hb
 ·rw[e];exact I.free
 ·obtain⟨_,o,ho,_⟩:=I.ok.funs.mem hb
  exact I.base.free b o ho (I.ok.frf b hb) λz=>I.ok.exfs b z hb
theorem Inv.step{g':Array Ng}{t':Nat}{d':Drawn}{ch:List Addr}(I:Inv X pins σ H s)
  (hch:∀b∈ch,(b∈X.ex\/X.s₀.heap.objs.size<=b)/\b≠X.env.locals/\(∀x c,X.env.cells.lookup x=some c->c≠b)/\∀p∈X.pn++pins,p.1≠b)
  (keep:∀b o,b≠X.env.locals->b∉X.fs->b∉ch->s.heap.get? b=some o->H b=none->h'.get? b=some o)
  (slot:∀b o,b≠X.env.locals->b∈X.fs->b∉ch->s.heap.get? b=some o->H b=none->∃sl,h'.get? b=some {o with slots:=sl}) (free:∀b o,b∉ch->s.heap.get? b=some o->H b=none->H' b=none)
  (there:∀b o,b∉ch->s.heap.get? b=some o->∃o',h'.get? b=some o')
  (tups:∀b xs,H b=some (.tup xs)->H' b=some (.tup xs)) (frzs:∀b o u,H b=some (.frz o u)->H' b=some (.frz o u)) (tbls:∀b ps,H b=some (.tbl ps)->∃more,H' b=some (.tbl (ps++more)))
  (ns:∀m,s.heap.Ns X.env.locals m->h'.Ns X.env.locals m) (hok:HOk X.prog X.w H' h') (hg:Hn g'):
  Inv X pins σ H' {s with heap:=h',gens:=g',drawn:=d',toks:=t'}:=by
 have neL:∀b o,X.s₀.heap.get? b=some o->b≠X.env.locals:=λb o e=>ne_of_lt (lt_of_lt_of_le (Af e) I.ok.above);have neC:∀b o,X.s₀.heap.get? b=some o->b∉X.ex->b∉ch:=λb o e hx hb=>by
  rcases(hch b hb).1 with z|z
  ·exact hx z
  ·exact absurd (lt_of_lt_of_le (Af e) z) (lt_irrefl _)
 have cellK:∀x c,X.env.cells.lookup x=some c->∀v,s.heap.IsCell c v->h'.IsCell c v:=λx c e v ⟨o,ho,hd⟩=>by
  have nch:c∉ch:=λz=>(hch c z).2.2.1 x c e rfl
  by_cases hc:c∈X.fs
  ·obtain⟨sl,q⟩:=slot c o (I.cne x c e) hc nch ho (I.freeC x c e)
   exact⟨_,q,hd⟩
  ·exact⟨o,keep c o (I.cne x c e) hc nch ho (I.freeC x c e),hd⟩
 refine⟨I.ok,I.os,hg,⟨λb o e n hb hx=>?_,λb o e n hb hx=>?_,λb o e n hx=>?_,λb o e hx=>?_,λb xs e=>tups b xs (I.base.tups b xs e),λb o xs e=>frzs b o xs (I.base.frzs b o xs e),λb ps e=>?_⟩,?_,λx c e=>?_,?_,λx c e=>?_,λp hp=>?_,hok,I.len⟩
 ·exact keep b o (neL b o e) hb (neC b o e hx) (I.base.keep b o e n hb hx) (I.base.free b o e n hx)
 ·obtain⟨sl,e1⟩:=I.base.slot b o e n hb hx
  obtain⟨sl',e2⟩:=slot b _ (neL b o e) hb (neC b o e hx) e1 (I.base.free b o e n hx);exact⟨sl',e2⟩
 ·obtain⟨o',e1⟩:=I.base.there b o e hx
  exact free b o' (neC b o e hx) e1 (I.base.free b o e n hx)
 ·obtain⟨o',e1⟩:=I.base.there b o e hx
  exact there b o' (neC b o e hx) e1
 ·obtain⟨m1,e1⟩:=I.base.tbls b ps e
  obtain⟨m2,e2⟩:=tbls b _ e1;exact⟨m1++m2,by rw[e2,Ls]⟩
 ·obtain⟨m,hn,hl⟩:=I.loc
  refine⟨m,ns m hn,λi x v e1 e2 e3=>?_⟩;obtain⟨u,r,l⟩:=hl i x v e1 e2 e3;refine⟨u,r,?_⟩;rcases l with l|⟨k,c,e,z⟩
  ·exact .inl l
  ·exact .inr ⟨k,c,e,cellK x c e _ z⟩
 ·obtain⟨v,z⟩:=I.cell x c e
  exact⟨v,cellK x c e v z⟩
 ·obtain⟨m,⟨o,_,_,ho,_⟩,_⟩:=I.loc
  exact free _ o (λz=>(hch _ z).2.1 rfl) ho I.free
 ·obtain⟨v,o,ho,hd⟩:=I.cell x c e
  exact free c o (λz=>(hch c z).2.2.1 x c e rfl) ho (I.freeC x c e)
 ·obtain⟨e,n,ne,nf,d⟩:=I.pin p hp
  have nch:p.1∉ch:=λz=>(hch p.1 z).2.2.2 p hp rfl;exact⟨keep p.1 p.2 ne nf nch e n,free p.1 p.2 nch e n,ne,nf,d⟩
theorem Inv.un{t':Nat}(I:Inv X pins σ H s) (u:Un X.fs [] H H' s.heap h') (hok:HOk X.prog X.w H' h'):Inv X pins σ H' {s with heap:=h',toks:=t'}:=by
 obtain⟨m,⟨o,es,ep,ho,r⟩,_⟩:=id I.loc;obtain⟨sl,hL⟩:=u.any ho I.free (by simp);exact I.step (g':=s.gens) (d':=s.drawn) (ch:=[]) (λ_ z=>nomatch z) (λb o _ hb _ e n=>u.keep b o e n hb (by simp)) (λb o _ hb _ e n=>u.slot b o e n hb (by simp)) (λb o _ e n=>u.free b o e n (by simp)) (λb o _ e=>u.there b o e (by simp)) u.tups u.frzs u.tbls (λm' hm=>by
  obtain⟨o',es',ep',ho',r'⟩:=hm;rw[ho]at ho';cases ho';exact⟨_,es',ep',hL,r'⟩) hok I.bare
theorem Inv.call{g':Array Ng}{t':Nat}{d':Drawn}{ch:List Addr}(I:Inv X pins σ H s) (u:Un (frs X.stack) ch H H' s.heap h') (hok:HOk X.prog X.w H' h') (hg:Hn g')
  (hch:∀b∈ch,(b∈X.ex\/X.s₀.heap.objs.size<=b)/\b≠X.env.locals/\(∀x c,X.env.cells.lookup x=some c->c≠b)/\∀p∈X.pn++pins,p.1≠b):
  Inv X pins σ H' {s with heap:=h',gens:=g',drawn:=d',toks:=t'}:=by
 obtain⟨m,⟨o,es,ep,ho,r⟩,_⟩:=id I.loc;obtain⟨sl,hL⟩:=u.any ho I.free λz=>(hch _ z).2.1 rfl;exact I.step (ch:=ch) hch (λb o hL hb hc e n=>u.keep b o e n (λz=>(An.mp (I.stkSub b z)).elim hL hb) hc) (λb o _ _ hc e n=>u.any e n hc) (λb o hc e n=>u.free b o e n hc) (λb o hc e=>u.there b o e hc) u.tups u.frzs u.tbls (λm' hm=>by
  obtain⟨o',es',ep',ho',r'⟩:=hm;rw[ho]at ho';cases ho';exact⟨_,es',ep',hL,r'⟩) hok hg
theorem Inv.turned{t':Nat}{it:Addr}(I:Inv X pins σ H s) (k:∀b o,b≠it->s.heap.get? b=some o->h'.get? b=some o) (hn:H it=none) (hL:it≠X.env.locals)
  (h1:it∈X.ex\/X.s₀.heap.objs.size<=it) (h2:∀x c,X.env.cells.lookup x=some c->c≠it) (h3:∀p∈X.pn++pins,p.1≠it):Inv X pins σ H {s with heap:=h',toks:=t'}:=by
 have nit:∀b u,H b=some u->b≠it:=λb u e z=>by rw[z,hn]at e;cases e
 refine I.step (g':=s.gens) (d':=s.drawn) (ch:=[it]) (λb hb=>?_) (λb o _ _ hc e _=>k b o (λz=>hc (by simp[z])) e) (λb o _ _ hc e _=>⟨o.slots,k b o (λz=>hc (by simp[z])) e⟩) (λ_ _ _ _ n=>n)
  (λb o hc e=>⟨o,k b o (λz=>hc (by simp[z])) e⟩) (λ_ _ e=>e) (λ_ _ _ e=>e) (λb ps e=>⟨#[],by rw[e];simp⟩) (λm hm=>?_) (λb u e=>?_) I.bare
 ·have e:b=it:=by simpa using hb
  subst e;exact⟨h1,hL,h2,h3⟩
 ·obtain⟨o,es,ep,ho,r⟩:=hm
  exact⟨o,es,ep,k _ o (Bz hL) ho,r⟩
 ·refine(I.hok b u e).stay (λc v hc q=>k c v ?_ q) (λ_ q=>q) λ_ _ q=>q
  rcases hc with z|z
  ·rw[z];exact nit b u e
  ·exact nit c _ z
theorem Inv.tok(I:Inv X pins σ H s) (t:Nat):Inv X pins σ H {s with toks:=t}:=I.un (h':=s.heap) (t':=t) Un.refl I.hok
theorem Inv.kept{t':Nat}(I:Inv X pins σ H s) (k:∀b u,s.heap.get? b=some u->h'.get? b=some u):Inv X pins σ H {s with heap:=h',toks:=t'}:=I.un (Un.kept k) (I.hok.kept k)
theorem Inv.laid{a:Addr}{o:HO}{t':Nat}(I:Inv X pins σ H s) (k:∀b u,s.heap.get? b=some u->h'.get? b=some u) (hp:s.heap.objs.size<=a) (new:_z5 X.prog X.w (upd H a o) h' a o):
  Inv X pins σ (upd H a o) {s with heap:=h',toks:=t'}:=I.un (Un.laid k hp (I.hok.fresh hp)) (I.hok.laid k hp new)
theorem Inv.write{x e:Addr}{o:HO}{t':Nat}(I:Inv X pins σ H s) (mu:Mut (H x)) (he:e=x\/H e=some (.own x)) (k:∀b u,b≠e->s.heap.get? b=some u->h'.get? b=some u) (heo:∃u,h'.get? e=some u)
  (new:_z5 X.prog X.w (upd H x o) h' x o):Inv X pins σ (upd H x o) {s with heap:=h',toks:=t'}:=I.un (Un.write mu he k heo) (I.hok.write mu he k heo new)
theorem Inv.pins_of{pins':List (Addr×Obj)}(I:Inv X pins σ H s) (h:∀p∈pins',s.heap.get? p.1=some p.2/\H p.1=none/\p.1≠X.env.locals/\p.1∉X.fs/\∀v,p.2.data≠ .cell v):Inv X pins' σ H s:=
 ⟨I.ok,I.os,I.bare,I.base,I.loc,I.cell,I.free,I.freeC,λp hp=>(C6.mp hp).elim (λz=>I.pin p (G4 _ z)) (h p),I.hok,I.len⟩
theorem _qc8{N:List Str}(hN:N.Nodup){i j:Nat}{x:Str}(a:N[i]?=some x) (b:N[j]?=some x):i=j:=by
 obtain⟨h1,e1⟩:=Ai.mp a;obtain⟨h2,e2⟩:=Ai.mp b;exact(getElem_inj hN).mp (e1.trans e2.symm)
theorem _Kw{M:Model}{A:Around}{E:Value->Shared->Prop}{i:Nat}{x:Str}{v:V}{u:Value}{Q:Unit->Shared->Prop}(I:Inv X pins σ H s) (hN:X.N.Nodup) (hi:X.N[i]?=some x) (hx:Loc X.env.scope x) (r:_qwm v u)
  (h:∀s',Inv X pins (σ.set i (some v)) H s'->(∃a,Heap.SameBut a s.heap s'.heap/\(a=X.env.locals\/X.env.cells.lookup x=some a))->Q () s') (hf:X.fn x=true\/X.env.scope.names.lookup x=some .local:=by first|exact .inl rfl|exact .inr rfl|assumption):wpAny M A (storeName X.env x u) Q E s:=by
 obtain⟨m,hn,hl⟩:=id I.loc;have hcls:(X.env.scope.kind== .class||(X.env.scope.kind== .module&&X.env.locals !=X.env.globals))=false:=by rw[I.ok.kind];rfl
 have hiσ:i<σ.length:=by rw[I.len];exact(Ai.mp hi).1
 have cne:=I.cne;have tracked:∀{a:Addr}{h':Heap},(∃o,s.heap.get? a=some o/\H a=none)->Heap.SameBut a s.heap h'->HOk X.prog X.w H h':=fun{a h'} ha hs b ob e=>by
  obtain⟨_,_,hfree⟩:=ha;refine(I.hok b ob e).stay (λc w' hc q=>(hs.2 c ?_).trans q) (λ_ q=>q) λ_ _ q=>q;rintro rfl;rcases hc with rfl|hc
  ·rw[hfree]at e;cases e
  ·rw[hfree]at hc;cases hc
 rcases hx with hk|hk
 ·refine wpAny_storeName_local hk hn (λh' hn' hs=>?_) hcls
  obtain⟨oL,_,_,hoL,_⟩:=id hn;refine h _ ⟨I.ok,I.os,I.bare,⟨λb o e n hb hx=>?_,λb o e n hb hx=>?_,I.base.free,λb o e hx=>?_,I.base.tups,I.base.frzs,I.base.tbls⟩,⟨_,hn',λj y v' e1 e2 e3=>?_⟩,λy c e=>?_,I.free,I.freeC,λp hp=>?_,tracked ⟨oL,hoL,I.free⟩ hs,by simpa using I.len⟩ ⟨_,hs,.inl rfl⟩
  ·exact(hs.2 b (ne_of_lt (lt_of_lt_of_le (Af e) I.ok.above))).trans (I.base.keep b o e n hb hx)
  ·obtain⟨sl,e1⟩:=I.base.slot b o e n hb hx
   exact⟨sl,(hs.2 b (ne_of_lt (lt_of_lt_of_le (Af e) I.ok.above))).trans e1⟩
  ·obtain⟨o',e1⟩:=I.base.there b o e hx
   exact⟨o',(hs.2 b (ne_of_lt (lt_of_lt_of_le (Af e) I.ok.above))).trans e1⟩
  ·by_cases hj:j=i
   ·subst hj
    rw[hi]at e1;cases e1;rw[getElem?_set_self hiσ]at e2;cases e2;exact⟨u,r,.inl ⟨hk,by simp⟩⟩
   ·rw[getElem?_set_ne (Bz hj)]at e2
    obtain⟨u',r',q⟩:=hl j y v' e1 e2 e3;refine⟨u',r',?_⟩;rcases q with⟨k,e⟩|⟨k,c,e,z⟩
    ·refine .inl ⟨k,?_⟩
     have:y≠x:=λe=>hj (_qc8 hN e1 (e▸hi))
     simp[this,e]
    ·exact .inr ⟨k,c,e,z.sameBut hs (cne y c e)⟩
  ·obtain⟨w',z⟩:=I.cell y c e
   exact⟨w',z.sameBut hs (cne y c e)⟩
  ·obtain⟨e,n,ne,nf,d⟩:=I.pin p hp
   exact⟨(hs.2 p.1 ne).trans e,n,ne,nf,d⟩
 ·have hfn:X.fn x=true:=by
   rcases hf with z|z
   ·exact z
   ·rw[z]at hk;cases hk
  obtain⟨c,hc⟩:=I.ok.has x (.inl hk);obtain⟨w',z⟩:=I.cell x c hc;refine wpAny_storeName_cell I.ok.kind hk hc z (λh' hc' hs=>?_);obtain⟨oc,hoc,hocd⟩:=id z;refine h {s with heap:=h'} ⟨I.ok,I.os,I.bare,⟨λb o e n hb hx=>?_,λb o e n hb hx=>?_,I.base.free,λb o e hx=>?_,I.base.tups,I.base.frzs,I.base.tbls⟩,⟨m,hn.sameBut hs (Bz (cne x c hc)),λj y v' e1 e2 e3=>?_⟩,λy c' e=>?_,I.free,I.freeC,λp hp=>?_,tracked ⟨oc,hoc,I.freeC x c hc⟩ hs,by simpa using I.len⟩ ⟨c,hs,.inr hc⟩
  ·exact(hs.2 b (ne_of_lt (lt_of_lt_of_le (Af e) (I.ok.cab x c hfn hc)))).trans (I.base.keep b o e n hb hx)
  ·obtain⟨sl,e1⟩:=I.base.slot b o e n hb hx
   exact⟨sl,(hs.2 b (ne_of_lt (lt_of_lt_of_le (Af e) (I.ok.cab x c hfn hc)))).trans e1⟩
  ·obtain⟨o',e1⟩:=I.base.there b o e hx
   exact⟨o',(hs.2 b (ne_of_lt (lt_of_lt_of_le (Af e) (I.ok.cab x c hfn hc)))).trans e1⟩
  ·by_cases hj:j=i
   ·subst hj
    rw[hi]at e1;cases e1;rw[getElem?_set_self hiσ]at e2;cases e2;exact⟨u,r,.inr ⟨.inl hk,c,hc,hc'⟩⟩
   ·rw[getElem?_set_ne (Bz hj)]at e2
    obtain⟨u',r',q⟩:=hl j y v' e1 e2 e3;refine⟨u',r',?_⟩;rcases q with q|⟨k,c',e,z'⟩
    ·exact .inl q
    ·refine .inr ⟨k,c',e,z'.sameBut hs ?_⟩
     rintro rfl;exact hj (_qc8 hN e1 (I.ok.inj _ _ _ e hc▸hi))
  ·by_cases hcc:c'=c
   ·subst hcc;exact⟨_,hc'⟩
   ·obtain⟨w2,z2⟩:=I.cell y c' e
    exact⟨w2,z2.sameBut hs hcc⟩
  ·obtain⟨e,n,ne,nf,d⟩:=I.pin p hp
   refine⟨(hs.2 p.1 ?_).trans e,n,ne,nf,d⟩;intro q;rw[q,hoc]at e;have q':oc=p.2:=Option.some.inj e;exact d w' (by rw[<-q'];exact hocd)
theorem _qak{M:Model}{A:Around}{E:Value->Shared->Prop}{i:Nat}{x:Str}{v:V}{u:Value}{Q:Unit->Shared->Prop}(I:Inv X pins σ H s) (hN:X.N.Nodup) (hi:X.N[i]?=some x) (hx:Loc X.env.scope x) (r:_qwm v u)
  (h:∀s',Inv X pins (σ.set i (some v)) H s'->Q () s') (hf:X.fn x=true\/X.env.scope.names.lookup x=some .local:=by first|exact .inl rfl|exact .inr rfl|assumption):wpAny M A (storeName X.env x u) Q E s:=
 _Kw I hN hi hx r (λs' I' _=>h s' I') hf
theorem Inv.call'{s':Shared}{ch:List Addr}(I:Inv X pins σ H s) (ho:s'.os=s.os) (u:Un (frs X.stack) ch H H' s.heap s'.heap) (hok:HOk X.prog X.w H' s'.heap) (hg:Hn s'.gens)
  (hch:∀b∈ch,(b∈X.ex\/X.s₀.heap.objs.size<=b)/\b≠X.env.locals/\(∀x c,X.env.cells.lookup x=some c->c≠b)/\∀p∈X.pn++pins,p.1≠b):Inv X pins σ H' s':=by
 obtain⟨h',g',d',t',o'⟩:=s';have e:o'=s.os:=ho;subst e;exact I.call (g':=g') (t':=t') (d':=d') u hok hg hch
end
abbrev XK:=Value->Option Addr->Hp->Prop
abbrev St:=List (Option V)
abbrev VK:=V->Hp->Prop
abbrev TE:=St->Hp->VK->Prop
abbrev TT:=St->Hp->(Bool->Hp->Prop)->Prop
abbrev TA:=St->Hp->(List V->Hp->Prop)->Prop
structure Ends where
 nx:St->Hp->Prop
 rt:VK
 bk:St->Hp->Prop:=λ_ _=>False
 ct:St->Hp->Prop:=λ_ _=>False
abbrev TS:=Ends->St->Hp->Prop
def EP(X:Cx) (pins:List (Addr×Obj)) (σ:St) (Q:VK) (u:Value) (s':Shared):Prop:=∃v H',Inv X pins σ H' s'/\_qwm v u/\Q v H'
def TP(X:Cx) (pins:List (Addr×Obj)) (σ:St) (Q:Bool->Hp->Prop) (b:Bool) (s':Shared):Prop:=∃H',Inv X pins σ H' s'/\Q b H'
def AP(X:Cx) (pins:List (Addr×Obj)) (σ:St) (Q:List V->Hp->Prop) (us:List Value) (s':Shared):Prop:=∃vs H',Inv X pins σ H' s'/\_qwi vs us/\Q vs H'
def SP(X:Cx) (pins:List (Addr×Obj)) (D:Ends) (f:Flow) (s':Shared):Prop:=
 match f with
 | .next=>∃σ' H',Inv X pins σ' H' s'/\D.nx σ' H'
 | .brk=>∃σ' H',Inv X pins σ' H' s'/\D.bk σ' H'
 | .cont=>∃σ' H',Inv X pins σ' H' s'/\D.ct σ' H'
 | .ret u=>∃v σ' H',Inv X pins σ' H' s'/\_qwm v u/\D.rt v H'
def PE(X:Cx) (e:Expr) (t:TE):Prop:=
 ∀(pins:List (Addr×Obj)) (s:Shared) (σ:St) (H:Hp) (Q:VK),Inv X pins σ H s->t σ H Q->wpAny (model X.prog X.w) X.A (eval e X.env) (EP X pins σ Q) X.xe s
def PT(X:Cx) (e:Expr) (t:TT):Prop:=
 ∀(pins:List (Addr×Obj)) (s:Shared) (σ:St) (H:Hp) (Q:Bool->Hp->Prop),Inv X pins σ H s->t σ H Q->wpAny (model X.prog X.w) X.A (Nh e X.env (eval e X.env)) (TP X pins σ Q) X.xe s
def PW(X:Cx) (e:Expr) (t:TT):Prop:=
 ∀(whole:Sem Value) (pins:List (Addr×Obj)) (s:Shared) (σ:St) (H:Hp) (Q:Bool->Hp->Prop),Inv X pins σ H s->t σ H Q->wpAny (model X.prog X.w) X.A (Nh e X.env whole) (TP X pins σ Q) X.xe s
theorem PW.pt{X:Cx}{e:Expr}{t:TT}(h:PW X e t):PT X e t:=h _
def PA(X:Cx) (es:List Expr) (t:TA):Prop:=
 ∀(pos:Pos) (pins:List (Addr×Obj)) (s:Shared) (σ:St) (H:Hp) (Q:List V->Hp->Prop),Inv X pins σ H s->t σ H Q->wpAny (model X.prog X.w) X.A (spliced (Dg pos (Aq es X.env))) (AP X pins σ Q) X.xe s
def PS(X:Cx) (st:Stmt) (t:TS):Prop:=
 ∀(pins:List (Addr×Obj)) (s:Shared) (σ:St) (H:Hp) (D:Ends),Inv X pins σ H s->t D σ H->wpAny (model X.prog X.w) X.A (exec st X.env) (SP X pins D) X.xe s
def PSs(X:Cx) (st:List Stmt) (t:TS):Prop:=
 ∀(pins:List (Addr×Obj)) (s:Shared) (σ:St) (H:Hp) (D:Ends),Inv X pins σ H s->t D σ H->wpAny (model X.prog X.w) X.A (execs st X.env) (SP X pins D) X.xe s
theorem thn{α:Type}{t:Sem α}{Q Q':α->Shared->Prop}{M:Model}{A:Around}{E:Value->Shared->Prop}{s:Shared}(h:wpAny M A t Q E s) (hQ:∀a s,Q a s->Q' a s):wpAny M A t Q' E s:=Bk h hQ λ_ _ x=>x
section
variable{X:Cx}
def _qv1(i:Nat):TE:=λσ H Q=>∃v,σ[i]?=some (some v)/\Q v H
def tC(v:V):TE:=λ_ H Q=>Q v H
theorem _qqg{i:Nat}{x:Str}{pos:Pos}(hN:X.N[i]?=some x) (hv:Vis X.env.scope x) (hd:(x==("__debug__":Str))=false:=by decide) (hcd:(x==("__classdict__":Str))=false:=by decide):PE X (.Name x pos) (_qv1 i):=by
 intro pins s σ H Q I h;obtain⟨v,e,h⟩:=h;obtain⟨m,hn,hl⟩:=I.loc;obtain⟨u,r,l⟩:=hl i x v hN e hv;have fin:EP X pins σ Q u s:=⟨v,H,I,r,h⟩;rcases l with⟨hk,hm⟩|⟨hk,c,hc,hcell⟩
 ·exact wpAny_Name (wpAny_loadName_local I.ok.kind hk hn hm fin) hd
 ·rcases hk with hk|hk
  ·exact wpAny_Name (wpAny_loadName_cell I.ok.kind hk hc hcell fin) hd
  ·exact wpAny_Name (wpAny_loadName_free I.ok.kind hk hc hcell fin hcd) hd
theorem _n{i j pos}:PE X (.Constant (.int i) j pos) (tC (.int i)):=λ_ _ _ H _ I h=>wpAny_Constant_int ⟨.int i,H,I.tok _,⟨_,rfl⟩,h⟩
theorem pe_bl{b j pos}:PE X (.Constant (.bool b) j pos) (tC (.bl b)):=λ_ _ _ H _ I h=>Constant_bool ⟨.bl b,H,I,rfl,h⟩
theorem _Yp{j pos}:PE X (.Constant .none j pos) (tC .non):=λ_ _ _ H _ I h=>Constant_none ⟨.non,H,I,rfl,h⟩
theorem _qn3{x j pos}:PE X (.Constant (.str x) j pos) (tC (.str x)):=λ_ _ _ H _ I h=>Calls.Constant_str ⟨.str x,H,I.tok _,⟨_,rfl⟩,h⟩
def Gl(X:Cx) (x:Str):Prop:=X.env.kindOf x=some .globalImplicit
theorem _qcl{E:Value->Shared->Prop}{pins:List (Addr×Obj)}{s:Shared}{σ:St}{H:Hp}{x:Str}{u:Value}{pos:Pos}{Q:Value->Shared->Prop}(I:Inv X pins σ H s) (hg:Gl X x) (hm:X.mg x=some u) (h:Q u s)
  (hd:(x==("__debug__":Str))=false:=by decide):wpAny (model X.prog X.w) X.A (eval (.Name x pos) X.env) Q E s:=
 Hv I.ok.kind hg (Calls.loadGlobal_global (by rw[I.ok.glob];exact I.mod.glob.keeps I.bk) hm h) hd
theorem _Jv{E:Value->Shared->Prop}{pins:List (Addr×Obj)}{s:Shared}{σ:St}{H:Hp}{x:Str}{u:Value}{pos:Pos}{Q:Value->Shared->Prop}(I:Inv X pins σ H s) (hg:Gl X x) (hm:X.mg x=none) (hv:Be x=some u) (h:Q u s)
  (hn:x≠"__name__":=by decide) (hd:(x==("__debug__":Str))=false:=by decide):wpAny (model X.prog X.w) X.A (eval (.Name x pos) X.env) Q E s:=by
 obtain⟨mb,h1,h2⟩:=I.mod.blt;exact Hv I.ok.kind hg (Calls.loadGlobal_builtin (by rw[I.ok.glob];exact I.mod.glob.keeps I.bk) hm (by rw[I.ok.blt];exact h1.keeps I.bk) ((h2 x hn).trans hv) h) hd
theorem _qbn{x:Str}{v:V}{u:Value}{pos:Pos}(hg:Gl X x) (hm:X.mg x=some u) (r:_qwm v u) (hd:(x==("__debug__":Str))=false:=by decide):PE X (.Name x pos) (tC v):=
 λ_ _ _ H _ I h=>_qcl I hg hm ⟨v,H,I,r,h⟩ hd
variable{a b:Expr}{ta tb:TE}{pos:Pos}
def PC(X:Cx) (op:CmpOp) (a b:Expr) (t:TE):Prop:=
 ∀(pins:List (Addr×Obj)) (s:Shared) (σ:St) (H:Hp) (Q:VK),Inv X pins σ H s->t σ H Q->
  wpAny (model X.prog X.w) X.A (eval a X.env) (λv s₁=>wpAny (model X.prog X.w) X.A (eval b X.env) (λu s₂=>wpAny (model X.prog X.w) X.A (Bn op v u) (EP X pins σ Q) X.xe s₂) X.xe s₁) X.xe s
theorem nobehind(b:Expr){op:CmpOp}(h:op≠ .In) (h2:op≠ .NotIn):Dd op b=false:=by
 have e1:(op==CmpOp.In)=false:=by cases op<;>first|rfl|exact absurd rfl h
 have e2:(op==CmpOp.NotIn)=false:=by cases op<;>first|rfl|exact absurd rfl h2
 cases b<;>simp[Dd,e1,e2]
def tIsN(ta:TE):TE:=λσ H Q=>ta σ H λx H1=>Q (.bl (decide (x=.non))) H1
theorem _qwm.none_iff{x:V}{v:Value}(r:_qwm x v):(v==Value.none)=decide (x=.non):=by
 cases x with
 |non=>cases r;rfl
 |bl _=>cases r;rfl
 |int _=>obtain⟨t,rfl⟩:=r;rfl
 |str _=>obtain⟨t,rfl⟩:=r;rfl
 |byt _=>obtain⟨t,rfl⟩:=r;rfl
 |flt _=>obtain⟨t,rfl⟩:=r;rfl
 |ref _=>cases r;rfl
 |ty _=>cases r;rfl
theorem _qqi{j pos'}(ha:PE X a ta):PC X .Is a (.Constant .none j pos') (tIsN ta):=by
 intro pins s σ H Q I h;refine thn (ha pins s σ H _ I h) λv s1 hQ=>?_;obtain⟨x,H1,I1,r1,q1⟩:=hQ;exact Constant_none (is_none_gen ⟨.bl _,H1,I1,by rw[r1.none_iff];rfl,q1⟩)
def tB(t:TE):TT:=λσ H Q=>t σ H λx H1=>∃c,x=.bl c/\Q c H1
theorem _qj9{op:CmpOp}{t:TE}(h:PC X op a b t) (h1:Dd op b=false:=by first|exact nobehind _ (by decide) (by decide)|rfl):PT X (.Compare a [op] [b] pos) (tB t):=by
 intro pins s σ H Q I hw;refine Kg (thn (h pins s σ H _ I hw) λv s1 h1=>thn h1 λu s2 h2=>thn h2 λc s3 hQ=>?_) h1;obtain⟨x,H1,I1,r1,q1⟩:=hQ;obtain⟨d,rfl,q⟩:=q1;cases r1;exact Dv ⟨H1,I1,q⟩
theorem _qmt{e:Expr}{t:TE}(h:PE X e t) (he:∀whole,Nh e X.env whole=(do let v <-whole;Nb e.pos;Ju [v] (truthy v)):=by intro _;rfl):PT X e (tB t):=by
 intro pins s σ H Q I hw;refine isTrue_plain (thn (h pins s σ H _ I hw) λv s1 hQ=>?_) (he _);obtain⟨x,H1,I1,r1,q1⟩:=hQ;obtain⟨d,rfl,q⟩:=q1;cases r1;exact Dv ⟨H1,I1,q⟩
variable{tA tB':TT}{_qvb:List Expr}
def tAnd(t u:TT):TT:=λσ H Q=>t σ H λc H1=>if c=true then u σ H1 Q else Q false H1
def tOr(t u:TT):TT:=λσ H Q=>t σ H λc H1=>if c=true then Q true H1 else u σ H1 Q
def tNot(t:TT):TT:=λσ H Q=>t σ H λc H1=>Q (!c) H1
theorem _qmr(ha:PT X a tA):PW X (.BoolOp .And [a] pos) tA:=by
 intro wh pins s σ H Q I h;refine isTrue_and (thn (ha pins s σ H Q I h) λc s1 e=>?_);cases c with
 |true=>exact isTrue_and_nil e
 |false=>exact e
theorem _qj7(ha:PT X a tA):PW X (.BoolOp .Or [a] pos) tA:=by
 intro wh pins s σ H Q I h;refine isTrue_or (thn (ha pins s σ H Q I h) λc s1 e=>?_);cases c with
 |false=>exact isTrue_or_nil e
 |true=>exact e
theorem _qq9(ha:PT X a tA) (hb:PW X (.BoolOp .And (b::_qvb) pos) tB'):PW X (.BoolOp .And (a::b::_qvb) pos) (tAnd tA tB'):=by
 intro wh pins s σ H Q I h;refine isTrue_and (thn (ha pins s σ H _ I h) λc s1 hQ=>?_);obtain⟨H1,I1,q1⟩:=hQ;cases c with
 |true=>exact hb wh pins s1 σ H1 Q I1 q1
 |false=>exact⟨H1,I1,q1⟩
theorem pw_or(ha:PT X a tA) (hb:PW X (.BoolOp .Or (b::_qvb) pos) tB'):PW X (.BoolOp .Or (a::b::_qvb) pos) (tOr tA tB'):=by
 intro wh pins s σ H Q I h;refine isTrue_or (thn (ha pins s σ H _ I h) λc s1 hQ=>?_);obtain⟨H1,I1,q1⟩:=hQ;cases c with
 |true=>exact⟨H1,I1,q1⟩
 |false=>exact hb wh pins s1 σ H1 Q I1 q1
theorem _qmu(ha:PT X a tA):PT X (.UnaryOp .Not a pos) (tNot tA):=by
 intro pins s σ H Q I h;exact isTrue_not (ha pins s σ H (λc H1=>Q (!c) H1) I h)
def tAndV(ta tb:TE):TE:=λσ H Q=>ta σ H λx H1=>∃c,x=.bl c/\if c=true then tb σ H1 Q else Q (.bl false) H1
theorem _qqh{op}{t:TE}(h:PE X a t):PE X (.BoolOp op [a] pos) t:=λpins s σ H Q I hw=>BoolOp_one (h pins s σ H Q I hw)
theorem _qn4(ha:PE X a ta) (hb:PE X (.BoolOp .And (b::_qvb) pos) tb):PE X (.BoolOp .And (a::b::_qvb) pos) (tAndV ta tb):=by
 intro pins s σ H Q I h;refine BoolOp_and (thn (ha pins s σ H _ I h) λv s1 hQ=>?_);obtain⟨x,H1,I1,r1,q1⟩:=hQ;obtain⟨c,rfl,q1⟩:=q1;cases r1;refine Dv ?_;cases c with
 |true=>exact hb pins s1 σ H1 Q I1 q1
 |false=>exact⟨.bl false,H1,I1,rfl,q1⟩
def tIf(t:TT) (ta tb:TE):TE:=λσ H Q=>t σ H λc H1=>if c=true then ta σ H1 Q else tb σ H1 Q
theorem _qjg{c:Expr}(hc:PT X c tA) (ha:PE X a ta) (hb:PE X b tb):PE X (.IfExp c a b pos) (tIf tA ta tb):=by
 intro pins s σ H Q I h;refine wpAny_IfExp (thn (hc pins s σ H _ I h) λd s1 hQ=>?_);obtain⟨H1,I1,q1⟩:=hQ;cases d with
 |true=>exact ha pins s1 σ H1 Q I1 q1
 |false=>exact hb pins s1 σ H1 Q I1 q1
end
def SqL(K:Frag) (H:Hp) (a:Addr) (xs:List V):Prop:=
 Rd H a (.lst xs)\/
  ∃(o:Obj) (its:Array Value) (n:Nat),K.lookup a=some o/\o.cls=.type "list"/\o.dict=none/\o.data=.seq its n/\its.size<=Aj/\_qwi xs its.toList
def SqT(K:Frag) (H:Hp) (a:Addr) (xs:List V):Prop:=
 Rd H a (.tup xs)\/
  ∃(o:Obj) (its:Array Value) (n:Nat),K.lookup a=some o/\o.cls=.type "tuple"/\o.data=.seq its n/\its.size<=Aj/\_qwi xs its.toList
def absV:Value->Option V
 | .none=>some .non
 | .bool b=>some (.bl b)
 | .int i _=>some (.int i)
 | .str x _=>some (.str x)
 | .bytes b _=>some (.byt b)
 | .float b _=>some (.flt b)
 | .ref a=>some (.ref a)
 | .type n=>some (.ty n)
 |_=>none
theorem _qwm.abs{x:V}{u:Value}(r:_qwm x u):absV u=some x:=by
 cases x with
 |non=>cases r;rfl
 |bl _=>cases r;rfl
 |int _=>obtain⟨t,rfl⟩:=r;rfl
 |str _=>obtain⟨t,rfl⟩:=r;rfl
 |byt _=>obtain⟨t,rfl⟩:=r;rfl
 |flt _=>obtain⟨t,rfl⟩:=r;rfl
 |ref _=>cases r;rfl
 |ty _=>cases r;rfl
theorem _qwm.inj{x y:V}{u:Value}(r:_qwm x u) (q:_qwm y u):x=y:=Option.some.inj (r.abs.symm.trans q.abs)
theorem _qwi.inj:∀{xs ys:List V}{us:List Value},_qwi xs us->_qwi ys us->xs=ys
 |_,_,_,.nil,.nil=>rfl
 |_,_,_,.cons r t,.cons r' t'=>by rw[r.inj r',_qwi.inj t t']
section
variable{X:Cx}{pins:List (Addr×Obj)}{σ:St}{H:Hp}{s:Shared}{a:Addr}{xs ys:List V}
theorem SqL.of{K:Frag}(h:H a=some (.lst xs)):SqL K H a xs:=.inl (.inl h)
theorem SqT.of{K:Frag}(h:H a=some (.tup xs)):SqT K H a xs:=.inl (.inl h)
theorem Inv.list(I:Inv X pins σ H s) (h:SqL X.K H a xs):∃its:List Value,_qwi xs its/\PlainL s.heap a its.toArray/\xs.length<=Aj:=by
 rcases h with h|⟨o,its,n,hk,hc,hd,hs,hz,r⟩
 ·obtain⟨z,its,n,r,e⟩:=h.ok I.hok
  exact⟨its,r,⟨_,n,e,rfl,rfl,rfl⟩,z⟩
 ·refine⟨its.toList,r,⟨o,n,I.kIn a o hk,hc,hd,by simpa using hs⟩,?_⟩
  have e:=r.length;simp only[length_toList]at e;omega
theorem Inv.tuple(I:Inv X pins σ H s) (h:SqT X.K H a xs):∃its:List Value,_qwi xs its/\IsTup s.heap a its.toArray/\xs.length<=Aj:=by
 rcases h with h|⟨o,its,n,hk,hc,hs,hz,r⟩
 ·obtain⟨z,its,r,p⟩:=h.ok I.hok
  exact⟨its,r,p,z⟩
 ·refine⟨its.toList,r,⟨o,I.kIn a o hk,hc,n,by simpa using hs⟩,?_⟩
  have e:=r.length;simp only[length_toList]at e;omega
theorem Inv.list_inj(I:Inv X pins σ H s) (h:SqL X.K H a xs) (h':SqL X.K H a ys):xs=ys:=by
 obtain⟨its,r,⟨o,n,e,_,_,d⟩,_⟩:=I.list h;obtain⟨its',r',⟨o',n',e',_,_,d'⟩,_⟩:=I.list h';rw[e]at e';cases e';rw[d]at d';injection d' with d1 _
 have:its=its':=by simpa using congrArg Array.toList d1
 subst this;exact r.inj r'
theorem Inv.tuple_inj(I:Inv X pins σ H s) (h:SqT X.K H a xs) (h':SqT X.K H a ys):xs=ys:=by
 obtain⟨its,r,⟨o,e,_,n,d⟩,_⟩:=I.tuple h;obtain⟨its',r',⟨o',e',_,n',d'⟩,_⟩:=I.tuple h';rw[e]at e';cases e';rw[d]at d';injection d' with d1 _
 have:its=its':=by simpa using congrArg Array.toList d1
 subst this;exact r.inj r'
end
abbrev Cx.wish(X:Cx) (E:Value->Shared->Prop):Cx:={X with xe:=E}
abbrev Cx.nox(X:Cx):Cx:=X.wish λ_ _=>False
theorem Cx.Ok.wish{X:Cx}(ok:X.Ok) (E:Value->Shared->Prop):(X.wish E).Ok:=
 ⟨ok.mod,ok.kind,ok.glob,ok.blt,ok.above,ok.inj,ok.has,ok.cab,ok.hd,ok.frames,ok.stk,ok.exf,ok.bs,ok.bsz,ok.noex,ok.exfs,ok.funs,ok.frf⟩
theorem Cx.Ok.unwish{X:Cx}{E:Value->Shared->Prop}(ok:(X.wish E).Ok):X.Ok:=
 ⟨ok.mod,ok.kind,ok.glob,ok.blt,ok.above,ok.inj,ok.has,ok.cab,ok.hd,ok.frames,ok.stk,ok.exf,ok.bs,ok.bsz,ok.noex,ok.exfs,ok.funs,ok.frf⟩
section
variable{X:Cx}{pins:List (Addr×Obj)}{σ:St}{H:Hp}{s:Shared}{E:Value->Shared->Prop}
theorem Inv.wish(I:Inv X pins σ H s) (E:Value->Shared->Prop):Inv (X.wish E) pins σ H s:=⟨I.ok.wish E,I.os,I.bare,I.base,I.loc,I.cell,I.free,I.freeC,I.pin,I.hok,I.len⟩
theorem Inv.unwish(I:Inv (X.wish E) pins σ H s):Inv X pins σ H s:=⟨I.ok.unwish,I.os,I.bare,I.base,I.loc,I.cell,I.free,I.freeC,I.pin,I.hok,I.len⟩
theorem SP.unwish{D:Ends}{f:Flow}{s':Shared}(h:SP (X.wish E) pins D f s'):SP X pins D f s':=by
 cases f with
 |next=>obtain⟨σ',H',I,q⟩:=h;exact⟨σ',H',I.unwish,q⟩
 |brk=>obtain⟨σ',H',I,q⟩:=h;exact⟨σ',H',I.unwish,q⟩
 |cont=>obtain⟨σ',H',I,q⟩:=h;exact⟨σ',H',I.unwish,q⟩
 |ret u=>obtain⟨v,σ',H',I,r,q⟩:=h;exact⟨v,σ',H',I.unwish,r,q⟩
theorem PE.nox{e:Expr}{t:TE}(h:PE X.nox e t):PE X e t:=λpins s σ H Q I hw=>
 Bk (h pins s σ H Q (I.wish _) hw) (λ_ _ ⟨v,H',I',r,q⟩=>⟨v,H',I'.unwish,r,q⟩) λ_ _ z=>A5 z
theorem PT.nox{e:Expr}{t:TT}(h:PT X.nox e t):PT X e t:=λpins s σ H Q I hw=>
 Bk (h pins s σ H Q (I.wish _) hw) (λ_ _ ⟨H',I',q⟩=>⟨H',I'.unwish,q⟩) λ_ _ z=>A5 z
theorem PSs.nox{st:List Stmt}{t:TS}(h:PSs X.nox st t):PSs X st t:=λpins s σ H D I hw=>
 Bk (h pins s σ H D (I.wish _) hw) (λ_ _ q=>q.unwish) λ_ _ z=>A5 z
end
section
variable{X:Cx}{st:Stmt}{_qvb:List Stmt}{t u:TS}{e:Expr}{te:TE}{pos:Pos}
def tNext:TS:=λD σ H=>D.nx σ H
def tSeq(t u:TS):TS:=λD σ H=>t {D with nx:=u D} σ H
theorem _jj:PSs X [] tNext:=λ_ _ σ H _ I h=>G9 ⟨σ,H,I,h⟩
theorem _j(h1:PS X st t) (h2:PSs X _qvb u):PSs X (st::_qvb) (tSeq t u):=by
 intro pins s σ H D I h;refine wpAny_execs_cons (thn (h1 pins s σ H {D with nx:=u D} I h) λf s1 q=>?_);cases f with
 |next=>
  obtain⟨σ',H',I',q⟩:=q;exact h2 pins s1 σ' H' D I' q
 |ret v=>exact q
 |brk=>exact q
 |cont=>exact q
theorem _w(h1:PS X st t):PSs X [st] t:=by
 intro pins s σ H D I h;refine wpAny_execs_cons (thn (h1 pins s σ H D I h) λf s1 q=>?_);cases f with
 |next=>exact G9 q
 |ret v=>exact q
 |brk=>exact q
 |cont=>exact q
theorem Inv.quiet{pins:List (Addr×Obj)}{σ:St}{H:Hp}{s:Shared}(I:Inv X pins σ H s):interactive X.env=false:=by simp[interactive,I.ok.kind]
def tDrop(te:TE):TS:=λD σ H=>te σ H λ_ H1=>D.nx σ H1
theorem _q4(he:PE X e te) (hs:Hu e none pos.line X.env=pure false:=by rfl):PS X (.Expr e pos) (tDrop te):=by
 intro pins s σ H D I h;exact wpAny_Expr_any (thn (he pins s σ H _ I h) λv s1 ⟨x,H1,I1,r1,q1⟩=>⟨σ,H1,I1,q1⟩) I.quiet hs
def tRet(te:TE):TS:=λD σ H=>te σ H D.rt
theorem _xs(he:PE X e te):PS X (.Return (some e) pos) (tRet te):=by
 intro pins s σ H D I h;exact wpAny_Return_some (thn (he pins s σ H _ I h) λv s1 ⟨x,H1,I1,r1,q1⟩=>⟨x,σ,H1,I1,r1,q1⟩)
def tIfS(c:TT) (t u:TS):TS:=λD σ H=>c σ H λb H1=>if b=true then t D σ H1 else u D σ H1
theorem _Z7{c:Expr}{a b:List Stmt}{tc:TT}(hc:PT X c tc) (ha:PSs X a t) (hb:PSs X b u):PS X (.If c a b pos) (tIfS tc t u):=by
 intro pins s σ H D I h;refine wpAny_If (thn (hc pins s σ H _ I h) λd s1 hQ=>?_);obtain⟨H1,I1,q1⟩:=hQ;cases d with
 |true=>exact ha pins s1 σ H1 D I1 q1
 |false=>exact hb pins s1 σ H1 D I1 q1
def tNever:TS:=λ_ _ _=>False
theorem _qja:PS X st tNever:=λ_ _ _ _ _ _ h=>h.elim
end
abbrev TG:=V->St->Hp->(St->Hp->Prop)->Prop
abbrev TGs:=List V->St->Hp->(St->Hp->Prop)->Prop
def PG(X:Cx) (target:Expr) (t:TG):Prop:=
 ∀(pins:List (Addr×Obj)) (s:Shared) (σ:St) (H:Hp) (v:V) (u:Value) (Q:St->Hp->Prop),Inv X pins σ H s->_qwm v u->t v σ H Q->
  wpAny (model X.prog X.w) X.A (Je target X.env u) (λ_ s'=>∃σ' H',Inv X pins σ' H' s'/\Q σ' H') X.xe s
def PGs(X:Cx) (ts:List Expr) (t:TGs):Prop:=
 ∀(pins:List (Addr×Obj)) (s:Shared) (σ:St) (H:Hp) (vs:List V) (us:List Value) (Q:St->Hp->Prop),Inv X pins σ H s->_qwi vs us->t vs σ H Q->
  wpAny (model X.prog X.w) X.A (assignInOrder ((Cb ts X.env).map (·.2)) us) (λ_ s'=>∃σ' H',Inv X pins σ' H' s'/\Q σ' H') X.xe s
abbrev TSet:=V->V->V->Hp->(Hp->Prop)->Prop
def PSet(X:Cx) (t:TSet):Prop:=
 ∀(pins:List (Addr×Obj)) (s:Shared) (σ:St) (H:Hp) (o i v:V) (ov iv u:Value) (Q:Hp->Prop),Inv X pins σ H s->_qwm o ov->_qwm i iv->_qwm v u->t o i v H Q->
  wpAny (model X.prog X.w) X.A (setItem ov iv u) (λ_ s'=>∃H',Inv X pins σ H' s'/\Q H') X.xe s
section
variable{X:Cx}{pos:Pos}
def _z0(i:Nat):TG:=λv σ H Q=>Q (σ.set i (some v)) H
theorem _qj{i:Nat}{x:Str}(hN:X.N.Nodup) (hi:X.N[i]?=some x) (hx:Loc X.env.scope x) (hf:X.fn x=true\/X.env.scope.names.lookup x=some .local:=by first|exact .inl rfl|exact .inr rfl|assumption):PG X (.Name x pos) (_z0 i):=by
 intro pins s σ H v u Q I r h;exact wpAny_assign_Name (_qak I hN hi hx r (λs' I'=>⟨_,H,I',h⟩) hf)
def gNil:TGs:=λvs σ H Q=>vs=[]/\Q σ H
def _qd0(t:TG) (u:TGs):TGs:=λvs σ H Q=>∃v r,vs=v::r/\t v σ H λσ' H'=>u r σ' H' Q
theorem _Xv:PGs X [] gNil:=by
 intro pins s σ H vs us Q I r h;obtain⟨e,h⟩:=h;subst e;cases r;exact assignInOrder_nil ⟨σ,H,I,h⟩
theorem _xu{e:Expr}{es:List Expr}{t:TG}{u:TGs}(h1:PG X e t) (h2:PGs X es u)
  (hs:(Cb (e::es) X.env).map (·.2)=Je e X.env::(Cb es X.env).map (·.2):=by rfl):PGs X (e::es) (_qd0 t u):=by
 intro pins s σ H vs us Q I r h;obtain⟨v,vr,e1,h⟩:=h;subst e1;cases r with
 |cons r rr=>
  rw[hs];refine assignInOrder_cons (thn (h1 pins s σ H _ _ _ I r h) λ_ s1 hQ=>?_);obtain⟨σ1,H1,I1,q1⟩:=hQ;exact h2 pins s1 σ1 H1 _ _ Q I1 rr q1
def gTup(K:Frag) (n:Nat) (t:TGs):TG:=λv σ H Q=>∃a xs,v=.ref a/\SqT K H a xs/\xs.length=n/\t xs σ H Q
theorem _qf3{es:List Expr}{k:Nat}{t:TGs}{n:Nat}(hc:X.calm=true) (h:PGs X es t)
  (hn:(Cb es X.env).length=n:=by rfl) (hst:(Cb es X.env).findIdx? (·.1)=none:=by rfl):PG X (.Tuple es k pos) (gTup X.K n t):=by
 intro pins s σ H v u Q I r hw;obtain⟨a,xs,e1,hq,hl,hw⟩:=hw;subst e1;cases r;obtain⟨its,rv,ht,hz⟩:=I.tuple hq;refine assign_Tuple_tuple (I.ok.hd hc) ht (by simp[hn,<-hl,rv.length]) hst λh' hx=>?_;have I1:Inv X pins σ H {s with heap:=h'}:=I.kept (t':=s.toks) λb o e=>hx b o (ne_of_lt (Af e)) e;exact h pins _ σ H xs _ Q I1 (by simpa using rv) hw
def gSub(to ti:TE) (t:TSet):TG:=λv σ H Q=>to σ H λo H1=>ti σ H1 λi H2=>t o i v H2 λH3=>Q σ H3
theorem _qqf{o i:Expr}{to ti:TE}{t:TSet}(ho:PE X o to) (hi:PE X i ti) (hs:PSet X t)
  (ha:∀v,Je (.Subscript o i pos) X.env v=(do
   let ov <-Ju [v] (eval o X.env)
   let iv <-Ju [v,ov] (eval i X.env)
   Nb pos
   Ju [v,ov,iv] (setItem ov iv v)
   release [v,ov,iv] []):=by intro _;rfl):PG X (.Subscript o i pos) (gSub to ti t):=by
 intro pins s σ H v u Q I r h;rw[ha];refine Ac (Bc (thn (ho pins s σ H _ I h) λov s1 hQ=>?_));obtain⟨x,H1,I1,r1,q1⟩:=hQ;refine Ac (Bc (thn (hi pins s1 σ H1 _ I1 q1) λiv s2 hQ=>?_));obtain⟨y,H2,I2,r2,q2⟩:=hQ;refine Ac (Lj (Ac (Bc (thn (hs pins s2 σ H2 x y v ov iv u _ I2 r1 r2 r q2) λ_ s3 hQ=>?_))));obtain⟨H3,I3,q3⟩:=hQ;exact wpAny_release ⟨σ,H3,I3,q3⟩
def tAsg(te:TE) (g:TG):TS:=λD σ H=>te σ H λx H1=>g x σ H1 D.nx
theorem _qqa{tg e:Expr}{te:TE}{g:TG}(he:PE X e te) (hg:PG X tg g) (hs:swapsWithSole [tg] e pos.line X.env=pure false:=by rfl) (hw:swappedStores [tg] e X.env=pure none:=by rfl)
  (h1:(Cb [tg] X.env).map (·.2)=[Je tg X.env]:=by rfl):PS X (.Assign [tg] e pos) (tAsg te g):=by
 intro pins s σ H D I h;refine wpAny_Assign_stores (thn (he pins s σ H _ I h) λv s1 hQ=>?_) hs hw;obtain⟨x,H1,I1,r1,q1⟩:=hQ;rw[h1];exact thn (hg pins s1 σ H1 x v _ I1 r1 q1) λ_ s2 q=>q
theorem _p{i:Nat}{x:Str}{e:Expr}{te:TE}{pos':Pos}(hN:X.N.Nodup) (hi:X.N[i]?=some x) (hx:Loc X.env.scope x) (he:PE X e te) (hs:Hu e (some (.Name x pos')) pos.line X.env=pure false:=by rfl) (hf:X.fn x=true\/X.env.scope.names.lookup x=some .local:=by first|exact .inl rfl|exact .inr rfl|assumption):
  PS X (.Assign [.Name x pos'] e pos) (tAsg te (_z0 i)):=by
 intro pins s σ H D I h;refine wpAny_Assign_Name (thn (he pins s σ H _ I h) λv s1 hQ=>?_) hs;obtain⟨y,H1,I1,r1,q1⟩:=hQ;exact _qak I1 hN hi hx r1 (λs2 I2=>⟨_,H1,I2,q1⟩) hf
end
section
variable{X:Cx}{pos:Pos}
def tWhile(c:TT) (tb:TS):TS:=λD σ H=>∃W:Nat->St->Hp->Prop,(∃m,W m σ H)/\∀m σ H,W m σ H->
 c σ H λb H1=>if b=true then∃N:St->Hp->Prop,(∀σ' H',N σ' H'->∃m',m'<m/\W m' σ' H')/\tb {D with nx:=N,ct:=N,bk:=D.nx} σ H1 else D.nx σ H1
theorem _qbh{c:Expr}{body:List Stmt}{tc:TT}{tb:TS}(hp:PassesOwn (model X.prog X.w) X.A X.env X.xe) (hc:PT X c tc) (hb:PSs X body tb):PS X (.While c body [] pos) (tWhile tc tb):=by
 intro pins s σ H D I h;obtain⟨W,⟨m0,w0⟩,turn⟩:=h;refine wpAny_While (codeAny_whileLoop (λn s'=>∃σ' H',Inv X pins σ' H' s'/\W n σ' H') ?_ m0 ⟨σ,H,I,w0⟩);rintro n s1 ⟨σ1,H1,I1,w1⟩;refine Du hp (thn (hc pins s1 σ1 H1 _ I1 (turn n σ1 H1 w1)) λb s2 hQ=>?_);obtain⟨H2,I2,q2⟩:=hQ;cases b with
 |true=>
  obtain⟨N,hN,q2⟩:=q2;rw[if_pos rfl];refine Du hp (thn (hb pins s2 σ1 H2 _ I2 q2) λf s3 q3=>?_);cases f with
  |next=>
   obtain⟨σ3,H3,I3,n3⟩:=q3;obtain⟨m',hm,w3⟩:=hN σ3 H3 n3;exact⟨m',hm,σ3,H3,I3,w3⟩
  |cont=>
   obtain⟨σ3,H3,I3,n3⟩:=q3;obtain⟨m',hm,w3⟩:=hN σ3 H3 n3;exact⟨m',hm,σ3,H3,I3,w3⟩
  |brk=>exact q3
  |ret v=>exact q3
 |false=>
  rw[if_neg Al];exact G9 ⟨σ1,H2,I2,q2⟩
end
structure It where
 go:Nat->Hp->Prop
 yld:Nat->Hp->V->Hp->Prop
 stop:Nat->Hp->Prop
def FpOk(X:Cx) (pins:List (Addr×Obj)) (H:Hp) (b:Addr):Prop:=
 H b=none/\b≠X.env.locals/\b∉X.fs/\(b∈X.ex\/X.s₀.heap.objs.size<=b)/\(∀x c,X.env.cells.lookup x=some c->c≠b)/\∀p∈X.pn++pins,p.1≠b
theorem Inv.fpOk{X:Cx}{pins:List (Addr×Obj)}{σ:St}{H H':Hp}{s:Shared}{b:Addr}(I:Inv X pins σ H s) (hb:s.heap.objs.size<=b) (hn:H' b=none):FpOk X pins H' b:=by
 refine⟨hn,ne_of_gt (lt_of_lt_of_le I.lt hb),I.nofs hb,.inr (le_trans I.sz hb),λx c e z=>?_,λp hp z=>?_⟩
 ·obtain⟨v,q⟩:=I.cell x c e
  exact absurd (lt_of_lt_of_le q.lt (by rw[z];exact hb)) (lt_irrefl _)
 ·exact absurd (lt_of_lt_of_le (Af (I.pin p hp).1) (by rw[z];exact hb)) (lt_irrefl _)
structure Turn(P:Ak) (w:World) (K:Frag) (tg:Expr) (J:It) (fp:List Addr) (it:Addr) (tn:Nat->Heap->Prop):Prop where
 mem:it∈fp
 obj:∀i h,tn i h->∀b∈fp,∃o,h.get? b=some o/\∀v,o.data≠ .cell v
 keep:∀i h h',tn i h->(∀b∈fp,∀o,h.get? b=some o->h'.get? b=some o)->tn i h'
 item:∀(X:Cx),X.prog=P->X.w=w->X.K=K->X.calm=true->∀(i:Nat) (pins:List (Addr×Obj)) (s:Shared) (σ:St) (H:Hp) (E:Value->Shared->Prop),Inv X pins σ H s->(∀b∈fp,FpOk X pins H b)->tn i s.heap->J.go i H->
  wpAny (model P w) X.A (Eb (.ref it)) (λr s1=>∃u,r=some u/\
   wpAny (model P w) X.A (Ha tg (.ref it) u) (λ_ s2=>∃x H',Inv X pins σ H' s2/\_qwm x u/\J.yld i H x H'/\tn (i+1) s2.heap/\∀b∈fp,H' b=none) E s1) E s
 done:∀(X:Cx),X.prog=P->X.w=w->X.K=K->X.calm=true->∀(i:Nat) (pins:List (Addr×Obj)) (s:Shared) (σ:St) (H:Hp) (E:Value->Shared->Prop),Inv X pins σ H s->(∀b∈fp,FpOk X pins H b)->tn i s.heap->J.stop i H->
  wpAny (model P w) X.A (Eb (.ref it)) (λr s1=>r=none/\Inv X pins σ H s1) E s
 self:∀(A:Around) (i:Nat) (s:Shared) (Q:Value->Shared->Prop) (E:Value->Shared->Prop),tn i s.heap->Q (.ref it) s->wpAny (model P w) A (Kq (.ref it)) Q E s
abbrev TI:=St->Hp->(It->Hp->Prop)->Prop
def PIE(X:Cx) (pins:List (Addr×Obj)) (σ:St) (tg:Expr) (R:It->Hp->Prop) (itv:Value) (s2:Shared):Prop:=
 ∃(it:Addr) (fp:List Addr) (tn:Nat->Heap->Prop) (J:It) (H':Hp),itv=.ref it/\Inv X pins σ H' s2/\Turn X.prog X.w X.K tg J fp it tn/\tn 0 s2.heap/\(∀b∈fp,FpOk X pins H' b)/\R J H'
def PI(X:Cx) (tg iter:Expr) (wi:TI):Prop:=
 ∀(pins:List (Addr×Obj)) (s:Shared) (σ:St) (H:Hp) (R:It->Hp->Prop),Inv X pins σ H s->wi σ H R->
  wpAny (model X.prog X.w) X.A (eval iter X.env) (λv s1=>wpAny (model X.prog X.w) X.A (Kq v) (PIE X pins σ tg R) X.xe s1) X.xe s
theorem go_of{M:Model}{A:Around}{E:Value->Shared->Prop}{s:Shared}{tg:Expr}{it:Addr}{u:Value}{o:Obj}{n:String}{vs:Array Value}{Q:Unit->Shared->Prop}(ho:s.heap.get? it=some o) (hc:o.cls=.type n) (hd:o.data=.fields vs)
  (hn:["enumerate","zip","dict_itemiterator","dict_reverseitemiterator","odict_iterator","itertools.zip_longest","itertools.pairwise"].contains n=false) (hQ:Q () s):wpAny M A (Ha tg (.ref it) u) Q E s:=by
 unfold Ha;cases tg<;>first
  |exact Ad hQ
  |(cases u<;>first
    |exact Ad hQ
    | (refine Ac (Gu ho ?_)
       rw[hc,hd];show wpAny M A (if(["enumerate","zip","dict_itemiterator","dict_reverseitemiterator","odict_iterator","itertools.zip_longest","itertools.pairwise"].contains n&&vs[0]?==some (Cc _))=true then _ else _) Q E s;rw[if_neg (by intro h;rw[hn,Bool.false_and]at h;cases h)];exact Ad hQ))
def Itl(K:Frag) (a:Addr):It:=
 ⟨λi H=>∃xs x,SqL K H a xs/\xs[i]?=some x,λi H x H'=>H'=H/\∀xs,SqL K H a xs->xs[i]?=some x,λi H=>∃xs,SqL K H a xs/\xs.length<=i⟩
def Itt(K:Frag) (a:Addr):It:=
 ⟨λi H=>∃xs x,SqT K H a xs/\xs[i]?=some x,λi H x H'=>H'=H/\∀xs,SqT K H a xs->xs[i]?=some x,λi H=>∃xs,SqT K H a xs/\xs.length<=i⟩
def Itr(lo:Int) (n:Nat):It:=⟨λi _=>i<n,λi H x H'=>H'=H/\x=.int (lo+i),λi _=>n<=i⟩
theorem _qee{P:Ak}{w:World}{K:Frag}{tg:Expr}(a it:Addr):Turn P w K tg (Itl K a) [it] it (λi h=>h.IsListIter it a i) where
 mem:=by simp
 obj:=λi h st b hb=>by
  have e:b=it:=by simpa using hb
  subst e;obtain⟨o,e,c,d⟩:=st;exact⟨o,e,λv z=>by rw[d]at z;cases z⟩
 keep:=λi h h' st k=>st.at λo e=>k it (by simp) o e
 item:=by
  intro X hP hw hK hc i pins s σ H E I hf st hg;subst hP hw hK;obtain⟨xs,x,hq,hx⟩:=hg;obtain⟨its,rv,p,hz⟩:=I.list hq;obtain⟨u,hu,ru⟩:=rv.get hx;obtain⟨f0,f1,f2,f3,f4,f5⟩:=hf it (by simp);refine wpAny_pyNext_list_item st p.isList (x:=u) (by simpa using hu) λh' st' sb=>?_;have I1:Inv X pins σ H {s with heap:=h'}:=I.turned (t':=s.toks) (λb o hb e=>(sb.2 b hb).trans e) f0 f1 f3 f4 f5;obtain⟨o,e,c,d⟩:=id st';exact⟨u,rfl,go_of (s:={s with heap:=h'}) e c d (by decide) ⟨x,H,I1,ru,⟨rfl,λys hy=>by rw[I.list_inj hy hq];exact hx⟩,st',λb hb=>(hf b hb).1⟩⟩
 done:=by
  intro X hP hw hK hc i pins s σ H E I hf st hg;subst hP hw hK;obtain⟨xs,hq,hx⟩:=hg;obtain⟨its,rv,p,hz⟩:=I.list hq;obtain⟨f0,f1,f2,f3,f4,f5⟩:=hf it (by simp);have hl:=rv.length;exact wpAny_pyNext_list_end (I.ok.hd hc) st p.isList (by simp;omega) λh' eb=>⟨rfl,I.turned (t':=s.toks) (λb o hb e=>eb b o hb e) f0 f1 f3 f4 f5⟩
 self:=λ_ _ _ _ _ st h=>wpAny_pyIter_listiter st h
theorem _qae{P:Ak}{w:World}{K:Frag}{tg:Expr}(a it:Addr):Turn P w K tg (Itt K a) [it] it (λi h=>h.IsTupleIter it a i) where
 mem:=by simp
 obj:=λi h st b hb=>by
  have e:b=it:=by simpa using hb
  subst e;obtain⟨o,e,c,d⟩:=st;exact⟨o,e,λv z=>by rw[d]at z;cases z⟩
 keep:=λi h h' st k=>st.at λo e=>k it (by simp) o e
 item:=by
  intro X hP hw hK hc i pins s σ H E I hf st hg;subst hP hw hK;obtain⟨xs,x,hq,hx⟩:=hg;obtain⟨its,rv,p,hz⟩:=I.tuple hq;obtain⟨u,hu,ru⟩:=rv.get hx;obtain⟨f0,f1,f2,f3,f4,f5⟩:=hf it (by simp);refine wpAny_pyNext_tuple_item st (show s.heap.IsTuple a its.toArray from p) (x:=u) (by simpa using hu) λh' st' sb=>?_;have I1:Inv X pins σ H {s with heap:=h'}:=I.turned (t':=s.toks) (λb o hb e=>(sb.2 b hb).trans e) f0 f1 f3 f4 f5;obtain⟨o,e,c,d⟩:=id st';exact⟨u,rfl,go_of (s:={s with heap:=h'}) e c d (by decide) ⟨x,H,I1,ru,⟨rfl,λys hy=>by rw[I.tuple_inj hy hq];exact hx⟩,st',λb hb=>(hf b hb).1⟩⟩
 done:=by
  intro X hP hw hK hc i pins s σ H E I hf st hg;subst hP hw hK;obtain⟨xs,hq,hx⟩:=hg;obtain⟨its,rv,p,hz⟩:=I.tuple hq;obtain⟨f0,f1,f2,f3,f4,f5⟩:=hf it (by simp);have hl:=rv.length;exact wpAny_pyNext_tuple_end (I.ok.hd hc) st (show s.heap.IsTuple a its.toArray from p) (by simp;omega) λh' eb=>⟨rfl,I.turned (t':=s.toks) (λb o hb e=>eb b o hb e) f0 f1 f3 f4 f5⟩
 self:=λ_ _ _ _ _ st h=>wpAny_pyIter_tupleiter st h
theorem _qaf{P:Ak}{w:World}{K:Frag}{tg:Expr}(it:Addr) (lo:Int) (n:Nat):Turn P w K tg (Itr lo n) [it] it (λi h=>IsRangeIter h it (lo+(i:Nat)*1) ((n:Int)- (i:Nat)) 1) where
 mem:=by simp
 obj:=λi h st b hb=>by
  have e:b=it:=by simpa using hb
  subst e;exact⟨_,st,λv z=>by
   have z':Data.fields _=Data.cell v:=z;cases z'⟩
 keep:=λi h h' st k=>k it (by simp) _ st
 item:=by
  intro X hP hw hK hc i pins s σ H E I hf st hg;subst hP hw hK;obtain⟨f0,f1,f2,f3,f4,f5⟩:=hf it (by simp);have W:=Walks.range (prog:=X.prog) (w:=X.w) (I.ok.hd hc) it lo 1 n;refine W.item i s _ _ hg st λv h' tk hv st' kk=>?_;obtain⟨t,rfl⟩:=hv;have I1:Inv X pins σ H {s with heap:=h',toks:=tk}:=I.turned (λb o hb e=>kk b o (by simpa using hb) e) f0 f1 f3 f4 f5;refine⟨_,rfl,go_of (s:={s with heap:=h',toks:=tk}) (n:="range_iterator") st' rfl rfl (by decide) ⟨.int (lo+i),H,I1,⟨t,?_⟩,⟨rfl,rfl⟩,st',λb hb=>(hf b hb).1⟩⟩;rw[Int.mul_one]
 done:=by
  intro X hP hw hK hc i pins s σ H E I hf st hg;subst hP hw hK;obtain⟨f0,f1,f2,f3,f4,f5⟩:=hf it (by simp);exact wpAny_pyNext_range_end (I.ok.hd hc) st (by have:n<=i:=hg;omega) λh' eb=>⟨rfl,I.turned (t':=s.toks) (λb o hb e=>eb b o hb e) f0 f1 f3 f4 f5⟩
 self:=λ_ _ _ _ _ st h=>wpAny_pyIter_rangeiter st h
section
variable{X:Cx}{tg:Expr}
def _qoc(K:Frag) (tl:TE):TI:=λσ H R=>tl σ H λx H1=>∃a,x=.ref a/\(∃xs,SqL K H1 a xs)/\R (Itl K a) H1
def iTup(K:Frag) (tl:TE):TI:=λσ H R=>tl σ H λx H1=>∃a,x=.ref a/\(∃xs,SqT K H1 a xs)/\R (Itt K a) H1
theorem _H{l:Expr}{tl:TE}(hl:PE X l tl):PI X tg l (_qoc X.K tl):=by
 intro pins s σ H R I h;refine thn (hl pins s σ H _ I h) λv s1 hQ=>?_;obtain⟨x,H1,I1,r1,q1⟩:=hQ;obtain⟨a,e,⟨xs,hq⟩,q⟩:=q1;subst e;cases r1;obtain⟨its,rv,p,hz⟩:=I1.list hq;refine Io p.isList ?_;refine⟨s1.heap.objs.size,[s1.heap.objs.size],_,_,H1,rfl,I1.kept (t':=s1.toks) λb o e=>Ae _ e,_qee a _,⟨_,Ah _ rfl,rfl,rfl⟩,λb hb=>?_,q⟩;have e:b=s1.heap.objs.size:=by simpa using hb
 subst e;exact I1.fpOk (le_refl _) (I1.hok.fresh (le_refl _))
theorem _qqe{l:Expr}{tl:TE}(hl:PE X l tl):PI X tg l (iTup X.K tl):=by
 intro pins s σ H R I h;refine thn (hl pins s σ H _ I h) λv s1 hQ=>?_;obtain⟨x,H1,I1,r1,q1⟩:=hQ;obtain⟨a,e,⟨xs,hq⟩,q⟩:=q1;subst e;cases r1;obtain⟨its,rv,p,hz⟩:=I1.tuple hq;refine wpAny_pyIter_tuple (show s1.heap.IsTuple a its.toArray from p) ?_;refine⟨s1.heap.objs.size,[s1.heap.objs.size],_,_,H1,rfl,I1.kept (t':=s1.toks) λb o e=>Ae _ e,_qae a _,⟨_,Ah _ rfl,rfl,rfl⟩,λb hb=>?_,q⟩;have e:b=s1.heap.objs.size:=by simpa using hb
 subst e;exact I1.fpOk (le_refl _) (I1.hok.fresh (le_refl _))
theorem _qbe{pins:List (Addr×Obj)}{σ:St}{H:Hp}{s:Shared}{R:It->Hp->Prop}{E:Value->Shared->Prop}{lo hi:Int}{t u v:Tok}{tk:Nat}(I:Inv X pins σ H s) (h1:-(2^62)<=lo) (h2:lo<2^62) (h3:-(2^62)<=hi) (h4:hi<2^62)
  (q:R (Itr lo (hi-lo).toNat) H):wpAny (model X.prog X.w) X.A (Kq (.ref s.heap.objs.size)) (PIE X pins σ tg R) E {s with heap:=s.heap.push {cls:=.type "range",data:=.fields #[.int lo t,.int hi u,.int 1 v] },toks:=tk}:=by
 refine wpAny_pyIter_range (IsRange.new ..) (small_one h1 h2 h3 h4) ?_;have I1:Inv X pins σ H {s with heap:=s.heap.push {cls:=.type "range",data:=.fields #[.int lo t,.int hi u,.int 1 v] },toks:=tk}:=I.kept λb o e=>Ae _ e;refine⟨(s.heap.push {cls:=.type "range",data:=.fields #[.int lo t,.int hi u,.int 1 v] }).objs.size,[(s.heap.push {cls:=.type "range",data:=.fields #[.int lo t,.int hi u,.int 1 v] }).objs.size],_,_,H,rfl,
  I1.kept (t':=tk) λb o e=>Ae _ e,_qaf _ lo (hi-lo).toNat,?_,λb hb=>?_,q⟩
 ·have e1:lo+((0:Nat):Int)*1=lo:=by simp
  have e2:(((hi-lo).toNat:Nat):Int)- ((0:Nat):Int)=Builtin.Range.rangeSize lo hi 1:=by rw[rangeSize_one];split<;>omega
  show IsRangeIter _ _ (lo+((0:Nat):Int)*1) ((((hi-lo).toNat:Nat):Int)- ((0:Nat):Int)) 1;rw[e1,e2];exact Ah _ rfl
 ·have e:b=(s.heap.push {cls:=.type "range",data:=.fields #[.int lo t,.int hi u,.int 1 v] }).objs.size:=by simpa using hb
  subst e;exact I1.fpOk (le_refl _) (I1.hok.fresh (le_refl _))
def iRng1(ta:TA):TI:=λσ H R=>ta σ H λvs H1=>∃j:Int,vs=[.int j]/\-(2^62)<=j/\j<2^62/\R (Itr 0 j.toNat) H1
def iRng2(ta:TA):TI:=λσ H R=>ta σ H λvs H1=>∃i j:Int,vs=[.int i,.int j]/\(-(2^62)<=i/\i<2^62/\-(2^62)<=j/\j<2^62)/\R (Itr i (j-i).toNat) H1
theorem _vc{a:Expr}{ta:TA}{p pos:Pos}(hg:Gl X "range") (hm:X.mg "range"=none) (ha:PA X [a] ta) (hs:Aq [a] X.env=[(false,eval a X.env)]:=by rfl):PI X tg (.Call (.Name "range" p) [a] [] pos) (iRng1 ta):=by
 intro pins s σ H R I h;refine Call_ (_Jv I hg hm boot_range (Bp (thn (ha pos pins s σ H _ I h) λus s1 hQ=>?_) hs rfl));obtain⟨vs,H1,I1,r1,q1⟩:=hQ;obtain⟨j,e,q1,q2,q⟩:=q1;subst e;cases r1 with
 |cons r rr=>
  cases rr;obtain⟨t,rfl⟩:=r;exact call_range_1 (_qbe I1 (by omega) (by omega) q1 q2 (by simpa using q))
theorem _qf1{a b:Expr}{ta:TA}{p pos:Pos}(hg:Gl X "range") (hm:X.mg "range"=none) (ha:PA X [a,b] ta) (hs:Aq [a,b] X.env=[(false,eval a X.env),(false,eval b X.env)]:=by rfl) (hs2:Aq [b] X.env=[(false,eval b X.env)]:=by rfl):
  PI X tg (.Call (.Name "range" p) [a,b] [] pos) (iRng2 ta):=by
 intro pins s σ H R I h;refine Call_ (_Jv I hg hm boot_range (Bp (thn (ha pos pins s σ H _ I h) λus s1 hQ=>?_) (by rw[hs,hs2]) (by rw[hs2];rfl)));obtain⟨vs,H1,I1,r1,q1⟩:=hQ;obtain⟨i,j,e,⟨q1,q2,q3,q4⟩,q⟩:=q1;subst e;cases r1 with
 |cons r rr=>
  cases rr with
  |cons r' rr=>
   cases rr;obtain⟨t,rfl⟩:=r;obtain⟨t',rfl⟩:=r';exact call_range_2 (_qbe I1 q1 q2 q3 q4 q)
def tFor(wi:TI) (g:TG) (tb:TS):TS:=λD σ H=>wi σ H λJ H1=>∃W:Nat->Nat->St->Hp->Prop,(∃m,W 0 m σ H1)/\∀i m σ H,W i m σ H->
 (J.stop i H/\D.nx σ H)\/(J.go i H/\∃N:St->Hp->Prop,(∀σ' H',N σ' H'->∃m',m'<m/\W (i+1) m' σ' H')/\∀x H',J.yld i H x H'->g x σ H' λσ2 H2=>tb {D with nx:=N,ct:=N,bk:=D.nx} σ2 H2)
def _Vb(fp:List Addr) (h:Heap):List (Addr×Obj):=fp.filterMap λb=>(h.get? b).map λo=>(b,o)
theorem _vh{fp:List Addr}{h:Heap}{b:Addr}{o:Obj}(hb:b∈fp) (e:h.get? b=some o):(b,o)∈_Vb fp h:=Ee.mpr ⟨b,hb,by rw[e];rfl⟩
theorem _qfh{fp:List Addr}{h:Heap}{p:Addr×Obj}(hp:p∈_Vb fp h):p.1∈fp/\h.get? p.1=some p.2:=by
 obtain⟨b,hb,e⟩:=Ee.mp hp;cases q:h.get? b with
 |none=>rw[q]at e;cases e
 |some o=>
  rw[q]at e;have e':(b,o)=p:=Option.some.inj e;subst e';exact⟨hb,q⟩
theorem Inv.pinned{pins:List (Addr×Obj)}{σ:St}{H:Hp}{s:Shared}{fp:List Addr}(I:Inv X pins σ H s) (hf:∀b∈fp,FpOk X pins H b) (ho:∀b∈fp,∃o,s.heap.get? b=some o/\∀v,o.data≠ .cell v):Inv X (pins++_Vb fp s.heap) σ H s:=
 I.pins_of λp hp=>(C6.mp hp).elim (λz=>I.pin p (mem_append_right _ z)) λz=>by
  obtain⟨hb,e⟩:=_qfh z;obtain⟨f0,f1,f2,_⟩:=hf p.1 hb;obtain⟨o,e',d⟩:=ho p.1 hb;rw[e]at e';cases e';exact⟨e,f0,f1,f2,d⟩
theorem Inv.unpinned{pins pl:List (Addr×Obj)}{σ:St}{H:Hp}{s:Shared}(I:Inv X (pins++pl) σ H s):Inv X pins σ H s:=I.pins_of λp hp=>I.pin p (mem_append_right _ (G4 _ hp))
theorem _Jg{iter:Expr}{body:List Stmt}{wi:TI}{g:TG}{tb:TS}{pos:Pos}(hp:PassesOwn (model X.prog X.w) X.A X.env X.xe) (hc:X.calm=true) (hi:PI X tg iter wi) (hg:PG X tg g) (hb:PSs X body tb)
  (hs:∀x,Cj iter X.env x=pure x:=by intro _;rfl):PS X (.For tg iter body [] pos) (tFor wi g tb):=by
 intro pins s σ H D I h;refine wpAny_For (thn (hi pins s σ H _ I h) λv s1 h1=>thn h1 λitv s2 h2=>?_) hs;obtain⟨it,fp,tn,J,H2,e,I2,T,st2,f2,W,⟨m0,w0⟩,turn⟩:=h2;subst e;have stat:∀{H':Hp},(∀b∈fp,H' b=none)->∀b∈fp,FpOk X pins H' b:=λhn b hb=>⟨hn b hb,(f2 b hb).2⟩;refine codeAny_forLoop_any (λn s'=>∃i σ' H',Inv X pins σ' H' s'/\tn i s'.heap/\(∀b∈fp,H' b=none)/\W i n σ' H') ?_ m0 ⟨0,σ,H2,I2,st2,λb hb=>(f2 b hb).1,w0⟩;rintro n s3 ⟨i,σ3,H3,I3,st3,fr3,w3⟩;rcases turn i n σ3 H3 w3 with⟨stop,qn⟩|⟨go,N,hN,step⟩
 ·refine Du hp (thn (T.done X rfl rfl rfl hc i pins s3 σ3 H3 X.xe I3 (stat fr3) st3 stop) λr s4 hQ=>?_)
  obtain⟨hr,I4⟩:=hQ;subst hr;exact G9 ⟨σ3,H3,I4,qn⟩
 ·refine Du hp (thn (T.item X rfl rfl rfl hc i pins s3 σ3 H3 X.xe I3 (stat fr3) st3 go) λr s4 hQ=>?_)
  obtain⟨u,hr,h4⟩:=hQ;subst hr;refine Du hp (thn h4 λ_ s5 hQ=>?_);obtain⟨x,H5,I5,r5,y5,st5,fr5⟩:=hQ;have I5':=I5.pinned (stat fr5) (T.obj _ _ st5);refine Du hp (thn (hg _ s5 σ3 H5 x u _ I5' r5 (step x H5 y5)) λ_ s6 hQ=>?_);obtain⟨σ6,H6,I6,q6⟩:=hQ;refine Du hp (thn (hb _ s6 σ6 H6 _ I6 q6) λf s7 q7=>?_);have again:∀{σ7:St}{H7:Hp},Inv X (pins++_Vb fp s5.heap) σ7 H7 s7->N σ7 H7->∃m,m<n/\∃i σ' H',Inv X pins σ' H' s7/\tn i s7.heap/\(∀b∈fp,H' b=none)/\W i m σ' H':=fun{σ7 H7} I7 n7=>by
   obtain⟨m',hm,w7⟩:=hN σ7 H7 n7;refine⟨m',hm,i+1,σ7,H7,I7.unpinned,T.keep _ _ _ st5 λb hb o e=>(I7.pin (b,o) (mem_append_right _ (mem_append_right _ (_vh hb e)))).1,λb hb=>?_,w7⟩;obtain⟨o,e,d⟩:=T.obj _ _ st5 b hb;exact(I7.pin (b,o) (mem_append_right _ (mem_append_right _ (_vh hb e)))).2.1
  cases f with
  |next=>obtain⟨σ7,H7,I7,n7⟩:=q7;exact again I7 n7
  |cont=>obtain⟨σ7,H7,I7,n7⟩:=q7;exact again I7 n7
  |brk=>obtain⟨σ7,H7,I7,q7⟩:=q7;exact⟨σ7,H7,I7.unpinned,q7⟩
  |ret v=>obtain⟨x7,σ7,H7,I7,r7,q7⟩:=q7;exact⟨x7,σ7,H7,I7.unpinned,r7,q7⟩
end
theorem _J1{K:Frag}{a:Addr}{xs:List V}{g:TG}{tb:TS}{D:Ends}{σ:St}{H:Hp}(Pv:Nat->St->Hp->Prop) (h0:Pv 0 σ H) (hl:∀i σ H,i<=xs.length->Pv i σ H->SqL K H a xs)
  (hs:∀i x σ H,xs[i]?=some x->Pv i σ H->g x σ H λσ2 H2=>tb {D with nx:=Pv (i+1),ct:=Pv (i+1),bk:=D.nx} σ2 H2) (hd:∀σ H,Pv xs.length σ H->D.nx σ H):
  ∃W:Nat->Nat->St->Hp->Prop,(∃m,W 0 m σ H)/\∀i m σ H,W i m σ H->
   ((Itl K a).stop i H/\D.nx σ H)\/((Itl K a).go i H/\∃N:St->Hp->Prop,(∀σ' H',N σ' H'->∃m',m'<m/\W (i+1) m' σ' H')/\∀x H',(Itl K a).yld i H x H'->g x σ H' λσ2 H2=>tb {D with nx:=N,ct:=N,bk:=D.nx} σ2 H2):=by
 refine⟨λi m σ H=>m=xs.length-i/\i<=xs.length/\Pv i σ H,⟨xs.length,by simp,zero_le _,h0⟩,?_⟩;rintro i m σ H ⟨rfl,hi,p⟩;have q:=hl i σ H hi p
 by_cases hlt:i<xs.length
 ·refine .inr ⟨⟨xs,xs[i],q,by simp[hlt]⟩,Pv (i+1),λσ' H' p'=>⟨xs.length- (i+1),by omega,rfl,hlt,p'⟩,λx H' y=>?_⟩
  obtain⟨e,y⟩:=y;subst e;exact hs i x σ _ (y xs q) p
 ·have e:i=xs.length:=by omega
  subst e;exact .inl ⟨⟨xs,q,le_refl _⟩,hd σ H p⟩
theorem _kz{lo:Int}{n:Nat}{g:TG}{tb:TS}{D:Ends}{σ:St}{H:Hp}(Pv:Nat->St->Hp->Prop) (h0:Pv 0 σ H)
  (hs:∀i σ H,i<n->Pv i σ H->g (.int (lo+i)) σ H λσ2 H2=>tb {D with nx:=Pv (i+1),ct:=Pv (i+1),bk:=D.nx} σ2 H2) (hd:∀σ H,Pv n σ H->D.nx σ H):
  ∃W:Nat->Nat->St->Hp->Prop,(∃m,W 0 m σ H)/\∀i m σ H,W i m σ H->
   ((Itr lo n).stop i H/\D.nx σ H)\/((Itr lo n).go i H/\∃N:St->Hp->Prop,(∀σ' H',N σ' H'->∃m',m'<m/\W (i+1) m' σ' H')/\∀x H',(Itr lo n).yld i H x H'->g x σ H' λσ2 H2=>tb {D with nx:=N,ct:=N,bk:=D.nx} σ2 H2):=by
 refine⟨λi m σ H=>m=n-i/\i<=n/\Pv i σ H,⟨n,by simp,zero_le _,h0⟩,?_⟩;rintro i m σ H ⟨rfl,hi,p⟩
 by_cases hlt:i<n
 ·refine .inr ⟨hlt,Pv (i+1),λσ' H' p'=>⟨n- (i+1),by omega,rfl,hlt,p'⟩,λx H' y=>?_⟩
  obtain⟨e,y⟩:=y;subst e y;exact hs i σ _ hlt p
 ·have e:i=n:=by omega
  subst e;exact .inl ⟨le_refl _,hd σ H p⟩
abbrev R2:=V->V->Hp->VK->Prop
def OpR(X:Cx) (f:Value->Value->Sem Value) (r:R2):Prop:=
 ∀(pins:List (Addr×Obj)) (s:Shared) (σ:St) (H:Hp) (x y:V) (v u:Value) (Q:VK),Inv X pins σ H s->_qwm x v->_qwm y u->r x y H Q->
  wpAny (model X.prog X.w) X.A (f v u) (EP X pins σ Q) X.xe s
def UnR(X:Cx) (f:Value->Sem Value) (r:V->Hp->VK->Prop):Prop:=
 ∀(pins:List (Addr×Obj)) (s:Shared) (σ:St) (H:Hp) (x:V) (v:Value) (Q:VK),Inv X pins σ H s->_qwm x v->r x H Q->
  wpAny (model X.prog X.w) X.A (f v) (EP X pins σ Q) X.xe s
def _Qg(X:Cx) (f:Value) (r:List V->Hp->VK->Prop):Prop:=
 ∀(pins:List (Addr×Obj)) (s:Shared) (σ:St) (H:Hp) (xs:List V) (us:List Value) (Q:VK),Inv X pins σ H s->_qwi xs us->r xs H Q->
  wpAny (model X.prog X.w) X.A (call f us) (EP X pins σ Q) X.xe s
def tOp(r:R2) (ta tb:TE):TE:=λσ H Q=>ta σ H λx H1=>tb σ H1 λy H2=>r x y H2 Q
def tUn(r:V->Hp->VK->Prop) (ta:TE):TE:=λσ H Q=>ta σ H λx H1=>r x H1 Q
def rI(C:Int->Int->Prop) (g:Int->Int->V):R2:=λx y H Q=>∃i j,x=.int i/\y=.int j/\C i j/\Q (g i j) H
def rI0(g:Int->Int->V):R2:=λx y H Q=>∃i j,x=.int i/\y=.int j/\Q (g i j) H
def rU(g:Int->V):V->Hp->VK->Prop:=λx H Q=>∃i,x=.int i/\Q (g i) H
section
variable{X:Cx}{a b c:Expr}{ta tb tc:TE}{pos:Pos}
theorem binT(ha:PE X a ta) (hb:PE X b tb){pins:List (Addr×Obj)}{s:Shared}{σ:St}{H:Hp}{R:V->V->Hp->Prop}(I:Inv X pins σ H s)
  (h:ta σ H λx H1=>tb σ H1 λy H2=>R x y H2){Q:Value->Shared->Prop}{f:Value->Value->Sem Value}
  (hf:∀v u s2 x y H2,Inv X pins σ H2 s2->_qwm x v->_qwm y u->R x y H2->wpAny (model X.prog X.w) X.A (f v u) Q X.xe s2):
  wpAny (model X.prog X.w) X.A (eval a X.env) (λv s₁=>wpAny (model X.prog X.w) X.A (eval b X.env) (λu s₂=>wpAny (model X.prog X.w) X.A (f v u) Q X.xe s₂) X.xe s₁) X.xe s:=by
 refine thn (ha pins s σ H _ I h) λv s1 hQ=>?_;obtain⟨x,H1,I1,r1,q1⟩:=hQ;refine thn (hb pins s1 σ H1 _ I1 q1) λu s2 hQ=>?_;obtain⟨y,H2,I2,r2,q2⟩:=hQ;exact hf v u s2 x y H2 I2 r1 r2 q2
theorem _jk{op:Operator}{r:R2}(ho:OpR X (Dw op) r) (ha:PE X a ta) (hb:PE X b tb):PE X (.BinOp a op b pos) (tOp r ta tb):=by
 intro pins s σ H Q I h;exact wpAny_BinOp (binT ha hb I h λv u s2 x y H2 I2 rx ry q=>ho pins s2 σ H2 x y v u Q I2 rx ry q)
theorem _qn1{op:UnaryOp}{r:V->Hp->VK->Prop}(ho:UnR X (unaryOp op) r) (ha:PE X a ta):PE X (.UnaryOp op a pos) (tUn r ta):=by
 intro pins s σ H Q I h;exact UnaryOp_ (thn (ha pins s σ H _ I h) λv s1 ⟨x,H1,I1,r1,q1⟩=>ho pins s1 σ H1 x v Q I1 r1 q1)
theorem opI{f:Value->Value->Sem Value}{C:Int->Int->Prop}{g:Int->Int->Int}
  (rule:∀(i j:Int) (t u:Tok) (s:Shared) (Q:Value->Shared->Prop) (E:Value->Shared->Prop),C i j->Q (.int (g i j) s.toks) {s with toks:=s.toks+1}->wpAny (model X.prog X.w) X.A (f (.int i t) (.int j u)) Q E s):
  OpR X f (rI C λi j=>.int (g i j)):=by
 intro pins s σ H x y v u Q I rx ry h;obtain⟨i,j,rfl,rfl,hc,q⟩:=h;obtain⟨t,rfl⟩:=rx;obtain⟨t',rfl⟩:=ry;exact rule i j t t' s _ _ hc ⟨.int (g i j),H,I.tok _,⟨_,rfl⟩,q⟩
theorem opI0{f:Value->Value->Sem Value}{g:Int->Int->Int}
  (rule:∀(i j:Int) (t u:Tok) (s:Shared) (Q:Value->Shared->Prop) (E:Value->Shared->Prop),Q (.int (g i j) s.toks) {s with toks:=s.toks+1}->wpAny (model X.prog X.w) X.A (f (.int i t) (.int j u)) Q E s):
  OpR X f (rI0 λi j=>.int (g i j)):=by
 intro pins s σ H x y v u Q I rx ry h;obtain⟨i,j,rfl,rfl,q⟩:=h;obtain⟨t,rfl⟩:=rx;obtain⟨t',rfl⟩:=ry;exact rule i j t t' s _ _ ⟨.int (g i j),H,I.tok _,⟨_,rfl⟩,q⟩
theorem opB0{f:Value->Value->Sem Value}{g:Int->Int->Bool}
  (rule:∀(i j:Int) (t u:Tok) (s:Shared) (Q:Value->Shared->Prop) (E:Value->Shared->Prop),Q (.bool (g i j)) s->wpAny (model X.prog X.w) X.A (f (.int i t) (.int j u)) Q E s):
  OpR X f (rI0 λi j=>.bl (g i j)):=by
 intro pins s σ H x y v u Q I rx ry h;obtain⟨i,j,rfl,rfl,q⟩:=h;obtain⟨t,rfl⟩:=rx;obtain⟨t',rfl⟩:=ry;exact rule i j t t' s _ _ ⟨.bl (g i j),H,I,rfl,q⟩
def CDiv(i j:Int):Prop:=0<j/\j<1073741824
def CPow(i j:Int):Prop:=0<=j/\j<=1000000/\i.natAbs<2^64
def CMul(i j:Int):Prop:=(-(2^64)<i/\i<2^64)\/(-(2^64)<j/\j<2^64)
theorem CMul.ok{i j:Int}(h:CMul i j):IntMulOk i j:=by
 rcases h with⟨h1,h2⟩|⟨h1,h2⟩
 ·exact .of_left (intBits_le_64 h1 h2)
 ·exact .of_right (intBits_le_64 h1 h2)
theorem _zy:OpR X (Dw .Add) (rI0 λi j=>.int (i+j)):=opI0 λ_ _ _ _ _ _ _ q=>add_int q
theorem _Vg:OpR X (Dw .Sub) (rI0 λi j=>.int (i-j)):=opI0 λ_ _ _ _ _ _ _ q=>sub_int q
theorem _qqp:OpR X (Dw .Mult) (rI CMul λi j=>.int (i*j)):=opI λ_ _ _ _ _ _ _ hc q=>mul_int q hc.ok
theorem _Qq:OpR X (Dw .FloorDiv) (rI CDiv λi j=>.int (i/j)):=opI λi j _ _ _ _ _ hc q=>by
 have h1:(0:Int)<j:=hc.1;have h2:j<1073741824:=hc.2;exact floordiv_int (by omega) (by rw[Hw i (by omega)];exact q) (.inl (PyProof.noPylong_small (by omega)))
theorem _ve:OpR X (Dw .Mod) (rI (λ_ j=>0<j) λi j=>.int (i%j)):=opI λi j _ _ _ _ _ hc q=>by
 have h1:(0:Int)<j:=hc;exact mod_int' (by omega) (by rw[E4 i (by omega)];exact q)
theorem _qbx:OpR X (Dw .Mod) (rI (λ_ j=>j≠0) λi j=>.int (i.fmod j)):=opI λ_ _ _ _ _ _ _ hc q=>mod_int' hc q
theorem _qqo:OpR X (Dw .Pow) (rI CPow λi j=>.int (i^j.toNat)):=opI λ_ _ _ _ _ _ _ hc q=>pow_int_small hc.1 hc.2.1 hc.2.2 q
theorem unI{f:Value->Sem Value}{g:Int->Int}
  (rule:∀(i:Int) (t:Tok) (s:Shared) (Q:Value->Shared->Prop) (E:Value->Shared->Prop),Q (.int (g i) s.toks) {s with toks:=s.toks+1}->wpAny (model X.prog X.w) X.A (f (.int i t)) Q E s):
  UnR X f (rU λi=>.int (g i)):=by
 intro pins s σ H x v Q I rx h;obtain⟨i,rfl,q⟩:=h;obtain⟨t,rfl⟩:=rx;exact rule i t s _ _ ⟨.int (g i),H,I.tok _,⟨_,rfl⟩,q⟩
theorem _Yi:UnR X (unaryOp .USub) (rU λi=>.int (-i)):=unI λ_ _ _ _ _ q=>neg_int q
end
def scal:V->V->Bool
 | .non,.non=>true| .non,.int _=>true| .int _,.non=>true| .non,.bl _=>true| .bl _,.non=>true| .non,.str _=>true| .str _,.non=>true
 | .int _,.int _=>true| .bl _,.bl _=>true| .str _,.str _=>true| .byt _,.byt _=>true
 | .int _,.str _=>true| .str _,.int _=>true| .bl _,.str _=>true| .str _,.bl _=>true
 |_,_=>false
def rEq:R2:=λx y H Q=>scal x y=true/\Q (.bl (decide (x=y))) H
def rNe:R2:=λx y H Q=>scal x y=true/\Q (.bl (!decide (x=y))) H
theorem _qi0{i j:Int}:decide (V.int i=V.int j)=(i==j):=by
 rw[Az]
 simp
theorem _qov{i j:Bool}:decide (V.bl i=V.bl j)=(i==j):=by
 rw[Az]
 simp
theorem _qhz{i j:Str}:decide (V.str i=V.str j)=(i==j):=by
 rw[Az]
 simp
theorem _qi1{i j:Array UInt8}:decide (V.byt i=V.byt j)=(i.toList==j.toList):=by
 rw[Az];cases i;cases j
 simp
section
variable{X:Cx}{a b c:Expr}{ta tb tc:TE}{pos:Pos}
theorem _qd{pins:List (Addr×Obj)}{σ:St}{H:Hp}{s:Shared}{Q:VK}{k k':Bool}(I:Inv X pins σ H s) (q:Q (.bl k) H) (e:k=k'):EP X pins σ Q (.bool k') s:=by
 subst e;exact⟨.bl k,H,I,rfl,q⟩
theorem op_eq:OpR X (Bn .Eq) rEq:=by
 intro pins s σ H x y v u Q I rx ry h;obtain⟨hs,q⟩:=h;cases x with
 |non=>
  cases rx;cases y with
  |non=>cases ry;exact PySem.EqNone.eq_none_none (_qd I q (by simp))
  |bl j=>cases ry;exact PySem.EqNone.eq_none_bool (_qd I q (by simp))
  |int j=>obtain⟨t',rfl⟩:=ry;exact PySem.EqNone.eq_none_int (_qd I q (by simp))
  |str j=>obtain⟨t',rfl⟩:=ry;exact PySem.EqNone.eq_none_str (_qd I q (by simp))
  |_=>exact absurd (show false=true from hs) Al
 |bl i=>
  cases rx;cases y with
  |non=>cases ry;exact PySem.EqNone.eq_bool_none (_qd I q (by simp))
  |bl j=>cases ry;exact eq_bool (_qd I q _qov)
  |str j=>obtain⟨t',rfl⟩:=ry;exact PySem.EqMixed.eq_bool_str (_qd I q (by simp))
  |_=>exact absurd (show false=true from hs) Al
 |int i=>
  obtain⟨t,rfl⟩:=rx;cases y with
  |non=>cases ry;exact PySem.EqNone.eq_int_none (_qd I q (by simp))
  |int j=>obtain⟨t',rfl⟩:=ry;exact eq_int (_qd I q _qi0)
  |str j=>obtain⟨t',rfl⟩:=ry;exact PySem.EqMixed.eq_int_str (_qd I q (by simp))
  |_=>exact absurd (show false=true from hs) Al
 |str i=>
  obtain⟨t,rfl⟩:=rx;cases y with
  |non=>cases ry;exact PySem.EqNone.eq_str_none (_qd I q (by simp))
  |bl j=>cases ry;exact PySem.EqMixed.eq_str_bool (_qd I q (by simp))
  |int j=>obtain⟨t',rfl⟩:=ry;exact PySem.EqMixed.eq_str_int (_qd I q (by simp))
  |str j=>obtain⟨t',rfl⟩:=ry;exact eq_str (_qd I q _qhz)
  |_=>exact absurd (show false=true from hs) Al
 |byt i=>
  obtain⟨t,rfl⟩:=rx;cases y with
  |byt j=>obtain⟨t',rfl⟩:=ry;exact PySem.W.eq_bytes (_qd I q _qi1)
  |_=>exact absurd (show false=true from hs) Al
 |_=>cases y<;>exact absurd (show false=true from hs) Al
theorem op_ne:OpR X (Bn .NotEq) rNe:=by
 intro pins s σ H x y v u Q I rx ry h;obtain⟨hs,q⟩:=h;cases x with
 |non=>
  cases rx;cases y with
  |non=>cases ry;exact PySem.EqNone.ne_none_none (_qd I q (by simp))
  |bl j=>cases ry;exact PySem.EqNone.ne_none_bool (_qd I q (by simp))
  |int j=>obtain⟨t',rfl⟩:=ry;exact PySem.EqNone.ne_none_int (_qd I q (by simp))
  |str j=>obtain⟨t',rfl⟩:=ry;exact PySem.EqNone.ne_none_str (_qd I q (by simp))
  |_=>exact absurd (show false=true from hs) Al
 |bl i=>
  cases rx;cases y with
  |non=>cases ry;exact PySem.EqNone.ne_bool_none (_qd I q (by simp))
  |bl j=>cases ry;exact ne_bool (_qd I q (congrArg not _qov))
  |str j=>obtain⟨t',rfl⟩:=ry;exact PySem.EqMixed.ne_bool_str (_qd I q (by simp))
  |_=>exact absurd (show false=true from hs) Al
 |int i=>
  obtain⟨t,rfl⟩:=rx;cases y with
  |non=>cases ry;exact PySem.EqNone.ne_int_none (_qd I q (by simp))
  |int j=>obtain⟨t',rfl⟩:=ry;exact ne_int (_qd I q (congrArg not _qi0))
  |str j=>obtain⟨t',rfl⟩:=ry;exact PySem.EqMixed.ne_int_str (_qd I q (by simp))
  |_=>exact absurd (show false=true from hs) Al
 |str i=>
  obtain⟨t,rfl⟩:=rx;cases y with
  |non=>cases ry;exact PySem.EqNone.ne_str_none (_qd I q (by simp))
  |bl j=>cases ry;exact PySem.EqMixed.ne_str_bool (_qd I q (by simp))
  |int j=>obtain⟨t',rfl⟩:=ry;exact PySem.EqMixed.ne_str_int (_qd I q (by simp))
  |str j=>obtain⟨t',rfl⟩:=ry;exact ne_str (_qd I q (congrArg not _qhz))
  |_=>exact absurd (show false=true from hs) Al
 |byt i=>
  obtain⟨t,rfl⟩:=rx;cases y with
  |byt j=>obtain⟨t',rfl⟩:=ry;exact PySem.W.ne_bytes (_qd I q (congrArg not _qi1))
  |_=>exact absurd (show false=true from hs) Al
 |_=>cases y<;>exact absurd (show false=true from hs) Al
theorem _qjl:OpR X (Bn .Lt) (rI0 λi j=>.bl (decide (i<j))):=opB0 λ_ _ _ _ _ _ _ q=>lt_int q
theorem op_le:OpR X (Bn .LtE) (rI0 λi j=>.bl (decide (i<=j))):=opB0 λ_ _ _ _ _ _ _ q=>le_int q
theorem op_gt:OpR X (Bn .Gt) (rI0 λi j=>.bl (decide (j<i))):=opB0 λ_ _ _ _ _ _ _ q=>gt_int q
theorem op_ge:OpR X (Bn .GtE) (rI0 λi j=>.bl (decide (j<=i))):=opB0 λ_ _ _ _ _ _ _ q=>ge_int q
theorem _qfa:OpR X (Bn .Is) (λx y H Q=>y=.non/\Q (.bl (decide (x=.non))) H):=by
 intro pins s σ H x y v u Q I rx ry h;obtain⟨rfl,q⟩:=h;cases ry;refine is_none_gen (_qd I q ?_);cases x<;>first
  |(cases rx;rfl)
  |(obtain⟨t,rfl⟩:=rx;rfl)
theorem _qna:OpR X (Bn .IsNot) (λx y H Q=>y=.non/\Q (.bl (!decide (x=.non))) H):=by
 intro pins s σ H x y v u Q I rx ry h;obtain⟨rfl,q⟩:=h;cases ry;refine isnot_none_gen (_qd I q ?_);cases x<;>first
  |(cases rx;rfl)
  |(obtain⟨t,rfl⟩:=rx;rfl)
theorem OpR.or{f:Value->Value->Sem Value}{r r':R2}(h:OpR X f r) (h':OpR X f r'):OpR X f (λx y H Q=>r x y H Q\/r' x y H Q):=by
 intro pins s σ H x y v u Q I rx ry q;rcases q with q|q
 ·exact h pins s σ H x y v u Q I rx ry q
 ·exact h' pins s σ H x y v u Q I rx ry q
theorem _P(b:Expr){op:CmpOp}(h:op≠ .In:=by decide) (h2:op≠ .NotIn:=by decide):Dd op b=false:=by
 have e1:(op==CmpOp.In)=false:=by cases op<;>first|rfl|exact absurd rfl h
 have e2:(op==CmpOp.NotIn)=false:=by cases op<;>first|rfl|exact absurd rfl h2
 cases b<;>simp[Dd,e1,e2]
theorem _wh{op:CmpOp}{r:R2}(ho:OpR X (Bn op) r) (ha:PE X a ta) (hb:PE X b tb) (hm:Dd op b=false):PE X (.Compare a [op] [b] pos) (tOp r ta tb):=by
 intro pins s σ H Q I h;exact wpAny_Compare1 (binT ha hb I h λv u s2 x y H2 I2 rx ry q=>ho pins s2 σ H2 x y v u Q I2 rx ry q) hm
def tTest(t:TE):TT:=λσ H Q=>t σ H λx H'=>∃k,x=.bl k/\Q k H'
theorem _qo{op:CmpOp}{r:R2}(ho:OpR X (Bn op) r) (ha:PE X a ta) (hb:PE X b tb) (hm:Dd op b=false):PT X (.Compare a [op] [b] pos) (tTest (tOp r ta tb)):=by
 intro pins s σ H Q I h;refine Kg (thn (ha pins s σ H _ I h) λv s1 ⟨x,H1,I1,r1,q1⟩=>thn (hb pins s1 σ H1 _ I1 q1) λu s2 ⟨y,H2,I2,r2,q2⟩=>
  thn (ho pins s2 σ H2 x y v u _ I2 r1 r2 q2) λc s3 ⟨z,H3,I3,r3,k,e,q3⟩=>?_) hm
 subst e;cases r3;exact Dv ⟨H3,I3,q3⟩
theorem _qch:(Aj:Nat)<2^63:=by rw[Ao];decide
theorem _wi:OpR X (Dw .Add) (λx y H Q=>∃i j,x=.str i/\y=.str j/\i.length+j.length<=Aj/\Q (.str (i++j)) H):=by
 intro pins s σ H x y v u Q I rx ry h;obtain⟨i,j,rfl,rfl,hz,q⟩:=h;obtain⟨t,rfl⟩:=rx;obtain⟨t',rfl⟩:=ry;exact add_str (λt' tk=>⟨.str (i++j),H,I.tok _,⟨_,rfl⟩,q⟩) hz
theorem _qm2{x:V}{us:List Value}(r:_qwi [x] us):∃u,us=[u]/\_qwm x u:=by
 cases r with
 |cons r1 r2=>cases r2;exact⟨_,rfl,r1⟩
theorem vals2{x y:V}{us:List Value}(r:_qwi [x,y] us):∃u w',us=[u,w']/\_qwm x u/\_qwm y w':=by
 cases r with
 |cons r1 r2=>
  cases r2 with
  |cons r3 r4=>cases r4;exact⟨_,_,rfl,r1,r3⟩
theorem _qdr:_Qg X (.builtin "abs") (λxs H Q=>∃i,xs=[.int i]/\Q (.int (if i<0 then-i else i)) H):=by
 intro pins s σ H xs us Q I r h;obtain⟨i,rfl,q⟩:=h;obtain⟨u,rfl,t,rfl⟩:=_qm2 r;exact call_abs_int λu tk=>⟨.int (if i<0 then-i else i),H,I.tok _,⟨_,rfl⟩,q⟩
theorem _qgh(hc:X.calm=true):_Qg X (.builtin "max") (λxs H Q=>∃i j,xs=[.int i,.int j]/\Q (.int (if j>i then j else i)) H):=by
 intro pins s σ H xs us Q I r h;obtain⟨i,j,rfl,q⟩:=h;obtain⟨u,w',rfl,⟨t,rfl⟩,⟨t',rfl⟩⟩:=vals2 r;refine max_two_ints (I.ok.hd hc) λh' tk k=>⟨_,H,I.kept k,?_,q⟩
 by_cases hj:j>i
 ·rw[if_pos hj,if_pos hj];exact⟨_,rfl⟩
 ·rw[if_neg hj,if_neg hj];exact⟨_,rfl⟩
theorem _qgg(hc:X.calm=true):_Qg X (.builtin "min") (λxs H Q=>∃i j,xs=[.int i,.int j]/\Q (.int (if j<i then j else i)) H):=by
 intro pins s σ H xs us Q I r h;obtain⟨i,j,rfl,q⟩:=h;obtain⟨u,w',rfl,⟨t,rfl⟩,⟨t',rfl⟩⟩:=vals2 r;refine min_two_ints (I.ok.hd hc) λh' tk k=>⟨_,H,I.kept k,?_,q⟩
 by_cases hj:j<i
 ·rw[if_pos hj,if_pos hj];exact⟨_,rfl⟩
 ·rw[if_neg hj,if_neg hj];exact⟨_,rfl⟩
end
structure ObjM(h:Heap) (x dx C:Addr) (mA:Str->Option Value):Prop where
 obj:h.get? x=some (C5 C dx)
 ns:h.Ns1 dx mA
 ne:dx≠x
theorem _qfm{h:Heap}{dx:Addr}{mA:Str->Option Value}(n:h.Ns1 dx mA):∃od,h.get? dx=some od/\∀name,Hy name od=some (mA name):=by
 obtain⟨o,es,ep,ho,hd,hk,_,hm⟩:=n;refine⟨o,ho,λname=>?_⟩;have e:=hm name;unfold nsFind findBy at e;rw[<-Array.find?_toList]at e;unfold Hy;rw[hd];dsimp only;split
 ·rename_i y q
  rw[q]at e;exact congrArg some e
 ·rename_i q
  rw[q]at e;have a:es.toList.any (·.refKey)=false:=by
   rw[List.any_eq_false];intro y hy;obtain⟨z,t,hkey⟩:=hk y (Array.mem_toList_iff.mp hy);simp[DictEntry.refKey,hkey]
  have a':¬es.toList.any (·.refKey)=true:=by rw[a];exact Al
  rw[if_neg a'];exact congrArg some e
theorem ObjM.look{h:Heap}{x dx C:Addr}{mA:Str->Option Value}(I:ObjM h x dx C mA):∃od,PySem.W.InstAt h x (C5 C dx) C (some od)/\∀name,Hy name od=some (mA name):=
 let⟨od,ho,hl⟩:=_qfm I.ns
 ⟨od,⟨I.obj,rfl,rfl,ho⟩,hl⟩
section
variable{prog:Ak}{w:World}{A:Around}{E:Value->Shared->Prop}{s:Shared}{K:Frag}{x dx C f:Addr}{mA:Str->Option Value}{name:Str}{v:Value}
theorem _qof{expr:Bool}{Q:Value->Shared->Prop}(X:K.In s.heap) (I:ObjM s.heap x dx C mA) (hg:Fb K C name=true) (hh:F6 K C=true)
  (ha:A9 K (.ref C) name=some none) (hv:mA name=some v) (hv':PySem.W.handedIn v=true) (h:Q v {s with toks:=s.toks+1}):
  wpAny (model prog w) A (getAttr (.ref x) name expr) Q E s:=by
 obtain⟨od,J,hl⟩:=I.look;exact PySem.W.get_value X J (Hj hg).1 (PySem.W.findObj_own hh ha rfl (by rw[hl,hv])) hv' h
theorem _qkt{pl:Sem Bool}{Q:Value×List Value->Shared->Prop}(X:K.In s.heap) (I:ObjM s.heap x dx C mA) (hg:Fb K C name=true)
  (hf:A9 K (.ref C) name=some (some (.ref f))) (ht:Ho K (.ref f)=true) (hv:mA name=none) (h:Q (.ref f,[.ref x]) s):
  wpAny (model prog w) A (Mv (.ref x) name pl) Q E s:=by
 obtain⟨od,J,hl⟩:=I.look;exact PySem.W.method_fn X J (Hj hg).1 (Hj hg).2 hf (beq_iff_eq.mp ht) (by show(Hy name od).map (·.isSome)=some false;rw[hl,hv];rfl) h
theorem _qmi{ns:List Str}{Q:Unit->Shared->Prop}(X:K.In s.heap) (I:ObjM s.heap x dx C mA)
  (hs:A9 K (.ref C) "__setattr__"=some (some (.builtin "object.__setattr__"))) (hp:Ip K C=true) (ht:J6 K C name=some none) (hh:F6 K C=true)
  (hw:PySem.Within mA ns) (hsz:ns.length<=Aj)
  (h:∀h',ObjM h' x dx C (λy=>if y=name then some v else mA y)->Heap.SameBut dx s.heap h'->Q () {s with heap:=h',toks:=s.toks+2}):
  wpAny (model prog w) A (setAttr (.ref x) name v) Q E s:=by
 obtain⟨od,J,hl⟩:=I.look;refine PySem.W.set_plain X J hs (PySem.W.osa_open (s:={s with toks:=s.toks+1}) (r:=none) X J hp ht λb=>?_);obtain⟨cd,hc,hd'⟩:=PySem.W.any_some hh;have hx:s.heap.get? x=some ⟨.ref C,some dx,.plain,#[]⟩:=I.obj;refine Ac (Ad (Ac (Ac (wpAny_loadPart hx (Ac (PySem.W.Looks.here (s:={s with toks:=s.toks+1}) (PySem.W.looks_clsIn X hc) ?_))))));rw[hd'];refine Ad (a:=some dx) (Ac (Ad (Ac ?_)));refine wpAny_nsSet1 (s:={s with toks:=s.toks+1}) I.ns λh' hn2 hs2=>?_;obtain⟨oD,esD,epD,hoD,hdD,hcD⟩:=hn2.count (PySem.Within.cons name v hw);refine Ac (wpAny_lookBehind hoD (by rw[hdD];exact pastItsLine_dict (le_trans hcD (by rw[length_cons];omega))) ?_);exact Ad (h _ ⟨(hs2.2 _ (Bz I.ne)).trans I.obj,hn2,I.ne⟩ hs2)
theorem _qk7{R:Mw->Shared->Prop}{vs:List Value}{kw:List (Str×Value)}(X:K.In s.heap) (hm:J7 K C=true)
  (hi:A9 K (.ref C) "__init__"=some (some (.ref f))) (hf:Kr K (.ref f)=some (.type "function"))
  (h:D7 (model prog w) (A.under (.builtin "type.__call__" ⟨.ref C::vs,kw⟩)) (.call (.ref f) ⟨.ref (s.heap.objs.size+1)::vs,kw⟩) (PySem.W.InitBack (s.heap.objs.size+1) R)
   {s with heap:=(s.heap.push Bv).push (C5 C s.heap.objs.size) }):
  D7 (model prog w) A (.call (.ref C) ⟨vs,kw⟩) R s:=by
 obtain⟨hh,g,d,t,os⟩:=s;exact PySem.W.make_core (PySem.W.makes_of X hm) (PySem.W.looks_findIn X hi) (λself=>PySem.W.bind_fn X self hf) (.inl rfl) h
end
def _qvd(f:Str) (v:V):List (Str×V)->List (Str×V)
 | []=>[(f,v)]
 |(g,x)::r=>if g=f then(g,v)::r else(g,x)::_qvd f v r
theorem _qt(f g:Str) (v:V):∀fs:List (Str×V),(_qvd f v fs).lookup g=if g=f then some v else fs.lookup g
 | []=>by
  show Dy g [(f,v)]=_
  by_cases h:g=f
  ·have hb:(g==f)=true:=beq_iff_eq.mpr h
   simp only[Dy,hb,if_pos h]
  ·have hb:(g==f)=false:=beq_eq_false_iff_ne.mpr h
   simp only[Dy,hb,if_neg h]
 | (k,x) :: r=>by
  have ih:=_qt f g v r;rw[show _qvd f v ((k,x)::r)=(if k=f then(k,v)::r else(k,x)::_qvd f v r)from rfl]
  by_cases hk:k=f
  ·rw[if_pos hk]
   by_cases h:g=k
   ·have hb:(g==k)=true:=beq_iff_eq.mpr h
    simp only[Dy,hb,if_pos (h.trans hk)]
   ·have hb:(g==k)=false:=beq_eq_false_iff_ne.mpr h
    simp only[Dy,hb,if_neg (λe:g=f=>h (e.trans hk.symm))]
  ·rw[if_neg hk]
   by_cases h:g=k
   ·have hb:(g==k)=true:=beq_iff_eq.mpr h
    simp only[Dy,hb,if_neg (λe:g=f=>hk (h.symm.trans e))]
   ·have hb:(g==k)=false:=beq_eq_false_iff_ne.mpr h
    simp only[Dy,hb];exact ih
theorem _Jy(f:Str) (v:V):∀fs:List (Str×V),f∈(_qvd f v fs).map (·.1)/\∀g,g∈fs.map (·.1)->g∈(_qvd f v fs).map (·.1)
 | []=>⟨by simp[_qvd],λg h=>by simp at h⟩
 | (k,x) :: r=>by
  obtain⟨i1,i2⟩:=_Jy f v r;rw[show _qvd f v ((k,x)::r)=(if k=f then(k,v)::r else(k,x)::_qvd f v r)from rfl]
  by_cases hk:k=f
  ·rw[if_pos hk]
   subst hk;exact⟨by simp,λg h=>by simpa using h⟩
  ·rw[if_neg hk]
   refine⟨?_,λg h=>?_⟩
   ·rw[map_cons]
    exact mem_cons_of_mem _ i1
   ·rw[map_cons]at h⊢
    rcases An.mp h with e|e
    ·exact An.mpr (.inl e)
    ·exact mem_cons_of_mem _ (i2 g e)
theorem _Qv(f:Str) (v:V):∀fs:List (Str×V),(_qvd f v fs).length<=fs.length+1
 | []=>by simp[_qvd]
 |(k,x)::r=>by
  have ih:=_Qv f v r;rw[show _qvd f v ((k,x)::r)=(if k=f then(k,v)::r else(k,x)::_qvd f v r)from rfl]
  by_cases hk:k=f
  ·rw[if_pos hk,length_cons,length_cons];omega
  ·rw[if_neg hk,length_cons,length_cons];omega
theorem _qwn.some_of{v:V}{o:Option Value}(r:_qwn (some v) o):∃u,o=some u/\_qwm v u:=by
 cases o with
 |none=>exact(show False from r).elim
 |some u=>exact⟨u,rfl,r⟩
theorem _qwn.none_of{o:Option Value}(r:_qwn none o):o=none:=by
 cases o with
 |none=>rfl
 |some u=>exact(show False from r).elim
theorem _qg0{v:V}{u:Value}(r:_qwm v u):PySem.W.handedIn u=true:=by
 cases v with
 |non=>cases(show u=Value.none from r);rfl
 |bl b=>cases(show u=Value.bool b from r);rfl
 |int i=>obtain⟨t,e⟩:=(show∃t,u=Value.int i t from r);cases e;rfl
 |str x=>obtain⟨t,e⟩:=(show∃t,u=Value.str x t from r);cases e;rfl
 |byt b=>obtain⟨t,e⟩:=(show∃t,u=Value.bytes b t from r);cases e;rfl
 |flt b=>obtain⟨t,e⟩:=(show∃t,u=Value.float b t from r);cases e;rfl
 |ref a=>cases(show u=Value.ref a from r);rfl
 |ty n=>cases(show u=Value.type n from r);rfl
section
variable{P:Ak}{w:World}{H H':Hp}{h h':Heap}{a C dx:Addr}{fs fs':List (Str×V)}
theorem _qcw(hok:HOk P w H h) (e:H a=some (.ins C dx fs)):∃mA,ObjM h a dx C mA/\(∀f,_qwn (fs.lookup f) (mA f))/\PySem.Within mA (fs.map (·.1))/\fs.length<=1000/\H dx=some (.own a):=by
 obtain⟨d,z,ne,ob,mA,n,r,q⟩:=(show _z5 P w H h a (.ins C dx fs)from hok a _ e);exact⟨mA,⟨ob,n,ne⟩,r,q,z,d⟩
end
structure Cls(K:Frag) (C:Addr):Prop where
 pg:Fb K C Str.empty=true
 hd:F6 K C=true
 po:Ip K C=true
 sa:A9 K (.ref C) "__setattr__"=some (some (.builtin "object.__setattr__"))
theorem Cls.get{K:Frag}{C:Addr}(c:Cls K C) (f:Str):Fb K C f=true:=c.pg
def _Zo(K:Frag) (C:Addr) (f:Str):Prop:=A9 K (.ref C) f=some none
theorem _Zo.taker{K:Frag}{C:Addr}{f:Str}(n:_Zo K C f):J6 K C f=some none:=by
 unfold J6;rw[show A9 K (.ref C) f=some none from n];rfl
structure Con(K:Frag) (C:Addr) (f:Str) (v:V) (u:Value):Prop where
 at_:A9 K (.ref C) f=some (some u)
 rel:_qwm v u
 get:Iq K u "__get__"=some none
 cp:PySem.W.copiedNames.contains f=false
structure Meth(K:Frag) (C:Addr) (m:Str) (f:Addr):Prop where
 at_:A9 K (.ref C) m=some (some (.ref f))
 fn:Ho K (.ref f)=true
 kp:Hb K (.ref f)=true
section
variable{X:Cx}{pins:List (Addr×Obj)}{σ:St}{H:Hp}{s:Shared}{a C dx:Addr}{fs:List (Str×V)}{f:Str}{v:V}{A:Around}{E:Value->Shared->Prop}
theorem _qcy{b:Bool}{Q:Value->Shared->Prop}(I:Inv X pins σ H s) (e:H a=some (.ins C dx fs)) (c:Cls X.K C) (n:_Zo X.K C f) (l:fs.lookup f=some v)
  (h:∀u s',Inv X pins σ H s'->_qwm v u->Q u s'):wpAny (model X.prog X.w) A (getAttr (.ref a) f b) Q E s:=by
 obtain⟨mA,O,r,_,_,_⟩:=_qcw I.hok e;obtain⟨u,hu,ru⟩:=_qwn.some_of (v:=v) (o:=mA f) (by rw[<-l];exact r f);exact _qof I.kIn O (c.get f) c.hd n hu (_qg0 ru) (h u _ (I.tok _) ru)
theorem _Zb{m:Str}{g:Addr}{pl:Sem Bool}{Q:Value×List Value->Shared->Prop}(I:Inv X pins σ H s) (e:H a=some (.ins C dx fs)) (c:Cls X.K C) (k:Meth X.K C m g) (l:fs.lookup m=none)
  (h:Q (.ref g,[.ref a]) s):wpAny (model X.prog X.w) A (Mv (.ref a) m pl) Q E s:=by
 obtain⟨mA,O,r,_,_,_⟩:=_qcw I.hok e;have hn:mA m=none:=_qwn.none_of (by rw[<-l];exact r m);exact _qkt I.kIn O (c.get m) k.at_ k.fn hn h
theorem _qat{y:V}{u:Value}{Q:Unit->Shared->Prop}(I:Inv X pins σ H s) (e:H a=some (.ins C dx fs)) (c:Cls X.K C) (n:_Zo X.K C f) (hl:fs.length<1000) (ry:_qwm y u)
  (h:∀s',Inv X pins σ (upd H a (.ins C dx (_qvd f y fs))) s'->Q () s'):wpAny (model X.prog X.w) A (setAttr (.ref a) f u) Q E s:=by
 obtain⟨mA,O,r,wi,_,ho⟩:=_qcw I.hok e;have hz:(fs.map (·.1)).length<=Aj:=by rw[length_map,Ao];omega
 refine _qmi I.kIn O c.sa c.po n.taker c.hd wi hz λh' O' sb=>h _ ?_;have hd:∃o,h'.get? dx=some o:=let⟨o,_,_,e',_⟩:=O'.ns;⟨o,e'⟩;refine I.write (x:=a) (e:=dx) (by rw[e];exact True.intro) (.inr ho) (λb q hb z=>(sb.2 b hb).trans z) hd ?_;refine⟨by rw[_f O.ne];exact ho,?_,O.ne,O'.obj,_,O'.ns,λg=>?_,λg hg=>?_⟩
 ·have:=_Qv f y fs;omega
 ·show _qwn ((_qvd f y fs).lookup g) (if g=f then some u else mA g)
  rw[_qt]
  by_cases q:g=f
  ·rw[if_pos q,if_pos q];exact ry
  ·rw[if_neg q,if_neg q];exact r g
 ·by_cases q:g=f
  ·rw[q];exact(_Jy f y fs).1
  ·refine(_Jy f y fs).2 g (wi g λz=>hg ?_)
   show(if g=f then some u else mA g)=none;rw[if_neg q];exact z
theorem Inv.made(I:Inv X pins σ H s):Inv X pins σ (upd (upd H s.heap.objs.size (.own (s.heap.objs.size+1))) (s.heap.objs.size+1) (.ins C s.heap.objs.size []))
  {s with heap:=(s.heap.push Bv).push (C5 C s.heap.objs.size) }:=by
 have e1:(s.heap.push Bv).get? s.heap.objs.size=some Bv:=Ah s.heap rfl;have e2:((s.heap.push Bv).push (C5 C s.heap.objs.size)).get? (s.heap.objs.size+1)=some (C5 C s.heap.objs.size):=by
  have:=Ah (s.heap.push Bv) (o:=C5 C s.heap.objs.size) rfl
  rwa[Bx]at this
 have e3:(s.heap.push Bv).Ns s.heap.objs.size (λ_=>none):=⟨Bv,#[],_,e1,rfl,(λe he=>absurd he (by simp)),λ_=>rfl⟩;have I1:=I.laid (a:=s.heap.objs.size) (o:=.own (s.heap.objs.size+1)) (h':=s.heap.push Bv) (t':=s.toks) (λb u q=>Ae _ q) (le_refl _) ⟨_,e1⟩;refine I1.laid (a:=s.heap.objs.size+1) (o:=.ins C s.heap.objs.size []) (t':=s.toks) (λb u q=>Ae _ q) (Nat.le_of_eq (Bx _ _)) ?_;have ne:s.heap.objs.size≠s.heap.objs.size+1:=ne_of_lt (lt_succ_self _);refine⟨by rw[_f ne,_b],zero_le _,ne,e2,λ_=>none,(Heap.Ns1.of_empty e3).at λo q=>Ae _ q,λ_=>True.intro,λy hy=>absurd rfl hy⟩
theorem _qp8{prog:Ak}{w:World}{env:Env}{e:Expr}{f:Str}{pos:Pos}{s:Shared}{Q:Value->Shared->Prop}(hb:Ep e f env (eval e env)=eval e env)
  (h:wpAny (model prog w) A (eval e env) (λo s₁=>wpAny (model prog w) A (getAttr o f true) Q E s₁) E s):wpAny (model prog w) A (eval (.Attribute e f pos) env) Q E s:=
 Attribute_any_ h (by rw[arm_eval_Attribute,hb])
end
def tFld(K:Frag) (ta:TE) (f:Str):TE:=λσ H Q=>ta σ H λx H1=>∃a C dx fs v,x=.ref a/\H1 a=some (.ins C dx fs)/\Cls K C/\_Zo K C f/\fs.lookup f=some v/\Q v H1
def sFld(K:Frag) (ta tv:TE) (f:Str):TS:=λD σ H=>tv σ H λy H1=>ta σ H1 λx H2=>∃a C dx fs,x=.ref a/\H2 a=some (.ins C dx fs)/\Cls K C/\_Zo K C f/\fs.length<1000/\
 D.nx σ (upd H2 a (.ins C dx (_qvd f y fs)))
section
variable{X:Cx}{o e value:Expr}{f:Str}{pos pos' tpos:Pos}{ta tv:TE}
theorem _v4(he:PE X e ta) (hb:Ep e f X.env (eval e X.env)=eval e X.env):PE X (.Attribute e f pos) (tFld X.K ta f):=by
 intro pins s σ H Q I h;refine _qp8 hb (thn (he pins s σ H _ I h) λu s1 hQ=>?_);obtain⟨x,H1,I1,rx,a,C,dx,fs,v,ex,ea,c,n,l,q⟩:=hQ;subst ex;obtain rfl:u=Value.ref a:=rx;exact _qcy I1 ea c n l λu' s2 I2 ru=>⟨v,H1,I2,ru,q⟩
theorem _qmv(ha:PE X o ta) (hv:PE X value tv) (hs:Hu value (some (.Attribute o f pos')) pos.line X.env=pure false):PS X (.Assign [.Attribute o f pos'] value pos) (sFld X.K ta tv f):=by
 intro pins s σ H D I h;refine plainObj_wpAny_Assign_Attribute (thn (hv pins s σ H _ I h) λu s1 ⟨y,H1,I1,ry,q⟩=>thn (ha pins s1 σ H1 _ I1 q) λov s2 hQ=>?_) hs;obtain⟨x,H2,I2,rx,a,C,dx,fs,ex,ea,c,n,l,q2⟩:=hQ;subst ex;obtain rfl:ov=Value.ref a:=rx;exact _qat I2 ea c n l ry λs3 I3=>⟨σ,_,I3,q2⟩
end
section
variable{X:Cx}{pins:List (Addr×Obj)}{σ:St}{H:Hp}{s:Shared}{A:Around}{E:Value->Shared->Prop}{Q:Value->Shared->Prop}{c:Value}{b:Bool}
inductive TyOf(K:Frag) (H:Hp):V->Value->Prop where
 |non:TyOf K H .non (.type "NoneType")
 |bl (x:Bool):TyOf K H (.bl x) (.type "bool")
 |int (i:Int):TyOf K H (.int i) (.type "int")
 |str (x:Str):TyOf K H (.str x) (.type "str")
 |flt (x:UInt64):TyOf K H (.flt x) (.type "float")
 |lst {a:Addr}{xs:List V}(e:H a=some (.lst xs)):TyOf K H (.ref a) (.type "list")
 |frz {a:Addr}{o:Obj}{xs:List V}(e:H a=some (.frz o (.lst xs))):TyOf K H (.ref a) (.type "list")
 |tup {a:Addr}{xs:List V}(e:H a=some (.tup xs)):TyOf K H (.ref a) (.type "tuple")
 |dK {a:Addr}{kvs:List (Key×V)}(e:H a=some (.dK kvs)):TyOf K H (.ref a) (.type "dict")
 |dT {a:Addr}{kvs:List (List Key×V)}(e:H a=some (.dT kvs)):TyOf K H (.ref a) (.type "dict")
 |ins {a C dx:Addr}{fs:List (Str×V)}(e:H a=some (.ins C dx fs)) (cl:Cls K C) (ha:A9 K (.ref C) "__class__"=some (some (.builtin "object.__class__")))
   (hn:Iq K (.builtin "object.__class__") "__get__"=some (some (.builtin "getset_descriptor.__get__"))) (htk:PySem.W.takesIn K (.builtin "object.__class__")=some true)
   (hm:Er K C (.type "object")=some true):TyOf K H (.ref a) (.ref C)
end
structure Room(k:Nat) (A:Around):Prop where
 hd:A.handled=none
 dp:A.depth+3*k+5<recursionLimit
 un:A.units+16*k+200<cLine
theorem Room.mono{j k:Nat}{A:Around}(r:Room k A) (h:j<=k):Room j A:=⟨r.hd,by have:=r.dp;omega,by have:=r.un;omega⟩
theorem Room.deeper{k:Nat}{A:Around}(r:Room (k+1) A) (env:Env):Room k (A.deeper env):=
 ⟨r.hd,by have:=r.dp;show A.depth+1+3*k+5<_;omega,by have:=r.un;show A.units+3+16*k+200<_;omega⟩
theorem Room.in1{k:Nat}{A:Around}(r:Room (k+1) A):Room k A.in1:=
 ⟨r.hd,by have:=r.dp;show A.depth+3*k+5<_;omega,by have:=r.un;show A.units+1+16*k+200<_;omega⟩
theorem _qcd{A:Around}{C:Addr}{us:List Value}{kw:List (Str×Value)}:(A.under (.builtin "type.__call__" ⟨.ref C::us,kw⟩)).depth=A.depth+1:=by
 first|rfl|simp[Md,Code.weight,Code.isCreation,Code.isGuard,Code.isCaller,Code.frames,Me,guardIds]
theorem _qcc{A:Around}{C:Addr}{us:List Value}{kw:List (Str×Value)}:(A.under (.builtin "type.__call__" ⟨.ref C::us,kw⟩)).units=A.units+1:=by
 first|rfl|simp[Md,Code.cUnits,Code.frames,Me]
theorem Room.make{k:Nat}{A:Around}(r:Room (k+1) A) (C:Addr) (us:List Value) (kw:List (Str×Value)):Room k (A.under (.builtin "type.__call__" ⟨.ref C::us,kw⟩)):=
 ⟨r.hd,by have:=r.dp;rw[_qcd];omega,by have:=r.un;rw[_qcc];omega⟩
theorem Room.depth{k:Nat}{A:Around}(r:Room k A):A.depth<recursionLimit:=by have:=r.dp;omega
theorem Room.units{k:Nat}{A:Around}(r:Room k A):A.units+64<cLine:=by have:=r.un;omega
def _qv2:TA:=λ_ H Q=>Q [] H
def _w7(ta:TE) (tr:TA):TA:=λσ H Q=>ta σ H λx H1=>tr σ H1 λxs H2=>Q (x::xs) H2
section
variable{X:Cx}{e:Expr}{es:List Expr}{te:TE}{t:TA}{pos:Pos}
theorem _o:PA X [] _qv2:=λ_ _ _ _ H Q I h=>Ex ⟨[],H,I,.nil,h⟩
theorem _c(ha:PE X e te) (hr:PA X es t) (hs:Aq (e::es) X.env=(false,eval e X.env)::Aq es X.env:=by rfl):PA X (e::es) (_w7 te t):=by
 intro pos pins s σ H Q I h;rw[hs];show wpAny _ _ (spliced ((false,eval e X.env)::Dg pos (Aq es X.env))) _ _ s;refine Cp (thn (ha pins s σ H _ I h) λu s1 hQ=>?_);obtain⟨x,H1,I1,r1,q1⟩:=hQ;exact thn (hr pos pins s1 σ H1 _ I1 q1) λus s2 ⟨xs,H2,I2,r2,q2⟩=>⟨x::xs,H2,I2,.cons r1 r2,q2⟩
def tTup(t:TA):TE:=λσ H Q=>t σ H λxs H1=>xs.length<=Aj/\∀p,H1 p=none->Q (.ref p) (upd H1 p (.tup xs))
def tLst(t:TA):TE:=λσ H Q=>t σ H λxs H1=>xs.length<=Aj/\∀p,H1 p=none->Q (.ref p) (upd H1 p (.lst xs))
theorem _qbl{x1}(h:PA X es t):PE X (.Tuple es x1 pos) (tTup t):=by
 intro pins s σ H Q I hq;refine wpAny_Tuple_spliced (thn (h pos pins s σ H _ I hq) λus s1 ⟨xs,H1,I1,r,z,q⟩=>⟨by rw[<-r.length];exact z,?_⟩);have hf:H1 s1.heap.objs.size=none:=I1.hok.fresh (le_refl _);refine⟨.ref s1.heap.objs.size,upd H1 s1.heap.objs.size (.tup xs),I1.laid (t':=s1.toks) (λb u e=>Ae _ e) (le_refl _) ?_,rfl,q _ hf⟩;exact⟨z,us,r,⟨_,Ah _ rfl,rfl,_,rfl⟩⟩
theorem _Qa(h:PA X es t):PE X (.List es pos) (tLst t):=by
 intro pins s σ H Q I hq;refine wpAny_List_spliced (thn (h pos pins s σ H _ I hq) λus s1 ⟨xs,H1,I1,r,z,q⟩=>⟨by rw[<-r.length];exact z,?_⟩);have hf:H1 s1.heap.objs.size=none:=I1.hok.fresh (le_refl _);refine⟨.ref s1.heap.objs.size,upd H1 s1.heap.objs.size (.lst xs),I1.laid (t':=s1.toks) (λb u e=>Ae _ e) (le_refl _) ?_,rfl,q _ hf⟩;exact⟨z,us,0,r,Ah _ rfl⟩
end
abbrev Sp:=List V->Hp->VK->XK->Prop
abbrev CXT:=List Env->Hp->Shared->XK->Value->Shared->Prop
structure Env0(P:Ak) (w:World) (K:Frag) (mg:Str->Option Value) (base:Heap) (A:Around) (outer:List Env) (s:Shared) (H:Hp):Prop where
 frames:A.frames=some outer
 mod:Mod K mg base
 bs:∀b o,base.get? b=some o->s.heap.get? b=some o/\H b=none
 bsz:base.objs.size<=s.heap.objs.size
 funs:s.heap.FunFrames base outer
 frf:∀b∈frs outer,H b=none
 hok:HOk P w H s.heap
 bare:Hn s.gens
def CE(outer:List Env) (P:Ak) (w:World) (H:Hp) (s:Shared) (Q:VK) (u:Value) (s':Shared):Prop:=
 ∃v H',s'.os=s.os/\Hn s'.gens/\Un (frs outer) [] H H' s.heap s'.heap/\HOk P w H' s'.heap/\_qwm v u/\Q v H'
def CR(CX:CXT) (outer:List Env) (P:Ak) (w:World) (H:Hp) (s:Shared) (Q:VK) (E:XK) (r:Mw) (s':Shared):Prop:=
 match r with
 | .ok (.ret u)=>CE outer P w H s Q u s'
 | .ok _=>False
 | .error e=>CX outer H s E e s'
structure FnOk(P:Ak) (w:World) (K:Frag) (mg:Str->Option Value) (base:Heap) (CX:CXT) (k:Nat) (f:Addr) (fd:Am) (ps:List Str) (sp:Sp):Prop where
 len:∀vs H Q E,sp vs H Q E->vs.length=ps.length
 run:∀(A:Around) (outer:List Env) (s:Shared) (H:Hp) (args:Args) (us:List Value) (vs:List V) (Q:VK) (E:XK),Room k A->Env0 P w K mg base A outer s H->Ir s fd args (ps.zip us)->_qwi vs us->sp vs H Q E->
  D7 (model P w) A (.call (.ref f) args) (CR CX outer P w H s Q E) s
theorem FnOk.mono{P:Ak}{w:World}{K:Frag}{mg:Str->Option Value}{base:Heap}{CX:CXT}{j k:Nat}{f:Addr}{fd:Am}{ps:List Str}{sp:Sp}(F:FnOk P w K mg base CX j f fd ps sp) (h:j<=k):
  FnOk P w K mg base CX k f fd ps sp:=⟨F.len,λA outer s H args us vs Q E hr=>F.run A outer s H args us vs Q E (hr.mono h)⟩
theorem FnOk.imp{P:Ak}{w:World}{K:Frag}{mg:Str->Option Value}{base:Heap}{CX:CXT}{k:Nat}{f:Addr}{fd:Am}{ps:List Str}{sp sp':Sp}(F:FnOk P w K mg base CX k f fd ps sp)
  (h:∀vs H Q E,sp' vs H Q E->sp vs H Q E):FnOk P w K mg base CX k f fd ps sp':=
 ⟨λvs H Q E q=>F.len vs H Q E (h _ _ _ _ q),λA outer s H args us vs Q E hr he hb hv hs=>F.run A outer s H args us vs Q E hr he hb hv (h _ _ _ _ hs)⟩
theorem Env0.make{P:Ak}{w:World}{K:Frag}{mg:Str->Option Value}{base:Heap}{A:Around}{outer:List Env}{s:Shared}{H:Hp}(e:Env0 P w K mg base A outer s H) (C:Addr) (us:List Value) (kw:List (Str×Value)):
  Env0 P w K mg base (A.under (.builtin "type.__call__" ⟨.ref C::us,kw⟩)) outer s H:=⟨by first|exact e.frames|(simpa[Md,Code.envs,Me,pushEnvs]using e.frames),e.mod,e.bs,e.bsz,e.funs,e.frf,e.hok,e.bare⟩
theorem Env0.in1{P:Ak}{w:World}{K:Frag}{mg:Str->Option Value}{base:Heap}{A:Around}{outer:List Env}{s:Shared}{H:Hp}(e:Env0 P w K mg base A outer s H):
  Env0 P w K mg base A.in1 outer s H:=⟨e.frames,e.mod,e.bs,e.bsz,e.funs,e.frf,e.hok,e.bare⟩
section
variable{X:Cx}{pins:List (Addr×Obj)}{σ:St}{H:Hp}{s s':Shared}
theorem Inv.env0(I:Inv X pins σ H s):Env0 X.prog X.w X.K X.mg X.base X.A X.stack s H:=
 ⟨I.ok.frames,I.ok.mod,I.bs,le_trans I.ok.bsz I.sz,I.stack,I.stkFree,I.hok,I.bare⟩
theorem Inv.after{Q:VK}{u:Value}(I:Inv X pins σ H s) (h:CE X.stack X.prog X.w H s Q u s'):EP X pins σ Q u s':=by
 obtain⟨v,H',os,bare,un,hok,r,q⟩:=h;obtain⟨hh,g,d,t,os'⟩:=s';obtain rfl:os'=s.os:=os;exact⟨v,H',I.call (h':=hh) (g':=g) (d':=d) (t':=t) (ch:=[]) un hok bare (λb z=>absurd z (by simp)),r,q⟩
end
def tCall(sp:Sp) (dvs:List V) (E:XK) (t:TA):TE:=λσ H Q=>t σ H λvs H1=>sp (vs++dvs) H1 Q E
def tMeth(C:Addr) (m:Str) (sp:Sp) (dvs:List V) (E:XK) (ta:TE) (t:TA):TE:=λσ H Q=>ta σ H λx H1=>∃a dx fs,x=.ref a/\H1 a=some (.ins C dx fs)/\fs.lookup m=none/\
 t σ H1 λvs H2=>sp (x::(vs++dvs)) H2 Q E
def tMake(C:Addr) (sp:Sp) (dvs:List V) (E:XK) (t:TA):TE:=λσ H Q=>t σ H λvs H1=>∀x dx,H1 x=none->H1 dx=none->dx≠x->
 sp (.ref x::(vs++dvs)) (upd (upd H1 dx (.own x)) x (.ins C dx [])) (λv H2=>v=.non/\Q (.ref x) H2) E
def Binds(K:Frag) (fd:Am) (ps:List Str) (ds:List Value):Prop:=
 ∀(s:Shared) (us:List Value),K.In s.heap->(us++ds).length=ps.length->Ir s fd ⟨us,[]⟩ (ps.zip (us++ds))
theorem Binds.all{K:Frag}{fd:Am}{ps:List Str}(h:∀us:List Value,us.length=ps.length->Hz fd ⟨us,[]⟩=pure (ps.zip us)):Binds K fd ps []:=λs us _ hl=>by
 rw[append_nil]at hl⊢;exact .of_eq (h us hl)
def _Kp(CX:CXT) (X:Cx) (E:XK):Prop:=∀(pins:List (Addr×Obj)) (σ:St) (H:Hp) (s:Shared) (e:Value) (s':Shared),Inv X pins σ H s->CX X.stack H s E e s'->X.xe e s'
section
variable{X:Cx}{CX:CXT}{k:Nat}{f C:Addr}{fd:Am}{ps:List Str}{sp:Sp}{dvs:List V}{ds:List Value}{E:XK}{x m:Str}{p pos apos:Pos}{e o:Expr}{es:List Expr}{ta:TE}{t:TA}
theorem _qj4{pins:List (Addr×Obj)}{σ:St}{H:Hp}{s:Shared}{Q:VK}{us:List Value}{vs:List V}(F:FnOk X.prog X.w X.K X.mg X.base CX k f fd ps sp) (hr:Room k X.A) (hb:Binds X.K fd ps ds) (hd:_qwi dvs ds) (hx:_Kp CX X E)
  (I:Inv X pins σ H s) (r:_qwi vs us) (h:sp (vs++dvs) H Q E):wpAny (model X.prog X.w) X.A (call (.ref f) us) (EP X pins σ Q) X.xe s:=by
 have r2:_qwi (vs++dvs) (us++ds):=r.append hd;have hl:(us++ds).length=ps.length:=by rw[<-r2.length];exact F.len _ _ _ _ h
 refine wpAny_call (Cy (F.run X.A X.stack s H ⟨us,[]⟩ (us++ds) (vs++dvs) Q E hr I.env0 (hb s us I.kIn hl) r2 h) λr s' hq=>?_);cases r with
 |error e=>exact hx pins σ H s e s' I hq
 |ok fl=>
  cases fl with
  |ret u=>exact I.after hq
  |next=>exact A5 hq
  |brk=>exact A5 hq
  |cont=>exact A5 hq
theorem _q5(F:FnOk X.prog X.w X.K X.mg X.base CX k f fd ps sp) (hr:Room k X.A) (hg:Gl X x) (hm:X.mg x=some (.ref f)) (hk:Hb X.K (.ref f)=true) (hb:Binds X.K fd ps ds) (hd:_qwi dvs ds) (hx:_Kp CX X E)
  (ha:PA X (e::es) t) (hdb:(x==("__debug__":Str))=false:=by decide) (he:Aq (e::es) X.env=(false,eval e X.env)::Aq es X.env:=by rfl) (hpl:(Dg pos (Aq es X.env)).any (·.1)=false:=by rfl):
  PE X (.Call (.Name x p) (e::es) [] pos) (tCall sp dvs E t):=by
 intro pins s σ H Q I h;refine Cd (_qcl I hg hm ?_ hdb);refine Lv (h₀:=X.base) I.ok.mod.kin hk (thn (ha pos pins s σ H _ I h) λus s1 ⟨vs,H1,I1,r,q⟩=>⟨I1.kIn,?_⟩) he hpl;exact _qj4 F hr hb hd hx I1 r q
theorem _qb{pl:Sem Bool}(he:PE X o ta) (c:Cls X.K C) (hm:Meth X.K C m f) (F:FnOk X.prog X.w X.K X.mg X.base CX k f fd ps sp) (hr:Room k X.A) (hb:Binds X.K fd ps ds) (hd:_qwi dvs ds) (hx:_Kp CX X E) (ha:PA X (e::es) t)
  (hst:Aq (e::es) X.env=(false,eval e X.env)::Aq es X.env:=by rfl) (hpl:(Dg pos (Aq es X.env)).any (·.1)=false:=by rfl)
  (ht:eval (.Call (.Attribute o m apos) (e::es) [] pos) X.env=(do
   let ov <-eval o X.env
   Nb apos.atName
   let(f,first) <-Ju [ov] (Mv ov m pl)
   callWith pos f first (Dg pos (Aq (e::es) X.env)) (Mf pos (Iu [] X.env))):=by rfl):
  PE X (.Call (.Attribute o m apos) (e::es) [] pos) (tMeth C m sp dvs E ta t):=by
 intro pins s σ H Q I h;refine Kh (pl:=pl) (thn (he pins s σ H _ I h) λu s1 hQ=>?_) ht;obtain⟨x,H1,I1,rx,a,dx,fs,ex,ea,l,q⟩:=hQ;subst ex;obtain rfl:u=Value.ref a:=rx;refine _Zb I1 ea c hm l ?_;refine Lv (first:=[.ref a]) (h₀:=X.base) I.ok.mod.kin hm.kp (thn (ha pos pins s1 σ H1 _ I1 q) λus s2 ⟨vs,H2,I2,r,q2⟩=>⟨I2.kIn,?_⟩) hst hpl;exact _qj4 (us:=.ref a::us) (vs:=.ref a::vs) F hr hb hd hx I2 (.cons rfl r) q2
theorem _zx{pl:Sem Bool}(he:PE X o ta) (c:Cls X.K C) (hm:Meth X.K C m f) (F:FnOk X.prog X.w X.K X.mg X.base CX k f fd ps sp) (hr:Room k X.A) (hb:Binds X.K fd ps ds) (hd:_qwi dvs ds) (hx:_Kp CX X E)
  (ht:eval (.Call (.Attribute o m apos) [] [] pos) X.env=(do
   let ov <-eval o X.env
   Nb apos.atName
   let(f,first) <-Ju [ov] (Mv ov m pl)
   callWith pos f first (Dg pos (Aq [] X.env)) (Mf pos (Iu [] X.env))):=by rfl):
  PE X (.Call (.Attribute o m apos) [] [] pos) (tMeth C m sp dvs E ta _qv2):=by
 intro pins s σ H Q I h;refine Kh (pl:=pl) (thn (he pins s σ H _ I h) λu s1 hQ=>?_) ht;obtain⟨x,H1,I1,rx,a,dx,fs,ex,ea,l,q⟩:=hQ;subst ex;obtain rfl:u=Value.ref a:=rx;refine _Zb I1 ea c hm l ?_;exact Ld (first:=[.ref a]) I1.kIn hm.kp (_qj4 (us:=[.ref a]) (vs:=[.ref a]) F hr hb hd hx I1 (.cons rfl .nil) q)
structure Mk(K:Frag) (C f:Addr):Prop where
 makes:J7 K C=true
 init:A9 K (.ref C) "__init__"=some (some (.ref f))
 fn:Ho K (.ref f)=true
 kp:Hb K (.ref C)=true
theorem _qj3{pins:List (Addr×Obj)}{σ:St}{H:Hp}{s:Shared}{Q:VK}{us:List Value}{vs:List V}(M:Mk X.K C f) (F:FnOk X.prog X.w X.K X.mg X.base CX k f fd ps sp) (hr:Room (k+1) X.A) (hb:Binds X.K fd ps ds) (hd:_qwi dvs ds)
  (hx:_Kp CX X E) (I:Inv X pins σ H s) (r:_qwi vs us)
  (h:∀x dx,H x=none->H dx=none->dx≠x->sp (.ref x::(vs++dvs)) (upd (upd H dx (.own x)) x (.ins C dx [])) (λv H2=>v=.non/\Q (.ref x) H2) E):
  wpAny (model X.prog X.w) X.A (call (.ref C) us) (EP X pins σ Q) X.xe s:=by
 have hq:=h (s.heap.objs.size+1) s.heap.objs.size (I.hok.fresh (le_succ _)) (I.hok.fresh (le_refl _)) (ne_of_lt (lt_succ_self _));have I2:=Inv.made (C:=C) I;have r2:_qwi (V.ref (s.heap.objs.size+1)::(vs++dvs)) (Value.ref (s.heap.objs.size+1)::(us++ds)):=.cons rfl (r.append hd);have hl:(Value.ref (s.heap.objs.size+1)::us++ds).length=ps.length:=by
  have e:=r2.length;rw[F.len _ _ _ _ hq]at e;exact e.symm
 refine wpAny_call (_qk7 (f:=f) I.kIn M.makes M.init (beq_iff_eq.mp M.fn) (Cy (F.run _ X.stack _ _ ⟨Value.ref (s.heap.objs.size+1)::us,[]⟩ (Value.ref (s.heap.objs.size+1)::(us++ds)) _ _ E (hr.make C us [])
  (I2.env0.make C us []) (hb _ (Value.ref (s.heap.objs.size+1)::us) I2.kIn hl) r2 hq) λr s' hq'=>?_))
 cases r with
 |error e=>exact hx pins σ _ _ e s' I2 hq'
 |ok fl=>
  cases fl with
  |ret u=>
   obtain⟨v,H',I3,rv,ev,q3⟩:=I2.after hq';subst ev;exact⟨rv,⟨V.ref (s.heap.objs.size+1),H',I3,rfl,q3⟩⟩
  |next=>exact A5 hq'
  |brk=>exact A5 hq'
  |cont=>exact A5 hq'
theorem _qbm(M:Mk X.K C f) (F:FnOk X.prog X.w X.K X.mg X.base CX k f fd ps sp) (hr:Room (k+1) X.A) (hg:Gl X x) (hm:X.mg x=some (.ref C)) (hb:Binds X.K fd ps ds) (hd:_qwi dvs ds) (hx:_Kp CX X E)
  (hdb:(x==("__debug__":Str))=false:=by decide):PE X (.Call (.Name x p) [] [] pos) (tMake C sp dvs E _qv2):=by
 intro pins s σ H Q I h;refine Cd (_qcl I hg hm ?_ hdb);exact Ld I.kIn M.kp (_qj3 (us:=[]) M F hr hb hd hx I .nil h)
end
section
variable{X:Cx}{CX:CXT}{k:Nat}{f C:Addr}{fd:Am}{ps ks:List Str}{sp:Sp}{E:XK}{x m:Str}{p pos apos kpos:Pos}{e o:Expr}{es:List Expr}{kws:List K9}{te ta:TE}{t tk:TA}{nm:Option Str}
structure KBinds(K:Frag) (fd:Am) (ps ks:List Str) (g:List Value->List Value->List Value) (gV:List V->List V->List V):Prop where
 to:∀(s:Shared) (us ws:List Value),K.In s.heap->(g us ws).length=ps.length->Ir s fd ⟨us,ks.zip ws⟩ (ps.zip (g us ws))
 rel:∀{vs:List V}{us:List Value}{zs:List V}{ws:List Value},_qwi vs us->_qwi zs ws->_qwi (gV vs zs) (g us ws)
variable{g:List Value->List Value->List Value}{gV:List V->List V->List V}
end
structure FnScope(N P:List Str) (sc:Scope):Prop where
 kind:sc.kind=.function
 co:sc.isCoroutine=false
 gen:sc.isGenerator=false
 nd:N.Nodup
 pre:N.take P.length=P
 par:∀x∈P,sc.names.lookup x=some .local\/sc.names.lookup x=some .cell
 nofree:∀y∈sc.names,y.2≠ .free
theorem _Ya{kindOf:Str->Option NameKind}{x:Str}:∀{binds:List (Str×Value)}{m:Str->Option Value},(∀v,(x,v)∉binds)->bindL kindOf binds m x=m x
 | [],_,_=>rfl
 |(n,v)::r,m,h=>by
  unfold bindL;rw[_Ya λw hw=>h w (mem_cons_of_mem _ hw)];split
  ·have:x≠n:=by rintro rfl;exact h v mem_cons_self
   simp[this]
  ·rfl
theorem _Yc{kindOf:Str->Option NameKind}{x:Str}:∀{binds:List (Str×Value)}{m:Str->Option Value},(∀v,(x,v)∉binds)->bindC kindOf binds m x=m x
 | [],_,_=>rfl
 |(n,v)::r,m,h=>by
  unfold bindC;rw[_Yc λw hw=>h w (mem_cons_of_mem _ hw)];split
  ·rfl
  ·have:x≠n:=by rintro rfl;exact h v mem_cons_self
   simp[this]
theorem _Yb{kindOf:Str->Option NameKind}{x:Str}{v:Value}:∀{P:List Str}{vs:List Value}{i:Nat}{m:Str->Option Value},P.Nodup->P[i]?=some x->vs[i]?=some v->kindOf x=some .local->
  bindL kindOf (P.zip vs) m x=some v
 | [],_,_,_,_,h,_,_=>by simp at h
 |_::_,[],_,_,_,_,h,_=>by simp at h
 |p::P,w::vs,0,m,nd,h1,h2,hk=>by
  simp at h1 h2;subst h1;subst h2;show bindL kindOf ((p,w)::P.zip vs) m p=_;unfold bindL;rw[_Ya λv hv=>(Hc.mp nd).1 (of_mem_zip hv).1,if_pos hk]
  simp
 |p::P,w::vs,i+1,m,nd,h1,h2,hk=>by
  show bindL kindOf ((p,w)::P.zip vs) m x=_;unfold bindL;exact _Yb (i:=i) (Hc.mp nd).2 (by simpa using h1) (by simpa using h2) hk
theorem _Yd{kindOf:Str->Option NameKind}{x:Str}{v:Value}:∀{P:List Str}{vs:List Value}{i:Nat}{m:Str->Option Value},P.Nodup->P[i]?=some x->vs[i]?=some v->kindOf x≠some .local->
  bindC kindOf (P.zip vs) m x=some v
 | [],_,_,_,_,h,_,_=>by simp at h
 |_::_,[],_,_,_,_,h,_=>by simp at h
 |p::P,w::vs,0,m,nd,h1,h2,hk=>by
  simp at h1 h2;subst h1;subst h2;show bindC kindOf ((p,w)::P.zip vs) m p=_;unfold bindC;rw[_Yc λv hv=>(Hc.mp nd).1 (of_mem_zip hv).1,if_neg hk]
  simp
 |p::P,w::vs,i+1,m,nd,h1,h2,hk=>by
  show bindC kindOf ((p,w)::P.zip vs) m x=_;unfold bindC;exact _Yd (i:=i) (Hc.mp nd).2 (by simpa using h1) (by simpa using h2) hk
def start(N:List Str) (vs:List V):St:=vs.map some++Dh (N.length-vs.length) none
def cxOf(CX:CXT) (P:Ak) (w:World) (K:Frag) (mg:Str->Option Value) (base:Heap) (N:List Str) (qual:Str) (scope:Scope) (f:Addr) (cd:Value) (A:Around) (outer:List Env) (s:Shared) (H:Hp) (E:XK):Cx where
 prog:=P
 w:=w
 K:=K
 mg:=mg
 base:=base
 A:=A.deeper (Jv qual scope s.heap.objs.size f cd)
 N:=N
 s₀:=s
 H₀:=H
 env:=Jv qual scope s.heap.objs.size f cd
 outer:=outer
 stack:=Jv qual scope s.heap.objs.size f cd::outer
 ex:=[]
 calm:=true
 fn:=λ_=>true
 pn:=[]
 xe:=λe s'=>wpAny (model P w) (A.deeper (Jv qual scope s.heap.objs.size f cd)) (leaving (Jv qual scope s.heap.objs.size f cd) e) (λ_ s''=>CX outer H s E e s'') (λe' s''=>CX outer H s E e' s'') s'
theorem _qdl{sc:Scope}{n:Nat}{x:Str}(h:sc.names.lookup x=some .cell):∃c,(Mx n sc.names []).lookup x=some c:=by
 have q:=Jw sc.names n [] (.inl h);exact Jf.mp q
theorem _qfw{CX:CXT}{P:Ak}{w:World}{K:Frag}{mg:Str->Option Value}{base:Heap}{N ps:List Str}{qual:Str}{scope:Scope}{f:Addr}{cd:Value}{A:Around}{outer:List Env}{s s1:Shared}{H:Hp}{E:XK}{us:List Value}{vs:List V}
  (S:FnScope N ps scope) (hd:A.handled=none) (e0:Env0 P w K mg base A outer s H) (hl:vs.length=ps.length) (r:_qwi vs us)
  (x:InCallC s s.heap.objs.size (bindL (Jv qual scope s.heap.objs.size f cd).kindOf (ps.zip us) λ_=>none) (Mx (s.heap.objs.size+1) scope.names []) (bindC (Jv qual scope s.heap.objs.size f cd).kindOf (ps.zip us) λ_=>none) s1):
  Inv (cxOf CX P w K mg base N qual scope f cd A outer s H E) [] (start N vs) H s1:=by
 have hpl:ps.length<=N.length:=by have:=congrArg List.length S.pre;rw[length_take]at this;omega
 obtain⟨h1,tk,rfl,hk⟩:=x.done;have noA:∀b:Addr,b∉(cxOf CX P w K mg base N qual scope f cd A outer s H E).ex:=λb z=>absurd (show b∈([]:List Addr)from z) (by simp);refine⟨⟨e0.mod,S.kind,rfl,rfl,le_refl _,λy z c h1 h2=>?_,λy hy=>?_,λy c _ h=>?_,λ_=>hd,Around.frames_deeper e0.frames,.inr ⟨rfl,rfl⟩,λb z=>absurd z (noA b),e0.bs,e0.bsz,λb _ _=>noA b,λb z=>absurd z (noA b),e0.funs,e0.frf⟩,
  rfl,e0.bare,Un.kept hk,⟨_,x.toInCall.ns,λi y v h1 h2 h3=>?_⟩,λy c h=>⟨_,x.cell y c h⟩,e0.hok.fresh (le_refl _),λy c h=>?_,λp hp=>absurd (show p∈([]:List (Addr×Obj))from hp) (by simp),e0.hok.kept hk,?_⟩
 ·exact name_of_addr x.apart (D8 h1) (D8 h2)
 ·have hy:scope.names.lookup y=some .cell\/scope.names.lookup y=some .free:=hy
  rcases hy with hy|hy
  ·exact _qdl hy
  ·exact absurd rfl (S.nofree _ (D8 hy))
 ·exact le_of_lt (x.above y c (D8 h))
 ·have hi:i<vs.length:=by
   unfold start at h2
   by_cases hi:i<vs.length
   ·exact hi
   ·rw[Ia (by simpa using hi)]at h2
    rw[List.getElem?_replicate]at h2;split at h2<;>cases h2
  have ha:vs[i]?=some v:=by
   unfold start at h2;rw[Dp (by simpa using hi),getElem?_map]at h2;cases e:vs[i]? with
   |none=>rw[e]at h2;cases h2
   |some a=>rw[e]at h2;cases h2;rfl
  obtain⟨u,hu,rv⟩:=r.get ha;have hp:ps[i]?=some y:=by
   rw[<-S.pre,List.getElem?_take_of_lt (by omega)];exact h1
  have ndP:ps.Nodup:=by rw[<-S.pre];exact S.nd.sublist (Iv _ _)
  refine⟨u,rv,?_⟩;rcases S.par y (mem_of_getElem? hp)with k|k
  ·exact .inl ⟨k,_Yb ndP hp hu k⟩
  ·obtain⟨c,e⟩:=_qdl (n:=s.heap.objs.size+1) k
   refine .inr ⟨.inl k,c,e,?_⟩;have q:=x.cell y c e;rw[_Yd ndP hp hu (by show scope.names.lookup y≠_;rw[k];decide)]at q;exact q
 ·exact e0.hok.fresh (le_of_lt (x.above y c (D8 h)))
 ·unfold start
  show _=N.length;rw[length_append,length_map,List.length_replicate];omega
theorem fn_of{CX:CXT}{P:Ak}{w:World}{K:Frag}{mg:Str->Option Value}{base:Heap}{k:Nat}{f:Addr}{name qual:Str}{params:Arguments}{body:List Stmt}{scope:Scope}{dV kV doc pm cdv ct oc:Value}{an od:Option Addr}
  {osl:Array (Option Value)}{N ps:List Str}{sp:Sp}(lk:K.lookup f=some ⟨oc,od,.func (fnOf name qual params body scope dV kV doc pm an cdv ct),osl⟩) (hcd:My K cdv qual=true) (S:FnScope N ps scope)
  (len:∀vs H Q E,sp vs H Q E->vs.length=ps.length)
  (hbody:∀(A:Around) (outer:List Env) (s:Shared) (H:Hp) (vs:List V) (Q:VK) (E:XK),Room k (A.deeper (Jv qual scope s.heap.objs.size f cdv))->sp vs H Q E->
   ∃t,PSs (cxOf CX P w K mg base N qual scope f cdv A outer s H E) body t/\t {nx:=λ_ H'=>Q .non H',rt:=Q} (start N vs) H):
  FnOk P w K mg base CX (k+1) f (fnOf name qual params body scope dV kV doc pm an cdv ct) ps sp:=by
 refine⟨len,λA outer s H args us vs Q E hr e0 hb r hsp=>?_⟩;have hl:=len _ _ _ _ hsp;have KX:K.In s.heap:=e0.mod.kin.keeps λb o e=>(e0.bs b o e).1;have lim:s.heap.NoLimit:=e0.mod.nolimit.keeps λb o e=>(e0.bs b o e).1;have hkind:∀y∈ps.zip us,scope.names.lookup y.1=some .local\/(scope.names.lookup y.1=some .cell/\((Mx (s.heap.objs.size+1) scope.names []).lookup y.1).isSome=true):=fun⟨n,v⟩ hy=>by
  rcases S.par n (of_mem_zip hy).1 with q|q
  ·exact .inl q
  ·exact .inr ⟨q,Jw _ _ _ (.inl q)⟩
 refine codeAny_call_function hr.depth (KX _ _ lk) rfl S.co S.gen rfl (PySem.W.codeRec_of KX hcd) (hb _ _ _ _ ?_);refine wpAny_newFunctionEnv_cells S.kind hkind λenv he s1 x=>?_;subst he;refine⟨lim.keeps x.toInCall.keep,codeAny_func ?_⟩;obtain⟨t,ht,hq⟩:=hbody A outer s H vs Q E (hr.deeper _) hsp;have I:Inv (cxOf CX P w K mg base N qual scope f cdv A outer s H E) [] (start N vs) H s1:=_qfw S hr.hd e0 hl r x;refine Bk (ht [] s1 (start N vs) H _ I hq) (λfl s' hs=>?_) λe s' hs=>hs;have fin:∀{σ':St}{H':Hp}{v:V}{u:Value},Inv (cxOf CX P w K mg base N qual scope f cdv A outer s H E) [] σ' H' s'->_qwm v u->Q v H'->CE outer P w H s Q u s':=
  fun{σ' H' v u} J rv q=>⟨v,H',J.os,J.bare,J.base,J.hok,rv,q⟩
 cases fl with
 |ret u=>
  obtain⟨v,σ',H',J,rv,q⟩:=hs;exact fin J rv q
 |next=>
  obtain⟨σ',H',J,q⟩:=hs;exact fin (v:=V.non) (u:=Value.none) J rfl q
 |brk=>
  obtain⟨_,_,_,q⟩:=hs;exact A5 q
 |cont=>
  obtain⟨_,_,_,q⟩:=hs;exact A5 q
section
variable{X:Cx}{x:Str}{p pos:Pos}{e:Expr}{es:List Expr}{t:TA}{id T:String}{r:List V->Hp->VK->Prop}
def tCB(r:List V->Hp->VK->Prop) (t:TA):TE:=λσ H Q=>t σ H λvs H1=>r vs H1 Q
theorem _qn(hc:_Qg X (.builtin id) r) (hg:Gl X x) (hm:X.mg x=none) (hv:Be x=some (.builtin id)) (ha:PA X (e::es) t) (hn:x≠"__name__":=by decide) (hdb:(x==("__debug__":Str))=false:=by decide)
  (he:Aq (e::es) X.env=(false,eval e X.env)::Aq es X.env:=by rfl) (hpl:(Dg pos (Aq es X.env)).any (·.1)=false:=by rfl):PE X (.Call (.Name x p) (e::es) [] pos) (tCB r t):=by
 intro pins s σ H Q I h;refine Cd (_Jv I hg hm hv ?_ hn hdb);exact PyProof.Rows.callWith_builtin1 (thn (ha pos pins s σ H _ I h) λus s1 ⟨vs,H1,I1,r1,q1⟩=>hc pins s1 σ H1 vs us Q I1 r1 q1) he hpl
theorem _qz(hc:_Qg X (.type T) r) (hg:Gl X x) (hm:X.mg x=none) (hv:Be x=some (.type T)) (ha:PA X (e::es) t) (hn:x≠"__name__":=by decide) (hdb:(x==("__debug__":Str))=false:=by decide)
  (he:Aq (e::es) X.env=(false,eval e X.env)::Aq es X.env:=by rfl) (hpl:(Dg pos (Aq es X.env)).any (·.1)=false:=by rfl):PE X (.Call (.Name x p) (e::es) [] pos) (tCB r t):=by
 intro pins s σ H Q I h;refine Cd (_Jv I hg hm hv ?_ hn hdb);exact Bp (thn (ha pos pins s σ H _ I h) λus s1 ⟨vs,H1,I1,r1,q1⟩=>hc pins s1 σ H1 vs us Q I1 r1 q1) he hpl
end
end L2
namespace HT
open PySem PyProof.Rows
section
open PySem.SeqAt
open PySem.AutoSeq1 (wpAny_loadPart')
open PySem.MeetsSeq PySem.MeetsSeq2 PySem.MeetsSeq3
end
section
variable{prog:Ak}{w:World}{A:Around}{E:Value->Shared->Prop}{s:Shared}
end
end HT
namespace L2
open PySem PySem.Spec PyProof.Rows
abbrev TO:=St->Hp->(Option Int->Hp->Prop)->Prop
def PO(X:Cx) (e:Option Expr) (t:TO):Prop:=
 ∀(pins:List (Addr×Obj)) (s:Shared) (σ:St) (H:Hp) (Q:Option Int->Hp->Prop),Inv X pins σ H s->t σ H Q->
  wpAny (model X.prog X.w) X.A (evalPart e X.env) (λu s'=>∃o H',Inv X pins σ H' s'/\IsPart u o/\Q o H') X.xe s
def tNoPart:TO:=λ_ H Q=>Q none H
def tPart(t:TE):TO:=λσ H Q=>t σ H λx H1=>∃i,x=.int i/\Q (some i) H1
theorem _j5{ns:List Int}:∀{us:List Value},_qwi (ns.map V.int) us->IntsAre us ns:=by
 induction ns with
 |nil=>intro us r;rw[map_nil]at r;cases r;exact .nil
 |cons n ns ih=>
  intro us r;rw[map_cons]at r;cases r with
  |cons r1 r2=>
   obtain⟨t,e⟩:=r1;subst e;exact .cons n t (ih r2)
section
variable{X:Cx}{e:Expr}{te:TE}{lo hi:Option Expr}{tl th:TO}{pos p2:Pos}
theorem _vb:PO X none tNoPart:=by
 intro pins s σ H Q I h;rw[evalPart_none];exact Ad ⟨none,H,I,.none,h⟩
theorem _Xu(h:PE X e te):PO X (some e) (tPart te):=by
 intro pins s σ H Q I hw;rw[evalPart_some];refine thn (h pins s σ H _ I hw) λu s1 hQ=>?_;obtain⟨x,H1,I1,r1,q1⟩:=hQ;obtain⟨i,rfl,q⟩:=q1;obtain⟨t,rfl⟩:=r1;exact⟨some i,H1,I1,.int i t,q⟩
def SlR(X:Cx) (r:V->Option Int->Option Int->Hp->VK->Prop):Prop:=
 ∀(pins:List (Addr×Obj)) (s:Shared) (σ:St) (H:Hp) (x:V) (v vl vu:Value) (lo hi:Option Int) (sl:Addr) (Q:VK),Inv X pins σ H s->_qwm x v->s.heap.IsSliceOf sl vl vu .none->IsPart vl lo->IsPart vu hi->r x lo hi H Q->
  ∃T id,Lw (.type T) "__getitem__"=pure (some (.builtin id))/\s.TypeIs v T/\wpAny (model X.prog X.w) X.A (Mg v (.ref sl)) (EP X pins σ Q) X.xe s
theorem SlR.or{r r':V->Option Int->Option Int->Hp->VK->Prop}(h:SlR X r) (h':SlR X r'):SlR X (λx lo hi H Q=>r x lo hi H Q\/r' x lo hi H Q):=by
 intro pins s σ H x v vl vu lo hi sl Q I rx hs pl pu q;rcases q with q|q
 ·exact h pins s σ H x v vl vu lo hi sl Q I rx hs pl pu q
 ·exact h' pins s σ H x v vl vu lo hi sl Q I rx hs pl pu q
def tSl(r:V->Option Int->Option Int->Hp->VK->Prop) (te:TE) (tl th:TO):TE:=λσ H Q=>te σ H λx H1=>tl σ H1 λl H2=>th σ H2 λu H3=>r x l u H3 Q
theorem _qjf{r:V->Option Int->Option Int->Hp->VK->Prop}(hr:SlR X r) (he:PE X e te) (hl:PO X lo tl) (hu:PO X hi th):PE X (.Subscript e (.Slice lo hi none p2) pos) (tSl r te tl th):=by
 intro pins s σ H Q I h;refine Lx (thn (he pins s σ H _ I h) λv s1 hQ=>?_);obtain⟨x,H1,I1,r1,q1⟩:=hQ;refine wpAny_Slice (thn (hl pins s1 σ H1 _ I1 q1) λvl s2 ⟨l,H2,I2,pl,q2⟩=>thn (hu pins s2 σ H2 _ I2 q2) λvu s3 hQ=>?_);obtain⟨u,H3,I3,pu,q3⟩:=hQ;rw[evalPart_none];refine Ad ?_;have I4:Inv X pins σ H3 {s3 with heap:=s3.heap.push {cls:=.type "slice",data:=.fields #[vl,vu,.none] } }:=I3.kept (t':=s3.toks) λb ob q=>Ae _ q;obtain⟨T,id,hT,ht,hg⟩:=hr pins {s3 with heap:=s3.heap.push {cls:=.type "slice",data:=.fields #[vl,vu,.none] } } σ H3 x v vl vu l u s3.heap.objs.size Q I4 r1 (Ly ..) pl pu q3;show wpAny (model X.prog X.w) X.A (Jg e (.Slice lo hi none p2) v (.ref s3.heap.objs.size)) (EP X pins σ Q) X.xe {s3 with heap:=s3.heap.push {cls:=.type "slice",data:=.fields #[vl,vu,.none] } };exact tail_any (ops:=[.ref s3.heap.objs.size,v]) ht hT hg (by with_unfolding_all rfl)
end
def ixN(n:Nat) (i:Int):Option Nat:=if 0<=i then(if i<n then some i.toNat else none)else if-(n:Int)<=i then some (i+n).toNat else none
def atI{α:Type}(xs:List α) (i:Int):Option α:=(ixN xs.length i).bind λj=>xs[j]?
theorem _qcs{n:Nat}{i:Int}{j:Nat}(h:ixN n i=some j):seqIndex? i n=some j/\j<n/\-(n:Int)<=i/\i<n:=by
 unfold ixN at h
 by_cases h0:0<=i
 ·rw[if_pos h0]at h
  by_cases h1:i<n
  ·rw[if_pos h1]at h
   have e:i.toNat=j:=Option.some.inj h;exact⟨by rw[M6 h0 h1,e],by omega,by omega,h1⟩
  ·rw[if_neg h1]at h;cases h
 ·rw[if_neg h0]at h
  by_cases h1:-(n:Int)<=i
  ·rw[if_pos h1]at h
   have e:(i+n).toNat=j:=Option.some.inj h;exact⟨by rw[Mh (by omega) h1,e],by omega,h1,by omega⟩
  ·rw[if_neg h1]at h;cases h
theorem _qe8{α:Type}{xs:List α}{i:Int}{v:α}(h:atI xs i=some v):∃j,seqIndex? i xs.length=some j/\xs[j]?=some v/\j<xs.length/\-(xs.length:Int)<=i/\i<xs.length:=by
 unfold atI at h;cases e:ixN xs.length i with
 |none=>rw[e]at h;cases h
 |some j=>
  rw[e]at h;obtain⟨h1,h2,h3,h4⟩:=_qcs e;exact⟨j,h1,h,h2,h3,h4⟩
theorem _Zm{α:Type}{xs:List α}{j:Nat}{v:α}(h:xs[j]?=some v):atI xs (j:Int)=some v:=by
 have hj:j<xs.length:=(Ai.mp h).1;have e:ixN xs.length (j:Int)=some j:=by
  unfold ixN;rw[if_pos (by omega),if_pos (by omega)];simp
 unfold atI;rw[e];exact h
def _qi8(b:Expr):Prop:=∀o i,Ks b false o i=operate [o,i] (Mg o i)
def IxR(X:Cx) (r:R2):Prop:=
 ∀(value slice:Expr) (pins:List (Addr×Obj)) (s:Shared) (σ:St) (H:Hp) (x y:V) (v u:Value) (Q:VK),Inv X pins σ H s->_qwm x v->_qwm y u->r x y H Q->
  Ks slice false v u=operate [v,u] (Mg v u)->wpAny (model X.prog X.w) X.A (Jg value slice v u) (EP X pins σ Q) X.xe s
def MtR(X:Cx) (id:String) (r:V->List V->Hp->VK->Prop):Prop:=
 ∀(pins:List (Addr×Obj)) (s:Shared) (σ:St) (H:Hp) (x:V) (xs:List V) (v:Value) (us:List Value) (Q:VK),Inv X pins σ H s->_qwm x v->_qwi xs us->r x xs H Q->
  wpAny (model X.prog X.w) X.A (call (.builtin id) (v::us)) (EP X pins σ Q) X.xe s
section
variable{X:Cx}{a b:Expr}{ta tb:TE}{pos:Pos}
theorem IxR.or{r r':R2}(h:IxR X r) (h':IxR X r'):IxR X (λx y H Q=>r x y H Q\/r' x y H Q):=by
 intro value slice pins s σ H x y v u Q I rx ry q hs;rcases q with q|q
 ·exact h value slice pins s σ H x y v u Q I rx ry q hs
 ·exact h' value slice pins s σ H x y v u Q I rx ry q hs
theorem MtR.or{id:String}{r r':V->List V->Hp->VK->Prop}(h:MtR X id r) (h':MtR X id r'):MtR X id (λx xs H Q=>r x xs H Q\/r' x xs H Q):=by
 intro pins s σ H x xs v us Q I rx rs q;rcases q with q|q
 ·exact h pins s σ H x xs v us Q I rx rs q
 ·exact h' pins s σ H x xs v us Q I rx rs q
theorem _Jm{r:R2}(hr:IxR X r) (ha:PE X a ta) (hb:PE X b tb) (hs:_qi8 b):PE X (.Subscript a b pos) (tOp r ta tb):=by
 intro pins s σ H Q I h;exact Lx (binT ha hb I h λv u s2 x y H2 I2 rx ry q=>hr a b pins s2 σ H2 x y v u Q I2 rx ry q (hs _ _))
def rIxL(K:Frag):R2:=λx y H Q=>∃p xs i v,x=.ref p/\y=.int i/\SqL K H p xs/\atI xs i=some v/\Q v H
def rIxT(K:Frag):R2:=λx y H Q=>∃p xs i v,x=.ref p/\y=.int i/\SqT K H p xs/\atI xs i=some v/\Q v H
def rIxS:R2:=λx y H Q=>∃z i c,x=.str z/\y=.int i/\z.length<=Aj/\atI z.cps.toList i=some c/\Q (.str ⟨#[c]⟩) H
theorem _Wo:IxR X (rIxL X.K):=by
 intro value slice pins s σ H x y v u Q I rx ry h hs;obtain⟨p,xs,i,z,rfl,rfl,hq,he,q⟩:=h;cases rx;obtain⟨t,rfl⟩:=ry;obtain⟨its,r,pl,hz⟩:=I.list hq;obtain⟨j,h1,h2,h3,h4,h5⟩:=_qe8 he;obtain⟨w,ew,rw'⟩:=r.get h2;have hl:=r.length;have hn:=_qch;have fin:EP X pins σ Q w s:=⟨z,H,I,rw',q⟩
 by_cases h0:0<=i
 ·have hj:i.toNat=j:=by
   rw[M6 h0 h5]at h1;exact Option.some.inj h1
  exact item_listR pl.isList h0 (by omega) (by rw[hj];simpa using ew) fin hs
 ·have hj:(i+(its.toArray.size:Int)).toNat=j:=by
   rw[Mh (by omega) h4]at h1;rw[size_toArray,<-hl];exact Option.some.inj h1
  exact Jx (x:=w) pl.isList.typeIs slot_list_getitem.lookup
   (wpAny_getItem_list_neg (Q:=λr s'=>r=w/\EP X pins σ Q r s') pl.isList (by omega) (by rw[size_toArray]<;>omega) (by omega) (by rw[hj];simpa using ew) ⟨rfl,fin⟩) hs
theorem _Yz:IxR X (rIxT X.K):=by
 intro value slice pins s σ H x y v u Q I rx ry h hs;obtain⟨p,xs,i,z,rfl,rfl,hq,he,q⟩:=h;cases rx;obtain⟨t,rfl⟩:=ry;obtain⟨its,r,pl,hz⟩:=I.tuple hq;obtain⟨j,h1,h2,h3,h4,h5⟩:=_qe8 he;obtain⟨w,ew,rw'⟩:=r.get h2;have hl:=r.length;have hn:=_qch;have fin:EP X pins σ Q w s:=⟨z,H,I,rw',q⟩;exact Jx (x:=w) pl.typeIs slot_tuple_getitem.lookup
  (getItem_tuple (j:=j) (Q:=λr s'=>r=w/\EP X pins σ Q r s') pl (by omega) (by omega) (by rw[size_toArray,<-hl];exact h1) (by simpa using ew) ⟨rfl,fin⟩) hs
theorem _qki:IxR X rIxS:=by
 intro value slice pins s σ H x y v u Q I rx ry h hs;obtain⟨z,i,c,rfl,rfl,hz,he,q⟩:=h;obtain⟨t,rfl⟩:=rx;obtain⟨t',rfl⟩:=ry;obtain⟨j,h1,h2,h3,h4,h5⟩:=_qe8 he;have hl:z.cps.toList.length=z.length:=by simp[Str.length]
 rw[hl]at h1 h4 h5;have hn:=_qch;exact tail_any (Lz s z t) slot_str_getitem.lookup (getItem_str (c:=c) (by
  have e1:decide (i< -(2^63:Int))=false:=decide_eq_false (by omega);have e2:decide (i≥2^63)=false:=decide_eq_false (by omega);rw[e1,e2,Lk]) (by rw[h1];simpa using h2) ⟨.str ⟨#[c]⟩,H,I.tok _,⟨_,rfl⟩,q⟩) hs
theorem _qcb(its:List Value) (n j:Nat) (u:Value):Bi (·.setIfInBounds j u) {cls:=.type "list",data:=.seq its.toArray n}={cls:=.type "list",data:=.seq (its.set j u).toArray n}:=by
 simp[Bi]
theorem Inv.lst{pins:List (Addr×Obj)}{σ:St}{H:Hp}{s:Shared}{p:Addr}{xs:List V}(I:Inv X pins σ H s) (h:H p=some (.lst xs)):
  ∃(its:List Value) (n:Nat),_qwi xs its/\s.heap.get? p=some {cls:=.type "list",data:=.seq its.toArray n}/\xs.length<=Aj:=by
 obtain⟨z,its,n,r,e⟩:=I.hok p _ h;exact⟨its,n,r,e,z⟩
theorem Inv.lstUpd{pins:List (Addr×Obj)}{σ:St}{H:Hp}{s:Shared}{p:Addr}{xs ys:List V}{its its':List Value}{n n':Nat}{f:Obj->Obj}(I:Inv X pins σ H s) (h:H p=some (.lst xs))
  (ho:s.heap.get? p=some {cls:=.type "list",data:=.seq its.toArray n}) (hf:f {cls:=.type "list",data:=.seq its.toArray n}={cls:=.type "list",data:=.seq its'.toArray n'}) (r:_qwi ys its') (hz:ys.length<=Aj) (t:Nat):
  Inv X pins σ (upd H p (.lst ys)) {s with heap:=s.heap.update p f,toks:=t}:=by
 have e:(s.heap.update p f).get? p=some {cls:=.type "list",data:=.seq its'.toArray n'}:=by
  rw[Bh f ho (by rw[hf]<;>rfl),hf]
 refine I.write (x:=p) (e:=p) (by rw[h];trivial) (.inl rfl) (λb u hb q=>(Av _ _ (Bz hb)).trans q) ⟨_,e⟩ ?_;exact⟨hz,its',n',r,e⟩
def rSetL:V->V->V->Hp->(Hp->Prop)->Prop:=λo i v H Q=>∃p xs k j,o=.ref p/\i=.int k/\H p=some (.lst xs)/\ixN xs.length k=some j/\Q (upd H p (.lst (xs.set j v)))
theorem _qin:PSet X rSetL:=by
 intro pins s σ H o i v ov iv u Q I ro ri rv h;obtain⟨p,xs,k,j,rfl,rfl,hp,hj,q⟩:=h;cases ro;obtain⟨t,rfl⟩:=ri;obtain⟨its,n,r,ho,hz⟩:=I.lst hp;obtain⟨h1,h2,h3,h4⟩:=_qcs hj;have hl:=r.length;have hn:=_qch;have I':Inv X pins σ (upd H p (.lst (xs.set j v))) {s with heap:=s.heap.update p (Bi (·.setIfInBounds j u)) }:=
  I.lstUpd hp ho (_qcb its n j u) (r.set rv j) (by rw[List.length_set];exact hz) s.toks
 by_cases h0:0<=k
 ·have hk:k.toNat=j:=by
   rw[M6 h0 h4]at h1;exact Option.some.inj h1
  exact PySem.W.ki_setAt ho h0 (by omega) (by rw[size_toArray,<-hl];exact h4) (by rw[hk];exact⟨_,I',q⟩)
 ·have hk:(k+(its.toArray.size:Int)).toNat=j:=by
   rw[Mh (by omega) h3]at h1;rw[size_toArray,<-hl];exact Option.some.inj h1
  exact PySem.W.ki_setBack ho (by omega) (by rw[size_toArray,<-hl];exact h3) (by omega) (by rw[hk];exact⟨_,I',q⟩)
theorem _u:_Qg X (.builtin "len") (λxs H Q=>∃p ys,xs=[.ref p]/\(SqL X.K H p ys\/SqT X.K H p ys)/\Q (.int ys.length) H):=by
 intro pins s σ H xs us Q I r h;obtain⟨p,ys,rfl,hq,q⟩:=h;obtain⟨u,rfl,rx⟩:=_qm2 r;cases rx;have hn:=_qch;rcases hq with hq|hq
 ·obtain⟨its,r',pl,hz⟩:=I.list hq
  have hlen:=r'.length;exact Calls.call_len_list pl.isList (by simp only[size_toArray]<;>omega) ⟨.int ys.length,H,I.tok _,⟨s.toks+1,by rw[size_toArray,hlen]⟩,q⟩
 ·obtain⟨its,r',pl,hz⟩:=I.tuple hq
  have hlen:=r'.length;exact len_tuple pl (by simp only[size_toArray]<;>omega) ⟨.int ys.length,H,I.tok _,⟨s.toks+1,by rw[size_toArray,hlen]⟩,q⟩
theorem _Qg.or{f:Value}{r r':List V->Hp->VK->Prop}(h:_Qg X f r) (h':_Qg X f r'):_Qg X f (λxs H Q=>r xs H Q\/r' xs H Q):=by
 intro pins s σ H xs us Q I rs q;rcases q with q|q
 ·exact h pins s σ H xs us Q I rs q
 ·exact h' pins s σ H xs us Q I rs q
theorem _xi:_Qg X (.type "list") (λxs H Q=>∃p ys,xs=[.ref p]/\(SqL X.K H p ys\/SqT X.K H p ys)/\∀l,H l=none->Q (.ref l) (upd H l (.lst ys))):=by
 intro pins s σ H xs us Q I r h;obtain⟨p,ys,rfl,hq,q⟩:=h;obtain⟨u,rfl,rx⟩:=_qm2 r;cases rx;have fin:∀(its:List Value),_qwi ys its->ys.length<=Aj->∀(h':Heap) (c':Nat),(∀b o',s.heap.get? b=some o'->h'.get? b=some o')->
   h'.get? s.heap.objs.size=some {cls:=.type "list",dict:=none,data:=.seq its.toArray c',slots:=#[] }->EP X pins σ Q (.ref s.heap.objs.size) {s with heap:=h'}:=λits r' hz h' c' kp e=>
  ⟨.ref s.heap.objs.size,_,I.laid (t':=s.toks) kp (le_refl _) (show _z5 X.prog X.w _ h' _ (.lst ys)from⟨hz,its,c',r',e⟩),rfl,q _ (I.hok.fresh (le_refl _))⟩
 rcases hq with hq|hq
 ·obtain⟨its,r',pl,hz⟩:=I.list hq
  have hlen:=r'.length;obtain⟨o,ho,hc,n,hd⟩:=pl.isList;exact call_list_seq p (.inl rfl) ho hc hd (λh' c' kp e=>fin its r' hz h' c' kp e) (by simp only[size_toArray]<;>omega)
 ·obtain⟨its,r',pl,hz⟩:=I.tuple hq
  have hlen:=r'.length;obtain⟨o,ho,hc,n,hd⟩:=pl;exact call_list_seq p (.inr rfl) ho hc hd (λh' c' kp e=>fin its r' hz h' c' kp e) (by simp only[size_toArray]<;>omega)
theorem _ql:_Qg X (.type "tuple") (λxs H Q=>∃p ys,xs=[.ref p]/\((SqL X.K H p ys/\∀l,H l=none->Q (.ref l) (upd H l (.tup ys)))\/(SqT X.K H p ys/\Q (.ref p) H))):=by
 intro pins s σ H xs us Q I r h;obtain⟨p,ys,rfl,h⟩:=h;obtain⟨u,rfl,rx⟩:=_qm2 r;cases rx;rcases h with⟨hq,q⟩|⟨hq,q⟩
 ·obtain⟨its,r',pl,hz⟩:=I.list hq
  have hlen:=r'.length;refine call_tuple_list pl.isList (λh' kp=>?_) (by simp only[size_toArray]<;>omega);have I1:Inv X pins σ H {s with heap:=h'}:=I.kept (t':=s.toks) kp;have I2:Inv X pins σ (upd H h'.objs.size (.tup ys)) {s with heap:=h'.push {cls:=.type "tuple",data:=.seq its.toArray} }:=
   I1.laid (t':=s.toks) (λb o e=>Ae _ e) (le_refl _) (show _z5 X.prog X.w _ _ _ (.tup ys)from⟨hz,its,r',IsTup.new _ _⟩)
  exact⟨.ref h'.objs.size,_,I2,rfl,q _ (I1.hok.fresh (le_refl _))⟩
 ·obtain⟨its,r',pl,hz⟩:=I.tuple hq
  exact call_tuple_same pl ⟨.ref p,H,I,rfl,q⟩
def tyV(K:Frag) (T:String) (x:V) (H:Hp):Prop:=match x with
 | .str _=>T="str"
 | .int _=>T="int"
 | .ref p=>(T="list"/\∃xs,SqL K H p xs)\/(T="tuple"/\∃o,K.lookup p=some o/\o.cls=.type "tuple"/\o.dict=none)\/
   (T="dict"/\((∃kvs,H p=some (.dK kvs))\/ ∃kvs,H p=some (.dT kvs)))\/(T="set"/\∃S n,H p=some (.set S n))
 |_=>False
theorem _qq3{pins:List (Addr×Obj)}{σ:St}{H:Hp}{s:Shared}{T:String}{x:V}{v:Value}(I:Inv X pins σ H s) (r:_qwm x v) (ty:tyV X.K T x H):
  s.TypeIs v T/\∀a,v=.ref a->∃ob,s.heap.get? a=some ob/\ob.dict=none:=by
 cases x with
 |str z=>
  obtain⟨t,rfl⟩:=r;cases(show T="str"from ty);exact⟨Lz s z t,λ_ e=>nomatch e⟩
 |int i=>
  obtain⟨t,rfl⟩:=r;cases(show T="int"from ty);exact⟨typeIs_int s i t,λ_ e=>nomatch e⟩
 |ref p=>
  cases r;rcases ty with⟨rfl,xs,hq⟩|⟨rfl,o,hk,hc,hd⟩|⟨rfl,hk⟩|⟨rfl,S,n,hk⟩
  ·obtain⟨its,_,pl,_⟩:=I.list hq
   refine⟨pl.isList.typeIs,λa e=>?_⟩;cases e;obtain⟨o,n,e,c,hd,_⟩:=pl;exact⟨o,e,hd⟩
  ·refine⟨⟨o,I.kIn p o hk,hc⟩,λa e=>?_⟩
   cases e;exact⟨o,I.kIn _ o hk,hd⟩
  ·have z:∃o,s.heap.get? p=some o/\o.ExactDict:=by
    rcases hk with⟨kvs,hk⟩|⟨kvs,hk⟩
    ·obtain⟨_,_,_,_,o,_,_,e,ex,_⟩:=I.hok p _ hk
     exact⟨o,e,ex⟩
    ·obtain⟨_,_,_,_,o,_,_,e,ex,_⟩:=I.hok p _ hk
     exact⟨o,e,ex⟩
   obtain⟨o,e,ex⟩:=z;refine⟨⟨o,e,ex.1⟩,λa e2=>?_⟩;cases e2;exact⟨o,e,ex.2.1⟩
  ·obtain⟨o,_,_,_,e,ex,_⟩:=I.hok p _ hk
   refine⟨⟨o,e,ex.1⟩,λa e2=>?_⟩;cases e2;exact⟨o,e,ex.2.1⟩
 |_=>exact A5 ty
def tBM(K:Frag) (T:String) (r:V->List V->Hp->VK->Prop) (to:TE) (t:TA):TE:=λσ H Q=>to σ H λx H1=>tyV K T x H1/\t σ H1 λxs H2=>r x xs H2 Q
variable{o e:Expr}{es:List Expr}{to:TE}{t:TA}{name:Str}{apos cpos:Pos}{T id:String}{r:V->List V->Hp->VK->Prop}
theorem _qjh(pa:PlainAttrs T) (slot:Slot T name id) (hty:typeOf (.builtin id)=pure (.type "method_descriptor")) (hm:MtR X id r) (ho:PE X o to) (ha:PA X (e::es) t)
  (hbase:Ep o name X.env (eval o X.env)=eval o X.env:=by rfl)
  (hfew:((Dg cpos (Aq (e::es) X.env)).all (λx=>!x.1)&&(Mf cpos (Iu [] X.env)).all (λx=>x.1.isSome)
   &&decide ((e::es).length+([]:List K9).length+(if([]:List K9).isEmpty then 0 else 1)<30))=true:=by rfl)
  (hline:(apos.endLine==cpos.line)=true:=by rfl) (hs:Aq (e::es) X.env=(false,eval e X.env)::Aq es X.env:=by rfl) (hplain:(Dg cpos (Aq es X.env)).any (·.1)=false:=by rfl):
  PE X (.Call (.Attribute o name apos) (e::es) [] cpos) (tBM X.K T r to t):=by
 intro pins s σ H Q I h;refine wpAny_Call_method_late hbase hfew hline rfl (thn (ho pins s σ H _ I h) λv s1 hQ=>?_);obtain⟨x,H1,I1,r1,ty,q1⟩:=hQ;obtain⟨h1,h2⟩:=_qq3 I1 r1 ty;refine⟨T,id,pa,slot,hty,h1,h2,?_⟩;have hA:=ha cpos pins s1 σ H1 _ I1 q1;rw[hs]at hA⊢;refine Ef (by show(false||(Dg cpos (Aq es X.env)).any (·.1))=false;rw[hplain]<;>rfl) (G5 ?_);exact thn hA λus s2 ⟨vs,H2,I2,r2,q2⟩=>hm pins s2 σ H2 x vs v us Q I2 r1 r2 q2
end
def MtM(X:Cx) (id:String) (r:V->List V->Hp->VK->Prop):Prop:=
 ∀(pins:List (Addr×Obj)) (s:Shared) (σ:St) (H:Hp) (x:V) (xs:List V) (v:Value) (us:List Value) (Q:VK),Inv X pins σ H s->_qwm x v->_qwi xs us->r x xs H Q->
  wpAny (model X.prog X.w) X.A (call (.builtin id) (v::us)) (EP X pins σ Q) X.xe s
theorem _qwi.one:∀{x:V}{us:List Value},_qwi [x] us->∃u,us=[u]/\_qwm x u
 |_,_,.cons r .nil=>⟨_,rfl,r⟩
theorem _qwi.eraseIdx:∀{xs:List V}{us:List Value}(i:Nat),_qwi xs us->_qwi (xs.eraseIdx i) (us.eraseIdx i)
 |_,_,_,.nil=>.nil
 |_,_,0,.cons _ t=>t
 |_,_,i+1,.cons r t=>.cons r (_qwi.eraseIdx i t)
theorem _qwi.reverse{xs:List V}{us:List Value}(h:_qwi xs us):_qwi xs.reverse us.reverse:=by
 induction h with
 |nil=>exact .nil
 |cons r t ih=>rw[Iw,Iw];exact _qwi.append ih (.cons r .nil)
theorem _qwi.rep{xs:List V}{us:List Value}(h:_qwi xs us):∀k:Nat,_qwi (Dh k xs).flatten (Dh k us).flatten
 |0=>.nil
 |k+1=>by
  rw[Hk,Hk,List.flatten_cons,List.flatten_cons];exact _qwi.append h (_qwi.rep h k)
section
variable{X:Cx}{pins:List (Addr×Obj)}{σ:St}{H:Hp}{s:Shared}{l b:Addr}{xs ys zs:List V}
theorem Inv.lset{its its':List Value}{n:Nat}{f:Array Value->Array Value}{t':Nat}(I:Inv X pins σ H s) (hH:H l=some (.lst xs))
  (e:s.heap.get? l=some {cls:=.type "list",data:=.seq its.toArray n}) (hf:f its.toArray=its'.toArray) (hv:_qwi ys its') (hz:ys.length<=Aj):
  Inv X pins σ (upd H l (.lst ys)) {s with heap:=s.heap.update l (Bi f),toks:=t'}:=by
 have q:=PySem.IsL.update e f;rw[hf]at q;refine I.write (x:=l) (e:=l) (by rw[hH];exact trivial) (.inl rfl) (λb' u hb hu=>(Av s.heap (Bi f) (Bz hb)).trans hu) ⟨_,q⟩ ?_;exact⟨hz,its',_,hv,q⟩
theorem Inv.lnew{its:List Value}{t':Nat}(I:Inv X pins σ H s) (hv:_qwi ys its) (hz:ys.length<=Aj):
  Inv X pins σ (upd H s.heap.objs.size (.lst ys)) {s with heap:=s.heap.push {cls:=.type "list",data:=.seq its.toArray},toks:=t'}:=
 I.laid (λ_ _ q=>Ae _ q) (le_refl _) ⟨hz,its,0,hv,Ah _ rfl⟩
theorem Inv.fresh(I:Inv X pins σ H s):H s.heap.objs.size=none:=I.hok.fresh (le_refl _)
theorem Inv.lstM(I:Inv X pins σ H s) (hH:H l=some (.lst xs)):xs.length<=Aj/\∃(its:List Value) (n:Nat),_qwi xs its/\xs.length=its.length/\s.heap.get? l=some {cls:=.type "list",data:=.seq its.toArray n}:=by
 obtain⟨z,its,n,r,e⟩:=I.hok l _ hH;exact⟨z,its,n,r,r.length,e⟩
theorem notLongL{n:Nat}(h:n<=Aj):Fi n=false:=by
 unfold Fi;exact decide_eq_false (by omega)
end
section
variable{X:Cx}
def _qh9:V->List V->Hp->VK->Prop:=λx vs H Q=>∃l xs y,x=.ref l/\vs=[y]/\H l=some (.lst xs)/\xs.length<Aj/\Q .non (upd H l (.lst (xs++[y])))
theorem _zc:MtM X "list.append" _qh9:=by
 intro pins s σ H x vs v us Q I rx rv h;obtain⟨l,xs,y,rfl,rfl,hH,hz,q⟩:=h;cases rx;obtain⟨u,rfl,ru⟩:=rv.one;obtain⟨z,its,n,r,hl,e⟩:=I.lstM hH;refine call_meets F.slot_list_append ⟨_,e,rfl⟩ F.entry_list_append (F.args_list_append_2 _ _) (PySem.list_append l its.toArray n u (by rw[size_toArray];omega)) ⟨e,?_⟩;refine⟨.non,_,I.lset (its':=its++[u]) hH e (by simp) (r.append (.cons ru .nil)) ?_,rfl,q⟩;rw[length_append,Ki];omega
end
section
variable{prog:Ak}{w:World}{A:Around}{E:Value->Shared->Prop}{s:Shared}
end
section
variable{X:Cx}
end
end L2
namespace Att
open PySem PySem.W PySem.Calls PyProof.Rows
theorem ints_of_wellAll{P:Params}{h:Heap}:∀(ns:List Int) (vs:List Value),WellAll P h vs (ns.map WData.int)->IntsAre vs ns:=by
 intro ns
 induction ns with
 |nil=>
  intro vs w;rw[map_nil]at w;cases w;exact .nil
 |cons n ns ih=>
  intro vs w;rw[map_cons]at w;cases w with
  |cons a b=>
   cases a;exact .cons _ _ (ih _ b)
theorem script_of{l:OpenLaw}{n:Nat}(hn:l.most=some n){P:Params}{h:Heap}{args:List WData}{vals:List Value}
  (hpre:l.row.toRowW.claim.pre args=true) (hwl:WellAll P h vals args):
  ∃a vs ns,vals=[Value.ref a]/\args=[WData.list (ns.map WData.int)]/\h.get? a=some {cls:=.type "list",data:=.seq vs.toArray}/\IntsAre vs ns/\ns.length<=n:=by
 have hsh:WShape.hasAll [] args [.list .int]=true:=(pre_splitW hpre).1;have hc:l.pre.holds [] {args:=args}=true:=(pre_splitW hpre).2;obtain⟨d,r,rfl,h1,h2⟩:=hasAllW_cons hsh;obtain rfl:=hasAllW_nil h2;obtain⟨xs,rfl,h3⟩:=hasW_list h1;obtain⟨ns,rfl⟩:=items_int h3;have hlen:ns.length<=n:=by
  unfold OpenLaw.pre at hc;have h4:(WTm.not (.lt (.lit (.int (n:Int))) (.len (.arg 0)))).holds [] {args:=[.list (ns.map .int)] }=true:=by
   have h4:=(holds_andW hc).1;rw[hn]at h4;exact h4
  have h5:=condW_of h4 (w_not (w_lt w_lit (w_len_list (w_arg rfl))));rw[length_map]at h5;refine Nat.le_of_not_lt λq=>?_;have q':(n:Int)< ((ns.length:Nat):Int):=by omega
  first
   |(rw[decide_eq_true q']at h5;exact absurd h5 (by decide))
   |(simp at h5;omega)
 cases hwl with
 |cons w1 w2=>
  cases w2;cases w1 with
  |list ho hall=>exact⟨_,_,ns,rfl,rfl,ho,ints_of_wellAll ns _ hall,hlen⟩
theorem post_true(l:OpenLaw) (args:List WData):l.row.toRowW.claim.post args (.bool true) args=true:=
 postW_of (r:=l.row.toRowW) (X:=(true==true))
  (show WShape.has [] (.bool true) .bool=true by first|rfl|decide|simp[WShape.has,WShape.arms,WShape.armsAll])
  (show(WTm.eq .res (.lit (.bool true))).value [] {args:=args,res:=some (.bool true),after:=args}=some (.bool (true==true))from w_eq_bool (w_res rfl) w_lit) rfl
theorem attach_call{l:OpenLaw}{n:Nat}{q:Ak}{loose:List Str}{XP:(Str->Option Value)->Heap->Prop}{YP:World->Heap->Prop}{d:DefRec}
  (hn:l.most=some n) (hdf:d.params.defaults=[])
  (call:∀(w:World) (s₀ s₁:Shared) (mg mb:Str->Option Value) (fa:Addr) (o:Obj) (pm cd doc:Value) (a:Addr) (vs:List Value) (ns:List Int),
   Ground q loose [] XP w s₀ mg mb s₁.heap->YP w s₁.heap->
   s₁.heap.get? fa=some o->o.data=.func (docDef d.name d.params d.body d.scope pm cd doc)->s₁.heap.CodeRec cd d.name->mg d.name=some (.ref fa)->
   s₁.heap.get? a=some {cls:=.type "list",data:=.seq vs.toArray}->IntsAre vs ns->ns.length<=n->s₁.gens=#[]->
   D7 (model l.prog w) Hq (.call (.ref fa) ⟨[.ref a],[]⟩) (λr s'=>r=.ok (.ret (.bool true))/\OldK s₁.heap s'.heap/\s'.os=s₁.os/\Hn s'.gens) s₁):
  WalkO q loose XP YP l.row.toRowW d [] (λf vs=>PySem.call f vs):=by
 intro w s₀ s₁ mg mb G Y fa o pm cd doc dV kV ho hd hcd hD hmg hg args vals as hpre hlay hrd hwl hlo;obtain rfl:dV=.none:=Dflts.none hD hdf;obtain rfl:kV=.none:=Dflts.noKw hD;obtain⟨a,vs,ns,rfl,rfl,hobj,hints,hlen⟩:=script_of hn hpre hwl;refine enter_call (Cy (call w s₀ s₁ mg mb fa o pm cd doc a vs ns G Y ho (fd_plain hd) hcd hmg hobj hints hlen hg) λr s' hq=>?_);obtain⟨rfl,h2,h3,h4⟩:=hq;exact⟨.inl ⟨.bool true,.bool true,[],rfl,λ_=>rfl,.bool true,post_true l _,λ_=>⟨List.Pairwise.nil,λ_ hm=>(nomatch hm)⟩⟩,h2,h3,h4⟩
section
variable{prog:Ak}{w:World}{A:Around}{E:Value->Shared->Prop}{s:Shared}{K:Frag}
end
end Att
namespace L2
open PySem PySem.Spec PyProof.Rows
theorem _Q3:∀{vs:List Value}{ns:List Int},IntsAre vs ns->_qwi (ns.map V.int) vs
 |_,_,.nil=>.nil
 |_,_,.cons n t h=>.cons ⟨t,rfl⟩ (_Q3 h)
def Only(H:Hp):Prop:=∀b,H b=none\/ ∃o xs,H b=some (.frz o (.lst xs))
theorem law_call{P:Ak}{w:World}{K:Frag}{mg mb:Str->Option Value}{CX:CXT}{k:Nat}{fa a:Addr}{fd:Am}{x:Str}{sp:Sp}{s₁:Shared}{vs:List Value}{ns:List Int}
  (KX:K.In s₁.heap) (hns:s₁.heap.Ns Ar mg) (hb:s₁.heap.Ns Lu mb) (hbb:∀x:Str,x≠"__name__"->mb x=Be x) (hlim:s₁.heap.NoLimit) (hg:s₁.gens=#[])
  (ha:s₁.heap.get? a=some {cls:=.type "list",data:=.seq vs.toArray}) (hi:IntsAre vs ns) (hl:ns.length<=Aj) (hr:Room k Hq)
  (F:∀base:Heap,K.In base->base.Ns Ar mg->FnOk P w K mg base CX k fa fd [x] sp) (hbind:∀(s:Shared) (u:Value),Ir s fd ⟨[u],[]⟩ [(x,u)])
  (hsp:∀H:Hp,Only H->SqL K H a (ns.map V.int)->sp [.ref a] H (λv _=>v=.bl true) λ_ _ _=>False)
  (hCX:∀H e s',CX [] H s₁ (λ_ _ _=>False) e s'->False):
  D7 (model P w) Hq (.call (.ref fa) ⟨[.ref a],[]⟩) (λr s'=>r=.ok (.ret (.bool true))/\OldK s₁.heap s'.heap/\s'.os=s₁.os/\Hn s'.gens) s₁:=by
 have rv:=_Q3 hi;have lenV:=hi.length;have core:∀ H:Hp,Only H->SqL K H a (ns.map V.int)->HOk P w H s₁.heap->(∀ b,H b ≠ none->b=a)->(H a ≠ none->K.lookup a=none) ->
   D7 (model P w) Hq (.call (.ref fa) ⟨[.ref a],[]⟩) (λr s'=>r=.ok (.ret (.bool true))/\OldK s₁.heap s'.heap/\s'.os=s₁.os/\Hn s'.gens) s₁:=by
  intro H hO hS hok hA hK;have base_of:∀{b:Addr}{o:Obj},s₁.heap.get? b=some o->H b=none->(hidT s₁.heap H).get? b=some o:=λe n=>_qkp e n;have noA:∀{b:Addr}{o:Obj}{es:Array DictEntry}{ep:Nat},s₁.heap.get? b=some o->o.data=.dict es ep->H b=none:=fun{b o es ep} e d=>by
   cases q:H b with
   |none=>rfl
   |some u=>
    have e':b=a:=hA b (by rw[q];simp);subst e';rw[ha]at e;cases e;have d':Data.seq vs.toArray _=Data.dict es ep:=d;cases d'
  have nsK:∀{b:Addr}{m:Str->Option Value},s₁.heap.Ns b m->(hidT s₁.heap H).Ns b m:=fun{b m} ⟨o,es,ep,e,d,r⟩=>⟨o,es,ep,base_of e (noA e d),d,r⟩;have hKb:K.In (hidT s₁.heap H):=λb o e=>base_of (KX b o e) (by
   cases q:H b with
   |none=>rfl
   |some u=>
    have e':b=a:=hA b (by rw[q];simp);subst e';rw[hK (by rw[q];simp)]at e;cases e)
  have hM:Mod K mg (hidT s₁.heap H):=⟨hKb,nsK hns,⟨mb,nsK hb,hbb⟩,let⟨mc,h1,h2⟩:=hlim;⟨mc,nsK h1,h2⟩⟩;have e0:Env0 P w K mg (hidT s₁.heap H) Hq [] s₁ H:=⟨rfl,hM,λb o e=>_qnm e,Nat.le_of_eq (_qfz _ _),trivial,λb hb=>absurd (show b∈([]:List Addr)from hb) (by simp),hok,.of_eq hg⟩;refine Cy ((F _ hKb (nsK hns)).run Hq [] s₁ H ⟨[.ref a],[]⟩ [.ref a] [.ref a] _ _ hr e0 (hbind s₁ (.ref a)) (.cons rfl .nil) (hsp H hO hS)) λr s' h=>?_;cases r with
  |error e=>exact(hCX H e s' h).elim
  |ok fl=>
   cases fl with
   |next=>exact A5 h
   |brk=>exact A5 h
   |cont=>exact A5 h
   |ret u=>
    obtain⟨v,H',os,bare,un,hok',r',q⟩:=h;have q':v=.bl true:=q;subst q';obtain rfl:u=Value.bool true:=r';refine⟨rfl,OldK.of_keep λb o e=>?_,os,bare⟩;cases q:H b with
    |none=>exact un.keep b o e q (by intro z;exact absurd (show b∈([]:List Addr)from z) (by simp)) (by simp)
    |some u=>
     rcases hO b with z|⟨ob,xs,z⟩
     ·rw[q]at z;cases z
     ·have z2:=un.frzs b ob _ z
      obtain⟨e1,_⟩:=hok b _ z;obtain⟨e2,_⟩:=hok' b _ z2;rw[e]at e1;cases e1;exact e2
 cases hk:K.lookup a with
 |some o=>
  have e:=KX a o hk;rw[ha]at e;cases e;refine core (λ_=>none) (λ_=>.inl rfl) (.inr ⟨_,vs.toArray,_,hk,rfl,rfl,rfl,by rw[size_toArray,lenV];exact hl,by simpa using rv⟩) (λb u z=>by have z':(none:Option HO)=some u:=z;cases z') (λb z=>absurd rfl z) λz=>absurd rfl z
 |none=>
  refine core (λb=>if b=a then some (.frz {cls:=.type "list",data:=.seq vs.toArray} (.lst (ns.map V.int)))else none) (λb=>?_) (.inl (.inr ⟨{cls:=.type "list",data:=.seq vs.toArray},if_pos rfl⟩)) (λb u z=>?_) (λb z=>?_) λ_=>hk
  ·by_cases hb:b=a
   ·exact .inr ⟨_,_,if_pos hb⟩
   ·exact .inl (if_neg hb)
  ·by_cases hb:b=a
   ·have z':=(if_pos hb).symm.trans z
    cases z';subst hb;exact⟨ha,by rw[length_map];exact hl,vs,_,rv,ha⟩
   ·have z':=(if_neg hb).symm.trans z
    cases z'
  ·by_cases hb:b=a
   ·exact hb
   ·exact absurd (if_neg hb) z
theorem _qgo{l:Hd}{n k:Nat}{q:Ak}{loose:List Str}{XP:(Str->Option Value)->Heap->Prop}{YP:World->Heap->Prop}{d:DefRec}{K:Params->Frag}{CX:World->CXT}{sp:World->Sp}{x:Str}
  (hn:l.most=some n) (hn2:n<=Aj) (hdf:d.params.defaults=[]) (hr:Room k Hq)
  (hY:∀(w:World) (h:Heap),YP w h->(K w.params).In h)
  (F:∀(w:World) (mg:Str->Option Value) (fa:Addr) (h:Heap),(K w.params).In h->h.Ns Ar mg->mg d.name=some (.ref fa)->
   ∃fd:Am,(∀(s:Shared) (u:Value),Ir s fd ⟨[u],[]⟩ [(x,u)])/\
    ∀base:Heap,(K w.params).In base->base.Ns Ar mg->FnOk l.prog w (K w.params) mg base (CX w) k fa fd [x] (sp w))
  (hsp:∀(w:World) (H:Hp) (a:Addr) (ns:List Int),ns.length<=n->Only H->SqL (K w.params) H a (ns.map V.int)->sp w [.ref a] H (λv _=>v=.bl true) λ_ _ _=>False)
  (hCX:∀(w:World) (H:Hp) (s:Shared) (e:Value) (s':Shared),CX w [] H s (λ_ _ _=>False) e s'->False):
  Ll q loose XP YP l.row.toRowW d [] (λf vs=>PySem.call f vs):=by
 refine Att.attach_call hn hdf λw s₀ s₁ mg mb fa o pm cd doc a vs ns G Y ho hd hcd hmg hobj hints hlen hg=>?_;have KX:=hY w _ Y;obtain⟨fd,hb,hF⟩:=F w mg fa _ KX G.T.g hmg;exact law_call KX G.T.g G.T.b G.T.builtins G.T.nolimit hg hobj hints (le_trans hlen hn2) hr hF hb (λH hO hS=>hsp w H a ns hlen hO hS) λH e s'=>hCX w H s₁ e s'
def _x4(s:Stmt) (j:Nat):Stmt:=match s with
 | .ClassDef _ _ _ body _ _ _ _ _ _ _=>body.getD j (.Pass ⟨0,0,0,0⟩)
 |_=>.Pass ⟨0,0,0,0⟩
def _jd(s:Stmt):Arguments:=match s with
 | .FunctionDef _ a _ _ _ _ _ _ _ _=>a
 |_=>{posonlyargs:=[],args:=[],vararg:=none,kwonlyargs:=[],kw_defaults:=[],kwarg:=none,defaults:=[] }
def _q1(s:Stmt):List Stmt:=match s with
 | .FunctionDef _ _ b _ _ _ _ _ _ _=>b
 |_=>[]
def _e(s:Stmt):Scope:=match s with
 | .FunctionDef _ _ _ _ _ _ sc _ _ _=>sc
 |_=>{kind:=.function,names:=[],isGenerator:=false,isCoroutine:=false}
abbrev CX0:CXT:=λ_ _ _ _ _ _=>False
abbrev E0:XK:=λ_ _ _=>False
theorem _jf{X:Cx}:_Kp CX0 X E0:=λ_ _ _ _ _ _ _ h=>h.elim
structure Fun(K:Frag) (x qual:Str) (st:Stmt) (f:Addr) (fd:Am):Prop where
 ex:∃(oc:Value) (od:Option Addr) (kV doc pm:Value) (an:Option Addr) (cdv ct:Value) (osl:Array (Option Value)),
  fd=fnOf x qual (_jd st) (_q1 st) (_e st) .none kV doc pm an cdv ct/\K.lookup f=some ⟨oc,od,.func fd,osl⟩/\My K cdv qual=true
 kp:Hb K (.ref f)=true
section
variable{P:Ak}{w:World}{K:Frag}{mg:Str->Option Value}{base:Heap}
theorem Fun.ok{x qual:Str}{st:Stmt}{f:Addr}{fd:Am}{N ps:List Str}{k:Nat}{sp:Sp}(F:Fun K x qual st f fd) (S:FnScope N ps (_e st)) (len:∀vs H Q E,sp vs H Q E->vs.length=ps.length)
  (hbody:∀(cdv:Value) (A:Around) (outer:List Env) (s:Shared) (H:Hp) (vs:List V) (Q:VK) (E:XK),Room k (A.deeper (Jv qual (_e st) s.heap.objs.size f cdv))->sp vs H Q E->
   ∃t,PSs (cxOf CX0 P w K mg base N qual (_e st) f cdv A outer s H E).nox (_q1 st) t/\t {nx:=λ_ H'=>Q .non H',rt:=Q} (start N vs) H):FnOk P w K mg base CX0 (k+1) f fd ps sp:=by
 obtain⟨oc,od,kV,doc,pm,an,cdv,ct,osl,rfl,lk,hcd⟩:=F.ex;refine fn_of lk hcd S len λA outer s H vs Q E hr hsp=>?_;obtain⟨t,h,q⟩:=hbody cdv A outer s H vs Q E hr hsp;exact⟨t,h.nox,q⟩
theorem Fun.binds{x qual:Str}{st:Stmt}{f:Addr}{fd:Am}{ps:List Str}(F:Fun K x qual st f fd)
  (h:∀(kV doc pm:Value) (an:Option Addr) (cdv ct:Value) (us:List Value),us.length=ps.length->Hz (fnOf x qual (_jd st) (_q1 st) (_e st) .none kV doc pm an cdv ct) ⟨us,[]⟩=pure (ps.zip us)):Binds K fd ps []:=by
 obtain⟨oc,od,kV,doc,pm,an,cdv,ct,osl,rfl,lk,hcd⟩:=F.ex;exact .all (h kV doc pm an cdv ct)
theorem _qkv{x qual:Str}{st:Stmt}{f:Addr}{oc:Value}{od an:Option Addr}{osl:Array (Option Value)}{kV doc pm cdv ct:Value}(l:K.lookup f=some ⟨oc,od,.func (fnOf x qual (_jd st) (_q1 st) (_e st) .none kV doc pm an cdv ct),osl⟩)
  (c:My K cdv qual=true) (k:Hb K (.ref f)=true):Fun K x qual st f (fnOf x qual (_jd st) (_q1 st) (_e st) .none kV doc pm an cdv ct):=⟨⟨oc,od,kV,doc,pm,an,cdv,ct,osl,rfl,l,c⟩,k⟩
end
theorem _Wu{A:Around}{k:Nat}(hr:Room k A):A.units+1<cLine:=lt_of_le_of_lt (Nat.add_le_add_left (by decide:1<=64) _) hr.units
section
variable{X:Cx}
theorem pv(i:Nat){x:Str}{pos:Pos}(hN:X.N[i]?=some x:=by rfl) (hv:Vis X.env.scope x:=by first|exact Or.inl rfl|exact Or.inr (Or.inl rfl)|exact Or.inr (Or.inr rfl)) (hd:(x==("__debug__":Str))=false:=by decide)
  (hcd:(x==("__classdict__":Str))=false:=by decide):PE X (.Name x pos) (_qv1 i):=_qqg hN hv hd hcd
end
theorem _qvp{A B:Prop}(h:B):if false=true then A else B:=by
 rw[if_neg Al];exact h
theorem _qvo{A B:Prop}(h:A):if true=true then A else B:=by
 rw[if_pos rfl];exact h
theorem ite2{c A B:Prop} [Decidable c] (h1:c->A) (h2:¬c->B):if c then A else B:=by
 by_cases h:c
 ·rw[if_pos h]
  exact h1 h
 ·rw[if_neg h]
  exact h2 h
def _qwk(H H':Hp):Prop:=∀b o,H b=some o->H' b=some o
theorem _qwk.refl(H:Hp):_qwk H H:=λ_ _ h=>h
theorem _qwk.trans{H H1 H2:Hp}(a:_qwk H H1) (b:_qwk H1 H2):_qwk H H2:=λc o h=>b c o (a c o h)
theorem _qwk.free{H H':Hp}(e:_qwk H H'){l:Addr}(h:H' l=Option.none):H l=Option.none:=by
 cases q:H l with
 |none=>rfl
 |some o=>
  rw[e l o q]at h;cases h
theorem _qwk.seq{K:Frag}{H H':Hp}{a:Addr}{xs:List V}(e:_qwk H H') (h:SqL K H a xs):SqL K H' a xs:=by
 rcases h with(h|⟨o,h⟩)|h
 ·exact .inl (.inl (e _ _ h))
 ·exact .inl (.inr ⟨o,e _ _ h⟩)
 ·exact .inr h
end L2
namespace DL
open PySem
inductive D where
 |non|bl (b:Bool)|int (i:Int)|str (x:Str)|lst (xs:List D)|tup (xs:List D)
inductive O where
 |sh (d:D)|lst (os:List O)|tup (os:List O)
mutual
def imm:D->Bool
 | .lst _=>false
 | .tup ds=>_qvs ds
 |_=>true
def _qvs:List D->Bool
 | []=>true
 |d::ds=>imm d&&_qvs ds
end
mutual
def oD:O->Option D
 | .sh d=>some d
 | .lst os=>(oDs os).map D.lst
 | .tup os=>(oDs os).map D.tup
def oDs:List O->Option (List D)
 | []=>some []
 |o::os=>(oD o).bind λd=>(oDs os).map λds=>d::ds
end
mutual
def oim:O->Bool
 | .sh d=>imm d
 | .lst os=>_qvh os
 | .tup os=>_qvh os
def _qvh:List O->Bool
 | []=>true
 |o::os=>oim o&&_qvh os
end
def ow(ds:List D):O:=.lst (ds.map O.sh)
abbrev Cs:=List (Option O)
abbrev _qwx:=List (Option D)
abbrev FE:=_qwx->Option D
abbrev FO:=_qwx->Option O
abbrev FT:=_qwx->Option Bool
abbrev FA:=_qwx->Option (List D)
abbrev FAO:=_qwx->Option (List O)
def _qwt:Nat:=100000
def _qvy(i:Nat):FE:=λρ=>(ρ[i]?).bind id
def fC(d:D):FE:=λ_=>some d
def f2(g:D->D->Option D) (a b:FE):FE:=λρ=>(a ρ).bind λx=>(b ρ).bind λy=>g x y
def f1(g:D->Option D) (a:FE):FE:=λρ=>(a ρ).bind g
def fL(f:FO):FE:=λρ=>(f ρ).bind oD
def oE(f:FE):FO:=λρ=>(f ρ).map O.sh
def qV(f:FE):FT:=λρ=>(f ρ).bind λd=>match d with| .bl b=>some b|_=>none
def qNot(f:FT):FT:=λρ=>(f ρ).map not
def qAnd(f g:FT):FT:=λρ=>(f ρ).bind λx=>if x=true then g ρ else some false
def qOr(f g:FT):FT:=λρ=>(f ρ).bind λx=>if x=true then some true else g ρ
def fB(f:FT):FE:=λρ=>(f ρ).map D.bl
def fNot(f:FE):FE:=fB (qNot (qV f))
def fAnd(f g:FE):FE:=λρ=>(qV f ρ).bind λx=>if x=true then g ρ else some (.bl false)
def fOr(f g:FE):FE:=λρ=>(qV f ρ).bind λx=>if x=true then some (.bl true)else g ρ
def fIf(c:FT) (f g:FE):FE:=λρ=>(c ρ).bind λx=>if x=true then f ρ else g ρ
def _qwg:FA:=λ_=>some []
def _k(f:FE) (g:FA):FA:=λρ=>(f ρ).bind λd=>(g ρ).map λds=>d::ds
def aoNil:FAO:=λ_=>some []
def _qa0(f:FO) (g:FAO):FAO:=λρ=>(f ρ).bind λd=>(g ρ).map λds=>d::ds
def _qvz(g:FA):FE:=λρ=>(g ρ).bind λds=>if ds.length<=_qwt then some (.tup ds)else none
def _qvj(g:FA):FO:=λρ=>(g ρ).bind λds=>if ds.length<=_qwt then some (ow ds)else none
def oLstO(g:FAO):FO:=λρ=>(g ρ).bind λos=>if os.length<=_qwt then some (.lst os)else none
def oTupO(g:FAO):FO:=λρ=>(g ρ).bind λos=>if os.length<=_qwt then some (.tup os)else none
def _qu(n:Nat) (g:List D->Option D) (f:FA):FE:=λρ=>(f ρ).bind λds=>if ds.length=n then g ds else none
def _Ys(n:Nat) (g:List D->Option O) (f:FA):FO:=λρ=>(f ρ).bind λds=>if ds.length=n then g ds else none
def _qw0(g:List D->Option D) (f:FA):FE:=λρ=>(f ρ).bind g
def _qvk(g:List D->Option (List D)) (f:FA):FO:=λρ=>((f ρ).bind g).map ow
def o2(g:D->D->Option (List D)) (a b:FE):FO:=λρ=>((a ρ).bind λx=>(b ρ).bind λy=>g x y).map ow
abbrev GE:=D->_qwx->Option _qwx
def geN(i:Nat):GE:=λd ρ=>some (ρ.set i (some d))
def geT:List GE->List D->_qwx->Option _qwx
 | [],[],ρ=>some ρ
 |g::gs,d::ds,ρ=>(g d ρ).bind λρ'=>geT gs ds ρ'
 |_,_,_=>none
def _qvw(gs:List GE):GE:=λd ρ=>match d with
 | .tup ds=>geT gs ds ρ
 |_=>none
def mkD(js:List (Option Nat)) (ρ:_qwx):_qwx:=js.map λo=>o.bind λj=>(ρ[j]?).bind id
def _vn(g:GE) (c:FT) (e:FO):List D->_qwx->Option (List O)
 | [],_=>some []
 |d::ds,ρ=>(g d ρ).bind λρ1=>(c ρ1).bind λb=>if b=true then(e ρ1).bind λy=>(_vn g c e ds ρ1).map λys=>y::ys else _vn g c e ds ρ1
def qT:FT:=λ_=>some true
def _Jr:D->Option (List D)
 | .lst ds=>some ds
 |_=>none
theorem _Ke{α:Type}(d:D) (k:List D->Option α):(_Jr d).bind k=match d with
 | .lst ds=>k ds
 |_=>none:=by cases d<;>rfl
def _xn(js:List (Option Nat)) (f:FE) (g:GE) (c:FT) (e:FO):FO:=λρ=>(f ρ).bind λd=>(_Jr d).bind λds=>if ds.length<=_qwt then(_vn g c e ds (mkD js ρ)).map O.lst else none
def _qd7(ds:List D):List D:=(Ap ds.length).zipWith (fun(i:Nat) d=>.tup [.int (i:Int),d]) ds
def _qc5(js:List (Option Nat)) (f:FE) (g:GE) (c:FT) (e:FO):FO:=λρ=>(f ρ).bind λd=>(_Jr d).bind λds=>if ds.length<=_qwt then(_vn g c e (_qd7 ds) (mkD js ρ)).map O.lst else none
inductive Out where
 |nx (ρ:Cs)|bk (ρ:Cs)|ct (ρ:Cs)|rt (o:O) (ρ:Cs)|ex (c:Str) (ρ:Cs)
abbrev Blk:=Cs->Option Out
def fzc:Option O->Option O
 |some o=>match oD o with|some d=>some (.sh d)|none=>some o
 |none=>none
def frz:List Bool->Cs->_qwx
 |b::S,c::ρ=>(if b=true then c.bind oD else none)::frz S ρ
 |_,_=>[]
def fz:List Bool->Cs->Cs
 |b::S,c::ρ=>(if b=true then fzc c else c)::fz S ρ
 |_,ρ=>ρ
def all(ρ:Cs):_qwx:=ρ.map λc=>c.bind oD
abbrev FM:=Cs->Option (O×Cs)
def mE(S:List Bool) (f:FE):FM:=λρ=>(f (frz S ρ)).map λd=>(.sh d,if imm d=true then ρ else fz S ρ)
def mO(S:List Bool) (f:FO):FM:=λρ=>(f (frz S ρ)).map λo=>(o,if oim o=true then ρ else fz S ρ)
def mMv(i:Nat):FM:=λρ=>((ρ[i]?).bind id).map λo=>(o,ρ.set i none)
def _qwc:Blk:=λρ=>some (.nx ρ)
def _qwa(b c:Blk):Blk:=λρ=>match b ρ with
 |some (.nx ρ')=>c ρ'
 |o=>o
def _qw9(i:Nat) (f:FM):Blk:=λρ=>(f ρ).map λp=>.nx (p.2.set i (some p.1))
def _qwb(f:FM):Blk:=λρ=>(f ρ).map λp=>.rt p.1 p.2
def bRetN:Blk:=λρ=>some (.rt (.sh .non) ρ)
def bExpr(f:FM):Blk:=λρ=>(f ρ).map λp=>.nx p.2
def bIf(c:FT) (a b:Blk):Blk:=λρ=>(c (DL.all ρ)).bind λt=>if t=true then a ρ else b ρ
def bPass:Blk:=λρ=>some (.nx ρ)
def bBrk:Blk:=λρ=>some (.bk ρ)
def bCnt:Blk:=λρ=>some (.ct ρ)
def bNever:Blk:=λ_=>none
abbrev GD:=D->Cs->Option Cs
def gN(i:Nat):GD:=λd ρ=>some (ρ.set i (some (.sh d)))
def gT:List GD->List D->Cs->Option Cs
 | [],[],ρ=>some ρ
 |g::gs,d::ds,ρ=>(g d ρ).bind λρ'=>gT gs ds ρ'
 |_,_,_=>none
def gTp(gs:List GD):GD:=λd ρ=>match d with
 | .tup ds=>gT gs ds ρ
 |_=>none
def _qvx(g:GD) (b:Blk):List D->Blk
 | [],ρ=>some (.nx ρ)
 |d::ds,ρ=>(g d ρ).bind λρ1=>match b ρ1 with
  |some (.nx ρ2)=>_qvx g b ds ρ2
  |some (.ct ρ2)=>_qvx g b ds ρ2
  |some (.bk ρ2)=>some (.nx ρ2)
  |o=>o
def _qwd(S:List Bool) (f:FE) (g:GD) (b:Blk):Blk:=λρ=>(f (frz S ρ)).bind λd=>(_Jr d).bind λds=>_qvx g b ds (fz S ρ)
def _Vx(c:FT) (b:Blk):Nat->Blk
 |0,_=>none
 |n+1,ρ=>(c (DL.all ρ)).bind λt=>if t=true then match b ρ with
   |some (.nx ρ2)=>_Vx c b n ρ2
   |some (.ct ρ2)=>_Vx c b n ρ2
   |some (.bk ρ2)=>some (.nx ρ2)
   |o=>o
  else some (.nx ρ)
theorem bind_some{α β:Type}{o:Option α}{f:α->Option β}{y:β}(h:o.bind f=some y):∃x,o=some x/\f x=some y:=by
 cases o with
 |none=>cases h
 |some x=>exact⟨x,rfl,h⟩
theorem map_some{α β:Type}{o:Option α}{f:α->β}{y:β}(h:o.map f=some y):∃x,o=some x/\f x=y:=by
 cases o with
 |none=>cases h
 |some x=>exact⟨x,rfl,Option.some.inj h⟩
theorem _vl{c:FT}{b:Blk}:∀{n m:Nat}{ρ:Cs}{o:Out},_Vx c b n ρ=some o->n<=m->_Vx c b m ρ=some o
 |0,_,_,_,h,_=>by cases h
 |n+1,0,_,_,_,h=>by omega
 |n+1,m+1,ρ,o,h,hl=>by
  unfold _Vx at h⊢;obtain⟨t,ht,h⟩:=bind_some h;rw[ht];show(if t=true then _ else _)=some o;split at h
  ·rename_i htt
   rw[if_pos htt];cases hb:b ρ with
   |none=>rw[hb]at h;cases h
   |some o1=>
    rw[hb]at h;cases o1 with
    |nx ρ2=>exact _vl h (by omega)
    |ct ρ2=>exact _vl h (by omega)
    |bk ρ2=>exact h
    |rt d ρ2=>exact h
    |ex d ρ2=>exact h
  ·rename_i htt
   rw[if_neg htt];exact h
open Classical in
noncomputable def _vq(c:FT) (b:Blk):Blk:=λρ=>if h:∃n o,_Vx c b n ρ=some o then _Vx c b (choose h) ρ else none
theorem _Yf{c:FT}{b:Blk}{n:Nat}{ρ:Cs}{o:Out}(h:_Vx c b n ρ=some o):_vq c b ρ=some o:=by
 have h':∃n o,_Vx c b n ρ=some o:=⟨n,o,h⟩;unfold _vq;rw[dif_pos h'];obtain⟨o',ho⟩:=Classical.choose_spec h';have e1:=_vl h (J8 n (Classical.choose h'));have e2:=_vl ho (Jk n (Classical.choose h'));rw[e1]at e2;cases e2;exact ho
theorem _Wh{c:FT}{b:Blk}{ρ:Cs}{o:Out}(h:_vq c b ρ=some o):∃n,_Vx c b n ρ=some o:=by
 unfold _vq at h;split at h
 ·exact⟨_,h⟩
 ·cases h
inductive Stp where
 |ix (i:Int)|fl (x:Str)
def ixP(n:Nat) (i:Int):Option Nat:=if 0<=i then(if i<n then some i.toNat else none)else if-(n:Int)<=i then some (i+n).toNat else none
def atP{α:Type}(xs:List α) (i:Int):Option α:=(ixP xs.length i).bind λj=>xs[j]?
def plc:O->Stp->Option Nat
 | .lst os,.ix i=>ixP os.length i
 | .tup os,.ix i=>ixP os.length i
 |_,_=>none
def kids:O->List O
 | .lst os=>os
 | .tup os=>os
 |_=>[]
def reset:O->List O->O
 | .lst _,os=>.lst os
 | .tup _,os=>.tup os
 |o,_=>o
def atO(g:O->Option O):List Stp->O->Option O
 | [],o=>g o
 |s::p,o=>(plc o s).bind λn=>((kids o)[n]?).bind λc=>(atO g p c).map λc'=>reset o ((kids o).set n c')
def _qvv:List Stp->O->Option O
 | [],o=>some o
 |s::p,o=>(plc o s).bind λn=>((kids o)[n]?).bind λc=>_qvv p c
abbrev FP:=_qwx->Option (List Stp)
def pNil:FP:=λ_=>some []
def gApp(o:O):O->Option O
 | .lst os=>if os.length<_qwt then some (.lst (os++[o]))else none
 |_=>none
def gSetI(i:Int) (o:O):O->Option O
 | .lst os=>(ixP os.length i).map λn=>.lst (os.set n o)
 |_=>none
def gExt(ds:List D):O->Option O
 | .lst os=>if os.length+ds.length<=_qwt then some (.lst (os++ds.map O.sh))else none
 |_=>none
def isL:O->Bool
 | .lst _=>true
 |_=>false
def bMut(i:Nat) (S:List Bool) (p:FP) (f:FM) (g:O->O->Option O):Blk:=λρ=>(p (frz S ρ)).bind λq=>((ρ[i]?).bind id).bind λc0=>(_qvv q c0).bind λm=>if isL m=true then
  (f ρ).bind λr=>((r.2[i]?).bind id).bind λc=>(atO (g r.1) q c).map λc'=>.nx (r.2.set i (some c'))else none
def bPut(i:Nat) (S:List Bool) (p:FP) (k:FE) (f:FM):Blk:=λρ=>(f ρ).bind λr=>(p (frz S r.2)).bind λq=>(k (frz S r.2)).bind λd=>((r.2[i]?).bind id).bind λc=>match d with
 | .int j=>(atO (gSetI j r.1) q c).map λc'=>.nx (r.2.set i (some c'))
 |_=>none
def bExt(i:Nat) (S:List Bool) (p:FP) (f:FE):Blk:=λρ=>(p (frz S ρ)).bind λq=>(f (frz S ρ)).bind λd=>((ρ[i]?).bind id).bind λc=>match d with
 | .lst ds=>if _qvs ds=true then(atO (gExt ds) q c).map λc'=>.nx (ρ.set i (some c'))else none
 |_=>none
def ini(m:Nat) (ds:List D):Cs:=ds.map (λd=>some (.sh d))++Dh (m-ds.length) none
def _qv7(m:Nat) (b:Blk):List D->Option O:=λds=>match b (ini m ds)with
 |some (.rt o _)=>some o
 |some (.nx _)=>some (.sh .non)
 |_=>none
def _qv9(m:Nat) (b:Blk):List D->Option D:=λds=>(_qv7 m b ds).bind oD
def BIG:Nat:=2^1000000
def BIGD:Nat:=2^9000
def SHORT:Nat:=2^63
def _qhm(i j:Int):Prop:=(i.natAbs<BIG/\j.natAbs<BIG)\/i.natAbs<SHORT\/j.natAbs<SHORT
instance(i j:Int):Decidable (_qhm i j):=inferInstanceAs (Decidable (_\/_\/_))
def dI(g:Int->Int->Int):D->D->Option D
 | .int i,.int j=>some (.int (g i j))
 |_,_=>none
def dB(g:Int->Int->Bool):D->D->Option D
 | .int i,.int j=>some (.bl (g i j))
 |_,_=>none
def dAdd:D->D->Option D
 | .int i,.int j=>some (.int (i+j))
 | .str x,.str y=>if x.length+y.length<=_qwt then some (.str (x++y))else none
 |_,_=>none
def dSub:D->D->Option D:=dI λi j=>i-j
def _qw2:D->D->Option D
 | .int i,.int j=>if _qhm i j then some (.int (i*j))else none
 |_,_=>none
def _qw5:D->D->Option D
 | .int i,.int j=>if j≠0/\j.natAbs<BIGD then some (.int (i.fdiv j))else none
 |_,_=>none
def dMod:D->D->Option D
 | .int i,.int j=>if j≠0 then some (.int (i.fmod j))else none
 |_,_=>none
def dNeg:D->Option D
 | .int i=>some (.int (-i))
 |_=>none
def dLt:D->D->Option D:=dB λi j=>decide (i<j)
def dLe:D->D->Option D:=dB λi j=>decide (i<=j)
def dGt:D->D->Option D:=dB λi j=>decide (j<i)
def dGe:D->D->Option D:=dB λi j=>decide (j<=i)
mutual
def eqD:D->D->Bool
 | .non,.non=>true
 | .bl a,.bl b=>a==b
 | .int i,.int j=>i==j
 | .bl a,.int j=>(if a=true then 1 else 0)==j
 | .int i,.bl b=>i==(if b=true then 1 else 0)
 | .str x,.str y=>x==y
 | .lst xs,.lst ys=>_qw1 xs ys
 | .tup xs,.tup ys=>_qw1 xs ys
 |_,_=>false
def _qw1:List D->List D->Bool
 | [],[]=>true
 |x::xs,y::ys=>eqD x y&&_qw1 xs ys
 |_,_=>false
end
mutual
def shp:Nat->D->Bool
 |_,.non=>true
 |_,.bl _=>true
 |_,.int _=>true
 |_,.str x=>x.cps.all (· <0x110000)
 |0,.lst _=>false
 |n+1,.lst xs=>_qv5 n xs
 |0,.tup _=>false
 |n+1,.tup xs=>_qv5 n xs
def _qv5:Nat->List D->Bool
 |_,[]=>true
 |n,x::xs=>shp n x&&_qv5 n xs
end
def dEq(x y:D):Option D:=if shp 20 x=true/\shp 20 y=true then some (.bl (eqD x y))else none
def dNe(x y:D):Option D:=if shp 20 x=true/\shp 20 y=true then some (.bl (!eqD x y))else none
def dIs:D->D->Option D
 | .bl a,.bl b=>some (.bl (a==b))
 |x,.non=>match x with| .non=>some (.bl true)|_=>some (.bl false)
 |_,_=>none
def _qw4:D->D->Option D
 | .bl a,.bl b=>some (.bl (a !=b))
 |x,.non=>match x with| .non=>some (.bl false)|_=>some (.bl true)
 |_,_=>none
def dIn:D->D->Option D
 |x,.lst ds=>if shp 20 x=true/\shp 20 (.lst ds)=true then some (.bl (ds.any λy=>eqD y x))else none
 |x,.tup ds=>if shp 20 x=true/\shp 20 (.tup ds)=true then some (.bl (ds.any λy=>eqD y x))else none
 |_,_=>none
def _Zf:D->D->Option D
 |x,.lst ds=>if shp 20 x=true/\shp 20 (.lst ds)=true then some (.bl (!ds.any λy=>eqD y x))else none
 |x,.tup ds=>if shp 20 x=true/\shp 20 (.tup ds)=true then some (.bl (!ds.any λy=>eqD y x))else none
 |_,_=>none
def dIx:D->D->Option D
 | .lst xs,.int i=>atP xs i
 | .tup xs,.int i=>atP xs i
 |_,_=>none
def _qw3:List D->Option D
 | [.lst xs]=>some (.int xs.length)
 | [.tup xs]=>some (.int xs.length)
 |_=>none
def dAbs:List D->Option D
 | [.int i]=>some (.int (if i<0 then-i else i))
 |_=>none
def dMax2:List D->Option D
 | [.int i,.int j]=>some (.int (if j>i then j else i))
 |_=>none
def dMin2:List D->Option D
 | [.int i,.int j]=>some (.int (if j<i then j else i))
 |_=>none
def tyD:D->String
 | .non=>"NoneType"
 | .bl _=>"bool"
 | .int _=>"int"
 | .str _=>"str"
 | .lst _=>"list"
 | .tup _=>"tuple"
def isT(d:D) (T:String):Bool:=tyD d==T||(tyD d=="bool"&&T=="int")
def _qvq(T:String):D->Option D
 |d=>some (.bl (isT d T))
def fIsi(T:String) (f:FE):FE:=λρ=>(f ρ).bind (_qvq T)
def _qw6:D->D->Option (List D)
 | .lst xs,.lst ys=>if xs.length+ys.length<=_qwt then some (xs++ys)else none
 |_,_=>none
def bndP(lo hi st:Option Int) (n:Nat):Int×Int×Int:=
 let step:=st.getD 1
 let clip (v:Option Int) (dflt:Int):Int:=match v with
  |none=>dflt
  |some i=>let i:=if i<0 then i+n else i;if step>0 then max 0 (min i n)else max (-1) (min i ((n:Int)-1))
 (clip lo (if step>0 then 0 else(n:Int)-1),clip hi (if step>0 then n else-1),step)
def rngP(start stop step:Int):List Nat:=
 let count : Int := if step > 0 then (if start < stop then (stop - start + step - 1) / step else 0)
                    else(if start>stop then(start-stop-step-1)/(-step)else 0)
 (Ap count.toNat).map fun(k:Nat)=>(start+step*(k:Int)).toNat
def _qls{α:Type}(xs:List α) (lo hi st:Option Int):List α:=(rngP (bndP lo hi st xs.length).1 (bndP lo hi st xs.length).2.1 (bndP lo hi st xs.length).2.2).filterMap (xs[·]?)
def sumD:List D->Int->Option Int
 | [],a=>some a
 | .int i::ds,a=>sumD ds (a+i)
 |_,_=>none
def dSum:List D->Option D
 | [.lst ds]=>(sumD ds 0).map D.int
 |_=>none
def _qgi:List D->Option (List Bool)
 | []=>some []
 | .bl b::ds=>(_qgi ds).map λr=>b::r
 |_=>none
def dAll:List D->Option D
 | [.lst ds]=>(_qgi ds).map λbs=>D.bl (bs.all id)
 |_=>none
def _qhs:List D->Option (List D)
 | [.lst ds]=>some ds
 | [.tup ds]=>some ds
 |_=>none
def dTuple:List D->Option D
 | [.lst ds]=>some (.tup ds)
 | [.tup ds]=>some (.tup ds)
 |_=>none
end DL
namespace DL
open PySem
section
variable{ρ:_qwx}{σ:Cs}{f g:FE}{a:FA}{p q:FT}{o:FO}
@[simp] theorem _qt8{i:Nat}:_qvy i ρ=(ρ[i]?).bind id:=rfl
@[simp] theorem fC_ap{d:D}:fC d ρ=some d:=rfl
@[simp] theorem f2_ap{o:D->D->Option D}:f2 o f g ρ=(f ρ).bind λx=>(g ρ).bind λy=>o x y:=rfl
@[simp] theorem f1_ap{o:D->Option D}:f1 o f ρ=(f ρ).bind o:=rfl
@[simp] theorem fL_ap:fL o ρ=(o ρ).bind oD:=rfl
@[simp] theorem oE_ap:oE f ρ=(f ρ).map O.sh:=rfl
@[simp] theorem qV_ap:qV f ρ=(f ρ).bind λd=>match d with| .bl b=>some b|_=>none:=rfl
@[simp] theorem qT_ap:qT ρ=some true:=rfl
@[simp] theorem _qsl:qNot p ρ=(p ρ).map not:=rfl
@[simp] theorem _qsm:qAnd p q ρ=(p ρ).bind λx=>if x=true then q ρ else some false:=rfl
@[simp] theorem _qtx:qOr p q ρ=(p ρ).bind λx=>if x=true then some true else q ρ:=rfl
@[simp] theorem fB_ap:fB p ρ=(p ρ).map D.bl:=rfl
@[simp] theorem _qta:fNot f ρ=((qV f ρ).map not).map D.bl:=rfl
@[simp] theorem _qtd:fAnd f g ρ=(qV f ρ).bind λx=>if x=true then g ρ else some (.bl false):=rfl
@[simp] theorem _qud:fOr f g ρ=(qV f ρ).bind λx=>if x=true then some (.bl true)else g ρ:=rfl
@[simp] theorem _que:fIf p f g ρ=(p ρ).bind λx=>if x=true then f ρ else g ρ:=rfl
@[simp] theorem _qtv:_qwg ρ=some []:=rfl
@[simp] theorem _qsg:_k f a ρ=(f ρ).bind λd=>(a ρ).map λds=>d::ds:=rfl
@[simp] theorem _qsb:aoNil ρ=some []:=rfl
@[simp] theorem _qq1{h:FAO}:_qa0 o h ρ=(o ρ).bind λd=>(h ρ).map λds=>d::ds:=rfl
@[simp] theorem _qt9:_qvz a ρ=(a ρ).bind λds=>if ds.length<=_qwt then some (.tup ds)else none:=rfl
@[simp] theorem _qsq:_qvj a ρ=(a ρ).bind λds=>if ds.length<=_qwt then some (ow ds)else none:=rfl
@[simp] theorem _qqw{h:FAO}:oLstO h ρ=(h ρ).bind λds=>if ds.length<=_qwt then some (.lst ds)else none:=rfl
@[simp] theorem _qqv{h:FAO}:oTupO h ρ=(h ρ).bind λds=>if ds.length<=_qwt then some (.tup ds)else none:=rfl
@[simp] theorem _qrq{n:Nat}{h:List D->Option D}:_qu n h a ρ=(a ρ).bind λds=>if ds.length=n then h ds else none:=rfl
@[simp] theorem _qqy{n:Nat}{h:List D->Option O}:_Ys n h a ρ=(a ρ).bind λds=>if ds.length=n then h ds else none:=rfl
@[simp] theorem _qtc{h:List D->Option D}:_qw0 h a ρ=(a ρ).bind h:=rfl
@[simp] theorem _qst{h:List D->Option (List D)}:_qvk h a ρ=((a ρ).bind h).map ow:=rfl
@[simp] theorem o2_ap{h:D->D->Option (List D)}:o2 h f g ρ=((f ρ).bind λx=>(g ρ).bind λy=>h x y).map ow:=rfl
@[simp] theorem _qtb{T:String}:fIsi T f ρ=(f ρ).bind (_qvq T):=rfl
@[simp] theorem _qrf{T:String}{i:Int}:_qvq T (.int i)=some (.bl (isT (.int i) T)):=rfl
@[simp] theorem _qsx{T:String}{i:Bool}:_qvq T (.bl i)=some (.bl (isT (.bl i) T)):=rfl
@[simp] theorem _qrc{T:String}{i:Str}:_qvq T (.str i)=some (.bl (isT (.str i) T)):=rfl
@[simp] theorem _qrd{T:String}:_qvq T .non=some (.bl (isT .non T)):=rfl
@[simp] theorem _qre{T:String}{i:List D}:_qvq T (.lst i)=some (.bl (isT (.lst i) T)):=rfl
@[simp] theorem _qrb{T:String}{i:List D}:_qvq T (.tup i)=some (.bl (isT (.tup i) T)):=rfl
@[simp] theorem mE_ap{S:List Bool}:mE S f σ=(f (frz S σ)).map λd=>(.sh d,if imm d=true then σ else fz S σ):=rfl
@[simp] theorem mO_ap{S:List Bool}:mO S o σ=(o (frz S σ)).map λo=>(o,if oim o=true then σ else fz S σ):=rfl
@[simp] theorem _qu2{i:Nat}:mMv i σ=((σ[i]?).bind id).map λo=>(o,σ.set i none):=rfl
@[simp] theorem _qtn{b c:Blk}:_qwa b c σ=(match b σ with|some (.nx ρ')=>c ρ'|o=>o):=rfl
@[simp] theorem _qtp:_qwc σ=some (.nx σ):=rfl
@[simp] theorem _qs8:bPass σ=some (.nx σ):=rfl
@[simp] theorem _qts:bBrk σ=some (.bk σ):=rfl
@[simp] theorem _qtr:bCnt σ=some (.ct σ):=rfl
@[simp] theorem _qtm{i:Nat}{m:FM}:_qw9 i m σ=(m σ).map λp=>.nx (p.2.set i (some p.1)):=rfl
@[simp] theorem _qto{m:FM}:_qwb m σ=(m σ).map λp=>.rt p.1 p.2:=rfl
@[simp] theorem _qs7:bRetN σ=some (.rt (.sh .non) σ):=rfl
@[simp] theorem _qs9{m:FM}:bExpr m σ=(m σ).map λp=>.nx p.2:=rfl
@[simp] theorem _qut{b c:Blk}:bIf p b c σ=(p (all σ)).bind λt=>if t=true then b σ else c σ:=rfl
@[simp] theorem _qt7{S:List Bool}:frz S []=[]:=by cases S<;>rfl
@[simp] theorem frz_t{S:List Bool}{c:Option O}:frz (true::S) (c::σ)=c.bind oD::frz S σ:=rfl
@[simp] theorem frz_f{S:List Bool}{c:Option O}:frz (false::S) (c::σ)=none::frz S σ:=rfl
@[simp] theorem _quc{S:List Bool}:fz S []=[]:=by cases S<;>rfl
@[simp] theorem _qt6:fz [] σ=σ:=by cases σ<;>rfl
@[simp] theorem fz_t{S:List Bool}{c:Option O}:fz (true::S) (c::σ)=fzc c::fz S σ:=rfl
@[simp] theorem fz_f{S:List Bool}{c:Option O}:fz (false::S) (c::σ)=c::fz S σ:=rfl
@[simp] theorem _qro:fzc none=none:=rfl
@[simp] theorem _qub{d:D}:fzc (some (.sh d))=some (.sh d):=by simp[fzc,oD]
@[simp] theorem _qtu:all []=[]:=rfl
@[simp] theorem all_cons{c:Option O}:all (c::σ)=c.bind oD::all σ:=rfl
@[simp] theorem oD_sh{d:D}:oD (.sh d)=some d:=by simp[oD]
@[simp] theorem _qss{ds:List D}:oDs (ds.map O.sh)=some ds:=by
 induction ds with
 |nil=>simp[oDs]
 |cons d ds ih=>simp[oDs,ih]
@[simp] theorem oD_ow{ds:List D}:oD (ow ds)=some (.lst ds):=by simp[ow,oD]
@[simp] theorem _qu1{os:List O}:oD (.lst os)=(oDs os).map D.lst:=by simp[oD]
@[simp] theorem _qu0{os:List O}:oD (.tup os)=(oDs os).map D.tup:=by simp[oD]
@[simp] theorem _qsr:oDs []=some []:=by simp[oDs]
@[simp] theorem _qqx{x:O}{xs:List O}:oDs (x::xs)=(oD x).bind λd=>(oDs xs).map λds=>d::ds:=by simp[oDs]
@[simp] theorem _qrn{ds:List D}:fzc (some (ow ds))=some (.sh (.lst ds)):=by simp[fzc]
@[simp] theorem _qt4{i:Int}:imm (.int i)=true:=by simp[imm]
@[simp] theorem _qua{i:Bool}:imm (.bl i)=true:=by simp[imm]
@[simp] theorem _qt0{i:Str}:imm (.str i)=true:=by simp[imm]
@[simp] theorem _qt2:imm .non=true:=by simp[imm]
@[simp] theorem _qt3{ds:List D}:imm (.lst ds)=false:=by simp[imm]
@[simp] theorem _qsz{ds:List D}:imm (.tup ds)=_qvs ds:=by simp[imm]
@[simp] theorem _qrh:_qvs []=true:=by simp[_qvs]
@[simp] theorem _qpr{d:D}{ds:List D}:_qvs (d::ds)=(imm d&&_qvs ds):=by simp[_qvs]
@[simp] theorem _qpq{ns:List Int}:_qvs (ns.map D.int)=true:=by
 induction ns with
 |nil=>simp
 |cons n ns ih=>simp[ih]
theorem _qcx{ds:List D}:_qvs ds=true↔ ∀d∈ds,imm d=true:=by
 induction ds with
 |nil=>simp
 |cons d ds ih=>simp[ih]
@[simp] theorem _qty{d:D}:oim (.sh d)=imm d:=by simp[oim]
@[simp] theorem _qsp{os:List O}:oim (.lst os)=_qvh os:=by simp[oim]
@[simp] theorem _qso{os:List O}:oim (.tup os)=_qvh os:=by simp[oim]
@[simp] theorem _qqt:_qvh []=true:=by simp[_qvh]
@[simp] theorem _qpm{x:O}{xs:List O}:_qvh (x::xs)=(oim x&&_qvh xs):=by simp[_qvh]
@[simp] theorem _qqu{ds:List D}:_qvh (ds.map O.sh)=_qvs ds:=by
 induction ds with
 |nil=>simp
 |cons d ds ih=>simp[ih]
@[simp] theorem _qtz{ds:List D}:oim (ow ds)=_qvs ds:=by simp[ow]
@[simp] theorem dI_ap{o:Int->Int->Int}{i j:Int}:dI o (.int i) (.int j)=some (.int (o i j)):=rfl
@[simp] theorem dB_ap{o:Int->Int->Bool}{i j:Int}:dB o (.int i) (.int j)=some (.bl (o i j)):=rfl
@[simp] theorem _qtl{i j:Int}:dAdd (.int i) (.int j)=some (.int (i+j)):=rfl
@[simp] theorem _qte{i j:Int}:dSub (.int i) (.int j)=some (.int (i-j)):=rfl
@[simp] theorem _qui{i j:Int}:dLt (.int i) (.int j)=some (.bl (decide (i<j))):=rfl
@[simp] theorem _qul{i j:Int}:dLe (.int i) (.int j)=some (.bl (decide (i<=j))):=rfl
@[simp] theorem _qun{i j:Int}:dGt (.int i) (.int j)=some (.bl (decide (j<i))):=rfl
@[simp] theorem _quo{i j:Int}:dGe (.int i) (.int j)=some (.bl (decide (j<=i))):=rfl
@[simp] theorem _qtf{i:Int}:dNeg (.int i)=some (.int (-i)):=rfl
theorem _q2{i j:Int}(h:i.natAbs<BIG) (h':j.natAbs<BIG):_qw2 (.int i) (.int j)=some (.int (i*j)):=by
 have:_qhm i j:=.inl ⟨h,h'⟩
 simp[_qw2,this]
theorem _qg9{i j:Int}(h:i.natAbs<2^63):_qw2 (.int i) (.int j)=some (.int (i*j)):=by
 have:_qhm i j:=.inr (.inl h)
 simp[_qw2,this]
theorem _qoy{i j:Int}(h:j.natAbs<2^63):_qw2 (.int i) (.int j)=some (.int (i*j)):=by
 have:_qhm i j:=.inr (.inr h)
 simp[_qw2,this]
theorem _qdg{i j:Int}(h:j≠0) (h':j.natAbs<BIGD):_qw5 (.int i) (.int j)=some (.int (i.fdiv j)):=by simp[_qw5,h,h']
theorem _qdf{i j:Int}(h:j≠0):dMod (.int i) (.int j)=some (.int (i.fmod j)):=by simp[dMod,h]
@[simp] theorem _quq{i j:Int}:dEq (.int i) (.int j)=some (.bl (i==j)):=by simp[dEq,shp,eqD]
@[simp] theorem _qug{i j:Int}:dNe (.int i) (.int j)=some (.bl (i !=j)):=by simp[dNe,shp,eqD,bne]
@[simp] theorem _qur{i j:Bool}:dEq (.bl i) (.bl j)=some (.bl (i==j)):=by simp[dEq,shp,eqD]
@[simp] theorem _quh{i j:Bool}:dNe (.bl i) (.bl j)=some (.bl (i !=j)):=by simp[dNe,shp,eqD,bne]
@[simp] theorem _qup{a b c d:Int}:dEq (.tup [.int a,.int b]) (.tup [.int c,.int d])=some (.bl (a==c&&b==d)):=by simp[dEq,shp,_qv5,eqD,_qw1]
@[simp] theorem _quf{a b c d:Int}:dNe (.tup [.int a,.int b]) (.tup [.int c,.int d])=some (.bl (!(a==c&&b==d))):=by simp[dNe,shp,_qv5,eqD,_qw1]
@[simp] theorem _qum{i j:Bool}:dIs (.bl i) (.bl j)=some (.bl (i==j)):=rfl
@[simp] theorem _qtj{i j:Bool}:_qw4 (.bl i) (.bl j)=some (.bl (i !=j)):=rfl
@[simp] theorem _qsu{ds:List D}:_Jr (.lst ds)=some ds:=rfl
@[simp] theorem _quk{ds:List D}:_qw3 [.lst ds]=some (.int ds.length):=rfl
@[simp] theorem _quj{ds:List D}:_qw3 [.tup ds]=some (.int ds.length):=rfl
@[simp] theorem _qus{i:Int}:dAbs [.int i]=some (.int (if i<0 then-i else i)):=rfl
@[simp] theorem _qti{i j:Int}:dMax2 [.int i,.int j]=some (.int (if j>i then j else i)):=rfl
@[simp] theorem _qth{i j:Int}:dMin2 [.int i,.int j]=some (.int (if j<i then j else i)):=rfl
@[simp] theorem _qsw{ds:List D}:_qhs [.lst ds]=some ds:=rfl
@[simp] theorem _qsv{ds:List D}:_qhs [.tup ds]=some ds:=rfl
@[simp] theorem _qrx{ds:List D}:dTuple [.lst ds]=some (.tup ds):=rfl
@[simp] theorem _qga{a:D}{ds:List D}:dIx (.tup (a::ds)) (.int 0)=some a:=by simp[dIx,atP,ixP]
@[simp] theorem _qla{a b:D}{ds:List D}:dIx (.tup (a::b::ds)) (.int 1)=some b:=by
 have:(1:Int)< (ds.length:Int)+1+1:=by omega
 simp[dIx,atP,ixP,this]
theorem _qpa{α:Type}{ds:List α}{i:Nat}(h:i<ds.length):atP ds (i:Int)=some ds[i]:=by
 unfold atP ixP;simp[h]
theorem dIx_l{ds:List D}{i:Nat}(h:i<ds.length):dIx (.lst ds) (.int (i:Int))=some ds[i]:=_qpa h
end
@[simp] theorem _qu5{i:Int}:isT (.int i) "int"=true:=rfl
@[simp] theorem _qu6{i:Int}:isT (.int i) "bool"=false:=rfl
@[simp] theorem _qu7{i:Bool}:isT (.bl i) "int"=true:=rfl
@[simp] theorem _qu8{i:Bool}:isT (.bl i) "bool"=true:=rfl
@[simp] theorem _qu3{ds:List D}:isT (.tup ds) "tuple"=true:=rfl
@[simp] theorem _qu4{ds:List D}:isT (.lst ds) "list"=true:=rfl
@[simp] theorem _qu9{ds:List D}:isL (ow ds)=true:=rfl
@[simp] theorem _qsy{os:List O}:isL (.lst os)=true:=rfl
@[simp] theorem _qrl{o:O}:_qvv [] o=some o:=rfl
@[simp] theorem _qtt{g:O->Option O}{o:O}:atO g [] o=g o:=rfl
@[simp] theorem _qsn{ρ:_qwx}:pNil ρ=some []:=rfl
theorem _qd1{ds:List D}{d:D}(h:ds.length<_qwt):gApp (.sh d) (ow ds)=some (ow (ds++[d])):=by simp[gApp,ow,h]
@[simp] theorem _qtq{i:Nat}{S:List Bool}{p:FP}{f:FM}{g:O->O->Option O}{ρ:Cs}:bMut i S p f g ρ=(p (frz S ρ)).bind λq=>((ρ[i]?).bind id).bind λc0=>(_qvv q c0).bind λm=>if isL m=true then
  (f ρ).bind λr=>((r.2[i]?).bind id).bind λc=>(atO (g r.1) q c).map λc'=>.nx (r.2.set i (some c'))else none:=rfl
mutual
theorem _ka:∀{n:Nat}{d:D},shp n d=true->eqD d d=true
 |n,.non,_=>by simp[eqD]
 |n,.bl _,_=>by simp[eqD]
 |n,.int _,_=>by simp[eqD]
 |n,.str _,_=>by simp[eqD]
 |0,.lst _,h=>by simp[shp]at h
 |n+1,.lst xs,h=>by simp only[eqD];exact _J3 (n:=n) (by simpa[shp]using h)
 |0,.tup _,h=>by simp[shp]at h
 |n+1,.tup xs,h=>by simp only[eqD];exact _J3 (n:=n) (by simpa[shp]using h)
theorem _J3:∀{n:Nat}{ds:List D},_qv5 n ds=true->_qw1 ds ds=true
 |n,[],_=>by simp[_qw1]
 |n,d::ds,h=>by
  have h':shp n d=true/\_qv5 n ds=true:=by simpa[_qv5]using h
  simp[_qw1,_ka h'.1,_J3 h'.2]
end
theorem _Zu{n:Nat}{ds:List D}:_qv5 n ds=true↔ ∀d∈ds,shp n d=true:=by
 induction ds with
 |nil=>simp[_qv5]
 |cons d ds ih=>simp[_qv5,ih]
@[simp] theorem _qsj{n:Nat}{i:Int}:shp n (.int i)=true:=by simp[shp]
@[simp] theorem _qtw{n:Nat}{i:Bool}:shp n (.bl i)=true:=by simp[shp]
@[simp] theorem _qsi{n:Nat}:shp n .non=true:=by simp[shp]
@[simp] theorem _qh5{n:Nat}{ds:List D}:shp (n+1) (.lst ds)=_qv5 n ds:=by simp[shp]
@[simp] theorem _qsh{n:Nat}{ds:List D}:shp (n+1) (.tup ds)=_qv5 n ds:=by simp[shp]
@[simp] theorem _qq4{n:Nat}:_qv5 n []=true:=by simp[_qv5]
@[simp] theorem _qpi{n:Nat}{d:D}{ds:List D}:_qv5 n (d::ds)=(shp n d&&_qv5 n ds):=by simp[_qv5]
@[simp] theorem _qph{n:Nat}{ns:List Int}:_qv5 n (ns.map D.int)=true:=by
 induction ns with
 |nil=>simp
 |cons m ns ih=>simp[ih]
theorem _qg2{xs ys:List Int}:_qw1 (xs.map D.int) (ys.map D.int)=decide (xs=ys):=by
 induction xs generalizing ys with
 |nil=>cases ys<;>simp[_qw1]
 |cons x xs ih=>cases ys with
  |nil=>simp[_qw1]
  |cons y ys=>simp[_qw1,eqD,ih];rw[Az];simp
theorem _xw{α:Type}{f:α->O}{g:α->D}(h:∀a,oD (f a)=some (g a)) (l:List α):oDs (l.map f)=some (l.map g):=by
 induction l with
 |nil=>simp
 |cons a l ih=>simp[h,ih]
theorem _qhk{α:Type}{f:α->O}(h:∀a,oim (f a)=true) (l:List α):_qvh (l.map f)=true:=by
 induction l with
 |nil=>simp
 |cons a l ih=>simp[h,ih]
theorem _je{c:FT}{b:Blk}{ρ:Cs}(h:c (all ρ)=some false):_vq c b ρ=some (.nx ρ):=_Yf (n:=1) (by simp[_Vx,h])
theorem _ki{c:FT}{b:Blk}{ρ ρ2:Cs}{o:Out}(h:c (all ρ)=some true) (hb:b ρ=some (.nx ρ2)) (hr:_vq c b ρ2=some o):_vq c b ρ=some o:=by
 obtain⟨n,hn⟩:=_Wh hr;exact _Yf (n:=n+1) (by simp[_Vx,h,hb,hn])
theorem _qd3{g:GD}{b:Blk}{d:D}{ds:List D}{ρ ρ1 ρ2:Cs}(h1:g d ρ=some ρ1) (h2:b ρ1=some (.nx ρ2)\/b ρ1=some (.ct ρ2)):_qvx g b (d::ds) ρ=_qvx g b ds ρ2:=by
 have e:_qvx g b (d::ds) ρ=(g d ρ).bind λρ1=>match b ρ1 with
  |some (.nx ρ2)=>_qvx g b ds ρ2
  |some (.ct ρ2)=>_qvx g b ds ρ2
  |some (.bk ρ2)=>some (.nx ρ2)
  |o=>o:=rfl
 rw[e,h1];rcases h2 with h2|h2<;>simp[h2]
theorem _qd2{g:GD}{b:Blk}{d:D}{ds:List D}{ρ ρ1 ρ2:Cs}{o:O}(h1:g d ρ=some ρ1) (h2:b ρ1=some (.rt o ρ2)):_qvx g b (d::ds) ρ=some (.rt o ρ2):=by
 unfold _qvx;rw[h1];simp[h2]
theorem _V1{α:Type}{inj:α->D}{g:GD}{b:Blk}(P:List α->Cs->Prop) (xs:List α) (ρ:Cs) (h0:P [] ρ)
  (step:∀(pre:List α) (a:α) (post:List α) (ρ:Cs),xs=pre++a::post->P pre ρ->∃ρ1 ρ2,g (inj a) ρ=some ρ1/\(b ρ1=some (.nx ρ2)\/b ρ1=some (.ct ρ2))/\P (pre++[a]) ρ2):
  ∃ρ',_qvx g b (xs.map inj) ρ=some (.nx ρ')/\P xs ρ':=by
 have key:∀(post pre:List α) (ρ:Cs),xs=pre++post->P pre ρ->∃ρ',_qvx g b (post.map inj) ρ=some (.nx ρ')/\P xs ρ':=by
  intro post
  induction post with
  |nil=>intro pre ρ e h;exact⟨ρ,rfl,by rw[e,append_nil];exact h⟩
  |cons a post ih=>
   intro pre ρ e h;obtain⟨ρ1,ρ2,h1,h2,h3⟩:=step pre a post ρ e h;obtain⟨ρ',e1,e2⟩:=ih (pre++[a]) ρ2 (by rw[e];simp) h3;exact⟨ρ',(_qd3 h1 h2).trans e1,e2⟩
 exact key xs [] ρ rfl h0
theorem _z{α:Type}{inj:α->D}{g:GE}{c:FT}{e:FO}(P:_qwx->Prop) (p:α->Bool) (f:α->O) (xs:List α) (ρ:_qwx) (h0:P ρ)
  (step:∀a∈xs,∀ρ,P ρ->∃ρ1,g (inj a) ρ=some ρ1/\P ρ1/\c ρ1=some (p a)/\(p a=true->e ρ1=some (f a))):_vn g c e (xs.map inj) ρ=some ((xs.filter p).map f):=by
 induction xs generalizing ρ with
 |nil=>rfl
 |cons a xs ih=>
  obtain⟨ρ1,h1,h2,h3,h4⟩:=step a mem_cons_self ρ h0;have ih':=ih ρ1 h2 λb m=>step b (mem_cons_of_mem _ m);rw[map_cons];unfold _vn;rw[h1];simp only[Option.bind_some,h3];cases hp:p a with
  |true=>simp[h4 hp,ih',hp]
  |false=>simp[ih',hp]
end DL
namespace DL
open PySem PySem.Spec PyProof.Rows L2
theorem _Zj:Be "list"=some (.type "list"):=by decide+kernel
theorem _kd:Be "tuple"=some (.type "tuple"):=by decide+kernel
theorem _qs1:Be "set"=some (.type "set"):=by decide+kernel
theorem _Kd:Be "enumerate"=some (.type "enumerate"):=by decide+kernel
theorem _qs0:Be "zip"=some (.type "zip"):=by decide+kernel
theorem _qp4:Be "abs"=some (.builtin "abs"):=by decide+kernel
theorem _qs3:Be "max"=some (.builtin "max"):=by decide+kernel
theorem _qs2:Be "min"=some (.builtin "min"):=by decide+kernel
theorem _z1:Be "len"=some (.builtin "len"):=by decide+kernel
theorem _qlg:Be "sum"=some (.builtin "sum"):=by decide+kernel
theorem _zh:Be "sorted"=some (.builtin "sorted"):=by decide+kernel
theorem _qlh:Be "all"=some (.builtin "all"):=by decide+kernel
end DL
set_option maxHeartbeats 1000000
namespace DL
open PySem PySem.Spec PyProof.Rows L2
abbrev St:=L2.St
theorem seqT{K:Frag}{H H':Hp}{a:Addr}{xs:List V}(e:_qwk H H') (h:SqT K H a xs):SqT K H' a xs:=by
 rcases h with(h|⟨o,h⟩)|h
 ·exact .inl (.inl (e _ _ h))
 ·exact .inl (.inr ⟨o,e _ _ h⟩)
 ·exact .inr h
def SqE(K:Frag) (H:Hp) (a:Addr) (xs:List V):Prop:=
 Rd H a (.lst xs)\/ ∃(its:List Value) (n:Nat),K.lookup a=some {cls:=.type "list",data:=.seq its.toArray n}/\xs.length<=Aj/\_qwi xs its
theorem SqE.l{K:Frag}{H:Hp}{a:Addr}{xs:List V}(h:SqE K H a xs):SqL K H a xs:=by
 rcases h with h|⟨its,n,h,hz,r⟩
 ·exact .inl h
 ·exact .inr ⟨_,its.toArray,n,h,rfl,rfl,rfl,by rw[size_toArray,<-r.length];exact hz,by simpa using r⟩
theorem _qv6{K:Frag}{H H':Hp}{a:Addr}{xs:List V}(e:_qwk H H') (h:SqE K H a xs):SqE K H' a xs:=by
 rcases h with(h|⟨o,h⟩)|h
 ·exact .inl (.inl (e _ _ h))
 ·exact .inl (.inr ⟨o,e _ _ h⟩)
 ·exact .inr h
theorem Inv.listE{X:Cx}{pins:List (Addr×Obj)}{σ:St}{H:Hp}{s:Shared}{a:Addr}{xs:List V}(I:Inv X pins σ H s) (h:SqE X.K H a xs):
  ∃(its:List Value) (n:Nat),_qwi xs its/\s.heap.get? a=some {cls:=.type "list",data:=.seq its.toArray n}/\xs.length<=Aj:=by
 rcases h with h|⟨its,n,h,hz,r⟩
 ·obtain⟨z,its,n,r,e⟩:=h.ok I.hok
  exact⟨its,n,r,e,z⟩
 ·exact⟨its,n,r,I.kIn a _ h,hz⟩
mutual
inductive Rep(K:Frag) (F:Hp):V->D->Prop
 |non:Rep K F .non .non
 |bl (b:Bool):Rep K F (.bl b) (.bl b)
 |int (i:Int):Rep K F (.int i) (.int i)
 |str (x:Str):Rep K F (.str x) (.str x)
 |lst {a:Addr}{vs:List V}{ds:List D}(h:SqE K F a vs) (r:Reps K F vs ds):Rep K F (.ref a) (.lst ds)
 |tup {a:Addr}{vs:List V}{ds:List D}(h:SqT K F a vs) (r:Reps K F vs ds):Rep K F (.ref a) (.tup ds)
inductive Reps(K:Frag) (F:Hp):List V->List D->Prop
 |nil:Reps K F [] []
 |cons {v:V}{d:D}{vs:List V}{ds:List D}(h:Rep K F v d) (t:Reps K F vs ds):Reps K F (v::vs) (d::ds)
end
theorem _v3{K:Frag}{F F':Hp}(e:_qwk F F'):(∀{v:V}{d:D},Rep K F v d->Rep K F' v d)/\∀{vs:List V}{ds:List D},Reps K F vs ds->Reps K F' vs ds:=by
 refine⟨@Rep.rec K F (λv d _=>Rep K F' v d) (λv d _=>Reps K F' v d) .non .bl .int .str ?a ?b .nil ?c,@Reps.rec K F (λv d _=>Rep K F' v d) (λv d _=>Reps K F' v d) .non .bl .int .str ?a ?b .nil ?c⟩
 case a=>exact λh _ r=>.lst (_qv6 e h) r
 case b=>exact λh _ r=>.tup (seqT e h) r
 case c=>exact λ_ _ h t=>.cons h t
theorem Rep.mono{K:Frag}{F F':Hp}(e:_qwk F F'){v:V}{d:D}(h:Rep K F v d):Rep K F' v d:=(_v3 e).1 h
theorem Reps.mono{K:Frag}{F F':Hp}(e:_qwk F F'){vs:List V}{ds:List D}(h:Reps K F vs ds):Reps K F' vs ds:=(_v3 e).2 h
section
variable{K:Frag}{F:Hp}
theorem Reps.length{vs:List V}{ds:List D}(r:Reps K F vs ds):vs.length=ds.length:=by
 induction vs generalizing ds with
 |nil=>cases r;rfl
 |cons v vs ih=>cases r with|cons h t=>simp[ih t]
theorem Reps.get{vs:List V}{ds:List D}(r:Reps K F vs ds){i:Nat}{v:V}(h:vs[i]?=some v):∃d,ds[i]?=some d/\Rep K F v d:=by
 induction vs generalizing ds i with
 |nil=>simp at h
 |cons w vs ih=>
  cases r with
  |cons q t=>
   cases i with
   |zero=>simp at h;subst h;exact⟨_,rfl,q⟩
   |succ i=>exact ih t (by simpa using h)
theorem Reps.getD{vs:List V}{ds:List D}(r:Reps K F vs ds){i:Nat}{d:D}(h:ds[i]?=some d):∃v,vs[i]?=some v/\Rep K F v d:=by
 induction vs generalizing ds i with
 |nil=>cases r;simp at h
 |cons w vs ih=>
  cases r with
  |cons q t=>
   cases i with
   |zero=>simp at h;subst h;exact⟨_,rfl,q⟩
   |succ i=>exact ih t (by simpa using h)
theorem Reps.append{vs ws:List V}{ds es:List D}(r:Reps K F vs ds) (q:Reps K F ws es):Reps K F (vs++ws) (ds++es):=by
 induction vs generalizing ds with
 |nil=>cases r;exact q
 |cons v vs ih=>cases r with|cons h t=>exact .cons h (ih t)
theorem Reps.take{vs:List V}{ds:List D}(r:Reps K F vs ds) (n:Nat):Reps K F (vs.take n) (ds.take n):=by
 induction vs generalizing ds n with
 |nil=>cases r;simp;exact .nil
 |cons v vs ih=>cases r with|cons h t=>cases n with
  |zero=>exact .nil
  |succ n=>exact .cons h (ih t n)
theorem Reps.drop{vs:List V}{ds:List D}(r:Reps K F vs ds) (n:Nat):Reps K F (vs.drop n) (ds.drop n):=by
 induction vs generalizing ds n with
 |nil=>cases r;simp;exact .nil
 |cons v vs ih=>cases r with|cons h t=>cases n with
  |zero=>exact .cons h t
  |succ n=>exact ih t n
theorem _qx(ns:List Int):Reps K F (ns.map V.int) (ns.map D.int):=by
 induction ns with
 |nil=>exact .nil
 |cons n ns ih=>exact .cons (.int n) ih
end
structure Ext(F H F' H':Hp):Prop where
 ff:_qwk F F'
 fh:_qwk F' H'
 hh:_qwk H H'
 nw:∀b o,F' b=some o->F b=some o\/H b=none
theorem Ext.refl{F H:Hp}(s:_qwk F H):Ext F H F H:=⟨_qwk.refl _,s,_qwk.refl _,λ_ _ h=>.inl h⟩
theorem Ext.trans{F H F1 H1 F2 H2:Hp}(a:Ext F H F1 H1) (b:Ext F1 H1 F2 H2):Ext F H F2 H2:=
 ⟨a.ff.trans b.ff,b.fh,a.hh.trans b.hh,λc o h=>by
  rcases b.nw c o h with h|h
  ·exact a.nw c o h
  ·exact .inr (a.hh.free h)⟩
theorem _i{H:Hp}{l:Addr}{o:HO}(h:H l=none):_qwk H (upd H l o):=λb u e=>by rw[_f (_d e h)];exact e
theorem Ext.laid{F H:Hp}(s:_qwk F H){l:Addr}{o:HO}(h:H l=none):Ext F H (upd F l o) (upd H l o):=
 ⟨_i (s.free h),λb u e=>by
   by_cases hb:b=l
   ·subst hb;rw[_b]at e⊢;exact e
   ·rw[_f hb]at e⊢;exact s _ _ e,
  _i h,λb u e=>by
   by_cases hb:b=l
   ·subst hb;exact .inr h
   ·rw[_f hb]at e;exact .inl e⟩
theorem Ext.laidH{F H:Hp}(s:_qwk F H){l:Addr}{o:HO}(h:H l=none):Ext F H F (upd H l o):=
 ⟨_qwk.refl _,s.trans (_i h),_i h,λ_ _ e=>.inl e⟩
theorem Ext.keep{F H F' H':Hp}(e:Ext F H F' H'){l:Addr}{o:HO}(h:H l=none) (h1:F' l=none) (h2:H' l=some o):Ext F H (upd F' l o) H':=
 ⟨e.ff.trans (_i h1),λb u q=>by
   by_cases hb:b=l
   ·subst hb;rw[_b]at q;rw[<-q];exact h2
   ·rw[_f hb]at q;exact e.fh _ _ q,
  e.hh,λb u q=>by
   by_cases hb:b=l
   ·subst hb;exact .inr h
   ·rw[_f hb]at q;exact e.nw b u q⟩
def RE(K:Frag) (F:Hp) (σ:St) (ρ:_qwx):Prop:=∀(i:Nat) (d:D),ρ[i]?=some (some d)->∃v,σ[i]?=some (some v)/\Rep K F v d
theorem RE.mono{K:Frag}{F F':Hp}{σ:St}{ρ:_qwx}(r:RE K F σ ρ) (e:_qwk F F'):RE K F' σ ρ:=λi d h=>by
 obtain⟨v,h1,h2⟩:=r i d h;exact⟨v,h1,h2.mono e⟩
def tD(K:Frag) (f:FE):TE:=λσ H Q=>∃F ρ d,_qwk F H/\RE K F σ ρ/\f ρ=some d/\∀v F' H',Ext F H F' H'->Rep K F' v d->Q v H'
def tDT(K:Frag) (f:FT):TT:=λσ H Q=>∃F ρ b,_qwk F H/\RE K F σ ρ/\f ρ=some b/\∀F' H',Ext F H F' H'->Q b H'
def tDA(K:Frag) (f:FA):TA:=λσ H Q=>∃F ρ ds,_qwk F H/\RE K F σ ρ/\f ρ=some ds/\∀vs F' H',Ext F H F' H'->Reps K F' vs ds->Q vs H'
def DE(X:Cx) (e:Expr) (f:FE):Prop:=PE X e (tD X.K f)
def DT(X:Cx) (e:Expr) (f:FT):Prop:=PT X e (tDT X.K f)
def DW(X:Cx) (e:Expr) (f:FT):Prop:=PW X e (tDT X.K f)
def DA(X:Cx) (es:List Expr) (f:FA):Prop:=PA X es (tDA X.K f)
theorem PE.imp{X:Cx}{e:Expr}{t t':TE}(h:PE X e t) (i:∀σ H Q,t' σ H Q->t σ H Q):PE X e t':=λpins s σ H Q I q=>h pins s σ H Q I (i σ H Q q)
theorem PT.imp{X:Cx}{e:Expr}{t t':TT}(h:PT X e t) (i:∀σ H Q,t' σ H Q->t σ H Q):PT X e t':=λpins s σ H Q I q=>h pins s σ H Q I (i σ H Q q)
theorem PW.imp{X:Cx}{e:Expr}{t t':TT}(h:PW X e t) (i:∀σ H Q,t' σ H Q->t σ H Q):PW X e t':=λwh pins s σ H Q I q=>h wh pins s σ H Q I (i σ H Q q)
theorem PA.imp{X:Cx}{e:List Expr}{t t':TA}(h:PA X e t) (i:∀σ H Q,t' σ H Q->t σ H Q):PA X e t':=λpos pins s σ H Q I q=>h pos pins s σ H Q I (i σ H Q q)
theorem PS.imp{X:Cx}{st:Stmt}{t t':TS}(h:PS X st t) (i:∀E σ H,t' E σ H->t E σ H):PS X st t':=λpins s σ H E I q=>h pins s σ H E I (i E σ H q)
theorem PSs.imp{X:Cx}{st:List Stmt}{t t':TS}(h:PSs X st t) (i:∀E σ H,t' E σ H->t E σ H):PSs X st t':=λpins s σ H E I q=>h pins s σ H E I (i E σ H q)
theorem PG.imp{X:Cx}{tg:Expr}{t t':TG}(h:PG X tg t) (i:∀v σ H Q,t' v σ H Q->t v σ H Q):PG X tg t':=λpins s σ H v u Q I r q=>h pins s σ H v u Q I r (i v σ H Q q)
section
variable{X:Cx}{a b c:Expr}{pos:Pos}
theorem _g(i:Nat){x:Str}{pos:Pos}(h:PE X (.Name x pos) (_qv1 i)):DE X (.Name x pos) (_qvy i):=by
 refine PE.imp h λσ H Q q=>?_;obtain⟨F,ρ,d,s,r,hf,k⟩:=q;have e:ρ[i]?=some (some d):=by
  unfold _qvy at hf;cases q:ρ[i]? with
  |none=>rw[q]at hf;cases hf
  |some o=>rw[q]at hf;cases o with
   |none=>cases hf
   |some d'=>cases hf;rfl
 obtain⟨v,h1,h2⟩:=r i d e;exact⟨v,h1,k v F H (Ext.refl s) h2⟩
theorem de_c{e:Expr}{v:V}{d:D}(h:PE X e (tC v)) (r:∀F,Rep X.K F v d):DE X e (fC d):=by
 refine PE.imp h λσ H Q q=>?_;obtain⟨F,ρ,d',s,_,hf,k⟩:=q;cases hf;exact k v F H (Ext.refl s) (r F)
theorem _s{i j pos}:DE X (.Constant (.int i) j pos) (fC (.int i)):=de_c _n λ_=>.int i
theorem de_bl{i j pos}:DE X (.Constant (.bool i) j pos) (fC (.bl i)):=de_c pe_bl λ_=>.bl i
theorem _V9{j pos}:DE X (.Constant .none j pos) (fC .non):=de_c _Yp λ_=>.non
def OpD(K:Frag) (r:R2) (g:D->D->Option D):Prop:=∀x y d F H v u Q,g x y=some d->_qwk F H->Rep K F v x->Rep K F u y->(∀w F' H',Ext F H F' H'->Rep K F' w d->Q w H')->r v u H Q
def UnD(K:Frag) (r:V->Hp->VK->Prop) (g:D->Option D):Prop:=∀x d F H v Q,g x=some d->_qwk F H->Rep K F v x->(∀w F' H',Ext F H F' H'->Rep K F' w d->Q w H')->r v H Q
theorem d_op{K:Frag}{r:R2}{g:D->D->Option D}(hr:OpD K r g){fa fb:FE}{σ:St}{H:Hp}{Q:VK}(q:tD K (f2 g fa fb) σ H Q):tOp r (tD K fa) (tD K fb) σ H Q:=by
 obtain⟨F,ρ,d,s,re,hf,k⟩:=q;obtain⟨x,hx,hf⟩:=bind_some hf;obtain⟨y,hy,hf⟩:=bind_some hf;exact⟨F,ρ,x,s,re,hx,λv F1 H1 e1 r1=>⟨F1,ρ,y,e1.fh,re.mono e1.ff,hy,λu F2 H2 e2 r2=>hr x y d F2 H2 v u Q hf e2.fh (r1.mono e2.ff) r2 λw F' H' e' r'=>k w F' H' ((e1.trans e2).trans e') r'⟩⟩
theorem d_un{K:Frag}{r:V->Hp->VK->Prop}{g:D->Option D}(hr:UnD K r g){fa:FE}{σ:St}{H:Hp}{Q:VK}(q:tD K (f1 g fa) σ H Q):tUn r (tD K fa) σ H Q:=by
 obtain⟨F,ρ,d,s,re,hf,k⟩:=q;obtain⟨x,hx,hf⟩:=bind_some hf;exact⟨F,ρ,x,s,re,hx,λv F1 H1 e1 r1=>hr x d F1 H1 v Q hf e1.fh r1 λw F' H' e' r'=>k w F' H' (e1.trans e') r'⟩
theorem _xa{op:Operator}{r:R2}{g:D->D->Option D}{fa fb:FE}(ho:OpR X (Dw op) r) (hr:OpD X.K r g) (ha:DE X a fa) (hb:DE X b fb):DE X (.BinOp a op b pos) (f2 g fa fb):=
 PE.imp (_jk ho ha hb) λ_ _ _ q=>d_op hr q
theorem de_un{op:UnaryOp}{r:V->Hp->VK->Prop}{g:D->Option D}{fa:FE}(ho:UnR X (unaryOp op) r) (hr:UnD X.K r g) (ha:DE X a fa):DE X (.UnaryOp op a pos) (f1 g fa):=
 PE.imp (_qn1 ho ha) λ_ _ _ q=>d_un hr q
theorem _qg6{op:CmpOp}{r:R2}{g:D->D->Option D}{fa fb:FE}(ho:OpR X (Bn op) r) (hr:OpD X.K r g) (ha:DE X a fa) (hb:DE X b fb) (hm:Dd op b=false):DE X (.Compare a [op] [b] pos) (f2 g fa fb):=
 PE.imp (_wh ho ha hb hm) λ_ _ _ q=>d_op hr q
theorem OpR.or{f:Value->Value->Sem Value}{r r':R2}(h:OpR X f r) (h':OpR X f r'):OpR X f (λx y H Q=>r x y H Q\/r' x y H Q):=by
 intro pins s σ H x y v u Q I rx ry q;rcases q with q|q
 ·exact h pins s σ H x y v u Q I rx ry q
 ·exact h' pins s σ H x y v u Q I rx ry q
theorem _qha{f:FE}{ρ:_qwx}{b:Bool}(h:qV f ρ=some b):f ρ=some (.bl b):=by
 obtain⟨d,h1,h2⟩:=bind_some h;cases d<;>cases h2;exact h1
theorem _qd8{f:FE}(h:DE X a f) (he:∀whole,Nh a X.env whole=(do let v <-whole;Nb a.pos;Ju [v] (truthy v)):=by intro _;rfl):DT X a (qV f):=by
 refine PT.imp (_qmt h he) λσ H Q q=>?_;obtain⟨F,ρ,b,s,re,hf,k⟩:=q;exact⟨F,ρ,.bl b,s,re,_qha hf,λv F' H' e r=>by cases r;exact⟨b,rfl,k F' H' e⟩⟩
theorem _j6{op:CmpOp}{r:R2}{g:D->D->Option D}{fa fb:FE}(ho:OpR X (Bn op) r) (hr:OpD X.K r g) (ha:DE X a fa) (hb:DE X b fb) (hm:Dd op b=false):DT X (.Compare a [op] [b] pos) (qV (f2 g fa fb)):=by
 refine PT.imp (_qo ho ha hb hm) λσ H Q q=>?_;obtain⟨F,ρ,c,s,re,hf,k⟩:=q;refine d_op (K:=X.K) hr (σ:=σ) (H:=H) ⟨F,ρ,.bl c,s,re,_qha hf,λv F' H' e r=>?_⟩;cases r;exact⟨c,rfl,k F' H' e⟩
variable{_qvb:List Expr}
theorem _qrr{f:FT}(h:DT X a f):DT X (.UnaryOp .Not a pos) (qNot f):=by
 refine PT.imp (_qmu h) λσ H Q q=>?_;obtain⟨F,ρ,b,s,re,hf,k⟩:=q;unfold qNot at hf;cases hd:f ρ with
 |none=>rw[hd]at hf;cases hf
 |some c=>rw[hd]at hf;cases hf;exact⟨F,ρ,c,s,re,hd,k⟩
theorem _qop{f:FT}(h:DT X a f):DW X (.BoolOp .Or [a] pos) f:=_qj7 h
theorem dw_or{f g:FT}(h:DT X a f) (h':DW X (.BoolOp .Or (b::_qvb) pos) g):DW X (.BoolOp .Or (a::b::_qvb) pos) (qOr f g):=by
 refine PW.imp (pw_or h h') λσ H Q q=>?_;obtain⟨F,ρ,c,s,re,hf,k⟩:=q;obtain⟨x,hx,hf⟩:=bind_some hf;refine⟨F,ρ,x,s,re,hx,λF1 H1 e1=>?_⟩;cases x with
 |true=>rw[if_pos rfl]at hf⊢;cases hf;exact k F1 H1 e1
 |false=>rw[if_neg Al]at hf⊢;exact⟨F1,ρ,c,e1.fh,re.mono e1.ff,hf,λF2 H2 e2=>k F2 H2 (e1.trans e2)⟩
theorem DW.dt{e:Expr}{f:FT}(h:DW X e f):DT X e f:=h _
theorem de_if{t:Expr}{q:FT}{f g:FE}(hc:DT X t q) (ha:DE X a f) (hb:DE X b g):DE X (.IfExp t a b pos) (fIf q f g):=by
 refine PE.imp (_qjg hc ha hb) λσ H Q q=>?_;obtain⟨F,ρ,d,s,re,hf,k⟩:=q;obtain⟨x,hx,hf⟩:=bind_some hf;refine⟨F,ρ,x,s,re,hx,λF1 H1 e1=>?_⟩;cases x with
 |true=>rw[if_pos rfl]at hf⊢;exact⟨F1,ρ,d,e1.fh,re.mono e1.ff,hf,λw F2 H2 e2 r2=>k w F2 H2 (e1.trans e2) r2⟩
 |false=>rw[if_neg Al]at hf⊢;exact⟨F1,ρ,d,e1.fh,re.mono e1.ff,hf,λw F2 H2 e2 r2=>k w F2 H2 (e1.trans e2) r2⟩
variable{es:List Expr}
theorem _l:DA X [] _qwg:=by
 refine PA.imp _o λσ H Q q=>?_;obtain⟨F,ρ,d,s,re,hf,k⟩:=q;cases hf;exact k [] F H (Ext.refl s) .nil
theorem _a{f:FE}{g:FA}(ha:DE X a f) (hr:DA X es g) (hs:Aq (a::es) X.env=(false,eval a X.env)::Aq es X.env:=by rfl):DA X (a::es) (_k f g):=by
 refine PA.imp (_c ha hr hs) λσ H Q q=>?_;obtain⟨F,ρ,ds,s,re,hf,k⟩:=q;obtain⟨d,hd,hf⟩:=bind_some hf;cases hg:g ρ with
 |none=>rw[hg]at hf;cases hf
 |some ds'=>
  rw[hg]at hf;cases hf;exact⟨F,ρ,d,s,re,hd,λv F1 H1 e1 r1=>⟨F1,ρ,ds',e1.fh,re.mono e1.ff,hg,λvs F2 H2 e2 r2=>k _ F2 H2 (e1.trans e2) (.cons (r1.mono e2.ff) r2)⟩⟩
theorem _zo{n:Nat}(h:n<=_qwt):n<=Aj:=le_trans h (by unfold _qwt;decide)
theorem _Qe{x1}{g:FA}(h:DA X es g):DE X (.Tuple es x1 pos) (_qvz g):=by
 refine PE.imp (_qbl h) λσ H Q q=>?_;obtain⟨F,ρ,d,s,re,hf,k⟩:=q;obtain⟨ds,hd,hf⟩:=bind_some hf;split at hf
 ·rename_i hl
  cases hf;exact⟨F,ρ,ds,s,re,hd,λvs F1 H1 e1 r1=>⟨by rw[r1.length];exact _zo hl,λp hp=>k _ _ _ (e1.trans (Ext.laid e1.fh hp)) (.tup (.inl (.inl _b)) (r1.mono (_i (e1.fh.free hp))))⟩⟩
 ·cases hf
def spD(K:Frag) (n:Nat) (g:List D->Option D):Sp:=λvs H Q _=>∃F ds d,_qwk F H/\Reps K F vs ds/\ds.length=n/\g ds=some d/\∀v F' H',Ext F H F' H'->Rep K F' v d->Q v H'
variable{k n:Nat}{f:Addr}{fd:Am}{ps:List Str}{x:Str}{p:Pos}
theorem _qow{g:List D->Option D}{h:FA}(G:FnOk X.prog X.w X.K X.mg X.base CX0 k f fd ps (spD X.K n g)) (hr:Room k X.A) (hg:Gl X x) (hm:X.mg x=some (.ref f)) (hk:Hb X.K (.ref f)=true) (hb:Binds X.K fd ps [])
  (ha:DA X (a::es) h) (hdb:(x==("__debug__":Str))=false:=by decide) (he:Aq (a::es) X.env=(false,eval a X.env)::Aq es X.env:=by rfl) (hpl:(Dg pos (Aq es X.env)).any (·.1)=false:=by rfl):
  DE X (.Call (.Name x p) (a::es) [] pos) (_qu n g h):=by
 refine PE.imp (_q5 G hr hg hm hk hb .nil _jf ha hdb he hpl) λσ H Q q=>?_;obtain⟨F,ρ,d,s,re,hf,k⟩:=q;obtain⟨ds,hd,hf⟩:=bind_some hf;refine⟨F,ρ,ds,s,re,hd,λvs F1 H1 e1 r1=>?_⟩;dsimp only;rw[append_nil];split at hf
 ·rename_i hl
  exact⟨F1,ds,d,e1.fh,r1,hl,hf,λv F2 H2 e2 r2=>k v F2 H2 (e1.trans e2) r2⟩
 ·cases hf
def _qpg(K:Frag) (r:List V->Hp->VK->Prop) (g:List D->Option D):Prop:=∀ds d F H vs Q,g ds=some d->_qwk F H->Reps K F vs ds->(∀w F' H',Ext F H F' H'->Rep K F' w d->Q w H')->r vs H Q
theorem _qi{id:String}{r:List V->Hp->VK->Prop}{g:List D->Option D}{h:FA}(hc:_Qg X (.builtin id) r) (hr:_qpg X.K r g) (hg:Gl X x) (hm:X.mg x=none) (hv:Be x=some (.builtin id)) (ha:DA X (a::es) h)
  (hn:x≠"__name__":=by decide) (hdb:(x==("__debug__":Str))=false:=by decide)
  (he:Aq (a::es) X.env=(false,eval a X.env)::Aq es X.env:=by rfl) (hpl:(Dg pos (Aq es X.env)).any (·.1)=false:=by rfl):DE X (.Call (.Name x p) (a::es) [] pos) (_qw0 g h):=by
 refine PE.imp (_qn hc hg hm hv ha hn hdb he hpl) λσ H Q q=>?_;obtain⟨F,ρ,d,s,re,hf,k⟩:=q;obtain⟨ds,hd,hf⟩:=bind_some hf;exact⟨F,ρ,ds,s,re,hd,λvs F1 H1 e1 r1=>hr ds d F1 H1 vs Q hf e1.fh r1 λw F' H' e' r'=>k w F' H' (e1.trans e') r'⟩
end
end DL
namespace DL
open PySem PySem.Spec PyProof.Rows L2
abbrev AS:=Addr->Prop
mutual
inductive Own(K:Frag) (F H:Hp):V->O->AS->Prop
 |sh {v:V}{d:D}{A:AS}(h:Rep K F v d) (hA:∀b,¬A b):Own K F H v (.sh d) A
 |lst {a:Addr}{vs:List V}{os:List O}{A' A:AS}(h:H a=some (.lst vs)) (n:¬A' a) (r:Owns K F H vs os A') (hA:∀b,A b↔b=a\/A' b):Own K F H (.ref a) (.lst os) A
 |tup {a:Addr}{vs:List V}{os:List O}{A:AS}(h:F a=some (.tup vs)) (r:Owns K F H vs os A):Own K F H (.ref a) (.tup os) A
inductive Owns(K:Frag) (F H:Hp):List V->List O->AS->Prop
 |nil {A:AS}(hA:∀b,¬A b):Owns K F H [] [] A
 |cons {v:V}{o:O}{vs:List V}{os:List O}{A1 A2 A:AS}(h:Own K F H v o A1) (t:Owns K F H vs os A2) (d:∀b,A1 b->¬A2 b) (hA:∀b,A b↔A1 b\/A2 b):Owns K F H (v::vs) (o::os) A
end
section
variable{K:Frag}{F F' H H':Hp}
theorem _K6:(∀{v:V}{o:O}{A:AS},Own K F H v o A->∀b,A b->∃u,H b=some u/\∀xs,u≠ .tup xs/\∀ob w,u≠ .frz ob w)/\∀{vs:List V}{os:List O}{A:AS},Owns K F H vs os A->∀b,A b->∃u,H b=some u/\∀xs,u≠ .tup xs/\∀ob w,u≠ .frz ob w:=by
 refine⟨@Own.rec K F H (λ_ _ A _=>∀b,A b->∃u,H b=some u/\∀xs,u≠ .tup xs/\∀ob w,u≠ .frz ob w) (λ_ _ A _=>∀b,A b->∃u,H b=some u/\∀xs,u≠ .tup xs/\∀ob w,u≠ .frz ob w) ?a ?b ?c ?a2 ?d,@Owns.rec K F H (λ_ _ A _=>∀b,A b->∃u,H b=some u/\∀xs,u≠ .tup xs/\∀ob w,u≠ .frz ob w) (λ_ _ A _=>∀b,A b->∃u,H b=some u/\∀xs,u≠ .tup xs/\∀ob w,u≠ .frz ob w) ?a ?b ?c ?a2 ?d⟩
 case a=>exact λ_ hA b h=>absurd h (hA b)
 case b=>
  intro a vs os A' A h n r hA ih b hb;rcases(hA b).mp hb with rfl|z
  ·exact⟨_,h,λxs=>⟨(λz=>by cases z),λ_ _ z=>by cases z⟩⟩
  ·exact ih b z
 case c=>exact λ_ _ ih=>ih
 case a2=>exact λhA b h=>absurd h (hA b)
 case d=>
  intro v o vs os A1 A2 A h t d hA ih it b hb;rcases(hA b).mp hb with z|z
  ·exact ih b z
  ·exact it b z
theorem Own.there{v:V}{o:O}{A:AS}(h:Own K F H v o A):∀b,A b->∃u,H b=some u/\∀xs,u≠ .tup xs/\∀ob w,u≠ .frz ob w:=_K6.1 h
theorem Owns.there{vs:List V}{os:List O}{A:AS}(h:Owns K F H vs os A):∀b,A b->∃u,H b=some u/\∀xs,u≠ .tup xs/\∀ob w,u≠ .frz ob w:=_K6.2 h
theorem _qbr(e:_qwk F F'):(∀{v:V}{o:O}{A:AS},Own K F H v o A->(∀b,A b->H' b=H b)->Own K F' H' v o A)/\∀{vs:List V}{os:List O}{A:AS},Owns K F H vs os A->(∀b,A b->H' b=H b)->Owns K F' H' vs os A:=by
 refine⟨@Own.rec K F H (λv o A _=>(∀b,A b->H' b=H b)->Own K F' H' v o A) (λv o A _=>(∀b,A b->H' b=H b)->Owns K F' H' v o A) ?a ?b ?c ?a2 ?d,@Owns.rec K F H (λv o A _=>(∀b,A b->H' b=H b)->Own K F' H' v o A) (λv o A _=>(∀b,A b->H' b=H b)->Owns K F' H' v o A) ?a ?b ?c ?a2 ?d⟩
 case a=>exact λh hA _=>.sh (h.mono e) hA
 case b=>exact λh n _ hA ih k=>.lst ((k _ ((hA _).mpr (.inl rfl))).trans h) n (ih λb z=>k b ((hA b).mpr (.inr z))) hA
 case c=>exact λh _ ih k=>.tup (e _ _ h) (ih k)
 case a2=>exact λhA _=>.nil hA
 case d=>exact λ_ _ d hA ih it k=>.cons (ih λb z=>k b ((hA b).mpr (.inl z))) (it λb z=>k b ((hA b).mpr (.inr z))) d hA
theorem Own.stay(e:_qwk F F'){v:V}{o:O}{A:AS}(h:Own K F H v o A) (k:∀b,A b->H' b=H b):Own K F' H' v o A:=(_qbr e).1 h k
theorem Owns.stay(e:_qwk F F'){vs:List V}{os:List O}{A:AS}(h:Owns K F H vs os A) (k:∀b,A b->H' b=H b):Owns K F' H' vs os A:=(_qbr e).2 h k
theorem Own.ext(e:_qwk F F') (s:_qwk H H'){v:V}{o:O}{A:AS}(h:Own K F H v o A):Own K F' H' v o A:=h.stay e λb z=>by
 obtain⟨u,e1,_⟩:=h.there b z;rw[e1,s _ _ e1]
theorem Owns.ext(e:_qwk F F') (s:_qwk H H'){vs:List V}{os:List O}{A:AS}(h:Owns K F H vs os A):Owns K F' H' vs os A:=h.stay e λb z=>by
 obtain⟨u,e1,_⟩:=h.there b z;rw[e1,s _ _ e1]
theorem Own.congr{v:V}{o:O}{A A':AS}(h:Own K F H v o A) (e:∀b,A b↔A' b):Own K F H v o A':=by
 have:A=A':=funext λb=>propext (e b)
 subst this;exact h
theorem Owns.congr{v:List V}{o:List O}{A A':AS}(h:Owns K F H v o A) (e:∀b,A b↔A' b):Owns K F H v o A':=by
 have:A=A':=funext λb=>propext (e b)
 subst this;exact h
theorem Owns.length{vs:List V}{os:List O}{A:AS}(h:Owns K F H vs os A):vs.length=os.length:=
 Owns.rec (motive_1:=λ_ _ _ _=>True) (motive_2:=λvs os _ _=>vs.length=os.length) (λ_ _=>trivial) (λ_ _ _ _ _=>trivial) (λ_ _ _=>trivial) (λ_=>rfl) (λ_ _ _ _ _ it=>congrArg Nat.succ it) h
open Classical in
noncomputable def _qwf(F H:Hp) (A:AS):Hp:=λb=>if A b then H b else F b
theorem _x7{A:AS}{b:Addr}(h:A b):_qwf F H A b=H b:=by unfold _qwf;exact if_pos h
theorem _jz{A:AS}{b:Addr}(h:¬A b):_qwf F H A b=F b:=by unfold _qwf;exact if_neg h
theorem _k2{A:AS}(h:∀b,A b->F b=none):_qwk F (_qwf F H A):=λb o e=>by
 rw[_jz λz=>by rw[h b z]at e;cases e];exact e
theorem _qe9{A:AS}(s:_qwk F H):_qwk (_qwf F H A) H:=λb o e=>by
 by_cases z:A b
 ·rw[_x7 z]at e;exact e
 ·rw[_jz z]at e;exact s _ _ e
theorem _Kn{F₀ B:Hp}{A:AS}(e:Ext F₀ B F H) (h:∀b,A b->F b=none/\B b=none):Ext F₀ B (_qwf F H A) H:=
 ⟨e.ff.trans (_k2 λb z=>(h b z).1),_qe9 e.fh,e.hh,λb o q=>by
  by_cases z:A b
  ·exact .inr (h b z).2
  ·rw[_jz z]at q;exact e.nw b o q⟩
theorem _qhh{G:Hp}(sF:_qwk F G):(∀{v:V}{o:O}{A:AS},Own K F H v o A->∀{d:D},oD o=some d->(∀b,A b->G b=H b)->Rep K G v d)/\∀{vs:List V}{os:List O}{A:AS},Owns K F H vs os A->∀{ds:List D},oDs os=some ds->(∀b,A b->G b=H b)->Reps K G vs ds:=by
 refine⟨@Own.rec K F H (λv o A _=>∀{d:D},oD o=some d->(∀b,A b->G b=H b)->Rep K G v d) (λv o A _=>∀{d:List D},oDs o=some d->(∀b,A b->G b=H b)->Reps K G v d) ?a ?b ?c ?a2 ?d,@Owns.rec K F H (λv o A _=>∀{d:D},oD o=some d->(∀b,A b->G b=H b)->Rep K G v d) (λv o A _=>∀{d:List D},oDs o=some d->(∀b,A b->G b=H b)->Reps K G v d) ?a ?b ?c ?a2 ?d⟩
 case a=>
  intro v d A h hA d' e _;cases e;exact h.mono sF
 case b=>
  intro a vs os A' A h n r hA ih d e k;obtain⟨ds,hd,rfl⟩:=map_some (by simpa[oD]using e);exact .lst (.inl (.inl ((k _ ((hA _).mpr (.inl rfl))).trans h))) (ih hd λb z=>k b ((hA b).mpr (.inr z)))
 case c=>
  intro a vs os A h r ih d e k;obtain⟨ds,hd,rfl⟩:=map_some (by simpa[oD]using e);exact .tup (.inl (.inl (sF _ _ h))) (ih hd k)
 case a2=>
  intro A hA ds e _;cases e;exact .nil
 case d=>
  intro v o vs os A1 A2 A h t d hA ih it ds e k;obtain⟨d,hd,e⟩:=bind_some (by simpa[oDs]using e);obtain⟨ds,hds,rfl⟩:=map_some e;exact .cons (ih hd λb z=>k b ((hA b).mpr (.inl z))) (it hds λb z=>k b ((hA b).mpr (.inr z)))
theorem Own.rep{G:Hp}(sF:_qwk F G){v:V}{o:O}{A:AS}{d:D}(h:Own K F H v o A) (e:oD o=some d) (k:∀b,A b->G b=H b):Rep K G v d:=(_qhh sF).1 h e k
theorem Owns.rep{G:Hp}(sF:_qwk F G){vs:List V}{os:List O}{A:AS}{ds:List D}(h:Owns K F H vs os A) (e:oDs os=some ds) (k:∀b,A b->G b=H b):Reps K G vs ds:=(_qhh sF).2 h e k
theorem _qhg{vs:List V}{ds:List D}(h:Reps K F vs ds):Owns K F H vs (ds.map O.sh) λ_=>False:=
 Reps.rec (motive_1:=λ_ _ _=>True) (motive_2:=λvs ds _=>Owns K F H vs (ds.map O.sh) λ_=>False) trivial (λ_=>trivial) (λ_=>trivial) (λ_=>trivial) (λ_ _ _=>trivial) (λ_ _ _=>trivial) (.nil λ_ z=>z) (λh _ _ it=>.cons (.sh h (A:=λ_=>False) λ_ z=>z) it (λ_ z=>z.elim) λb=>⟨λz=>z.elim,λz=>z.elim id id⟩) h
theorem _qbs{a:Addr}{vs:List V}{os:List O}{A:AS}(h:H a=some (.lst vs)) (n:¬A a) (r:Owns K F H vs os A):Own K F H (.ref a) (.lst os) λb=>b=a\/A b:=.lst h n r λ_=>Mi
theorem _Ve{a:Addr}{vs:List V}{ds:List D}(h:H a=some (.lst vs)) (r:Reps K F vs ds):Own K F H (.ref a) (ow ds) λb=>b=a:=.lst h (A':=λ_=>False) id (_qhg r) λb=>⟨.inl,λz=>z.elim id A5⟩
theorem Owns.append{vs ws:List V}{os ps:List O}{A B:AS}(h:Owns K F H vs os A) (s:Owns K F H ws ps B):(∀b,A b->¬B b)->Owns K F H (vs++ws) (os++ps) λb=>A b\/B b:=
 Owns.rec (motive_1:=λ_ _ _ _=>True) (motive_2:=λvs os A _=>(∀b,A b->¬B b)->Owns K F H (vs++ws) (os++ps) λb=>A b\/B b) (λ_ _=>trivial) (λ_ _ _ _ _=>trivial) (λ_ _ _=>trivial)
  (λhA _=>s.congr λb=>⟨.inr,λz=>z.elim (λy=>absurd y (hA b)) id⟩)
  (λh _ dd hA _ it d=>.cons h (it λb y=>d b ((hA b).mpr (.inr y))) (λb y z=>z.elim (dd b y) (d b ((hA b).mpr (.inl y)))) λb=>by
   rw[hA b];exact⟨λz=>z.elim (λy=>y.elim .inl λw=>.inr (.inl w)) λw=>.inr (.inr w),λz=>z.elim (λy=>.inl (.inl y)) λy=>y.elim (λw=>.inl (.inr w)) .inr⟩) h
theorem Owns.split:∀{vs:List V}{os:List O}{A:AS}{n:Nat}{o:O},Owns K F H vs os A->os[n]?=some o->
  ∃(v:V) (A1 A2:AS),vs[n]?=some v/\Own K F H v o A1/\(∀b,A b↔A1 b\/A2 b)/\(∀b,A1 b->¬A2 b)/\
   ∀(F' H':Hp) (v':V) (o':O) (A1':AS),_qwk F F'->(∀b,A2 b->H' b=H b)->Own K F' H' v' o' A1'->(∀b,A1' b->¬A2 b)->Owns K F' H' (vs.set n v') (os.set n o') λb=>A1' b\/A2 b
 |_,_,_,_,_,.nil _,e=>by simp at e
 |_,_,A,0,o,.cons (v:=v) (vs:=vs) (os:=os) (A1:=A1) (A2:=A2) h t d hA,e=>by
  simp at e;subst e;exact⟨v,A1,A2,rfl,h,hA,d,λF' H' v' o' A1' sF k q dd=>.cons q (t.stay sF k) dd λb=>Mi⟩
 |_,_,A,n+1,o,.cons (v:=v) (vs:=vs) (os:=os) (A1:=B1) (A2:=B2) h t d hA,e=>by
  obtain⟨w,A1,A2,h1,h2,h3,h4,h5⟩:=Owns.split t (n:=n) (o:=o) (by simpa using e);refine⟨w,A1,λb=>B1 b\/A2 b,by simpa using h1,h2,λb=>?_,λb y z=>?_,λF' H' v' o' A1' sF k q dd=>?_⟩
  ·rw[hA b,h3 b];exact⟨λz=>z.elim (λy=>.inr (.inl y)) λy=>y.elim .inl λw=>.inr (.inr w),λz=>z.elim (λy=>.inr (.inl y)) λy=>y.elim .inl λw=>.inr (.inr w)⟩
  ·rcases z with z|z
   ·exact d b z ((h3 b).mpr (.inl y))
   ·exact h4 b y z
  ·refine .cons (h.stay sF λb y=>k b (.inl y)) (h5 F' H' v' o' A1' sF (λb y=>k b (.inr y)) q λb y z=>dd b y (.inr z)) (λb y z=>?_) λb=>⟨λz=>z.elim (λy=>.inr (.inl y)) λy=>y.elim .inl λw=>.inr (.inr w),λz=>z.elim (λy=>.inr (.inl y)) λy=>y.elim .inl λw=>.inr (.inr w)⟩
   rcases z with z|z
   ·exact dd b z (.inl y)
   ·exact d b y ((h3 b).mpr (.inr z))
end
def tO(K:Frag) (f:FO):TE:=λσ H Q=>∃F ρ o,_qwk F H/\RE K F σ ρ/\f ρ=some o/\
 ∀v F' H' A,Ext F H F' H'->Own K F' H' v o A->(∀b,A b->F' b=none/\H b=none)->Q v H'
def tAO(K:Frag) (f:FAO):TA:=λσ H Q=>∃F ρ os,_qwk F H/\RE K F σ ρ/\f ρ=some os/\
 ∀vs F' H' A,Ext F H F' H'->Owns K F' H' vs os A->(∀b,A b->F' b=none/\H b=none)->Q vs H'
def DO(X:Cx) (e:Expr) (f:FO):Prop:=PE X e (tO X.K f)
def DAO(X:Cx) (es:List Expr) (f:FAO):Prop:=PA X es (tAO X.K f)
section
variable{X:Cx}{a b c e:Expr}{es:List Expr}{pos:Pos}
theorem DE.o{f:FE}(h:DE X e f):DO X e (oE f):=by
 refine PE.imp h λσ H Q q=>?_;obtain⟨F,ρ,o,s,re,hf,k⟩:=q;obtain⟨d,hd,rfl⟩:=map_some hf;exact⟨F,ρ,d,s,re,hd,λv F' H' e r=>k v F' H' (λ_=>False) e (.sh r λ_ z=>z) λ_ z=>z.elim⟩
theorem DO.de{f:FO}(h:DO X e f):DE X e (fL f):=by
 refine PE.imp h λσ H Q q=>?_;obtain⟨F,ρ,d,s,re,hf,k⟩:=q;obtain⟨o,ho,hd⟩:=bind_some hf;exact⟨F,ρ,o,s,re,ho,λv F' H' A e r hA=>k v (_qwf F' H' A) H' (_Kn e hA) (r.rep (_k2 λb z=>(hA b z).1) hd λb z=>_x7 z)⟩
theorem _qoo{H F1 H1 F2 H2:Hp}{A:AS}(e2:Ext F1 H1 F2 H2) (h:∀b,A b->F1 b=none/\H b=none) (t:∀b,A b->∃u,H1 b=some u):∀b,A b->F2 b=none/\H b=none:=λb z=>by
 obtain⟨h1,h2⟩:=h b z;obtain⟨u,hu⟩:=t b z;refine⟨?_,h2⟩;cases q:F2 b with
 |none=>rfl
 |some o=>
  rcases e2.nw b o q with y|y
  ·rw[h1]at y;cases y
  ·rw[hu]at y;cases y
theorem _qi2:DAO X [] aoNil:=by
 refine PA.imp _o λσ H Q q=>?_;obtain⟨F,ρ,d,s,re,hf,k⟩:=q;cases hf;exact k [] F H (λ_=>False) (Ext.refl s) (.nil λ_ z=>z) λ_ z=>z.elim
theorem _J8{f:FO}{g:FAO}(ha:DO X a f) (hr:DAO X es g) (hs:Aq (a::es) X.env=(false,eval a X.env)::Aq es X.env:=by rfl):DAO X (a::es) (_qa0 f g):=by
 refine PA.imp (_c ha hr hs) λσ H Q q=>?_;obtain⟨F,ρ,ds,s,re,hf,k⟩:=q;obtain⟨d,hd,hf⟩:=bind_some hf;obtain⟨ds',hg,rfl⟩:=map_some hf;refine⟨F,ρ,d,s,re,hd,λv F1 H1 A1 e1 r1 n1=>⟨F1,ρ,ds',e1.fh,re.mono e1.ff,hg,λvs F2 H2 A2 e2 r2 n2=>?_⟩⟩;have t1:∀b,A1 b->∃u,H1 b=some u:=λb z=>by obtain⟨u,h,_⟩:=r1.there b z;exact⟨u,h⟩
 refine k _ F2 H2 (λb=>A1 b\/A2 b) (e1.trans e2) (.cons (r1.ext e2.ff e2.hh) r2 (λb y z=>?_) λ_=>Mi) λb z=>?_
 ·obtain⟨u,hu⟩:=t1 b y
  rw[(n2 b z).2]at hu;cases hu
 ·rcases z with z|z
  ·exact _qoo e2 n1 t1 b z
  ·exact⟨(n2 b z).1,e1.hh.free (n2 b z).2⟩
theorem _J6{g:FA}(h:DA X es g):DO X (.List es pos) (_qvj g):=by
 refine PE.imp (_Qa h) λσ H Q q=>?_;obtain⟨F,ρ,d,s,re,hf,k⟩:=q;obtain⟨ds,hd,hf⟩:=bind_some hf;split at hf
 ·rename_i hl
  cases hf;refine⟨F,ρ,ds,s,re,hd,λvs F1 H1 e1 r1=>⟨by rw[r1.length];exact _zo hl,λp hp=>?_⟩⟩;exact k _ F1 _ _ (e1.trans (Ext.laidH e1.fh hp)) (_Ve _b r1) λb z=>by subst z;exact⟨e1.fh.free hp,e1.hh.free hp⟩
 ·cases hf
theorem _qos{g:FAO}(h:DAO X es g):DO X (.List es pos) (oLstO g):=by
 refine PE.imp (_Qa h) λσ H Q q=>?_;obtain⟨F,ρ,d,s,re,hf,k⟩:=q;obtain⟨os,hd,hf⟩:=bind_some hf;split at hf
 ·rename_i hl
  cases hf;refine⟨F,ρ,os,s,re,hd,λvs F1 H1 A e1 r1 n1=>⟨by rw[r1.length];exact _zo hl,λp hp=>?_⟩⟩;have np:¬A p:=λz=>by obtain⟨u,hu,_⟩:=r1.there p z;rw[hp]at hu;cases hu
  refine k _ F1 _ _ (e1.trans (Ext.laidH e1.fh hp)) (_qbs _b np (r1.ext (_qwk.refl _) (_i hp))) λb z=>?_;rcases z with rfl|z
  ·exact⟨e1.fh.free hp,e1.hh.free hp⟩
  ·exact n1 b z
 ·cases hf
theorem _qor{x1}{g:FAO}(h:DAO X es g):DO X (.Tuple es x1 pos) (oTupO g):=by
 refine PE.imp (_qbl h) λσ H Q q=>?_;obtain⟨F,ρ,d,s,re,hf,k⟩:=q;obtain⟨os,hd,hf⟩:=bind_some hf;split at hf
 ·rename_i hl
  cases hf;refine⟨F,ρ,os,s,re,hd,λvs F1 H1 A e1 r1 n1=>⟨by rw[r1.length];exact _zo hl,λp hp=>?_⟩⟩;have np:¬A p:=λz=>by obtain⟨u,hu,_⟩:=r1.there p z;rw[hp]at hu;cases hu
  refine k _ (upd F1 p (.tup vs)) _ A (e1.trans (Ext.laid e1.fh hp)) (.tup _b (r1.ext (_i (e1.fh.free hp)) (_i hp))) λb z=>?_;obtain⟨h1,h2⟩:=n1 b z;exact⟨by rw[_f (by rintro rfl;exact np z)];exact h1,h2⟩
 ·cases hf
def spO(K:Frag) (n:Nat) (g:List D->Option O):Sp:=λvs H Q _=>∃F ds o,_qwk F H/\Reps K F vs ds/\ds.length=n/\g ds=some o/\
 ∀v F' H' A,Ext F H F' H'->Own K F' H' v o A->(∀b,A b->F' b=none/\H b=none)->Q v H'
def CallO(K:Frag) (r:List V->Hp->VK->Prop) (g:List D->Option (List D)):Prop:=∀ds es F H vs Q,g ds=some es->_qwk F H->Reps K F vs ds->
 (∀a ws F' H',Ext F H F' H'->H' a=some (.lst ws)->F' a=none->H a=none->Reps K F' ws es->Q (.ref a) H')->r vs H Q
def OpO(K:Frag) (r:R2) (g:D->D->Option (List D)):Prop:=∀x y es F H v u Q,g x y=some es->_qwk F H->Rep K F v x->Rep K F u y->
 (∀a ws F' H',Ext F H F' H'->H' a=some (.lst ws)->F' a=none->H a=none->Reps K F' ws es->Q (.ref a) H')->r v u H Q
variable{k n:Nat}{f:Addr}{fd:Am}{ps:List Str}{x:Str}{p:Pos}
theorem _qot{g:List D->Option O}{h:FA}(G:FnOk X.prog X.w X.K X.mg X.base CX0 k f fd ps (spO X.K n g)) (hr:Room k X.A) (hg:Gl X x) (hm:X.mg x=some (.ref f)) (hk:Hb X.K (.ref f)=true) (hb:Binds X.K fd ps [])
  (ha:DA X (a::es) h) (hdb:(x==("__debug__":Str))=false:=by decide) (he:Aq (a::es) X.env=(false,eval a X.env)::Aq es X.env:=by rfl) (hpl:(Dg pos (Aq es X.env)).any (·.1)=false:=by rfl):
  DO X (.Call (.Name x p) (a::es) [] pos) (_Ys n g h):=by
 refine PE.imp (_q5 G hr hg hm hk hb .nil _jf ha hdb he hpl) λσ H Q q=>?_;obtain⟨F,ρ,d,s,re,hf,k⟩:=q;obtain⟨ds,hd,hf⟩:=bind_some hf;refine⟨F,ρ,ds,s,re,hd,λvs F1 H1 e1 r1=>?_⟩;dsimp only;rw[append_nil];split at hf
 ·rename_i hl
  exact⟨F1,ds,d,e1.fh,r1,hl,hf,λv F2 H2 A e2 r2 n2=>k v F2 H2 A (e1.trans e2) r2 λb z=>⟨(n2 b z).1,e1.hh.free (n2 b z).2⟩⟩
 ·cases hf
theorem _qdb{id:String}{r:List V->Hp->VK->Prop}{g:List D->Option (List D)}{h:FA}(hc:_Qg X (.builtin id) r) (hr:CallO X.K r g) (hg:Gl X x) (hm:X.mg x=none) (hv:Be x=some (.builtin id)) (ha:DA X (a::es) h)
  (hn:x≠"__name__":=by decide) (hdb:(x==("__debug__":Str))=false:=by decide)
  (he:Aq (a::es) X.env=(false,eval a X.env)::Aq es X.env:=by rfl) (hpl:(Dg pos (Aq es X.env)).any (·.1)=false:=by rfl):DO X (.Call (.Name x p) (a::es) [] pos) (_qvk g h):=by
 refine PE.imp (_qn hc hg hm hv ha hn hdb he hpl) λσ H Q q=>?_;obtain⟨F,ρ,o,s,re,hf,k⟩:=q;obtain⟨zs,hf2,rfl⟩:=map_some hf;obtain⟨ds,hd,hf⟩:=bind_some hf2;exact⟨F,ρ,ds,s,re,hd,λvs F1 H1 e1 r1=>hr ds zs F1 H1 vs Q hf e1.fh r1 λa ws F' H' e' h1 h2 h3 r'=>k (.ref a) F' H' _ (e1.trans e') (_Ve h1 r') λb z=>by subst z;exact⟨h2,e1.hh.free h3⟩⟩
theorem _Wz{T:String}{r:List V->Hp->VK->Prop}{g:List D->Option (List D)}{h:FA}(hc:_Qg X (.type T) r) (hr:CallO X.K r g) (hg:Gl X x) (hm:X.mg x=none) (hv:Be x=some (.type T)) (ha:DA X (a::es) h)
  (hn:x≠"__name__":=by decide) (hdb:(x==("__debug__":Str))=false:=by decide)
  (he:Aq (a::es) X.env=(false,eval a X.env)::Aq es X.env:=by rfl) (hpl:(Dg pos (Aq es X.env)).any (·.1)=false:=by rfl):DO X (.Call (.Name x p) (a::es) [] pos) (_qvk g h):=by
 refine PE.imp (_qz hc hg hm hv ha hn hdb he hpl) λσ H Q q=>?_;obtain⟨F,ρ,o,s,re,hf,k⟩:=q;obtain⟨zs,hf2,rfl⟩:=map_some hf;obtain⟨ds,hd,hf⟩:=bind_some hf2;exact⟨F,ρ,ds,s,re,hd,λvs F1 H1 e1 r1=>hr ds zs F1 H1 vs Q hf e1.fh r1 λa ws F' H' e' h1 h2 h3 r'=>k (.ref a) F' H' _ (e1.trans e') (_Ve h1 r') λb z=>by subst z;exact⟨h2,e1.hh.free h3⟩⟩
theorem do_op{op:Operator}{r:R2}{g:D->D->Option (List D)}{fa fb:FE}(ho:OpR X (Dw op) r) (hr:OpO X.K r g) (ha:DE X a fa) (hb:DE X b fb):DO X (.BinOp a op b pos) (o2 g fa fb):=by
 refine PE.imp (_jk ho ha hb) λσ H Q q=>?_;obtain⟨F,ρ,o,s,re,hf,k⟩:=q;obtain⟨zs,hf2,rfl⟩:=map_some hf;obtain⟨x,hx,hf⟩:=bind_some hf2;obtain⟨y,hy,hf⟩:=bind_some hf;exact⟨F,ρ,x,s,re,hx,λv F1 H1 e1 r1=>⟨F1,ρ,y,e1.fh,re.mono e1.ff,hy,λu F2 H2 e2 r2=>hr x y zs F2 H2 v u Q hf e2.fh (r1.mono e2.ff) r2 λa ws F' H' e' h1 h2 h3 r'=>
  k (.ref a) F' H' _ ((e1.trans e2).trans e') (_Ve h1 r') λb z=>by subst z;exact⟨h2,(e1.trans e2).hh.free h3⟩⟩⟩
end
end DL
namespace DL
open PySem PySem.Spec PyProof.Rows L2
structure Bs where
 F₀:Hp
 B:Hp
 P:Nat->Bool
 σ₀:St
def OwnT(K:Frag) (B F H:Hp) (σ:St) (ρ:Cs) (A:Nat->AS):Prop:=
 (∀(i:Nat) (o:O),ρ[i]?=some (some o)->∃v,σ[i]?=some (some v)/\Own K F H v o (A i))/\(∀i b,A i b->F b=none/\B b=none/\∃o,ρ[i]?=some (some o))/\∀i j b,A i b->A j b->i=j
structure RS(K:Frag) (β:Bs) (F H:Hp) (σ:St) (ρ:Cs):Prop where
 ext:Ext β.F₀ β.B F H
 len:ρ.length=σ.length
 pin:∀i,β.P i=true->σ[i]?=β.σ₀[i]?
 own:∃A:Nat->AS,OwnT K β.B F H σ ρ A
section
variable{K:Frag}{β:Bs}{F F' H H':Hp}{σ:St}{ρ:Cs}
abbrev Bs.re(β:Bs) (F:Hp):Bs:=⟨F,β.B,β.P,β.σ₀⟩
theorem RS.rebase(r:RS K β F H σ ρ):RS K (β.re F) F H σ ρ:=⟨⟨_qwk.refl _,r.ext.fh,r.ext.hh,λ_ _ h=>.inl h⟩,r.len,r.pin,r.own⟩
theorem _qon{F₀ B F1 H1:Hp}(e:Ext F₀ B F H) (r:Ext F B F1 H1):Ext F₀ B F1 H1:=
 ⟨e.ff.trans r.ff,r.fh,r.hh,λb o h=>(r.nw b o h).elim (λz=>e.nw b o z) .inr⟩
theorem RS.unbase(e:Ext β.F₀ β.B F H){F1 H1:Hp}{σ1:St}{ρ1:Cs}(r:RS K (β.re F) F1 H1 σ1 ρ1):RS K β F1 H1 σ1 ρ1:=⟨_qon e r.ext,r.len,r.pin,r.own⟩
theorem OwnT.there{B:Hp}{A:Nat->AS}(w:OwnT K B F H σ ρ A){i:Nat}{b:Addr}(h:A i b):∃u,H b=some u/\∀xs,u≠ .tup xs/\∀ob w,u≠ .frz ob w:=by
 obtain⟨h1,h2,h3⟩:=w;obtain⟨_,_,o,ho⟩:=h2 i b h;obtain⟨v,_,z⟩:=h1 i o ho;exact z.there b h
theorem OwnT.ext{B:Hp}{A:Nat->AS}(w:OwnT K B F H σ ρ A) (e:Ext F H F' H'):OwnT K B F' H' σ ρ A:=by
 have th:=λi b h=>w.there (i:=i) (b:=b) h;obtain⟨h1,h2,h3⟩:=w;refine⟨λi o h=>?_,λi b h=>?_,h3⟩
 ·obtain⟨v,e1,e2⟩:=h1 i o h
  exact⟨v,e1,e2.ext e.ff e.hh⟩
 ·obtain⟨e1,e2,ho⟩:=h2 i b h
  obtain⟨u,hu,_⟩:=th i b h;refine⟨?_,e2,ho⟩;cases q:F' b with
  |none=>rfl
  |some w=>
   rcases e.nw b w q with z|z
   ·rw[e1]at z;cases z
   ·rw[hu]at z;cases z
theorem RS.ext'(r:RS K β F H σ ρ) (e:Ext F H F' H'):RS K β F' H' σ ρ:=⟨r.ext.trans e,r.len,r.pin,r.own.imp λ_ w=>w.ext e⟩
def msk(S:List Bool) (i:Nat):Bool:=S[i]?.getD false
theorem _qok{S:List Bool}{ρ:Cs}{i:Nat}{d:D}(h:(frz S ρ)[i]?=some (some d)):msk S i=true/\∃o,ρ[i]?=some (some o)/\oD o=some d:=by
 induction S generalizing ρ i with
 |nil=>simp[frz]at h
 |cons b S ih=>
  cases ρ with
  |nil=>simp[frz]at h
  |cons c ρ=>
   cases i with
   |zero=>
    simp[frz]at h;obtain⟨hb,h⟩:=h;obtain⟨o,e1,e2⟩:=bind_some h;subst e1;exact⟨by simp[msk,hb],o,rfl,e2⟩
   |succ i=>
    obtain⟨h1,h2⟩:=ih (ρ:=ρ) (i:=i) (by simpa[frz]using h);exact⟨by simpa[msk]using h1,by simpa using h2⟩
theorem _qoj(S:List Bool) (ρ:Cs):(fz S ρ).length=ρ.length:=by
 induction S generalizing ρ with
 |nil=>cases ρ<;>simp[fz]
 |cons b S ih=>cases ρ<;>simp[fz,ih]
theorem _qrp{S:List Bool}{ρ:Cs}{i:Nat}{o:O}(h:(fz S ρ)[i]?=some (some o)):
  (msk S i=true/\∃o' d,ρ[i]?=some (some o')/\oD o'=some d/\o=.sh d)\/(ρ[i]?=some (some o)/\(msk S i=true->oD o=none)):=by
 induction S generalizing ρ i with
 |nil=>cases ρ<;>exact .inr ⟨by simpa[fz]using h,by simp[msk]⟩
 |cons b S ih=>
  cases ρ with
  |nil=>simp[fz]at h
  |cons c ρ=>
   cases i with
   |zero=>
    cases b with
    |true=>
     simp[fz]at h;cases c with
     |none=>cases h
     |some o'=>
      unfold fzc at h;cases q:oD o' with
      |none=>
       simp only[q]at h;cases h;exact .inr ⟨rfl,λ_=>q⟩
      |some d=>
       simp only[q]at h;cases h;exact .inl ⟨by simp[msk],o',d,rfl,q,rfl⟩
    |false=>exact .inr ⟨by simpa[fz]using h,by simp[msk]⟩
   |succ i=>
    rcases ih (ρ:=ρ) (i:=i) (by simpa[fz]using h)with⟨h1,h2⟩|⟨h1,h2⟩
    ·exact .inl ⟨by simpa[msk]using h1,by simpa using h2⟩
    ·exact .inr ⟨by simpa using h1,by simpa[msk]using h2⟩
noncomputable def _vs(F H F':Hp):Hp:=λb=>match F b with|some o=>some o|none=>match H b with|some _=>none|none=>F' b
theorem _jc:_qwk F (_vs F H F'):=λb o h=>by unfold _vs;rw[h]
theorem _qco{b:Addr}{o:HO}(h:_vs F H F' b=some o):F b=some o\/(H b=none/\F' b=some o):=by
 unfold _vs at h;cases q:F b with
 |some u=>rw[q]at h;exact .inl h
 |none=>
  rw[q]at h;cases z:H b with
  |some u=>rw[z]at h;cases h
  |none=>rw[z]at h;exact .inr ⟨rfl,h⟩
theorem _J0{b:Addr}(s:_qwk F H) (h:H b=none):_vs F H F' b=F' b:=by
 unfold _vs;rw[s.free h,h]
structure _qws(F H G:Hp):Prop where
 fg:_qwk F G
 gh:_qwk G H
 nt:∀b u,G b=some u->F b=some u\/ ∀xs,u≠ .tup xs/\∀ob w,u≠ .frz ob w
section
variable{G:Hp}
theorem _qws.ext(l:_qws F H G) (e:Ext G H F' H') (s:_qwk F H):Ext F H (_vs F H F') H' where
 ff:=_jc
 fh:=λb o h=>by
  rcases _qco h with h|⟨_,h⟩
  ·exact e.hh _ _ (s _ _ h)
  ·exact e.fh _ _ h
 hh:=e.hh
 nw:=λb o h=>by
  rcases _qco h with h|⟨h,_⟩
  ·exact .inl h
  ·exact .inr h
theorem _qws.at(l:_qws F H G) (e:Ext G H F' H') (s:_qwk F H){a:Addr}{u:HO}(h:F' a=some u) (nt:(∃xs,u=.tup xs)\/ ∃ob w,u=.frz ob w):_vs F H F' a=some u:=by
 rcases e.nw a u h with z|z
 ·rcases l.nt a u z with y|y
  ·unfold _vs;rw[y]
  ·rcases nt with⟨xs,rfl⟩|⟨ob,w,rfl⟩
   ·exact absurd rfl (y xs).1
   ·exact absurd rfl ((y []).2 ob w)
 ·rw[_J0 s z];exact h
theorem _qws.seqT(l:_qws F H G) (e:Ext G H F' H') (s:_qwk F H){a:Addr}{vs:List V}(h:SqT K F' a vs):SqT K (_vs F H F') a vs:=by
 rcases h with(q|⟨o,q⟩)|q
 ·exact .inl (.inl (l.at e s q (.inl ⟨_,rfl⟩)))
 ·exact .inl (.inr ⟨o,l.at e s q (.inr ⟨_,_,rfl⟩)⟩)
 ·exact .inr q
theorem _qcf(l:_qws F H G) (e:Ext G H F' H') (s:_qwk F H):(∀{v:V}{d:D},Rep K F' v d->imm d=true->Rep K (DL._vs F H F') v d)/\∀{vs:List V}{ds:List D},Reps K F' vs ds->_qvs ds=true->Reps K (DL._vs F H F') vs ds:=by
 refine⟨@Rep.rec K F' (λv d _=>imm d=true->Rep K (DL._vs F H F') v d) (λv d _=>_qvs d=true->Reps K (DL._vs F H F') v d) (λ_=>.non) (λb _=>.bl b) (λi _=>.int i) (λx _=>.str x) ?a ?b (λ_=>.nil) ?c,@Reps.rec K F' (λv d _=>imm d=true->Rep K (DL._vs F H F') v d) (λv d _=>_qvs d=true->Reps K (DL._vs F H F') v d) (λ_=>.non) (λb _=>.bl b) (λi _=>.int i) (λx _=>.str x) ?a ?b (λ_=>.nil) ?c⟩
 case a=>exact λ_ _ _ h=>by simp[imm]at h
 case b=>exact λq _ ih h=>.tup (l.seqT e s q) (ih (by simpa[imm]using h))
 case c=>
  intro v d vs ds q t ih it h;simp[_qvs]at h;exact .cons (ih h.1) (it h.2)
theorem _qws.rep(l:_qws F H G) (e:Ext G H F' H') (s:_qwk F H){v:V}{d:D}(h:imm d=true) (q:Rep K F' v d):Rep K (DL._vs F H F') v d:=(_qcf l e s).1 q h
theorem _qws.reps(l:_qws F H G) (e:Ext G H F' H') (s:_qwk F H){vs:List V}{ds:List D}(h:_qvs ds=true) (q:Reps K F' vs ds):Reps K (DL._vs F H F') vs ds:=(_qcf l e s).2 q h
theorem _qk8(l:_qws F H G) (e:Ext G H F' H') (s:_qwk F H):(∀{v:V}{o:O}{A:AS},Own K F' H' v o A->oim o=true->Own K (DL._vs F H F') H' v o A)/\∀{vs:List V}{os:List O}{A:AS},Owns K F' H' vs os A->_qvh os=true->Owns K (DL._vs F H F') H' vs os A:=by
 refine⟨@Own.rec K F' H' (λv o A _=>oim o=true->Own K (DL._vs F H F') H' v o A) (λv o A _=>_qvh o=true->Owns K (DL._vs F H F') H' v o A) ?a ?b ?c ?a2 ?d,@Owns.rec K F' H' (λv o A _=>oim o=true->Own K (DL._vs F H F') H' v o A) (λv o A _=>_qvh o=true->Owns K (DL._vs F H F') H' v o A) ?a ?b ?c ?a2 ?d⟩
 case a=>exact λq hA h=>.sh (l.rep e s (by simpa[oim]using h) q) hA
 case b=>exact λq n _ hA ih h=>.lst q n (ih (by simpa[oim]using h)) hA
 case c=>exact λq _ ih h=>.tup (l.at e s q (.inl ⟨_,rfl⟩)) (ih (by simpa[oim]using h))
 case a2=>exact λhA _=>.nil hA
 case d=>
  intro v o vs os A1 A2 A q t d hA ih it h;simp[_qvh]at h;exact .cons (ih h.1) (it h.2) d hA
theorem _qws.own(l:_qws F H G) (e:Ext G H F' H') (s:_qwk F H){v:V}{o:O}{A:AS}(h:oim o=true) (q:Own K F' H' v o A):Own K (DL._vs F H F') H' v o A:=(_qk8 l e s).1 q h
end
theorem RS.look (r:RS K β F H σ ρ) (S:List Bool):∃ G,_qws F H G/\RE K G σ (frz S ρ)/\RS K β G H σ (fz S ρ):=by
 obtain⟨A,h1,h2,h3⟩:=r.own
 let Z:AS:=λb=>∃i,msk S i=true/\(∃o d,ρ[i]?=some (some o)/\oD o=some d)/\A i b
 have Zf:∀b,Z b->F b=none/\β.B b=none:=λb ⟨i,_,_,q⟩=>⟨(h2 i b q).1,(h2 i b q).2.1⟩;have Zt:∀b,Z b->∃u,H b=some u/\∀xs,u≠ .tup xs/\∀ob w,u≠ .frz ob w:=λb ⟨i,_,_,q⟩=>by
  obtain⟨_,_,o,ho⟩:=h2 i b q;obtain⟨v,_,z⟩:=h1 i o ho;exact z.there b q
 have sF:_qwk F (_qwf F H Z):=_k2 λb z=>(Zf b z).1;refine⟨_qwf F H Z,⟨sF,_qe9 r.ext.fh,λb u q=>?_⟩,λi d h=>?_,⟨_Kn r.ext Zf,(_qoj S ρ).trans r.len,r.pin,?_⟩⟩
 ·by_cases z:Z b
  ·rw[_x7 z]at q
   obtain⟨u',e1,e2⟩:=Zt b z;rw[q]at e1;cases e1;exact .inr e2
  ·rw[_jz z]at q;exact .inl q
 ·obtain⟨g1,o,g2,g3⟩:=_qok h
  obtain⟨v,e1,e2⟩:=h1 i o g2;exact⟨v,e1,e2.rep sF g3 λb z=>_x7 ⟨i,g1,⟨o,d,g2,g3⟩,z⟩⟩
 ·classical
  refine⟨λi b=>A i b/\¬ (msk S i=true/\∃o d,ρ[i]?=some (some o)/\oD o=some d),λi o h=>?_,λi b h=>?_,λi j b x y=>h3 i j b x.1 y.1⟩
  ·rcases _qrp h with⟨g1,o',d,g2,g3,rfl⟩|⟨g1,g2⟩
   ·obtain⟨v,e1,e2⟩:=h1 i o' g2
    exact⟨v,e1,.sh (e2.rep sF g3 λb z=>_x7 ⟨i,g1,⟨o',d,g2,g3⟩,z⟩) λb z=>z.2 ⟨g1,o',d,g2,g3⟩⟩
   ·obtain⟨v,e1,e2⟩:=h1 i o g1
    refine⟨v,e1,(e2.stay sF (H':=H) λ_ _=>rfl).congr λb=>⟨λz=>⟨z,?_⟩,λz=>z.1⟩⟩;rintro⟨m,o',d,q1,q2⟩;rw[g1]at q1;cases q1;rw[g2 m]at q2;cases q2
  ·obtain⟨e1,e2,o,ho⟩:=h2 i b h.1
   refine⟨(_jz ?_).trans e1,e2,?_⟩
   ·rintro⟨j,m,q,z⟩
    have:=h3 i j b h.1 z
    subst this;exact h.2 ⟨m,q⟩
   ·
    have hl:i< (fz S ρ).length:=by rw[_qoj];exact(Ai.mp ho).1
    have hx:∃c,(fz S ρ)[i]?=some c:=⟨_,getElem?_eq_getElem hl⟩;obtain⟨c,hc⟩:=hx;cases c with
    |some o'=>exact⟨o',hc⟩
    |none=>
     exfalso
     have:∀(S:List Bool) (ρ:Cs) (i:Nat) (o:O),ρ[i]?=some (some o)->(fz S ρ)[i]?≠some none:=by
      intro S
      induction S with
      |nil=>intro ρ i o h z;cases ρ<;>simp[fz]at z h;rw[h]at z;cases z
      |cons b S ih=>
       intro ρ i o h z;cases ρ with
       |nil=>simp at h
       |cons c ρ=>
        cases i with
        |zero=>
         simp at h;subst h;cases b with
         |false=>simp[fz]at z
         |true=>simp[fz,fzc]at z;split at z<;>cases z
        |succ i=>exact ih ρ i o (by simpa using h) (by simpa[fz]using z)
     exact this S ρ i o ho hc
theorem _qpb(ρ:Cs):frz (Dh ρ.length true) ρ=all ρ:=by
 induction ρ with
 |nil=>simp[frz,all]
 |cons c ρ ih=>simp[frz,all,Hk]at ih⊢;exact ih
theorem RS.lookAll(r:RS K β F H σ ρ):∃G,_qws F H G/\RE K G σ (all ρ):=by
 obtain⟨G,l,re,_⟩:=r.look (Dh ρ.length true);rw[_qpb]at re;exact⟨G,l,re⟩
theorem RS.back(r:RS K β F H σ ρ){G:Hp}(l:_qws F H G) (e:Ext G H F' H'):RS K β (_vs F H F') H' σ ρ:=r.ext' (l.ext e r.ext.fh)
structure RT(K:Frag) (β:Bs) (F H:Hp) (σ:St) (ρ:Cs) (v:V) (o:O):Prop where
 ext:Ext β.F₀ β.B F H
 len:ρ.length=σ.length
 pin:∀i,β.P i=true->σ[i]?=β.σ₀[i]?
 own:∃(A:Nat->AS) (T:AS),OwnT K β.B F H σ ρ A/\Own K F H v o T/\(∀b,T b->F b=none/\β.B b=none)/\∀i b,A i b->¬T b
theorem RT.unbase(e:Ext β.F₀ β.B F H){F1 H1:Hp}{σ1:St}{ρ1:Cs}{v:V}{o:O}(r:RT K (β.re F) F1 H1 σ1 ρ1 v o):RT K β F1 H1 σ1 ρ1 v o:=⟨_qon e r.ext,r.len,r.pin,r.own⟩
theorem RS.push(r:RS K β F H σ ρ) (e:Ext F H F' H'){v:V}{o:O}{T:AS}(q:Own K F' H' v o T) (n:∀b,T b->F' b=none/\H b=none):RT K β F' H' σ ρ v o:=
 ⟨r.ext.trans e,r.len,r.pin,by
  obtain⟨A,w⟩:=r.own;refine⟨A,T,w.ext e,q,λb z=>⟨(n b z).1,r.ext.hh.free (n b z).2⟩,λi b x y=>?_⟩;obtain⟨u,hu,_⟩:=w.there x;rw[(n b y).2]at hu;cases hu⟩
theorem RS.sh(r:RS K β F H σ ρ){v:V}{d:D}(q:Rep K F v d):RT K β F H σ ρ v (.sh d):=
 r.push (Ext.refl r.ext.fh) (T:=λ_=>False) (.sh q λ_ z=>z) λ_ z=>z.elim
theorem _qcz{α:Type}{l:List (Option α)}{i j:Nat}{c:Option α}{c':α}(h:(l.set i c)[j]?=some (some c')):(j=i/\some c'=c/\i<l.length)\/(j≠i/\l[j]?=some (some c')):=by
 by_cases e:j=i
 ·subst e
  have hl:j<l.length:=by
   have:=(Ai.mp h).1
   simpa using this
  rw[getElem?_set_self hl]at h;cases h;exact .inl ⟨rfl,rfl,hl⟩
 ·rw[getElem?_set_ne (Bz e)]at h
  exact .inr ⟨e,h⟩
theorem RT.give{v:V}{o:O}(r:RT K β F H σ ρ v o) (i:Nat) (hi:β.P i=false):RS K β F H (σ.set i (some v)) (ρ.set i (some o)) where
 ext:=r.ext
 len:=by simpa using r.len
 pin:=λj h=>by
  have ne:j≠i:=by rintro rfl;rw[hi]at h;cases h
  rw[getElem?_set_ne (Bz ne)];exact r.pin j h
 own:=by
  obtain⟨A,T,⟨h1,h2,h3⟩,q,n,d⟩:=r.own;have hl:=r.len;refine⟨λj b=>(j≠i/\A j b)\/(j=i/\i<ρ.length/\T b),λj o' h=>?_,λj b h=>?_,λj k b x y=>?_⟩
  ·rcases _qcz h with⟨rfl,e,hl'⟩|⟨ne,h⟩
   ·cases e
    exact⟨v,getElem?_set_self (by rw[<-hl];exact hl'),q.congr λb=>⟨λz=>.inr ⟨rfl,hl',z⟩,λz=>z.elim (λy=>absurd rfl y.1) (·.2.2)⟩⟩
   ·obtain⟨v',e1,e2⟩:=h1 j o' h
    exact⟨v',by rw[getElem?_set_ne (Bz ne)];exact e1,e2.congr λb=>⟨λz=>.inl ⟨ne,z⟩,λz=>z.elim (·.2) λy=>absurd y.1 ne⟩⟩
  ·rcases h with⟨ne,h⟩|⟨rfl,hl',h⟩
   ·obtain⟨e1,e2,o',ho⟩:=h2 j b h
    exact⟨e1,e2,o',by rw[getElem?_set_ne (Bz ne)];exact ho⟩
   ·exact⟨(n b h).1,(n b h).2,o,getElem?_set_self hl'⟩
  ·rcases x with⟨_,x⟩|⟨rfl,_,x⟩<;>rcases y with⟨_,y⟩|⟨rfl,_,y⟩
   ·exact h3 j k b x y
   ·exact absurd y (d j b x)
   ·exact absurd x (d k b y)
   ·rfl
theorem RS.set_sh(r:RS K β F H σ ρ) (i:Nat) (hi:β.P i=false){v:V}{d:D}(q:Rep K F v d):RS K β F H (σ.set i (some v)) (ρ.set i (some (.sh d))):=(r.sh q).give i hi
end
def tM(K:Frag) (f:FM):TE:=λσ H Q=>∃β F ρ p,RS K β F H σ ρ/\f ρ=some p/\∀v F' H',_qwk F F'->_qwk H H'->RT K β F' H' σ p.2 v p.1->Q v H'
def DM(X:Cx) (e:Expr) (f:FM):Prop:=PE X e (tM X.K f)
section
variable{X:Cx}{e:Expr}
theorem DE.m(S:List Bool){f:FE}(h:DE X e f):DM X e (mE S f):=by
 refine PE.imp h λσ H Q q=>?_;obtain⟨β,F,ρ,p,r,hf,k⟩:=q;obtain⟨d,hd,rfl⟩:=map_some hf;obtain⟨G,l,re,rz⟩:=r.look S;refine⟨G,frz S ρ,d,l.gh,re,hd,λv F' H' e q=>?_⟩
 by_cases hi:imm d=true
 ·rw[if_pos hi]at k
  exact k v _ H' _jc e.hh ((r.back l e).sh (l.rep e r.ext.fh hi q))
 ·rw[if_neg hi]at k
  exact k v F' H' (l.fg.trans e.ff) e.hh ((rz.ext' e).sh q)
theorem DO.m(S:List Bool){f:FO}(h:DO X e f):DM X e (mO S f):=by
 refine PE.imp h λσ H Q q=>?_;obtain⟨β,F,ρ,p,r,hf,k⟩:=q;obtain⟨o,ho,rfl⟩:=map_some hf;obtain⟨G,l,re,rz⟩:=r.look S;refine⟨G,frz S ρ,o,l.gh,re,ho,λv F' H' A e q n=>?_⟩
 by_cases hi:oim o=true
 ·rw[if_pos hi]at k
  exact k v _ H' _jc e.hh (r.push (l.ext e r.ext.fh) (l.own e r.ext.fh hi q) λb z=>⟨(_J0 r.ext.fh (n b z).2).trans (n b z).1,(n b z).2⟩)
 ·rw[if_neg hi]at k
  exact k v F' H' (l.fg.trans e.ff) e.hh (rz.push e q n)
end
def EndS(K:Frag) (β:Bs) (E:Ends):Out->Prop
 | .nx ρ'=>∀F' H' σ',RS K β F' H' σ' ρ'->E.nx σ' H'
 | .bk ρ'=>∀F' H' σ',RS K β F' H' σ' ρ'->E.bk σ' H'
 | .ct ρ'=>∀F' H' σ',RS K β F' H' σ' ρ'->E.ct σ' H'
 | .rt o ρ'=>∀F' H' σ' v,RT K β F' H' σ' ρ' v o->E.rt v H'
 | .ex _ _=>False
def tS(K:Frag) (W:List Nat) (b:Blk):TS:=λE σ H=>∃β F ρ o,RS K β F H σ ρ/\(∀i∈W,β.P i=false)/\b ρ=some o/\EndS K β E o
def DS(X:Cx) (st:Stmt) (W:List Nat) (b:Blk):Prop:=PS X st (tS X.K W b)
def DSs(X:Cx) (st:List Stmt) (W:List Nat) (b:Blk):Prop:=PSs X st (tS X.K W b)
section
variable{X:Cx}{st:Stmt}{_qvb:List Stmt}{a e:Expr}{pos:Pos}{W W1 W2:List Nat}
theorem _qho{β:Bs}(h:∀i∈W1++W2,β.P i=false):∀i∈W1,β.P i=false:=λi m=>h i (G4 _ m)
theorem mem_r{β:Bs}(h:∀i∈W1++W2,β.P i=false):∀i∈W2,β.P i=false:=λi m=>h i (mem_append_right _ m)
theorem _j7:DSs X [] [] _qwc:=by
 refine PSs.imp _jj λE σ H q=>?_;obtain⟨β,F,ρ,o,r,_,h,k⟩:=q;cases h;exact k F H σ r
theorem _h{b c:Blk}(h1:DS X st W1 b) (h2:DSs X _qvb W2 c):DSs X (st::_qvb) (W1++W2) (_qwa b c):=by
 refine PSs.imp (_j h1 h2) λE σ H q=>?_;obtain⟨β,F,ρ,o,r,hw,h,k⟩:=q;unfold _qwa at h;cases hb:b ρ with
 |none=>rw[hb]at h;cases h
 |some o1=>
  rw[hb]at h;cases o1 with
  |nx ρ'=>exact⟨β,F,ρ,.nx ρ',r,_qho hw,hb,λF' H' σ' r'=>⟨β,F',ρ',o,r',mem_r hw,h,k⟩⟩
  |bk ρ'=>cases h;exact⟨β,F,ρ,.bk ρ',r,_qho hw,hb,k⟩
  |ct ρ'=>cases h;exact⟨β,F,ρ,.ct ρ',r,_qho hw,hb,k⟩
  |rt d ρ'=>cases h;exact⟨β,F,ρ,.rt d ρ',r,_qho hw,hb,k⟩
  |ex d ρ'=>cases h;exact⟨β,F,ρ,.ex d ρ',r,_qho hw,hb,k⟩
theorem _m{b:Blk}(h1:DS X st W b):DSs X [st] W b:=_w h1
theorem _F(i:Nat){f:FM}{st:Stmt}(hp:PS X st (tAsg (tM X.K f) (_z0 i))):DS X st [i] (_qw9 i f):=by
 refine PS.imp hp λE σ H q=>?_;obtain⟨β,F,ρ,o,r,hw,h,k⟩:=q;obtain⟨p,hd,rfl⟩:=map_some h;exact⟨β,F,ρ,p,r,hd,λv F' H' _ _ rt=>k F' H' _ (rt.give i (hw i (by simp)))⟩
theorem _G{f:FM}(h:DM X e f):DS X (.Return (some e) pos) [] (_qwb f):=by
 refine PS.imp (_xs h) λE σ H q=>?_;obtain⟨β,F,ρ,o,r,hw,h,k⟩:=q;obtain⟨p,hd,rfl⟩:=map_some h;exact⟨β,F,ρ,p,r,hd,λv F' H' _ _ rt=>k F' H' σ v rt⟩
theorem _Y1{c:Expr}{as bs:List Stmt}{q:FT}{a b:Blk}(hc:DT X c q) (ha:DSs X as W1 a) (hb:DSs X bs W2 b):DS X (.If c as bs pos) (W1++W2) (bIf q a b):=by
 refine PS.imp (_Z7 hc ha hb) λE σ H z=>?_;obtain⟨β,F,ρ,o,r,hw,h,k⟩:=z;obtain⟨t,ht,h⟩:=bind_some h;obtain⟨G,l,re⟩:=r.lookAll;refine⟨G,DL.all ρ,t,l.gh,re,ht,λF' H' e=>?_⟩;have r':=r.back l e;cases t with
 |true=>rw[if_pos rfl]at h;exact _qvo ⟨β,_,ρ,o,r',_qho hw,h,k⟩
 |false=>rw[if_neg Al]at h;exact _qvp ⟨β,_,ρ,o,r',mem_r hw,h,k⟩
theorem _ql4{st:Stmt}:DS X st [] bNever:=by
 refine PS.imp _qja λE σ H q=>?_;obtain⟨β,F,ρ,o,r,_,h,k⟩:=q;cases h
def tG(K:Frag) (W:List Nat) (g:GD):TG:=λv σ H Q=>∃β F ρ d ρ',RS K β F H σ ρ/\(∀i∈W,β.P i=false)/\Rep K F v d/\g d ρ=some ρ'/\∀σ',RS K β F H σ' ρ'->Q σ' H
def tGs(K:Frag) (W:List Nat) (g:List D->Cs->Option Cs):TGs:=λvs σ H Q=>∃β F ρ ds ρ',RS K β F H σ ρ/\(∀i∈W,β.P i=false)/\Reps K F vs ds/\g ds ρ=some ρ'/\∀σ',RS K β F H σ' ρ'->Q σ' H
def DG(X:Cx) (tg:Expr) (W:List Nat) (g:GD):Prop:=PG X tg (tG X.K W g)
theorem _zq(i:Nat){tg:Expr}(h:PG X tg (_z0 i)):DG X tg [i] (gN i):=by
 refine PG.imp h λv σ H Q q=>?_;obtain⟨β,F,ρ,d,ρ',r,hw,q,h,k⟩:=q;cases h;exact k _ (r.set_sh i (hw i (by simp)) q)
theorem _qoi:∀{gs:List GD}{ds:List D}{ρ ρ':Cs},gT gs ds ρ=some ρ'->ds.length=gs.length
 | [],[],_,_,_=>rfl
 |g::gs,d::ds,ρ,ρ',h=>by
  obtain⟨r1,_,h2⟩:=bind_some h;simp[_qoi h2]
 | [],_::_,_,_,h=>by simp[gT]at h
 |_::_,[],_,_,h=>by simp[gT]at h
def DGs(X:Cx) (ts:List Expr) (W:List Nat) (gs:List GD):Prop:=PGs X ts (tGs X.K W (gT gs))
theorem _qdd:DGs X [] [] []:=by
 intro pins s σ H vs us Q I rv q;refine _Xv pins s σ H vs us Q I rv ?_;obtain⟨β,F,ρ,ds,ρ',r,hw,q,h,k⟩:=q;cases q with
 |nil=>cases h;exact⟨rfl,k _ r⟩
 |cons=>cases h
theorem _kc{t:Expr}{ts:List Expr}{g:GD}{gs:List GD}(h1:DG X t W1 g) (h2:DGs X ts W2 gs)
  (hs:(Cb (t::ts) X.env).map (·.2)=Je t X.env::(Cb ts X.env).map (·.2):=by rfl):DGs X (t::ts) (W1++W2) (g::gs):=by
 intro pins s σ H vs us Q I rv q;refine _xu h1 h2 hs pins s σ H vs us Q I rv ?_;obtain⟨β,F,ρ,ds,ρ',r,hw,q,h,k⟩:=q;cases q with
 |nil=>cases h
 |cons q1 q2=>
  obtain⟨ρ1,h1,h2⟩:=bind_some h;exact⟨_,_,rfl,β,F,ρ,_,ρ1,r,_qho hw,q1,h1,λσ' r'=>⟨β,F,ρ1,_,ρ',r',mem_r hw,q2,h2,k⟩⟩
theorem _ql9{ts:List Expr}{gs:List GD}{kk:Nat}(hc:X.calm=true) (h:DGs X ts W gs) (hn:(Cb ts X.env).length=gs.length:=by rfl) (hst:(Cb ts X.env).findIdx? (·.1)=none:=by rfl):DG X (.Tuple ts kk pos) W (gTp gs):=by
 refine PG.imp (_qf3 hc h hn hst) λv σ H Q q=>?_;obtain⟨β,F,ρ,d,ρ',r,hw,q,h,k⟩:=q;unfold gTp at h;split at h
 ·rename_i ds
  cases q with
  |tup q t=>exact⟨_,_,rfl,seqT r.ext.fh q,by rw[t.length];exact _qoi h,β,F,ρ,ds,ρ',r,hw,t,h,k⟩
 ·cases h
theorem _qkw{K:Frag}{β:Bs}{F H:Hp}{σ:St}{ρ:Cs}{gD:GD}{bD:Blk}{d:D}{_qvb:List D}{o:Out}{E:Ends}{x:V}{N:St->Hp->Prop}
  (r:RS K β F H σ ρ) (hw1:∀i∈W1,β.P i=false) (hw2:∀i∈W2,β.P i=false) (q:Rep K F x d) (h:_qvx gD bD (d::_qvb) ρ=some o) (k:EndS K β E o)
  (hN:∀F' H' σ' ρ',_qwk F F'->RS K β F' H' σ' ρ'->_qvx gD bD _qvb ρ'=some o->N σ' H'):tG K W1 gD x σ H λσ2 H2=>tS K W2 bD {E with nx:=N,ct:=N,bk:=E.nx} σ2 H2:=by
 obtain⟨ρ1,h1,h2⟩:=bind_some h;refine⟨β.re F,F,ρ,d,ρ1,r.rebase,hw1,q,h1,λσ' r'=>?_⟩;cases hb1:bD ρ1 with
 |none=>rw[hb1]at h2;cases h2
 |some o1=>
  rw[hb1]at h2;refine⟨β.re F,F,ρ1,o1,r',hw2,hb1,?_⟩;cases o1 with
  |nx ρ2=>exact λF' H' σ2 r2=>hN F' H' σ2 ρ2 r2.ext.ff (RS.unbase r.ext r2) h2
  |ct ρ2=>exact λF' H' σ2 r2=>hN F' H' σ2 ρ2 r2.ext.ff (RS.unbase r.ext r2) h2
  |bk ρ2=>cases h2;exact λF' H' σ2 r2=>k F' H' σ2 (RS.unbase r.ext r2)
  |rt d ρ2=>cases h2;exact λF' H' σ2 v r2=>k F' H' σ2 v (RT.unbase r.ext r2)
  |ex d ρ2=>cases h2;exact k
theorem _J5{α:Type}{l:List α}{i:Nat}(h:i<l.length):l.drop i=l[i]::l.drop (i+1):=(List.getElem_cons_drop h).symm
theorem _V5{tg iter:Expr}{body:List Stmt}{S:List Bool}{f:FE}{gD:GD}{bD:Blk}(hp:PassesOwn (model X.prog X.w) X.A X.env X.xe) (hc:X.calm=true) (hi:DE X iter f) (hg:DG X tg W1 gD) (hb:DSs X body W2 bD)
  (hs:∀x,Cj iter X.env x=pure x:=by intro _;rfl):DS X (.For tg iter body [] pos) (W1++W2) (_qwd S f gD bD):=by
 refine PS.imp (_Jg hp hc (_H hi) hg hb hs) λE σ H q=>?_;obtain⟨β,F,ρ,o,r,hw,h,k⟩:=q;obtain⟨d,hd,h⟩:=bind_some h;rw[_Ke]at h;split at h
 ·rename_i ds
  obtain⟨G,l,re,rz⟩:=r.look S;refine⟨G,frz S ρ,.lst ds,l.gh,re,hd,λv F' H' e q=>?_⟩;cases q with
  |lst q t=>
   rename_i a vs;refine⟨a,rfl,⟨vs,(_qv6 e.fh q).l⟩,λi m σ H=>∃F ρ,RS X.K β F H σ ρ/\SqE X.K F a vs/\Reps X.K F vs ds/\i<=ds.length/\m=ds.length-i/\_qvx gD bD (ds.drop i) ρ=some o,
    ⟨_,F',fz S ρ,rz.ext' e,q,t,zero_le _,rfl,h⟩,?_⟩
   rintro i m σ1 H1 ⟨F1,ρ1,r1,q1,t1,hi,rfl,h1⟩
   by_cases hl:i<ds.length
   ·have hv:i<vs.length:=by rw[t1.length];exact hl
    refine .inr ⟨⟨vs,vs[i],(_qv6 r1.ext.fh q1).l,by simp[hv]⟩,λσ' H'=>∃F ρ,RS X.K β F H' σ' ρ/\SqE X.K F a vs/\Reps X.K F vs ds/\_qvx gD bD (ds.drop (i+1)) ρ=some o,λσ' H' ⟨F2,ρ2,r2,q2,t2,h2⟩=>⟨_,by omega,F2,ρ2,r2,q2,t2,hl,rfl,h2⟩,λx H2 y=>?_⟩;obtain⟨rfl,y⟩:=y;obtain⟨d,hd1,hd2⟩:=t1.get (y vs (_qv6 r1.ext.fh q1).l);have ed:ds[i]=d:=by rw[getElem?_eq_getElem hl]at hd1;exact Option.some.inj hd1
    rw[_J5 hl,ed]at h1;exact _qkw r1 (_qho hw) (mem_r hw) hd2 h1 k λF' H' σ' ρ' s r' h'=>⟨F',ρ',r',_qv6 s q1,t1.mono s,h'⟩
   ·refine .inl ⟨⟨vs,(_qv6 r1.ext.fh q1).l,by rw[t1.length];omega⟩,?_⟩
    rw[drop_of_length_le (by omega)]at h1;cases h1;exact k F1 H1 σ1 r1
 ·cases h
theorem _V4{c:Expr}{body:List Stmt}{cD:FT}{bD:Blk}(hp:PassesOwn (model X.prog X.w) X.A X.env X.xe) (hc:DT X c cD) (hb:DSs X body W bD):DS X (.While c body [] pos) W (_vq cD bD):=by
 refine PS.imp (_qbh hp hc hb) λE σ H q=>?_;obtain⟨β,F,ρ,o,r,hw,h,k⟩:=q;obtain⟨n,h⟩:=_Wh h;refine⟨λm σ H=>∃F ρ,RS X.K β F H σ ρ/\_Vx cD bD m ρ=some o,⟨n,F,ρ,r,h⟩,?_⟩;rintro m σ1 H1 ⟨F1,ρ1,r1,h1⟩;cases m with
 |zero=>cases h1
 |succ m=>
  unfold _Vx at h1;obtain⟨t,ht,h1⟩:=bind_some h1;obtain⟨G,l,re⟩:=r1.lookAll;refine⟨G,DL.all ρ1,t,l.gh,re,ht,λF' H' e=>?_⟩;have r2:=r1.back l e;cases t with
  |false=>
   rw[if_neg Al]at h1;cases h1;exact _qvp (k _ H' σ1 r2)
  |true=>
   rw[if_pos rfl]at h1;refine _qvo ⟨λσ' H'=>∃F ρ,RS X.K β F H' σ' ρ/\_Vx cD bD m ρ=some o,λσ' H' q=>⟨m,lt_succ_self _,q⟩,?_⟩;cases hb1:bD ρ1 with
   |none=>rw[hb1]at h1;cases h1
   |some o1=>
    rw[hb1]at h1;refine⟨β,_,ρ1,o1,r2,hw,hb1,?_⟩;cases o1 with
    |nx ρ2=>exact λF' H' σ2 r2=>⟨F',ρ2,r2,h1⟩
    |ct ρ2=>exact λF' H' σ2 r2=>⟨F',ρ2,r2,h1⟩
    |bk ρ2=>cases h1;exact k
    |rt d ρ2=>cases h1;exact k
    |ex d ρ2=>cases h1;exact k
end
theorem _qq8{K:Frag}{F H:Hp}{N:List Str}{vs:List V}{ds:List D}(s:_qwk F H) (r:Reps K F vs ds):RS K ⟨F,H,λ_=>false,[]⟩ F H (L2.start N vs) (ini N.length ds) where
 ext:=Ext.refl s
 len:=by simp[L2.start,ini,r.length]
 pin:=λi h=>by cases h
 own:=by
  refine⟨λ_ _=>False,λi o h=>?_,λ_ _ z=>z.elim,λ_ _ _ z=>z.elim⟩;unfold ini at h
  by_cases hi:i<ds.length
  ·rw[Dp (by simpa using hi),getElem?_map]at h
   cases q:ds[i]? with
   |none=>rw[q]at h;cases h
   |some d'=>
    rw[q]at h;cases h;obtain⟨v,h1,h2⟩:=r.getD q;refine⟨v,?_,.sh h2 λ_ z=>z⟩;unfold L2.start;rw[Dp (by rw[length_map,r.length];exact hi),getElem?_map,h1];rfl
  ·rw[Ia (by simpa using hi)]at h
   have:=mem_of_getElem? h
   simp at this
section
variable{P:Ak}{w:World}{K:Frag}{mg:Str->Option Value}{base:Heap}
theorem fnO{x qual:Str}{st:Stmt}{f:Addr}{fd:Am}{N ps:List Str}{k n m:Nat}{W:List Nat}{b:Blk}(F:Fun K x qual st f fd) (S:FnScope N ps (_e st)) (hn:ps.length=n) (hm:N.length=m)
  (hb:∀(cdv:Value) (A:Around) (outer:List Env) (s:Shared) (H:Hp) (E:XK),Room k (A.deeper (Jv qual (_e st) s.heap.objs.size f cdv))->DSs (cxOf CX0 P w K mg base N qual (_e st) f cdv A outer s H E).nox (_q1 st) W b):
  FnOk P w K mg base CX0 (k+1) f fd ps (spO K n (_qv7 m b)):=by
 subst hn hm;refine F.ok S (λvs H Q E h=>?_) (λcdv A outer s H vs Q E hr h=>⟨_,hb cdv A outer s H E hr,?_⟩)
 ·obtain⟨F,ds,d,_,r,hl,_⟩:=h
  rw[r.length,hl]
 ·obtain⟨F,ds,o,s,r,hl,h,k⟩:=h
  unfold _qv7 at h;cases hb1:b (ini N.length ds)with
  |none=>rw[hb1]at h;cases h
  |some o1=>
   rw[hb1]at h;refine⟨_,F,_,o1,_qq8 s r,λ_ _=>rfl,hb1,?_⟩;cases o1 with
   |nx ρ=>cases h;exact λF' H' σ' r'=>k _ F' H' (λ_=>False) r'.ext (.sh .non λ_ z=>z) λ_ z=>z.elim
   |rt o' ρ=>
    cases h;intro F' H' σ' v r';obtain⟨A,T,_,q,n,_⟩:=r'.own;exact k v F' H' T r'.ext q n
   |bk ρ=>cases h
   |ct ρ=>cases h
   |ex c ρ=>cases h
theorem FnOk.d{f:Addr}{fd:Am}{ps:List Str}{k n:Nat}{g:List D->Option O}(F:FnOk P w K mg base CX0 k f fd ps (spO K n g)):FnOk P w K mg base CX0 k f fd ps (spD K n λds=>(g ds).bind oD):=
 F.imp λvs H Q E h=>by
  obtain⟨F,ds,d,s,r,hl,hg,k⟩:=h;obtain⟨o,ho,hd⟩:=bind_some hg;exact⟨F,ds,o,s,r,hl,ho,λv F' H' A e q hA=>k v (_qwf F' H' A) H' (_Kn e hA) (q.rep (_k2 λb z=>(hA b z).1) hd λb z=>_x7 z)⟩
end
theorem _qr3{K:Frag}{g:List D->Option D}{H:Hp}{a:Addr}{ns:List Int}(h:g [.lst (ns.map .int)]=some (.bl true)) (hS:SqE K H a (ns.map V.int)):spD K 1 g [.ref a] H (λv _=>v=.bl true) λ_ _ _=>False:=
 ⟨H,[.lst (ns.map .int)],.bl true,_qwk.refl _,.cons (.lst hS (_qx ns)) .nil,rfl,h,λv F' H' _ r=>by cases r;rfl⟩
theorem law_call{P:Ak}{w:World}{K:Frag}{mg mb:Str->Option Value}{CX:CXT}{k:Nat}{fa a:Addr}{fd:Am}{x:Str}{sp:Sp}{s₁:Shared}{vs:List Value}{ns:List Int}
  (KX:K.In s₁.heap) (hns:s₁.heap.Ns Ar mg) (hb:s₁.heap.Ns Lu mb) (hbb:∀x:Str,x≠"__name__"->mb x=Be x) (hlim:s₁.heap.NoLimit) (hg:s₁.gens=#[])
  (ha:s₁.heap.get? a=some {cls:=.type "list",data:=.seq vs.toArray}) (hi:IntsAre vs ns) (hl:ns.length<=Aj) (hr:Room k Hq)
  (F:∀base:Heap,K.In base->base.Ns Ar mg->FnOk P w K mg base CX k fa fd [x] sp) (hbind:∀(s:Shared) (u:Value),Ir s fd ⟨[u],[]⟩ [(x,u)])
  (hsp:∀H:Hp,SqE K H a (ns.map V.int)->sp [.ref a] H (λv _=>v=.bl true) λ_ _ _=>False)
  (hCX:∀H e s',CX [] H s₁ (λ_ _ _=>False) e s'->False):
  D7 (model P w) Hq (.call (.ref fa) ⟨[.ref a],[]⟩) (λr s'=>r=.ok (.ret (.bool true))/\OldK s₁.heap s'.heap/\s'.os=s₁.os/\Hn s'.gens) s₁:=by
 refine L2.law_call KX hns hb hbb hlim hg ha hi hl hr F hbind (λH _ hS=>hsp H ?_) hCX;rcases hS with h|⟨o,its,n,hk,hc,hd,hs,hz,r⟩
 ·exact .inl h
 ·have e:=KX a o hk
  rw[ha]at e;cases e;exact .inr ⟨vs,_,hk,by rw[length_map];exact hl,_Q3 hi⟩
theorem _qgo{l:Hd}{n k:Nat}{q:Ak}{loose:List Str}{XP:(Str->Option Value)->Heap->Prop}{YP:World->Heap->Prop}{d:DefRec}{K:Params->Frag}{CX:World->CXT}{sp:World->Sp}{x:Str}
  (hn:l.most=some n) (hn2:n<=Aj) (hdf:d.params.defaults=[]) (hr:Room k Hq)
  (hY:∀(w:World) (h:Heap),YP w h->(K w.params).In h)
  (F:∀(w:World) (mg:Str->Option Value) (fa:Addr) (h:Heap),(K w.params).In h->h.Ns Ar mg->mg d.name=some (.ref fa)->
   ∃fd:Am,(∀(s:Shared) (u:Value),Ir s fd ⟨[u],[]⟩ [(x,u)])/\
    ∀base:Heap,(K w.params).In base->base.Ns Ar mg->FnOk l.prog w (K w.params) mg base (CX w) k fa fd [x] (sp w))
  (hsp:∀(w:World) (H:Hp) (a:Addr) (ns:List Int),ns.length<=n->SqE (K w.params) H a (ns.map V.int)->sp w [.ref a] H (λv _=>v=.bl true) λ_ _ _=>False)
  (hCX:∀(w:World) (H:Hp) (s:Shared) (e:Value) (s':Shared),CX w [] H s (λ_ _ _=>False) e s'->False):
  Ll q loose XP YP l.row.toRowW d [] (λf vs=>PySem.call f vs):=by
 refine Att.attach_call hn hdf λw s₀ s₁ mg mb fa o pm cd doc a vs ns G Y ho hd hcd hmg hobj hints hlen hg=>?_;have KX:=hY w _ Y;obtain⟨fd,hb,hF⟩:=F w mg fa _ KX G.T.g hmg;exact law_call KX G.T.g G.T.b G.T.builtins G.T.nolimit hg hobj hints (le_trans hlen hn2) hr hF hb (λH hS=>hsp w H a ns hlen hS) λH e s'=>hCX w H s₁ e s'
def Fn(P:Ak) (w:World) (K:Frag) (mg:Str->Option Value) (base:Heap) (k:Nat) (x:Str) (ps:List Str) (sp:Sp):Prop:=
 ∃f fd,FnOk P w K mg base CX0 k f fd ps sp/\mg x=some (.ref f)/\Hb K (.ref f)=true/\Binds K fd ps []
section
variable{X:Cx}{k n:Nat}{x:Str}{ps:List Str}{a:Expr}{es:List Expr}{p pos:Pos}
theorem _jh{g:List D->Option D}{h:FA}(G:Fn X.prog X.w X.K X.mg X.base k x ps (spD X.K n g)) (hr:Room k X.A) (hg:Gl X x) (ha:DA X (a::es) h)
  (hdb:(x==("__debug__":Str))=false:=by decide) (he:Aq (a::es) X.env=(false,eval a X.env)::Aq es X.env:=by rfl) (hpl:(Dg pos (Aq es X.env)).any (·.1)=false:=by rfl):
  DE X (.Call (.Name x p) (a::es) [] pos) (_qu n g h):=by
 obtain⟨f,fd,F,hm,hk,hb⟩:=G;exact _qow F hr hg hm hk hb ha hdb he hpl
theorem _qeb{g:List D->Option O}{h:FA}(G:Fn X.prog X.w X.K X.mg X.base k x ps (spO X.K n g)) (hr:Room k X.A) (hg:Gl X x) (ha:DA X (a::es) h)
  (hdb:(x==("__debug__":Str))=false:=by decide) (he:Aq (a::es) X.env=(false,eval a X.env)::Aq es X.env:=by rfl) (hpl:(Dg pos (Aq es X.env)).any (·.1)=false:=by rfl):
  DO X (.Call (.Name x p) (a::es) [] pos) (_Ys n g h):=by
 obtain⟨f,fd,F,hm,hk,hb⟩:=G;exact _qot F hr hg hm hk hb ha hdb he hpl
end
theorem _qsa{α:Type}(xs:List α) (i:Int):atP xs i=atI xs i:=rfl
theorem _qra{n j:Nat}{i:Int}(h:ixP n i=some j):j<n:=(_qcs h).2.1
inductive At(F H:Hp):V->List Stp->V->Prop
 |nil {v:V}:At F H v [] v
 |lst {a:Addr}{vs:List V}{i:Int}{n:Nat}{w v':V}{p:List Stp}(h:H a=some (.lst vs)) (hn:ixP vs.length i=some n) (hv:vs[n]?=some w) (t:At F H w p v'):At F H (.ref a) (.ix i::p) v'
 |tup {a:Addr}{vs:List V}{i:Int}{n:Nat}{w v':V}{p:List Stp}(h:F a=some (.tup vs)) (hn:ixP vs.length i=some n) (hv:vs[n]?=some w) (t:At F H w p v'):At F H (.ref a) (.ix i::p) v'
section
variable{K:Frag}{β:Bs}{F F' H H':Hp}{σ:St}{ρ:Cs}
theorem At.mono(sF:_qwk F F') (sH:_qwk H H'){v v':V}{p:List Stp}(h:At F H v p v'):At F' H' v p v':=by
 induction h with
 |nil=>exact .nil
 |lst h hn hv _ ih=>exact .lst (sH _ _ h) hn hv ih
 |tup h hn hv _ ih=>exact .tup (sF _ _ h) hn hv ih
theorem At.uniq(s:_qwk F H){v v1 v2:V}{p:List Stp}(h:At F H v p v1) (h':At F H v p v2):v1=v2:=by
 induction h with
 |nil=>cases h';rfl
 |lst h hn hv _ ih=>
  cases h' with
  |lst g gn gv t=>
   rw[h]at g;cases g;rw[hn]at gn;cases gn;rw[hv]at gv;cases gv;exact ih t
  |tup g _ _ _=>have:=s _ _ g;rw[h]at this;cases this
 |tup h hn hv _ ih=>
  cases h' with
  |lst g _ _ _=>have:=s _ _ h;rw[g]at this;cases this
  |tup g gn gv t=>
   rw[h]at g;cases g;rw[hn]at gn;cases gn;rw[hv]at gv;cases gv;exact ih t
theorem At.snoc{v w v':V}{p:List Stp}{s:Stp}(h:At F H v p w) (h':At F H w [s] v'):At F H v (p++[s]) v':=by
 induction h with
 |nil=>exact h'
 |lst h hn hv _ ih=>exact .lst h hn hv (ih h')
 |tup h hn hv _ ih=>exact .tup h hn hv (ih h')
def putO(o':O) (p:List Stp) (o:O):Option O:=atO (λ_=>some o') p o
theorem Own.focus:∀{p:List Stp}{v:V}{c o:O}{A:AS},Own K F H v c A->_qvv p c=some o->
  ∃(v':V) (A1 A2:AS),At F H v p v'/\Own K F H v' o A1/\(∀b,A b↔A1 b\/A2 b)/\(∀b,A1 b->¬A2 b)/\
   ∀(F' H':Hp) (o':O) (A1':AS),_qwk F F'->(∀b,A2 b->H' b=H b)->Own K F' H' v' o' A1'->(∀b,A1' b->¬A2 b)->∃c',putO o' p c=some c'/\Own K F' H' v c' λb=>A1' b\/A2 b
 | [],v,c,o,A,h,e=>by
  cases e;exact⟨v,A,λ_=>False,.nil,h,λb=>⟨.inl,λz=>z.elim id A5⟩,λ_ _ z=>z,λF' H' o' A1' _ _ q _=>⟨o',rfl,q.congr λb=>⟨.inl,λz=>z.elim id A5⟩⟩⟩
 | s :: p,v,c,o,A,h,e=>by
  have ex:∃n k,plc c s=some n/\(kids c)[n]?=some k/\_qvv p k=some o:=by
   unfold _qvv at e;obtain⟨n,hn,e⟩:=bind_some e;obtain⟨k,hk,e⟩:=bind_some e;exact⟨n,k,hn,hk,e⟩
  clear e;obtain⟨n,k,hn,hk,e⟩:=ex;cases h with
  |sh _ _=>cases s<;>cases hn
  |lst h0 n0 r hA=>
   rename_i a vs os A';cases s with
   |fl x=>cases hn
   |ix i=>
    obtain⟨w,B1,B2,h1,h2,h3,h4,h5⟩:=r.split (n:=n) (o:=k) hk;obtain⟨v',A1,A2,g1,g2,g3,g4,g5⟩:=Own.focus (p:=p) h2 e;have hn':ixP vs.length i=some n:=by rw[r.length];exact hn
    refine⟨v',A1,λb=>b=a\/A2 b\/B2 b,.lst h0 hn' h1 g1,g2,λb=>?_,λb x y=>?_,λF' H' o' A1' sF kk q dd=>?_⟩
    ·rw[hA b,h3 b,g3 b]
     exact⟨λz=>z.elim (λy=>.inr (.inl y)) λy=>y.elim (λx=>x.elim .inl λw=>.inr (.inr (.inl w))) λw=>.inr (.inr (.inr w)),λz=>z.elim (λy=>.inr (.inl (.inl y))) λy=>y.elim .inl λx=>x.elim (λw=>.inr (.inl (.inr w))) λw=>.inr (.inr w)⟩
    ·rcases y with rfl|y|y
     ·exact n0 ((h3 b).mpr (.inl ((g3 b).mpr (.inl x))))
     ·exact g4 b x y
     ·exact h4 b ((g3 b).mpr (.inl x)) y
    ·obtain⟨c',e1,e2⟩:=g5 F' H' o' A1' sF (λb z=>kk b (.inr (.inl z))) q λb x y=>dd b x (.inr (.inl y))
     have e3:=h5 F' H' w c' (λb=>A1' b\/A2 b) sF (λb z=>kk b (.inr (.inr z))) e2 λb x y=>by
      rcases x with x|x
      ·exact dd b x (.inr (.inr y))
      ·exact h4 b ((g3 b).mpr (.inr x)) y
     have ev:vs.set n w=vs:=by
      apply Iy;intro j
      by_cases hj:j=n
      ·subst hj
       rw[h1,getElem?_set_self (Ai.mp h1).1]
      ·rw[getElem?_set_ne (Bz hj)]
     rw[ev]at e3;refine⟨.lst (os.set n c'),?_,.lst ((kk a (.inl rfl)).trans h0) (A':=λb=>(A1' b\/A2 b)\/B2 b) ?_ e3 λb=>?_⟩
     ·have:os[n]?=some k:=hk
      unfold putO at e1⊢;simp only[atO,hn,this,e1,Option.bind_some,Option.map_some,reset,kids]
     ·rintro((z|z)|z)
      ·exact dd a z (.inl rfl)
      ·exact n0 ((h3 a).mpr (.inl ((g3 a).mpr (.inr z))))
      ·exact n0 ((h3 a).mpr (.inr z))
     ·exact⟨λz=>z.elim (λy=>.inr (.inl (.inl y))) λy=>y.elim .inl λx=>x.elim (λw=>.inr (.inl (.inr w))) λw=>.inr (.inr w),λz=>z.elim (λy=>.inr (.inl y)) λy=>y.elim (λx=>x.elim .inl λw=>.inr (.inr (.inl w))) λw=>.inr (.inr (.inr w))⟩
  |tup h0 r=>
   rename_i a vs os;cases s with
   |fl x=>cases hn
   |ix i=>
    obtain⟨w,B1,B2,h1,h2,h3,h4,h5⟩:=r.split (n:=n) (o:=k) hk;obtain⟨v',A1,A2,g1,g2,g3,g4,g5⟩:=Own.focus (p:=p) h2 e;have hn':ixP vs.length i=some n:=by rw[r.length];exact hn
    refine⟨v',A1,λb=>A2 b\/B2 b,.tup h0 hn' h1 g1,g2,λb=>?_,λb x y=>?_,λF' H' o' A1' sF kk q dd=>?_⟩
    ·rw[h3 b,g3 b,or_assoc]
    ·rcases y with y|y
     ·exact g4 b x y
     ·exact h4 b ((g3 b).mpr (.inl x)) y
    ·obtain⟨c',e1,e2⟩:=g5 F' H' o' A1' sF (λb z=>kk b (.inl z)) q λb x y=>dd b x (.inl y)
     have e3:=h5 F' H' w c' (λb=>A1' b\/A2 b) sF (λb z=>kk b (.inr z)) e2 λb x y=>by
      rcases x with x|x
      ·exact dd b x (.inr y)
      ·exact h4 b ((g3 b).mpr (.inr x)) y
     have ev:vs.set n w=vs:=by
      apply Iy;intro j
      by_cases hj:j=n
      ·subst hj
       rw[h1,getElem?_set_self (Ai.mp h1).1]
      ·rw[getElem?_set_ne (Bz hj)]
     rw[ev]at e3;refine⟨.tup (os.set n c'),?_,.tup (sF _ _ h0) (e3.congr λb=>or_assoc)⟩
     have:os[n]?=some k:=hk
     unfold putO at e1⊢;simp only[atO,hn,this,e1,Option.bind_some,Option.map_some,reset,kids]
theorem _Xi{g:O->Option O}:∀{p:List Stp}{c c':O},atO g p c=some c'->∃o o',_qvv p c=some o/\g o=some o'/\putO o' p c=some c'
 | [],c,c',h=>⟨c,c',rfl,h,rfl⟩
 |s::p,c,c',h=>by
  unfold atO at h;obtain⟨n,hn,h⟩:=bind_some h;obtain⟨k,hk,h⟩:=bind_some h;obtain⟨k',h',rfl⟩:=map_some h;obtain⟨o,o',e1,e2,e3⟩:=_Xi h';refine⟨o,o',by simp only[_qvv,hn,hk,Option.bind_some,e1],e2,?_⟩;unfold putO at e3⊢;simp only[atO,hn,hk,e3,Option.bind_some,Option.map_some]
theorem RT.frame{v:V}{o:O}(r:RT K β F H σ ρ v o):∃B',RS K ⟨β.F₀,B',β.P,β.σ₀⟩ F H σ ρ/\∀(F' H':Hp) (σ':St) (ρ':Cs),_qwk F F'->RS K ⟨β.F₀,B',β.P,β.σ₀⟩ F' H' σ' ρ'->RT K β F' H' σ' ρ' v o:=by
 obtain⟨A,T,⟨h1,h2,h3⟩,q,n,d⟩:=r.own;have hT:∀b,T b->∃u,H b=some u:=λb z=>by obtain⟨u,h,_⟩:=q.there b z;exact⟨u,h⟩
 have e:=r.ext;refine⟨_qwf β.B H T,⟨⟨e.ff,e.fh,_qe9 e.hh,λb u z=>?_⟩,r.len,r.pin,A,h1,λi b z=>?_,h3⟩,λF' H' σ' ρ' sF r'=>⟨⟨r'.ext.ff,r'.ext.fh,λb u z=>?_,λb u z=>?_⟩,r'.len,r'.pin,?_⟩⟩
 ·rcases e.nw b u z with y|y
  ·exact .inl y
  ·refine .inr ((_jz λt=>?_).trans y)
   rw[(n b t).1]at z;cases z
 ·obtain⟨e1,e2,e3⟩:=h2 i b z
  exact⟨e1,(_jz (d i b z)).trans e2,e3⟩
 ·refine r'.ext.hh b u ((_jz λt=>?_).trans z)
  rw[(n b t).2]at z;cases z
 ·rcases r'.ext.nw b u z with y|y
  ·exact .inl y
  ·by_cases t:T b
   ·exact .inr (n b t).2
   ·have y':_qwf β.B H T b=none:=y
    rw[_jz t]at y';exact .inr y'
 ·obtain⟨A',g1,g2,g3⟩:=r'.own
  have nB:∀b,T b->_qwf β.B H T b≠none:=λb t z=>by
   rw[_x7 t]at z;obtain⟨u,hu⟩:=hT b t;rw[hu]at z;cases z
  refine⟨A',T,⟨g1,λi b z=>?_,g3⟩,q.stay sF λb t=>?_,λb t=>⟨?_,(n b t).2⟩,λi b x t=>nB b t (g2 i b x).2.1⟩
  ·obtain⟨e1,e2,e3⟩:=g2 i b z
   refine⟨e1,?_,e3⟩;have e2':_qwf β.B H T b=none:=e2;rw[_jz λt=>nB b t e2']at e2';exact e2'
  ·obtain⟨u,hu⟩:=hT b t
   rw[hu];exact r'.ext.hh b u ((_x7 t).trans hu)
  ·cases z:F' b with
   |none=>rfl
   |some u=>
    exfalso;rcases r'.ext.nw b u z with y|y
    ·have:=e.ff b u y
     rw[(n b t).1]at this;cases this
    ·exact nB b t y
theorem RT.change{v1:V}{o1:O}(r:RT K β F H σ ρ v1 o1){i:Nat}{c:O}(hc:ρ[i]?=some (some c)){p:List Stp}{o:O}(ho:_qvv p c=some o):
  ∃(v0 v:V) (A1 T:AS),σ[i]?=some (some v0)/\At F H v0 p v/\Own K F H v o A1/\Own K F H v1 o1 T/\(∀b,A1 b->¬T b)/\
   ∀(x:Addr) (u:HO) (A1':AS) (o' c':O),A1 x->(∀b,A1' b->A1 b\/T b)->Own K F (upd H x u) v o' A1'->putO o' p c=some c'->RS K β F (upd H x u) σ (ρ.set i (some c')):=by
 obtain⟨A,T,⟨h1,h2,h3⟩,qT,hT,hd⟩:=r.own;obtain⟨v0,e1,q⟩:=h1 i c hc;obtain⟨v,A1,A2,g1,g2,g3,g4,g5⟩:=q.focus ho;refine⟨v0,v,A1,T,e1,g1,g2,qT,λb z=>hd i b ((g3 b).mpr (.inl z)),λx u A1' o' c' hx hs q' hp=>?_⟩;have xi:A i x:=(g3 x).mpr (.inl hx);have xF:=h2 i x xi;have sH:∀b w,b≠x->H b=some w->upd H x u b=some w:=λb w ne e=>by rw[_f ne];exact e
 obtain⟨c2,f1,f2⟩:=g5 F (upd H x u) o' A1' (_qwk.refl _) (λb z=>_f (by rintro rfl;exact g4 b hx z)) q' λb z y=>by
  rcases hs b z with t|t
  ·exact g4 b t y
  ·exact hd i b ((g3 b).mpr (.inr y)) t
 rw[hp]at f1;cases f1;refine⟨⟨r.ext.ff,λb w e=>sH b w (_d e xF.1) (r.ext.fh b w e),λb w e=>sH b w (_d e xF.2.1) (r.ext.hh b w e),r.ext.nw⟩,by simpa using r.len,r.pin,λj b=>(j≠i/\A j b)\/(j=i/\(A1' b\/A2 b)),λj o1 h=>?_,λj b h=>?_,λj k b a1 a2=>?_⟩
 ·rcases _qcz h with⟨rfl,e,_⟩|⟨ne,h⟩
  ·cases e
   exact⟨v0,e1,f2.congr λb=>⟨λz=>.inr ⟨rfl,z⟩,λz=>z.elim (λy=>absurd rfl y.1) (·.2)⟩⟩
  ·obtain⟨v',k1,k2⟩:=h1 j o1 h
   refine⟨v',k1,(k2.stay (_qwk.refl _) (H':=upd H x u) λb z=>_f ?_).congr λb=>⟨λz=>.inl ⟨ne,z⟩,λz=>z.elim (·.2) λy=>absurd y.1 ne⟩⟩;rintro rfl;exact ne (h3 j i b z xi)
 ·rcases h with⟨ne,h⟩|⟨rfl,h⟩
  ·obtain⟨k1,k2,o1,k3⟩:=h2 j b h
   exact⟨k1,k2,o1,by rw[getElem?_set_ne (Bz ne)];exact k3⟩
  ·have hb:F b=none/\β.B b=none:=by
    rcases h with h|h
    ·rcases hs b h with t|t
     ·exact⟨(h2 j b ((g3 b).mpr (.inl t))).1,(h2 j b ((g3 b).mpr (.inl t))).2.1⟩
     ·exact hT b t
    ·exact⟨(h2 j b ((g3 b).mpr (.inr h))).1,(h2 j b ((g3 b).mpr (.inr h))).2.1⟩
   exact⟨hb.1,hb.2,c',getElem?_set_self (Ai.mp hc).1⟩
 ·have key:∀{j b},j≠i->A j b->¬ (A1' b\/A2 b):=fun{j b} ne h z=>by
   rcases z with z|z
   ·rcases hs b z with t|t
    ·exact ne (h3 j i b h ((g3 b).mpr (.inl t)))
    ·exact hd j b h t
   ·exact ne (h3 j i b h ((g3 b).mpr (.inr z)))
  rcases a1 with⟨n1,a1⟩|⟨rfl,a1⟩<;>rcases a2 with⟨n2,a2⟩|⟨rfl,a2⟩
  ·exact h3 j k b a1 a2
  ·exact absurd a2 (key n1 a1)
  ·exact absurd a1 (key n2 a2)
  ·rfl
end
def tP(K:Frag) (i:Nat) (S:List Bool) (p:FP):TE:=λσ H Q=>∃β F ρ q c o,RS K β F H σ ρ/\p (frz S ρ)=some q/\ρ[i]?=some (some c)/\_qvv q c=some o/\
 ∀v0 v F' H',σ[i]?=some (some v0)->_qwk F F'->_qwk H H'->RS K β F' H' σ ρ->At F' H' v0 q v->Q v H'
def DP(X:Cx) (e:Expr) (i:Nat) (S:List Bool) (p:FP):Prop:=PE X e (tP X.K i S p)
section
variable{X:Cx}{e k:Expr}{pos:Pos}{i:Nat}{S:List Bool}{p:FP}
theorem _Ze{x:Str}(h:PE X (.Name x pos) (_qv1 i)):DP X (.Name x pos) i S pNil:=by
 refine PE.imp h λσ H Q q=>?_;obtain⟨β,F,ρ,q,c,o,r,hq,hc,ho,k⟩:=q;cases hq;obtain⟨A,h1,_⟩:=r.own;obtain⟨v,e1,_⟩:=h1 i c hc;exact⟨v,e1,k v v F H e1 (_qwk.refl _) (_qwk.refl _) r .nil⟩
theorem at_of{K:Frag}{β:Bs}{F H F' H':Hp}{σ:St}{ρ:Cs}{v v1:V}{o1 c o:O}{v0:V}{q:List Stp}(rt:RT K β F' H' σ ρ v1 o1) (hc:ρ[i]?=some (some c)) (ho:_qvv q c=some o) (e0:σ[i]?=some (some v0)) (sF:_qwk F F') (sH:_qwk H H') (h:At F H v0 q v):
  ∃(A1 T:AS),Own K F' H' v o A1/\Own K F' H' v1 o1 T/\(∀b,A1 b->¬T b)/\∀(x:Addr) (u:HO) (A1':AS) (o' c':O),A1 x->(∀b,A1' b->A1 b\/T b)->Own K F' (upd H' x u) v o' A1'->putO o' q c=some c'->RS K β F' (upd H' x u) σ (ρ.set i (some c')):=by
 obtain⟨v0',v',A1,T,e1,a1,q1,q2,d,k⟩:=rt.change hc ho;rw[e0]at e1;cases e1
 have:=(h.mono sF sH).uniq rt.ext.fh a1
 subst this;exact⟨A1,T,q1,q2,d,k⟩
theorem some_of{c:Option (Option O)}{o:O}(h:c.bind id=some o):c=some (some o):=by
 cases c with
 |none=>cases h
 |some c=>cases c with
  |none=>cases h
  |some o'=>cases h;rfl
theorem _ql5{f:FM}{st:Stmt}(hp:PS X st (tDrop (tBM X.K "list" _qh9 (tP X.K i S p) (_w7 (tM X.K f) _qv2)))):DS X st [] (bMut i S p f gApp):=by
 refine PS.imp hp λE σ H z=>?_;obtain⟨β,F,ρ,o,r,hw,h,k⟩:=z;obtain⟨q,hq,h⟩:=bind_some h;obtain⟨c0,hc0,h⟩:=bind_some h;have hc0:=some_of hc0;obtain⟨m0,ho0',h⟩:=bind_some h;split at h
 ·rename_i hm0
  obtain⟨os0,rfl⟩:∃os0,m0=.lst os0:=by cases m0<;>first|exact⟨_,rfl⟩|cases hm0
  have ho0:=ho0';obtain⟨rr,hf,h⟩:=bind_some h;obtain⟨c1,hc1,h⟩:=bind_some h;obtain⟨c',hc',rfl⟩:=map_some h;obtain⟨m,m',g1,g2,g3⟩:=_Xi hc';have hc1:=some_of hc1;refine⟨β,F,ρ,q,c0,.lst os0,r,hq,hc0,ho0,λv0 v F1 H1 e0 s1 s2 r1 at1=>⟨?_,β,F1,ρ,rr,r1,hf,λw F2 H2 sF sH rt=>?_⟩⟩
  ·obtain⟨A,h1,_⟩:=r1.own
   obtain⟨v0',e0',qq⟩:=h1 i c0 hc0;rw[e0]at e0';cases e0';obtain⟨v',Aa,Ab,a1,a2,a3⟩:=qq.focus ho0
   have:=at1.uniq r1.ext.fh a1
   subst this;cases a2 with
   |lst h0 _ _ _=>exact .inl ⟨rfl,_,SqL.of h0⟩
  ·obtain⟨A1,T,q1,q2,d,fin⟩:=at_of rt hc1 g1 e0 sF sH at1
   unfold gApp at g2;split at g2
   ·rename_i os
    split at g2
    ·rename_i hlen
     cases g2;cases q1 with
     |lst h0 n0 rv hA=>
      rename_i a vs A';have nT:¬T a:=d a ((hA a).mpr (.inl rfl));refine⟨a,vs,w,rfl,rfl,h0,by rw[rv.length];exact lt_of_lt_of_le hlen (_zo (le_refl _)),?_⟩;refine k F2 _ σ (fin a _ (λb=>b=a\/(A' b\/T b)) _ c' ((hA a).mpr (.inl rfl)) (λb z=>?_) (.lst _b (A':=λb=>A' b\/T b) (λz=>z.elim n0 nT) ?_ λ_=>Mi) g3)
      ·rcases z with z|z|z
       ·exact .inl ((hA b).mpr (.inl z))
       ·exact .inl ((hA b).mpr (.inr z))
       ·exact .inr z
      ·refine(rv.stay (_qwk.refl _) (H':=upd H2 a (.lst (vs++[w]))) λb z=>_f (by rintro rfl;exact n0 z)).append (.cons (q2.stay (_qwk.refl _) (H':=upd H2 a (.lst (vs++[w]))) λb z=>_f (by rintro rfl;exact nT z)) (.nil (A:=λ_=>False) λ_ z=>z) (λ_ _ z=>z) λb=>⟨.inl,λz=>z.elim id A5⟩) λb z y=>?_
       exact d b ((hA b).mpr (.inr z)) y
    ·cases g2
   ·cases g2
 ·cases h
theorem _qrs{kx:FE}{f:FM}{st:Stmt}(hp:PS X st (tAsg (tM X.K f) (gSub (tP X.K i S p) (tD X.K kx) rSetL))):DS X st [] (bPut i S p kx f):=by
 refine PS.imp hp λE σ H z=>?_;obtain⟨β,F,ρ,o,r,hw,h,k⟩:=z;obtain⟨rr,hf,ha⟩:=bind_some h;obtain⟨q,hq,hb⟩:=bind_some ha;obtain⟨dk,hdk,hc⟩:=bind_some hb;obtain⟨c0,hc0',hd⟩:=bind_some hc;have hc0:=some_of hc0';clear h ha hb hc hc0';have h:=hd;clear hd;split at h
 ·rename_i j
  obtain⟨c',hc',rfl⟩:=map_some h;obtain⟨m,m',g1,g2,g3⟩:=_Xi hc';refine⟨β,F,ρ,rr,r,hf,λw F1 H1 _ _ rt=>?_⟩;obtain⟨B',rs,back⟩:=rt.frame;refine⟨_,F1,rr.2,q,c0,m,rs,hq,hc0,g1,λv0 v F2 H2 e0 s1 s2 r2 at2=>?_⟩;obtain⟨G,l,re,rz⟩:=r2.look S;refine⟨G,frz S rr.2,_,l.gh,re,hdk,λy F3 H3 e3 q3=>?_⟩;cases q3;have r3:=r2.back l e3;have rt3:=back _ H3 σ rr.2 (s1.trans _jc) r3;obtain⟨A1,T,q1,q2,d,fin⟩:=at_of rt3 hc0 g1 e0 (_jc (F:=F2) (H:=H2) (F':=F3)) e3.hh at2;unfold gSetI at g2;split at g2
  ·rename_i os
   obtain⟨n,hn,rfl⟩:=map_some g2;cases q1 with
   |lst h0 n0 rv hA=>
    rename_i a vs A';have nT:¬T a:=d a ((hA a).mpr (.inl rfl));have hn':ixP vs.length j=some n:=by rw[rv.length];exact hn
    have hlt:n<os.length:=_qra hn;obtain⟨w0,B1,B2,b1,b2,b3,b4,b5⟩:=rv.split (n:=n) (o:=os[n]) (getElem?_eq_getElem hlt);refine⟨a,vs,j,n,rfl,rfl,h0,hn',?_⟩;have own':=b5 (_vs F2 H2 F3) (upd H3 a (.lst (vs.set n w))) w rr.1 T (_qwk.refl _) (λb z=>_f (by rintro rfl;exact n0 ((b3 b).mpr (.inr z)))) (q2.stay (_qwk.refl _) λb z=>_f (by rintro rfl;exact nT z)) λb z y=>d b ((hA b).mpr (.inr ((b3 b).mpr (.inr y)))) z;refine k (_vs F2 H2 F3) _ σ (fin a _ (λb=>b=a\/(T b\/B2 b)) _ c' ((hA a).mpr (.inl rfl)) (λb z=>?_) (.lst _b (A':=λb=>T b\/B2 b) ?_ own' λ_=>Mi) g3)
    ·rcases z with z|z|z
     ·exact .inl ((hA b).mpr (.inl z))
     ·exact .inr z
     ·exact .inl ((hA b).mpr (.inr ((b3 b).mpr (.inr z))))
    ·rintro(z|z)
     ·exact nT z
     ·exact n0 ((b3 a).mpr (.inr z))
  ·cases g2
 ·cases h
end
end DL
namespace DL
open PySem PySem.Spec PyProof.Rows L2 PySem.SeqAt
theorem _qoz{g:Int->Int->Int}{x y d:D}(h:dI g x y=some d):∃i j,x=.int i/\y=.int j/\d=.int (g i j):=by
 unfold dI at h;split at h
 ·cases h;exact⟨_,_,rfl,rfl,rfl⟩
 ·cases h
theorem _qp0{g:Int->Int->Bool}{x y d:D}(h:dB g x y=some d):∃i j,x=.int i/\y=.int j/\d=.bl (g i j):=by
 unfold dB at h;split at h
 ·cases h;exact⟨_,_,rfl,rfl,rfl⟩
 ·cases h
section
variable{K:Frag}{X:Cx}
theorem _qqn{g:Int->Int->Int}:OpD K (rI0 λi j=>.int (g i j)) (dI g):=by
 intro x y d F H v u Q h s rx ry k;obtain⟨i,j,rfl,rfl,rfl⟩:=_qoz h;cases rx;cases ry;exact⟨i,j,rfl,rfl,k _ F H (Ext.refl s) (.int _)⟩
theorem _qjk{g:Int->Int->Bool}:OpD K (rI0 λi j=>.bl (g i j)) (dB g):=by
 intro x y d F H v u Q h s rx ry k;obtain⟨i,j,rfl,rfl,rfl⟩:=_qp0 h;cases rx;cases ry;exact⟨i,j,rfl,rfl,k _ F H (Ext.refl s) (.bl _)⟩
def rAddD:R2:=λx y H Q=>(∃i j,x=.int i/\y=.int j/\Q (.int (i+j)) H)\/ ∃i j,x=.str i/\y=.str j/\i.length+j.length<=Aj/\Q (.str (i++j)) H
theorem _We:OpR X (Dw .Add) rAddD:=OpR.or _zy _wi
theorem _Wa:OpD K rAddD dAdd:=by
 intro x y d F H v u Q h s rx ry k;unfold dAdd at h;split at h
 ·cases h;cases rx;cases ry
  exact .inl ⟨_,_,rfl,rfl,k _ F H (Ext.refl s) (.int _)⟩
 ·split at h
  ·rename_i hl
   cases h;cases rx;cases ry;exact .inr ⟨_,_,rfl,rfl,_zo hl,k _ F H (Ext.refl s) (.str _)⟩
  ·cases h
 ·cases h
theorem _K7:OpD K (rI0 λi j=>.int (i-j)) dSub:=_qqn
theorem _qf7:OpD K (rI0 λi j=>.bl (decide (i<j))) dLt:=_qjk
theorem _qn8:OpD K (rI0 λi j=>.bl (decide (i<=j))) dLe:=_qjk
theorem _qn9:OpD K (rI0 λi j=>.bl (decide (j<=i))) dGe:=_qjk
theorem _qi5{i:Int}(h:i.natAbs<BIG):Le i<=1000001:=by
 unfold BIG at h;exact Nat.le_succ_of_le (intBits_le_iff.mpr h)
theorem _Zl{i:Int}(h:i.natAbs<SHORT):Le i<=64:=by
 unfold SHORT at h;exact Nat.le_succ_of_le (intBits_le_iff.mpr h)
theorem _qk3{i j:Int}(h:_qhm i j):IntMulOk i j:=by
 rcases h with h|h|h
 ·exact IntMulOk.of_le (_qi5 h.1) (_qi5 h.2) (by decide)
 ·exact IntMulOk.of_left (_Zl h)
 ·exact IntMulOk.of_right (_Zl h)
theorem _L:OpR X (Dw .Mult) (rI _qhm λi j=>.int (i*j)):=
 opI λi j _ _ _ _ _ hc q=>mul_int q (_qk3 hc)
theorem _Wc:OpR X (Dw .FloorDiv) (rI (λi j=>j≠0/\j.natAbs<BIGD) λi j=>.int (i.fdiv j)):=
 opI λi j _ _ _ _ _ hc q=>floordiv_int hc.1 q (.inl (PyProof.noPylong_of_log2 (by
  have h:=hc.2;unfold BIGD at h
  by_cases hz:j.natAbs=0
  ·rw[hz];decide
  ·exact(Nat.log2_lt hz).mpr h)))
theorem _K:OpD K (rI _qhm λi j=>.int (i*j)) _qw2:=by
 intro x y d F H v u Q h s rx ry k;unfold _qw2 at h;split at h
 ·split at h
  ·rename_i hc
   cases h;cases rx;cases ry;exact⟨_,_,rfl,rfl,hc,k _ F H (Ext.refl s) (.int _)⟩
  ·cases h
 ·cases h
theorem _K9:OpD K (rI (λi j=>j≠0/\j.natAbs<BIGD) λi j=>.int (i.fdiv j)) _qw5:=by
 intro x y d F H v u Q h s rx ry k;unfold _qw5 at h;split at h
 ·split at h
  ·rename_i hc
   cases h;cases rx;cases ry;exact⟨_,_,rfl,rfl,hc,k _ F H (Ext.refl s) (.int _)⟩
  ·cases h
 ·cases h
theorem _qbu:OpD K (rI (λ_ j=>j≠0) λi j=>.int (i.fmod j)) dMod:=by
 intro x y d F H v u Q h s rx ry k;unfold dMod at h;split at h
 ·split at h
  ·rename_i hc
   cases h;cases rx;cases ry;exact⟨_,_,rfl,rfl,hc,k _ F H (Ext.refl s) (.int _)⟩
  ·cases h
 ·cases h
theorem _qgt:UnD K (rU λi=>.int (-i)) dNeg:=by
 intro x d F H v Q h s rx k;unfold dNeg at h;split at h
 ·cases h;cases rx
  exact⟨_,rfl,k _ F H (Ext.refl s) (.int _)⟩
 ·cases h
mutual
def toP:D->PyData
 | .non=>.none
 | .bl b=>.bool b
 | .int i=>.int i
 | .str x=>.str x
 | .lst ds=>.list (_qv0 ds)
 | .tup ds=>.tuple (_qv0 ds)
def _qv0:List D->List PyData
 | []=>[]
 |d::ds=>toP d::_qv0 ds
end
mutual
theorem _qhr:∀{n:Nat}{d:D},shp n d=true->(toP d).canLay0=true/\(toP d).depth<=n
 |n,.non,_=>by simp[toP,E5,PyData.depth]
 |n,.bl _,_=>by simp[toP,E5,PyData.depth]
 |n,.int _,_=>by simp[toP,E5,PyData.depth]
 |n,.str x,h=>by
  refine⟨?_,by simp[toP,PyData.depth]⟩;unfold shp at h;simpa[toP,E5,PyData.strOk]using h
 |0,.lst _,h=>by simp[shp]at h
 |n+1,.lst xs,h=>by
  obtain⟨h1,h2⟩:=_zz (n:=n) (ds:=xs) (by simpa[shp]using h);exact⟨by simpa[toP,E5]using h1,by simpa[toP,PyData.depth]using h2⟩
 |0,.tup _,h=>by simp[shp]at h
 |n+1,.tup xs,h=>by
  obtain⟨h1,h2⟩:=_zz (n:=n) (ds:=xs) (by simpa[shp]using h);exact⟨by simpa[toP,E5]using h1,by simpa[toP,PyData.depth]using h2⟩
theorem _zz:∀{n:Nat}{ds:List D},_qv5 n ds=true->Iz (_qv0 ds)=true/\J9 (_qv0 ds)<=n
 |n,[],_=>by simp[_qv0,Iz,J9]
 |n,d::ds,h=>by
  have h':shp n d=true/\_qv5 n ds=true:=by simpa[_qv5]using h
  obtain⟨a1,a2⟩:=_qhr h'.1;obtain⟨b1,b2⟩:=_zz h'.2;exact⟨by simp[_qv0,Iz,a1,b1],by simp[_qv0,J9];omega⟩
end
theorem _qe{d:D}(h:shp 20 d=true):SeqAt.shaped (toP d)=true:=by
 obtain⟨h1,h2⟩:=_qhr h;unfold SeqAt.shaped;simp[h1];omega
mutual
theorem _Ww:∀{n m:Nat}{x y:D},shp n x=true->shp m y=true->Gv (toP x) (toP y)=eqD x y
 | n,m,x,y,hx,hy=>by
  cases x with
  |lst xs=>
   cases y with
   |lst ys=>
    cases n with
    |zero=>simp[shp]at hx
    |succ n=>cases m with
     |zero=>simp[shp]at hy
     |succ m=>
      simp only[toP,Gv,eqD];exact _V2 (n:=n) (m:=m) (by simpa[shp]using hx) (by simpa[shp]using hy)
   |_=>simp[toP,Gv,eqD]
  |tup xs=>
   cases y with
   |tup ys=>
    cases n with
    |zero=>simp[shp]at hx
    |succ n=>cases m with
     |zero=>simp[shp]at hy
     |succ m=>
      simp only[toP,Gv,eqD];exact _V2 (n:=n) (m:=m) (by simpa[shp]using hx) (by simpa[shp]using hy)
   |_=>simp[toP,Gv,eqD]
  |_=>
   cases y with
   |_=>simp[toP,Gv,eqD]
theorem _V2:∀{n m:Nat}{xs ys:List D},_qv5 n xs=true->_qv5 m ys=true->G0 (_qv0 xs) (_qv0 ys)=_qw1 xs ys
 |n,m,[],[],_,_=>by simp[_qv0,G0,_qw1]
 |n,m,[],_::_,_,_=>by simp[_qv0,G0,_qw1]
 |n,m,_::_,[],_,_=>by simp[_qv0,G0,_qw1]
 |n,m,x::xs,y::ys,hx,hy=>by
  have hx':shp n x=true/\_qv5 n xs=true:=by simpa[_qv5]using hx
  have hy':shp m y=true/\_qv5 m ys=true:=by simpa[_qv5]using hy
  simp only[_qv0,G0,_qw1];rw[_Ww hx'.1 hy'.1,_V2 hx'.2 hy'.2]
end
def rEqD(K:Frag) (neg:Bool):R2:=λx y H Q=>∃F dx dy,_qwk F H/\Rep K F x dx/\Rep K F y dy/\shp 20 dx=true/\shp 20 dy=true/\Q (.bl (if neg=true then !eqD dx dy else eqD dx dy)) H
variable{pins:List (Addr×Obj)}{σ:L2.St}{H F:Hp}{s:Shared}
theorem _K1(I:Inv X pins σ H s) (e:_qwk F H):(∀{v:V}{d:D},Rep X.K F v d->∀{n:Nat},shp n d=true->∀{u:Value},_qwm v u->∃as,Reads s.heap u (toP d) as)/\∀{vs:List V}{ds:List D},Reps X.K F vs ds->∀{n:Nat},_qv5 n ds=true->∀{us:List Value},_qwi vs us->∃as,Ni s.heap us (_qv0 ds) as:=by
 refine⟨@Rep.rec X.K F (λv d _=>∀{n:Nat},shp n d=true->∀{u:Value},_qwm v u->∃as,Reads s.heap u (toP d) as) (λv d _=>∀{n:Nat},_qv5 n d=true->∀{us:List Value},_qwi v us->∃as,Ni s.heap us (_qv0 d) as) ?n ?b ?i ?s ?l ?t ?m ?c,@Reps.rec X.K F (λv d _=>∀{n:Nat},shp n d=true->∀{u:Value},_qwm v u->∃as,Reads s.heap u (toP d) as) (λv d _=>∀{n:Nat},_qv5 n d=true->∀{us:List Value},_qwi v us->∃as,Ni s.heap us (_qv0 d) as) ?n ?b ?i ?s ?l ?t ?m ?c⟩
 case n=>intro n _ u r;cases r;exact⟨_,.none⟩
 case b=>intro b n _ u r;cases r;exact⟨_,.bool b⟩
 case i=>intro i n _ u r;obtain⟨t,rfl⟩:=r;exact⟨_,.int i t⟩
 case s=>intro x n _ u r;obtain⟨t,rfl⟩:=r;exact⟨_,.str x t⟩
 case l=>
  intro a vs ds h q ih n hs u r;cases n with
  |zero=>simp[shp]at hs
  |succ n=>
   cases r;obtain⟨its,_,rv,h1,_⟩:=Inv.listE I (_qv6 e h);obtain⟨as,z⟩:=ih (n:=n) (by simpa[shp]using hs) rv;exact⟨_,.list h1 rfl rfl (by simpa using z)⟩
 case t=>
  intro a vs ds h q ih n hs u r;cases n with
  |zero=>simp[shp]at hs
  |succ n=>
   cases r;obtain⟨its,rv,⟨o,h1,h2,_,h3⟩,_⟩:=I.tuple (seqT e h);obtain⟨as,z⟩:=ih (n:=n) (by simpa[shp]using hs) rv;exact⟨_,.tuple h1 h2 h3 (by simpa using z)⟩
 case m=>intro n _ us r;cases r;exact⟨_,.nil⟩
 case c=>
  intro v d vs ds h q ih it n hs us r;cases r with
  |cons r1 r2=>
   have hs':shp n d=true/\_qv5 n ds=true:=by simpa[_qv5]using hs
   obtain⟨as,z⟩:=ih hs'.1 r1;obtain⟨bs,z2⟩:=it hs'.2 r2;exact⟨_,.cons z z2⟩
theorem Rep.reads(I:Inv X pins σ H s) (e:_qwk F H){v:V}{d:D}{n:Nat}(h:Rep X.K F v d) (hs:shp n d=true){u:Value}(r:_qwm v u):∃as,Reads s.heap u (toP d) as:=(_K1 I e).1 h hs r
theorem Reps.reads(I:Inv X pins σ H s) (e:_qwk F H){vs:List V}{ds:List D}{n:Nat}(h:Reps X.K F vs ds) (hs:_qv5 n ds=true){us:List Value}(r:_qwi vs us):∃as,Ni s.heap us (_qv0 ds) as:=(_K1 I e).2 h hs r
theorem _Vi(hu:X.A.units+64<cLine):OpR X (Bn .Eq) (rEqD X.K false):=by
 intro pins s σ H x y v u Q I rx ry h;obtain⟨F,dx,dy,e,r1,r2,h1,h2,q⟩:=h;obtain⟨as,z1⟩:=r1.reads I e h1 rx;obtain⟨bs,z2⟩:=r2.reads I e h2 ry;exact eq_dataH z1 z2 (_qe h1) (_qe h2) hu (by rw[_Ww h1 h2];exact⟨.bl _,H,I,rfl,q⟩)
theorem _qf9(hu:X.A.units+64<cLine):OpR X (Bn .NotEq) (rEqD X.K true):=by
 intro pins s σ H x y v u Q I rx ry h;obtain⟨F,dx,dy,e,r1,r2,h1,h2,q⟩:=h;obtain⟨as,z1⟩:=r1.reads I e h1 rx;obtain⟨bs,z2⟩:=r2.reads I e h2 ry;exact ne_dataH z1 z2 (_qe h1) (_qe h2) hu (by rw[_Ww h1 h2];exact⟨.bl _,H,I,rfl,q⟩)
theorem _qbw:OpD K (rEqD K false) dEq:=by
 intro x y d F H v u Q h s rx ry k;unfold dEq at h;split at h
 ·rename_i hc
  cases h;exact⟨F,x,y,s,rx,ry,hc.1,hc.2,k _ F H (Ext.refl s) (.bl _)⟩
 ·cases h
theorem _qqk:OpD K (rEqD K true) dNe:=by
 intro x y d F H v u Q h s rx ry k;unfold dNe at h;split at h
 ·rename_i hc
  cases h;exact⟨F,x,y,s,rx,ry,hc.1,hc.2,k _ F H (Ext.refl s) (.bl _)⟩
 ·cases h
theorem _w5{n m:Nat}{x:D}(hx:shp n x=true):∀{ds:List D},_qv5 m ds=true->(_qv0 ds).any (λy=>Gv y (toP x))=ds.any λy=>eqD y x
 | [],_=>by simp[_qv0]
 |d::ds,h=>by
  have h':shp m d=true/\_qv5 m ds=true:=by simpa[_qv5]using h
  simp only[_qv0,any_cons];rw[_Ww h'.1 hx,_w5 hx h'.2]
def rInD(K:Frag) (neg:Bool):R2:=λx y H Q=>∃F dx ds b,_qwk F H/\Rep K F x dx/\Rep K F y (if b=true then .tup ds else .lst ds)/\shp 20 dx=true/\shp 20 (if b=true then D.tup ds else .lst ds)=true/\Q (.bl (if neg=true then !(ds.any λy=>eqD y dx)else ds.any λy=>eqD y dx)) H
theorem _Vh(hu:X.A.units+64+1<cLine):OpR X (Bn .In) (rInD X.K false):=by
 intro pins s σ H x y v u Q I rx ry h;obtain⟨F,dx,ds,b,e,r1,r2,h1,h2,q⟩:=h;obtain⟨as,z1⟩:=r1.reads I e h1 rx;obtain⟨bs,z2⟩:=r2.reads I e h2 ry;cases b with
 |false=>
  have h2':_qv5 19 ds=true:=by simpa[shp]using h2
  have z2':Reads s.heap u (.list (_qv0 ds)) bs:=by simpa[toP]using z2
  exact in_list_reads z2' z1 (_zz h2').1 (Eg (_qe h1)) (Ib (_qe h1) (by omega)) (by rw[_w5 h1 h2'];exact⟨.bl _,H,I,rfl,q⟩)
 |true=>
  have h2':_qv5 19 ds=true:=by simpa[shp]using h2
  have z2':Reads s.heap u (.tuple (_qv0 ds)) bs:=by simpa[toP]using z2
  exact in_tuple_reads z2' z1 (_zz h2').1 (Eg (_qe h1)) (Ib (_qe h1) (by omega)) (by rw[_w5 h1 h2'];exact⟨.bl _,H,I,rfl,q⟩)
theorem _Wb(hu:X.A.units+64+1<cLine):OpR X (Bn .NotIn) (rInD X.K true):=by
 intro pins s σ H x y v u Q I rx ry h;obtain⟨F,dx,ds,b,e,r1,r2,h1,h2,q⟩:=h;obtain⟨as,z1⟩:=r1.reads I e h1 rx;obtain⟨bs,z2⟩:=r2.reads I e h2 ry;cases b with
 |false=>
  have h2':_qv5 19 ds=true:=by simpa[shp]using h2
  have z2':Reads s.heap u (.list (_qv0 ds)) bs:=by simpa[toP]using z2
  exact notIn_list_reads z2' z1 (_zz h2').1 (Eg (_qe h1)) (Ib (_qe h1) (by omega)) (by rw[_w5 h1 h2'];exact⟨.bl _,H,I,rfl,q⟩)
 |true=>
  have h2':_qv5 19 ds=true:=by simpa[shp]using h2
  have z2':Reads s.heap u (.tuple (_qv0 ds)) bs:=by simpa[toP]using z2
  exact notIn_tuple_reads z2' z1 (_zz h2').1 (Eg (_qe h1)) (Ib (_qe h1) (by omega)) (by rw[_w5 h1 h2'];exact⟨.bl _,H,I,rfl,q⟩)
theorem _qf8:OpD K (rInD K false) dIn:=by
 intro x y d F H v u Q h s rx ry k;unfold dIn at h;split at h
 ·split at h
  ·rename_i hc
   cases h;exact⟨F,_,_,false,s,rx,ry,hc.1,hc.2,k _ F H (Ext.refl s) (.bl _)⟩
  ·cases h
 ·split at h
  ·rename_i hc
   cases h;exact⟨F,_,_,true,s,rx,ry,hc.1,hc.2,k _ F H (Ext.refl s) (.bl _)⟩
  ·cases h
 ·cases h
theorem _K8:OpD K (rInD K true) _Zf:=by
 intro x y d F H v u Q h s rx ry k;unfold _Zf at h;split at h
 ·split at h
  ·rename_i hc
   cases h;exact⟨F,_,_,false,s,rx,ry,hc.1,hc.2,k _ F H (Ext.refl s) (.bl _)⟩
  ·cases h
 ·split at h
  ·rename_i hc
   cases h;exact⟨F,_,_,true,s,rx,ry,hc.1,hc.2,k _ F H (Ext.refl s) (.bl _)⟩
  ·cases h
 ·cases h
def rIsB:R2:=λx y H Q=>(∃a b,x=.bl a/\y=.bl b/\Q (.bl (a==b)) H)\/(y=.non/\Q (.bl (decide (x=.non))) H)
def rIsNB:R2:=λx y H Q=>(∃a b,x=.bl a/\y=.bl b/\Q (.bl (a !=b)) H)\/(y=.non/\Q (.bl (!decide (x=.non))) H)
theorem _qqq:OpR X (Bn .Is) rIsB:=by
 intro pins s σ H x y v u Q I rx ry h;rcases h with⟨a,b,rfl,rfl,q⟩|h
 ·cases rx;cases ry
  exact is_bool ⟨.bl _,H,I,rfl,q⟩
 ·exact _qfa pins s σ H x y v u Q I rx ry h
theorem _qby:OpR X (Bn .IsNot) rIsNB:=by
 intro pins s σ H x y v u Q I rx ry h;rcases h with⟨a,b,rfl,rfl,q⟩|h
 ·cases rx;cases ry
  exact isnot_bool ⟨.bl _,H,I,rfl,q⟩
 ·exact _qna pins s σ H x y v u Q I rx ry h
theorem _qh7{v:V}{d:D}(r:Rep K F v d):decide (v=.non)=(match d with| .non=>true|_=>false):=by
 cases r<;>simp
theorem _qqm:OpD K rIsB dIs:=by
 intro x y d F H v u Q h s rx ry k;unfold dIs at h;split at h
 ·cases h;cases rx;cases ry
  exact .inl ⟨_,_,rfl,rfl,k _ F H (Ext.refl s) (.bl _)⟩
 ·cases ry
  refine .inr ⟨rfl,?_⟩;rw[_qh7 rx];split at h
  ·cases h;exact k _ F H (Ext.refl s) (.bl _)
  ·rename_i hx
   cases h;cases x with
   |non=>exact absurd rfl hx
   |_=>exact k _ F H (Ext.refl s) (.bl _)
 ·cases h
theorem _qbv:OpD K rIsNB _qw4:=by
 intro x y d F H v u Q h s rx ry k;unfold _qw4 at h;split at h
 ·cases h;cases rx;cases ry
  exact .inl ⟨_,_,rfl,rfl,k _ F H (Ext.refl s) (.bl _)⟩
 ·cases ry
  refine .inr ⟨rfl,?_⟩;rw[_qh7 rx];split at h
  ·cases h;exact k _ F H (Ext.refl s) (.bl _)
  ·rename_i hx
   cases h;cases x with
   |non=>exact absurd rfl hx
   |_=>exact k _ F H (Ext.refl s) (.bl _)
 ·cases h
def rIxD(K:Frag):R2:=λx y H Q=>rIxL K x y H Q\/rIxT K x y H Q
theorem ix_D:IxR X (rIxD X.K):=_Wo.or _Yz
theorem _qi7{vs:List V}{ds:List D}{i:Int}{d:D}(r:Reps K F vs ds) (h:atP ds i=some d):∃v,atI vs i=some v/\Rep K F v d:=by
 rw[_qsa]at h;unfold atI at h⊢;rw[r.length];obtain⟨j,h1,h2⟩:=bind_some h;obtain⟨v,h3,h4⟩:=r.getD h2;exact⟨v,by rw[h1];exact h3,h4⟩
theorem _qql:OpD K (rIxD K) dIx:=by
 intro x y d F H v u Q h s rx ry k;unfold dIx at h;split at h
 ·cases rx with
  |lst q r=>
   cases ry;obtain⟨w,h1,h2⟩:=_qi7 r h;exact .inl ⟨_,_,_,w,rfl,rfl,(_qv6 s q).l,h1,k w F H (Ext.refl s) h2⟩
 ·cases rx with
  |tup q r=>
   cases ry;obtain⟨w,h1,h2⟩:=_qi7 r h;exact .inr ⟨_,_,_,w,rfl,rfl,seqT s q,h1,k w F H (Ext.refl s) h2⟩
 ·cases h
theorem _q6{a b:Expr}{pos:Pos}{fa fb:FE}(ha:DE X a fa) (hb:DE X b fb) (hs:_qi8 b):DE X (.Subscript a b pos) (f2 dIx fa fb):=
 PE.imp (_Jm ix_D ha hb hs) λ_ _ _ q=>d_op _qql q
section
variable{a b c:Expr}{pos:Pos}{op op':CmpOp}{r r':R2}{g g':D->D->Option D}{fa fb fc:FE}
end
theorem _jn:_qpg K (λxs H Q=>∃p ys,xs=[.ref p]/\(SqL K H p ys\/SqT K H p ys)/\Q (.int ys.length) H) _qw3:=by
 intro ds d F H vs Q h s r k;unfold _qw3 at h;split at h
 ·cases h
  cases r with|cons r r'=>
  cases r';cases r with|lst q t=>exact⟨_,_,rfl,.inl (_qv6 s q).l,k _ F H (Ext.refl s) (by rw[t.length];exact .int _)⟩
 ·cases h
  cases r with|cons r r'=>
  cases r';cases r with|tup q t=>exact⟨_,_,rfl,.inr (seqT s q),k _ F H (Ext.refl s) (by rw[t.length];exact .int _)⟩
 ·cases h
theorem _W8:_qpg K (λxs H Q=>∃i,xs=[.int i]/\Q (.int (if i<0 then-i else i)) H) dAbs:=by
 intro ds d F H vs Q h s r k;unfold dAbs at h;split at h
 ·cases h
  cases r with|cons r r'=>
  cases r';cases r;exact⟨_,rfl,k _ F H (Ext.refl s) (.int _)⟩
 ·cases h
theorem _Zi:CallO K (λxs H Q=>∃p ys,xs=[.ref p]/\(SqL K H p ys\/SqT K H p ys)/\∀l,H l=none->Q (.ref l) (upd H l (.lst ys))) _qhs:=by
 intro ds es F H vs Q h s r k;unfold _qhs at h;split at h
 ·cases h
  cases r with|cons r r'=>
  cases r';cases r with|lst q t=>exact⟨_,_,rfl,.inl (_qv6 s q).l,λl hl=>k l _ F _ (Ext.laidH s hl) _b (s.free hl) hl t⟩
 ·cases h
  cases r with|cons r r'=>
  cases r';cases r with|tup q t=>exact⟨_,_,rfl,.inr (seqT s q),λl hl=>k l _ F _ (Ext.laidH s hl) _b (s.free hl) hl t⟩
 ·cases h
def rCatE(K:Frag):R2:=λx y H Q=>∃l b xs zs,x=.ref l/\y=.ref b/\SqE K H l xs/\SqE K H b zs/\xs.length+zs.length<=Aj/\∀p,H p=none->Q (.ref p) (upd H p (.lst (xs++zs)))
theorem _Wd:OpR X (Dw .Add) (rCatE X.K):=by
 intro pins s σ H x y v u Q I rx ry h;obtain⟨l,b,xs,zs,rfl,rfl,hH,hB,hz,q⟩:=h;cases rx;cases ry;obtain⟨its,n,r,e,z⟩:=Inv.listE I hH;obtain⟨its2,n2,r2,e2,z2⟩:=Inv.listE I hB;have hl:=r.length;have hl2:=r2.length;refine PySem.P.add_list e e2 ?_ (by rw[size_toArray,size_toArray];omega);have ea:its.toArray++its2.toArray=(its++its2).toArray:=by simp
 rw[ea];exact⟨.ref _,_,I.lnew (t':=s.toks) (r.append r2) (by rw[length_append];omega),rfl,q _ I.fresh⟩
theorem _qbt:OpO K (rCatE K) _qw6:=by
 intro x y es F H v u Q h s rx ry k;unfold _qw6 at h;split at h
 ·split at h
  ·rename_i hl
   cases h;cases rx with
   |lst q1 t1=>
    cases ry with
    |lst q2 t2=>exact⟨_,_,_,_,rfl,rfl,_qv6 s q1,_qv6 s q2,by rw[t1.length,t2.length];exact _zo hl,λp hp=>k p _ F _ (Ext.laidH s hp) _b (s.free hp) hp (t1.append t2)⟩
  ·cases h
 ·cases h
theorem PO.imp{e:Option Expr}{t t':TO}(h:PO X e t) (i:∀σ H Q,t' σ H Q->t σ H Q):PO X e t':=λpins s σ H Q I q=>h pins s σ H Q I (i σ H Q q)
end
end DL
set_option maxHeartbeats 2000000
namespace DL
open PySem PySem.Spec PyProof.Rows L2
theorem _Ka{prog:Ak}{w:World}{A:Around}{R:Mw->Shared->Prop}{s:Shared}{elt target iter:Expr}{ifs:List Expr}{scope:Scope}{pos:Pos}{it acc:Value}{env:Env}(I:Nat->Shared->Prop)
  (turn:∀n s,I n s->wpAny (model prog w) A (Eb it) (λr s₁=>match r with
   |none=>R (.ok .next) s₁
   |some v=>wpAny (model prog w) A (Ha target it v) (λ_ s₀=>wpAny (model prog w) A (Je target env v) (λ_ s₂=>
     wpAny (model prog w) A (forIn ifs true λc r=>if r=true then do let ok <-Nh c env (eval c env);pure (ForInStep.yield ok)else pure (ForInStep.yield r)) (λok s₃=>
      if ok=true then wpAny (model prog w) A (eval elt env) (λx s₄=>
       wpAny (model prog w) A (call (.builtin "list.append") [acc,x]) (λ_ s₅=>∃m,m<n/\I m s₅) (λ_ _=>False) s₄) (λ_ _=>False) s₃
      else∃m,m<n/\I m s₃) (λ_ _=>False) s₂) (λ_ _=>False) s₀) (λ_ _=>False) s₁) (λ_ _=>False) s)
  (n:Nat) (h:I n s):
  D7 (model prog w) A (.compLoop (.ListComp elt [⟨target,iter,ifs,0⟩] scope pos) 0 it acc env) R s:=by
 refine codeAny_loop rfl I (λn s hI=>?_) n h;show wpAny _ A ((compTurn (.ListComp elt [⟨target,iter,ifs,0⟩] scope pos) 0 it acc env).onRaise (λx=>do noteFrame x env;theTreesLotGoes x)) _ _ s;refine wpAny_noted (Bk (E:=λ_ _=>False) ?_ (λ_ _ q=>q) λ_ _ z=>z.elim);rw[compTurn_list];refine Ac (Lj (Ac (Bk (turn n s hI) (λr s₁ h₁=>?_) λ_ _ h'=>h')));cases r with
 |none=>exact Ad h₁
 |some v=>
  refine Ac (Bk h₁ (λ_ s₀ h₀=>?_) λ_ _ h'=>h');refine Ac (Bk h₀ (λ_ s₂ h₂=>Ac (Bk h₂ (λok s₃ h₃=>?_) λ_ _ h'=>h')) λ_ _ h'=>h');cases ok with
  |false=>exact Ad ⟨rfl,h₃⟩
  |true=>
   exact Ac (Ac (Bk h₃ (λx s₄ h₄=>Ac (Bk h₄ (λ_ s₅ h₅=>Ad (Ad ⟨rfl,h₅⟩)) λ_ _ h'=>h')) λ_ _ h'=>h'))
def _V(X:Cx) (N':List Str) (scope:Scope) (cl:List (Str×Addr)) (C:Addr) (s₀:Shared) (H₀:Hp) (ex:List Addr) (pn:List (Addr×Obj)):Cx:=
 {X with N:=N',s₀:=s₀,H₀:=H₀,env:=Nj scope cl C X.env,outer:=X.stack,stack:=X.stack,ex:=ex,fn:=λ_=>false,pn:=pn,xe:=λ_ _=>False}
def _z6(X:Cx) (scope:Scope) (cl:List (Str×Addr)):List (Option Nat)->List Str->Prop
 | [],[]=>True
 |none::js,_::N=>_z6 X scope cl js N
 |some j::js,x::N=>(X.N[j]?=some x/\(X.env.kindOf x=some .cell\/X.env.kindOf x=some .free)/\cl.lookup x=X.env.cells.lookup x/\((C3 scope X.env).names.lookup x=some .cell\/(C3 scope X.env).names.lookup x=some .free))/\_z6 X scope cl js N
 |_,_=>False
def mkS{α:Type}(js:List (Option Nat)) (σ:List (Option α)):List (Option α):=js.map λo=>o.bind λj=>(σ[j]?).bind id
theorem _z6.len{X:Cx}{scope:Scope}{cl:List (Str×Addr)}:∀{js:List (Option Nat)}{N:List Str},_z6 X scope cl js N->js.length=N.length
 | [],[],_=>rfl
 |none::js,_::N,h=>by simp[_z6.len (js:=js) (N:=N) h]
 |some j::js,x::N,h=>by simp[_z6.len h.2]
 | [],_::_,h=>h.elim
 |none::_,[],h=>h.elim
 |some _::_,[],h=>h.elim
theorem _z6.get{X:Cx}{scope:Scope}{cl:List (Str×Addr)}:∀{js:List (Option Nat)}{N:List Str}{i j:Nat}{x:Str},_z6 X scope cl js N->js[i]?=some (some j)->N[i]?=some x->
  X.N[j]?=some x/\(X.env.kindOf x=some .cell\/X.env.kindOf x=some .free)/\cl.lookup x=X.env.cells.lookup x/\((C3 scope X.env).names.lookup x=some .cell\/(C3 scope X.env).names.lookup x=some .free)
 | [],_,_,_,_,_,h,_=>by simp at h
 |none::js,_::N,0,_,_,_,h,_=>by simp at h
 |none::js,_::N,i+1,_,_,f,h,h'=>_z6.get (js:=js) (N:=N) (i:=i) f (by simpa using h) (by simpa using h')
 |some j::js,x::N,0,_,_,f,h,h'=>by simp at h h';subst h h';exact f.1
 |some j::js,x::N,i+1,_,_,f,h,h'=>_z6.get (js:=js) (N:=N) (i:=i) f.2 (by simpa using h) (by simpa using h')
 |none::_,[],_,_,_,f,_,_=>f.elim
 |some _::_,[],_,_,_,f,_,_=>f.elim
def _qei(wi:TI) (g:TG) (tc:TT) (te:TE) (js:List (Option Nat)):TE:=λσ H Q=>wi σ H λJ H1=>∀l,H1 l=none->∃W:Nat->Nat->St->Hp->Prop,(∃m,W 0 m (mkS js σ) (upd H1 l (.lst [])))/\∀i m σ H,W i m σ H->
 (J.stop i H/\Q (.ref l) H)\/(J.go i H/\∀x H',J.yld i H x H'->g x σ H' λσ2 H2=>tc σ2 H2 λb H3=>
  if b=true then te σ2 H3 λy H4=>∃acc,H4 l=some (.lst acc)/\acc.length<Aj/\∃m',m'<m/\W (i+1) m' σ2 (upd H4 l (.lst (acc++[y])))else∃m',m'<m/\W (i+1) m' σ2 H3)
def _Qi:TT:=λ_ H Q=>Q true H
def PIfs(X:Cx) (ifs:List Expr) (t:TT):Prop:=(ifs=[]/\∀σ H Q,t σ H Q->Q true H)\/ ∃c,ifs=[c]/\PT X c t
theorem _Zg{X:Cx}{pins:List (Addr×Obj)}{σ:St}{H2:Hp}{s2:Shared}{E:Value->Shared->Prop}{elt target iter:Expr}{ifs:List Expr}{scope:Scope}{pos:Pos}{cl:List (Str×Addr)}{N':List Str}{js:List (Option Nat)}
  {g:TG}{tc:TT}{te:TE}{it:Addr}{fp:List Addr}{tn:Nat->Heap->Prop}{J:It}{RR:Value->Addr->Mw->Shared->Prop}{Q:VK}
  (hc:X.calm=true) (hfr:_z6 X scope cl js N') (hcl:∀x c,cl.lookup x=some c->X.env.cells.lookup x=some c)
  (hhas:∀x,((C3 scope X.env).names.lookup x=some .cell\/(C3 scope X.env).names.lookup x=some .free)->∃c,cl.lookup x=some c)
  (hcell:∀y∈scope.names,y.2≠ .cell) (hkind:scope.kind=.function)
  (hg:∀C s₀ H₀ ex pn,PG (_V X N' scope cl C s₀ H₀ ex pn) target g) (ht:∀C s₀ H₀ ex pn,PIfs (_V X N' scope cl C s₀ H₀ ex pn) ifs tc) (he:∀C s₀ H₀ ex pn,PE (_V X N' scope cl C s₀ H₀ ex pn) elt te)
  (I2:Inv X pins σ H2 s2) (T:Turn X.prog X.w X.K target J fp it tn) (st2:tn 0 s2.heap) (f2:∀b∈fp,FpOk X pins H2 b)
  (h:∀l,H2 l=none->∃W:Nat->Nat->St->Hp->Prop,(∃m,W 0 m (mkS js σ) (upd H2 l (.lst [])))/\∀i m σ H,W i m σ H->
   (J.stop i H/\Q (.ref l) H)\/(J.go i H/\∀x H',J.yld i H x H'->g x σ H' λσ2 H2=>tc σ2 H2 λb H3=>
    if b=true then te σ2 H3 λy H4=>∃acc,H4 l=some (.lst acc)/\acc.length<Aj/\∃m',m'<m/\W (i+1) m' σ2 (upd H4 l (.lst (acc++[y])))else∃m',m'<m/\W (i+1) m' σ2 H3))
  (hRR:∀D C s' H' m',Inv X pins σ H' s'->s'.heap.Ns C m'->H' C=none->s2.heap.objs.size<=C->Q (.ref D) H'->RR (.ref D) C (.ok .next) s'):
  wpAny (model X.prog X.w) X.A (Nc []) (λacc s₃=>wpAny (model X.prog X.w) X.A (newFunctionEnv scope X.env.globals cl [] X.env.qual none .none (some X.env)) (λcenv s₄=>
   D7 (model X.prog X.w) X.A (.compStart (.ListComp elt [⟨target,iter,ifs,0⟩] scope pos) 0 (.ref it) acc {cenv with scope:=C3 scope X.env}) (RR acc cenv.locals) s₄) E s₃) E s2:=by
 refine Ba (wpAny_newFunctionEnv hcell (by intro y hy;simp at hy) (λh₁ hns₁ hsb₁=>?_) hkind);dsimp only at hns₁ hsb₁⊢;generalize hS3:({s2 with heap:=s2.heap.push {cls:=.type "list",dict:=none,data:=.seq ([]:List Value).toArray} }:Shared)=s3;have hH3:s3.heap=s2.heap.push {cls:=.type "list",dict:=none,data:=.seq ([]:List Value).toArray}:=by rw[<-hS3]
 rw[<-hH3]at hns₁ hsb₁⊢;have hC:s3.heap.objs.size=s2.heap.objs.size+1:=by rw[hH3,Bx]
 have hDn:H2 s2.heap.objs.size=none:=I2.hok.fresh (le_refl _);obtain⟨W,⟨m0,w0⟩,turn⟩:=h s2.heap.objs.size hDn;have old3:∀b o,s3.heap.get? b=some o->h₁.get? b=some o:=λb o e=>hsb₁.extBut b o (ne_of_lt (Af e)) (Ae _ e);have old2:∀b o,s2.heap.get? b=some o->s3.heap.get? b=some o:=λb o e=>by rw[hH3];exact Ae _ e
 have I3:Inv X pins σ (upd H2 s2.heap.objs.size (.lst [])) s3:=by rw[<-hS3];exact I2.lnew (its:=[]) (ys:=[]) (t':=s2.toks) .nil (zero_le _)
 have blk:∀ tk,Inv (_V X N' scope cl s3.heap.objs.size s3 (upd H2 s2.heap.objs.size (.lst [])) fp (X.pn++pins)) [] (mkS js σ) (upd H2 s2.heap.objs.size (.lst [])) { s3 with heap:=h₁,toks:=tk }:=fun tk=>by
  have hCn:(upd H2 s2.heap.objs.size (.lst [])) s3.heap.objs.size=none:=I3.hok.fresh (le_refl _);have cellOld:∀x c,cl.lookup x=some c->∃v,s3.heap.IsCell c v:=λx c e=>I3.cell x c (hcl x c e);have fsSub:∀b∈frs X.stack,b≠s3.heap.objs.size:=λb hb e=>by
   rcases An.mp (I3.stkSub b hb)with z|z
   ·exact absurd I3.lt (by rw[<-z,e];exact lt_irrefl _)
   ·exact I3.nofs (le_refl _) (e▸z)
  refine⟨⟨I3.ok.mod,hkind,I3.ok.glob,I3.ok.blt,le_refl _,λx y c h1 h2=>I3.ok.inj x y c (hcl x c h1) (hcl y c h2),λx hx=>hhas x hx,λx c hf _=>absurd hf (by simp[_V]),I3.ok.hd,I3.ok.frames,.inl rfl,λb hb=>⟨?_,λx c e z=>?_⟩,
   I3.bs,le_trans I3.ok.bsz I3.sz,λb o e hb=>?_,λb hb hb2=>?_,I3.stack,I3.stkFree⟩,rfl,I3.bare,Un.kept old3,⟨_,hns₁,λi x v h1 h2 h3=>?_⟩,λx c e=>?_,hCn,λx c e=>?_,λp hp=>?_,I3.hok.kept old3,?_⟩
  ·
   obtain⟨o,ho,_⟩:=T.obj 0 _ st2 b hb;intro z;exact absurd (Af (old2 b o ho)) (by rw[z];exact lt_irrefl _)
  ·obtain⟨_,_,_,_,f5,_⟩:=f2 b hb
   exact f5 x c (hcl x c e) z
  ·
   have q:=(I2.bs b o e);obtain⟨_,_,_,f4,_,_⟩:=f2 b hb;rcases f4 with z|z
   ·exact I2.ok.noex b o e z
   ·exact absurd (lt_of_lt_of_le (Af (I2.ok.bs b o e).1) z) (lt_irrefl _)
  ·obtain⟨_,f1,f3,_⟩:=f2 b hb
   rcases An.mp (I3.stkSub b hb2)with z|z
   ·exact f1 z
   ·exact f3 z
  ·
   have hj:∃j,js[i]?=some (some j)/\σ[j]?=some (some v):=by
    unfold mkS at h2;rw[getElem?_map]at h2;cases q:js[i]? with
    |none=>rw[q]at h2;cases h2
    |some oj=>
     rw[q]at h2;cases oj with
     |none=>simp at h2
     |some j=>
      refine⟨j,rfl,?_⟩;cases z:σ[j]? with
      |none=>simp[z]at h2
      |some ov=>simp[z]at h2;rw[h2]
   obtain⟨j,hj,hv⟩:=hj;obtain⟨g1,g2,g3,g4⟩:=hfr.get hj (show N'[i]?=some x from h1);obtain⟨m,hn,hl⟩:=I3.loc;have vis:Vis X.env.scope x:=by
    rcases g2 with z|z
    ·exact .inr (.inl z)
    ·exact .inr (.inr z)
   obtain⟨u,r,lk⟩:=hl j x v g1 hv vis;refine⟨u,r,?_⟩;rcases lk with⟨kl,_⟩|⟨_,c,e,z⟩
   ·rcases g2 with z|z
    ·rw[z]at kl;cases kl
    ·rw[z]at kl;cases kl
   ·obtain⟨o,ho,hd⟩:=z
    exact .inr ⟨g4,c,g3.trans e,o,old3 c o ho,hd⟩
  ·obtain⟨v,o,ho,hd⟩:=cellOld x c e
   exact⟨v,o,old3 c o ho,hd⟩
  ·exact I3.freeC x c (hcl x c e)
  ·have hp':p∈X.pn++pins:=by
    have:p∈(X.pn++pins)++[]:=hp
    simpa using this
   obtain⟨e,n,ne,nf,d⟩:=I3.pin p hp';refine⟨old3 _ _ e,n,ne_of_lt (Af e),λhb=>?_,d⟩;rcases An.mp (I3.stkSub _ hb)with z|z
   ·exact ne z
   ·exact nf z
  ·show(mkS js σ).length=N'.length
   rw[<-hfr.len];simp[mkS]
 have fpX:∀{H':Hp}{ps:List (Addr×Obj)},(∀b∈fp,H' b=none)->(∀p∈ps,∀b∈fp,p.1≠b)->∀b∈fp,FpOk (_V X N' scope cl s3.heap.objs.size s3 (upd H2 s2.heap.objs.size (.lst [])) fp (X.pn++pins)) ps H' b:=fun{H' ps} hn hps b hb=>by
  obtain⟨_,f1,f3,f4,f5,f6⟩:=f2 b hb;obtain⟨o,ho,_⟩:=T.obj 0 _ st2 b hb;refine⟨hn b hb,λz=>absurd (Af (old2 b o ho)) (by rw[z];exact lt_irrefl _),λhb2=>?_,.inl hb,λx c e=>f5 x c (hcl x c e),λp hp=>?_⟩
  ·rcases An.mp (I3.stkSub b hb2)with z|z
   ·exact f1 z
   ·exact f3 z
  ·have hp':p∈(X.pn++pins)++ps:=hp
   rcases C6.mp hp' with z|z
   ·exact f6 p z
   ·exact hps p z b hb
 have st4:tn 0 h₁:=T.keep 0 _ _ st2 λb _ o e=>old3 b o (old2 b o e);have fr4:∀b∈fp,(upd H2 s2.heap.objs.size (.lst [])) b=none:=λb hb=>by
  obtain⟨o,ho,_⟩:=T.obj 0 _ st2 b hb;rw[_f (ne_of_lt (Af ho))];exact(f2 b hb).1
 have loop:∀s4:Shared,s4.heap=h₁->Inv (_V X N' scope cl s3.heap.objs.size s3 (upd H2 s2.heap.objs.size (.lst [])) fp (X.pn++pins)) [] (mkS js σ) (upd H2 s2.heap.objs.size (.lst [])) s4->
   D7 (model X.prog X.w) X.A (.compLoop (.ListComp elt [⟨target,iter,ifs,0⟩] scope pos) 0 (.ref it) (.ref s2.heap.objs.size) (Nj scope cl s3.heap.objs.size X.env)) (RR (.ref s2.heap.objs.size) s3.heap.objs.size) s4:=by
  intro s4 e4 I4;refine _Ka (λn s'=>∃i σ' H',Inv (_V X N' scope cl s3.heap.objs.size s3 (upd H2 s2.heap.objs.size (.lst [])) fp (X.pn++pins)) [] σ' H' s'/\tn i s'.heap/\(∀b∈fp,H' b=none)/\W i n σ' H') ?_ m0
   ⟨0,_,_,I4,by rw[e4];exact st4,fr4,w0⟩
  rintro n s5 ⟨i,σ5,H5,I5,st5,fr5,w5⟩;rcases turn i n σ5 H5 w5 with⟨stop,q⟩|⟨go,step⟩
  ·refine thn (T.done (_V X N' scope cl s3.heap.objs.size s3 (upd H2 s2.heap.objs.size (.lst [])) fp (X.pn++pins)) rfl rfl rfl hc i [] s5 _ H5 _ I5 (fpX fr5 (by simp)) st5 stop) λr s6 hQ=>?_
   obtain⟨hr,I6⟩:=hQ;subst hr;have un:Un (frs X.stack) fp H2 H5 s2.heap s6.heap:=by
    have u:=I6.base;refine⟨λb o e n hb hx=>u.keep b o (old2 b o e) (by show upd H2 _ _ b=none;rw[_f (ne_of_lt (Af e))];exact n) hb hx,λb o e n hb hx=>u.slot b o (old2 b o e) (by show upd H2 _ _ b=none;rw[_f (ne_of_lt (Af e))];exact n) hb hx,
     λb o e n hx=>u.free b o (old2 b o e) (by show upd H2 _ _ b=none;rw[_f (ne_of_lt (Af e))];exact n) hx,λb o e hx=>u.there b o (old2 b o e) hx,λb xs e=>u.tups b xs (by show upd H2 _ _ b=_;rw[_f (_d e hDn)];exact e),
     λb o u' e=>u.frzs b o u' (by show upd H2 _ _ b=_;rw[_f (_d e hDn)];exact e),λb ps e=>u.tbls b ps (by show upd H2 _ _ b=_;rw[_f (_d e hDn)];exact e)⟩
   have os:s6.os=s2.os:=by rw[I6.os];show s3.os=s2.os;rw[<-hS3]
   have Iout:Inv X pins σ H5 s6:=I2.call' (ch:=fp) os un I6.hok I6.bare λb hb=>by
    obtain⟨_,f1,_,f4,f5,f6⟩:=f2 b hb;exact⟨f4,f1,f5,f6⟩
   obtain⟨m',hn',_⟩:=I6.loc;exact hRR _ _ s6 H5 m' Iout hn' I6.free (by rw[hC];exact le_succ _) q
  ·refine thn (T.item (_V X N' scope cl s3.heap.objs.size s3 (upd H2 s2.heap.objs.size (.lst [])) fp (X.pn++pins)) rfl rfl rfl hc i [] s5 _ H5 _ I5 (fpX fr5 (by simp)) st5 go) λr s6 hQ=>?_
   obtain⟨u,hr,h6⟩:=hQ;subst hr;refine thn h6 λ_ s7 hQ=>?_;obtain⟨x,H7,I7,r7,y7,st7,fr7⟩:=hQ;have I7':=I7.pinned (fpX fr7 (by simp)) (T.obj _ _ st7);have keepT:∀{σ':St}{H':Hp}{s':Shared},Inv (_V X N' scope cl s3.heap.objs.size s3 (upd H2 s2.heap.objs.size (.lst [])) fp (X.pn++pins)) ([]++_Vb fp s7.heap) σ' H' s'->tn (i+1) s'.heap/\∀b∈fp,H' b=none:=fun{σ' H' s'} I'=>by
    refine⟨T.keep _ _ _ st7 λb hb o e=>(I'.pin (b,o) (mem_append_right _ (mem_append_right _ (_vh hb e)))).1,λb hb=>?_⟩;obtain⟨o,e,d⟩:=T.obj _ _ st7 b hb;exact(I'.pin (b,o) (mem_append_right _ (mem_append_right _ (_vh hb e)))).2.1
   have again:∀{σ':St}{H':Hp}{s':Shared},Inv (_V X N' scope cl s3.heap.objs.size s3 (upd H2 s2.heap.objs.size (.lst [])) fp (X.pn++pins)) ([]++_Vb fp s7.heap) σ' H' s'->(∃m',m'<n/\W (i+1) m' σ' H')->
     ∃m,m<n/\∃i σ' H',Inv (_V X N' scope cl s3.heap.objs.size s3 (upd H2 s2.heap.objs.size (.lst [])) fp (X.pn++pins)) [] σ' H' s'/\tn i s'.heap/\(∀b∈fp,H' b=none)/\W i m σ' H':=fun{σ' H' s'} I' ⟨m',hm,w'⟩=>by
    obtain⟨k1,k2⟩:=keepT I';exact⟨m',hm,i+1,σ',H',I'.unpinned,k1,k2,w'⟩
   refine thn (hg _ _ _ _ _ _ s7 σ5 H7 x u _ I7' r7 (step x H7 y7)) λ_ s8 hQ=>?_;obtain⟨σ8,H8,I8,q8⟩:=hQ;have test:wpAny (model X.prog X.w) X.A (forIn ifs true λc r=>if r=true then do let ok <-Nh c (Nj scope cl s3.heap.objs.size X.env) (eval c (Nj scope cl s3.heap.objs.size X.env));pure (ForInStep.yield ok)else pure (ForInStep.yield r))
     (λok s9=>∃H9,Inv (_V X N' scope cl s3.heap.objs.size s3 (upd H2 s2.heap.objs.size (.lst [])) fp (X.pn++pins)) ([]++_Vb fp s7.heap) σ8 H9 s9/\(if ok=true then te σ8 H9 λy H4=>∃acc,H4 s2.heap.objs.size=some (.lst acc)/\acc.length<Aj/\∃m',m'<n/\W (i+1) m' σ8 (upd H4 s2.heap.objs.size (.lst (acc++[y])))else∃m',m'<n/\W (i+1) m' σ8 H9)) (λ_ _=>False) s8:=by
    rcases ht s3.heap.objs.size s3 (upd H2 s2.heap.objs.size (.lst [])) fp (X.pn++pins)with⟨e1,e2⟩|⟨c,e1,e2⟩
    ·subst e1
     exact wpAny_tests_nil ⟨H8,I8,e2 _ _ _ q8⟩
    ·subst e1
     exact wpAny_tests_one (e2 _ s8 σ8 H8 _ I8 q8)
   refine thn test λok s9 hQ=>?_;obtain⟨H9,I9,q9⟩:=hQ;cases ok with
   |false=>
    rw[if_neg Al]at q9⊢;exact again I9 q9
   |true=>
    rw[if_pos rfl]at q9⊢;refine thn (he _ _ _ _ _ _ s9 σ8 H9 _ I9 q9) λy s10 hQ=>?_;obtain⟨yv,H10,I10,r10,acc,a1,a2,a3⟩:=hQ;refine thn (_zc (X:=_V X N' scope cl s3.heap.objs.size s3 (upd H2 s2.heap.objs.size (.lst [])) fp (X.pn++pins)) _ s10 σ8 H10 (.ref s2.heap.objs.size) [yv] (.ref s2.heap.objs.size) [y] (λ_ H'=>∃m',m'<n/\W (i+1) m' σ8 H') I10 rfl (.cons r10 .nil) ⟨_,acc,yv,rfl,rfl,a1,a2,a3⟩) λ_ s11 hQ=>?_;obtain⟨_,H11,I11,_,q11⟩:=hQ;exact again I11 q11
 have e4:∀tk,({s2 with heap:=h₁,toks:=tk}:Shared)={s3 with heap:=h₁,toks:=tk}:=λtk=>by rw[<-hS3]
 exact codeAny_compStart_list (loop _ rfl (by rw[e4];exact blk _)) (T.self _ 0 _ _ _ st4 (loop _ rfl (by rw[e4];exact blk _)))
theorem Inv.letgo{X:Cx}{pins:List (Addr×Obj)}{σ:St}{H2 H':Hp}{s2 s':Shared}{C:Addr}{h':Heap}(I2:Inv X pins σ H2 s2){σ':St}(I:Inv X pins σ' H' s') (hn:H' C=none) (hC:s2.heap.objs.size<=C) (hs:Heap.SameBut C s'.heap h'):Inv X pins σ' H' {s' with heap:=h'}:=
 I.turned (t':=s'.toks) (λb o hb e=>hs.extBut b o hb e) hn (ne_of_gt (lt_of_lt_of_le I2.lt hC)) (.inr (le_trans I2.sz hC)) (λx c e z=>by
  obtain⟨v,q⟩:=I2.cell x c e;exact absurd (lt_of_lt_of_le q.lt (by rw[z];exact hC)) (lt_irrefl _)) (λp hp z=>absurd (lt_of_lt_of_le (Af (I2.pin p hp).1) (by rw[z];exact hC)) (lt_irrefl _))
section
variable{X:Cx}{elt target iter:Expr}{ifs:List Expr}{scope:Scope}{pos:Pos}{cl:List (Str×Addr)}{N':List Str}{js:List (Option Nat)}{wi:TI}{g:TG}{tc:TT}{te:TE}
theorem _qhf(hc:X.calm=true) (hi:PI X target iter wi) (hclos:L0 scope X.env=pure cl) (hfr:_z6 X scope cl js N') (hcl:∀x c,cl.lookup x=some c->X.env.cells.lookup x=some c)
  (hhas:∀x,((C3 scope X.env).names.lookup x=some .cell\/(C3 scope X.env).names.lookup x=some .free)->∃c,cl.lookup x=some c)
  (hcell:∀y∈scope.names,y.2≠ .cell) (hkind:scope.kind=.function) (hnames:∀x∈scope.names,x.2=.local->scope.names.lookup x.1=some .local)
  (hg:∀C s₀ H₀ ex pn,PG (_V X N' scope cl C s₀ H₀ ex pn) target g) (ht:∀C s₀ H₀ ex pn,PIfs (_V X N' scope cl C s₀ H₀ ex pn) ifs tc) (he:∀C s₀ H₀ ex pn,PE (_V X N' scope cl C s₀ H₀ ex pn) elt te)
  (hs:∀x,Cj iter X.env x=pure x:=by intro _;rfl):
  PE X (.ListComp elt [⟨target,iter,ifs,0⟩] scope pos) (_qei wi g tc te js):=by
 intro pins s σ H Q I h;rw[eval_ListComp];refine Jh (use:=none) rfl hs hclos hkind hnames (thn (hi pins s σ H _ I h) λv s1 h1=>thn h1 λitv s2 h2=>?_);obtain⟨it,fp,tn,J,H2,rfl,I2,T,st2,f2,q⟩:=h2;refine _Zg (RR:=λacc C=>compPost (model X.prog X.w) X.A X.xe none (EP X pins σ Q) acc C) hc hfr hcl hhas hcell hkind hg ht he I2 T st2 f2 q ?_;intro D C s' H' m' I' hn hC hle q';exact⟨m',hn,λh' hs'=>⟨.ref D,H',Inv.letgo I2 I' hC hle hs',rfl,q'⟩⟩
theorem _qhb{i:Nat}{y:Str}{py spos:Pos}(hN:X.N.Nodup) (hi':X.N[i]?=some y) (hy:X.env.scope.names.lookup y=some .local)
  (hsw:Hu (.ListComp elt [⟨target,iter,ifs,0⟩] scope pos) (some (.Name y py)) spos.line X.env=pure true)
  (hc:X.calm=true) (hi:PI X target iter wi) (hclos:L0 scope X.env=pure cl) (hfr:_z6 X scope cl js N') (hcl:∀x c,cl.lookup x=some c->X.env.cells.lookup x=some c)
  (hhas:∀x,((C3 scope X.env).names.lookup x=some .cell\/(C3 scope X.env).names.lookup x=some .free)->∃c,cl.lookup x=some c)
  (hcell:∀y∈scope.names,y.2≠ .cell) (hkind:scope.kind=.function) (hnames:∀x∈scope.names,x.2=.local->scope.names.lookup x.1=some .local)
  (hg:∀C s₀ H₀ ex pn,PG (_V X N' scope cl C s₀ H₀ ex pn) target g) (ht:∀C s₀ H₀ ex pn,PIfs (_V X N' scope cl C s₀ H₀ ex pn) ifs tc) (he:∀C s₀ H₀ ex pn,PE (_V X N' scope cl C s₀ H₀ ex pn) elt te)
  (hs:∀x,Cj iter X.env x=pure x:=by intro _;rfl):
  PS X (.Assign [.Name y py] (.ListComp elt [⟨target,iter,ifs,0⟩] scope pos) spos) (tAsg (_qei wi g tc te js) (_z0 i)):=by
 intro pins s σ H E I h;rw[exec_Assign_Name_used _ _ _ _ hsw];refine Ac (Lj (Ac ?_));show wpAny _ X.A (do let _ <-comprehension (.ListComp elt [⟨target,iter,ifs,0⟩] scope pos) scope X.env _ (Nc []) false (eval iter X.env) (some (Je (.Name y py) X.env))) _ _ s;refine Ac (Bk (Jh (use:=some (Je (.Name y py) X.env)) (Q:=λ_ s'=>SP X pins E .next s') rfl hs hclos hkind hnames
  (thn (hi pins s σ H _ I h) λv s1 h1=>thn h1 λitv s2 h2=>?_)) (λ_ s' hq=>Ad (Ad hq)) λ_ _ e=>e)
 obtain⟨it,fp,tn,J,H2,rfl,I2,T,st2,f2,q⟩:=h2;refine _Zg (RR:=λacc C=>compPost (model X.prog X.w) X.A X.xe (some (Je (.Name y py) X.env)) (λ_ s'=>SP X pins E .next s') acc C) (Q:=λx H1=>_z0 i x σ H1 E.nx) hc hfr hcl hhas hcell hkind hg ht he I2 T st2 f2 q ?_;intro D C s' H' m' I' hn hC hle q';show wpAny _ X.A (Je (.Name y py) X.env (.ref D)) _ _ _;refine wpAny_assign_Name (_Kw I' hN hi' (.inl hy) (v:=.ref D) rfl (λs'' I'' hQ=>?_) (.inr hy));obtain⟨a,hsb,ha⟩:=hQ;have hCa:C≠a:=by
  rintro rfl;rcases ha with z|z
  ·exact absurd (lt_of_lt_of_le I2.lt (by rw[<-z];exact hle)) (lt_irrefl _)
  ·obtain⟨v,q⟩:=I2.cell _ _ z
   exact absurd (lt_of_lt_of_le q.lt hle) (lt_irrefl _)
 exact⟨m',hn.sameBut hsb hCa,λh' hs'=>⟨_,H',Inv.letgo I2 I'' hC hle hs',q'⟩⟩
end
def tGE(K:Frag) (g:GE):TG:=λv σ H Q=>∃F ρ d ρ',_qwk F H/\RE K F σ ρ/\ρ.length=σ.length/\Rep K F v d/\g d ρ=some ρ'/\∀σ',RE K F σ' ρ'->ρ'.length=σ'.length->Q σ' H
def tGEs(K:Frag) (g:List D->_qwx->Option _qwx):TGs:=λvs σ H Q=>∃F ρ ds ρ',_qwk F H/\RE K F σ ρ/\ρ.length=σ.length/\Reps K F vs ds/\g ds ρ=some ρ'/\∀σ',RE K F σ' ρ'->ρ'.length=σ'.length->Q σ' H
def DGE(X:Cx) (tg:Expr) (g:GE):Prop:=PG X tg (tGE X.K g)
def DGEs(X:Cx) (ts:List Expr) (gs:List GE):Prop:=PGs X ts (tGEs X.K (geT gs))
section
variable{X:Cx}{pos:Pos}
theorem _B(i:Nat){tg:Expr}(h:PG X tg (_z0 i)):DGE X tg (geN i):=by
 refine PG.imp h λv σ H Q q=>?_;obtain⟨F,ρ,d,ρ',s,re,hl,q,h,k⟩:=q;cases h;refine k _ (λj d' h=>?_) (by simpa using hl);rcases _qcz h with⟨rfl,e,hl'⟩|⟨ne,h⟩
 ·cases e
  exact⟨v,getElem?_set_self (by rw[<-hl];exact hl'),q⟩
 ·rw[getElem?_set_ne (Bz ne)]
  exact re j d' h
theorem _qhw:∀{gs:List GE}{ds:List D}{ρ ρ':_qwx},geT gs ds ρ=some ρ'->ds.length=gs.length
 | [],[],_,_,_=>rfl
 |g::gs,d::ds,ρ,ρ',h=>by
  obtain⟨r1,_,h2⟩:=bind_some h;simp[_qhw h2]
 | [],_::_,_,_,h=>by simp[geT]at h
 |_::_,[],_,_,h=>by simp[geT]at h
theorem _J7:DGEs X [] []:=by
 intro pins s σ H vs us Q I rv q;refine _Xv pins s σ H vs us Q I rv ?_;obtain⟨F,ρ,ds,ρ',s,re,hl,q,h,k⟩:=q;cases q with
 |nil=>cases h;exact⟨rfl,k _ re hl⟩
 |cons=>cases h
theorem _jm{t:Expr}{ts:List Expr}{g:GE}{gs:List GE}(h1:DGE X t g) (h2:DGEs X ts gs)
  (hs:(Cb (t::ts) X.env).map (·.2)=Je t X.env::(Cb ts X.env).map (·.2):=by rfl):DGEs X (t::ts) (g::gs):=by
 intro pins s σ H vs us Q I rv q;refine _xu h1 h2 hs pins s σ H vs us Q I rv ?_;obtain⟨F,ρ,ds,ρ',s,re,hl,q,h,k⟩:=q;cases q with
 |nil=>cases h
 |cons q1 q2=>
  obtain⟨ρ1,h1,h2⟩:=bind_some h;exact⟨_,_,rfl,F,ρ,_,ρ1,s,re,hl,q1,h1,λσ' re' hl'=>⟨F,ρ1,_,ρ',s,re',hl',q2,h2,k⟩⟩
theorem _W0{ts:List Expr}{gs:List GE}{kk:Nat}(hc:X.calm=true) (h:DGEs X ts gs) (hn:(Cb ts X.env).length=gs.length:=by rfl) (hst:(Cb ts X.env).findIdx? (·.1)=none:=by rfl):DGE X (.Tuple ts kk pos) (_qvw gs):=by
 refine PG.imp (_qf3 hc h hn hst) λv σ H Q q=>?_;obtain⟨F,ρ,d,ρ',s,re,hl,q,h,k⟩:=q;unfold _qvw at h;split at h
 ·rename_i ds
  cases q with
  |tup q t=>exact⟨_,_,rfl,seqT s q,by rw[t.length];exact _qhw h,F,ρ,ds,ρ',s,re,hl,t,h,k⟩
 ·cases h
end
theorem re_mk{K:Frag}{F F1:Hp}{σ:L2.St}{ρ:_qwx}{js:List (Option Nat)}(re:RE K F σ ρ) (e1:_qwk F F1):RE K F1 (mkS js σ) (mkD js ρ):=λi d h=>by
 unfold mkD at h;rw[getElem?_map]at h;cases q:js[i]? with
 |none=>rw[q]at h;cases h
 |some oj=>
  rw[q]at h;cases oj with
  |none=>simp at h
  |some j=>
   have hj:ρ[j]?=some (some d):=by
    cases z:ρ[j]? with
    |none=>simp[z]at h
    |some od=>cases od with
     |none=>simp[z]at h
     |some d'=>simp[z]at h;rw[h]
   obtain⟨v,h1,h2⟩:=re j d hj;refine⟨v,?_,h2.mono e1⟩;unfold mkS;rw[getElem?_map,q];simp[h1]
structure CI(K:Frag) (F1 H1 F H:Hp) (σ:L2.St) (ρ:_qwx) (l:Addr) (done:List O):Prop where
 ext:Ext F1 H1 F H
 re:RE K F σ ρ
 len:ρ.length=σ.length
 fl:F l=none
 hl:∃acc A,H l=some (.lst acc)/\Owns K F H acc done A/\∀b,A b->F b=none/\H1 b=none/\b≠l
theorem CI.more{K:Frag}{F1 H1 F H F' H':Hp}{σ:L2.St}{ρ:_qwx}{l:Addr}{done:List O}(c:CI K F1 H1 F H σ ρ l done) (e:Ext F H F' H'):CI K F1 H1 F' H' σ ρ l done:=by
 obtain⟨acc,A,h1,h2,h3⟩:=c.hl;have keep:∀b,F b=none->(∃u,H b=some u)->F' b=none:=λb hf ⟨u,hu⟩=>by
  cases z:F' b with
  |none=>rfl
  |some o=>
   rcases e.nw b o z with y|y
   ·rw[hf]at y;cases y
   ·rw[hu]at y;cases y
 refine⟨c.ext.trans e,c.re.mono e.ff,c.len,keep l c.fl ⟨_,h1⟩,acc,A,e.hh _ _ h1,h2.ext e.ff e.hh,λb z=>?_⟩;obtain⟨g1,g2,g3⟩:=h3 b z;obtain⟨u,hu,_⟩:=h2.there b z;exact⟨keep b g1 ⟨u,hu⟩,g2,g3⟩
theorem _W2{K:Frag}{F1 H1 F H:Hp}{σ:L2.St}{ρ:_qwx}{g:GE}{c:FT}{e:FO}{d:D}{_qvb:List D}{done ys:List O}{x:V}{l:Addr}{N:L2.St->Hp->Prop}
  (ci:CI K F1 H1 F H σ ρ l done) (hB:H1 l=none) (q:Rep K F x d) (hz:done.length<Aj)
  (h:_vn g c e (d::_qvb) ρ=some ys)
  (hN:∀F' H' σ' ρ' new ys',_qwk F F'->CI K F1 H1 F' H' σ' ρ' l (done++new)->new.length<=1->_vn g c e _qvb ρ'=some ys'->ys=new++ys'->N σ' H'):
  tGE K g x σ H λσ2 H2=>tDT K c σ2 H2 λb H3=>if b=true then tO K e σ2 H3 λy H4=>∃acc,H4 l=some (.lst acc)/\acc.length<Aj/\N σ2 (upd H4 l (.lst (acc++[y])))else N σ2 H3:=by
 obtain⟨ρ1,h1,h⟩:=bind_some h;obtain⟨b,hb,h⟩:=bind_some h;refine⟨F,ρ,d,ρ1,ci.ext.fh,ci.re,ci.len,q,h1,λσ2 re2 hl2=>?_⟩;have ci2:CI K F1 H1 F H σ2 ρ1 l done:=⟨ci.ext,re2,hl2,ci.fl,ci.hl⟩;refine⟨F,ρ1,b,ci.ext.fh,re2,hb,λF3 H3 e3=>?_⟩;have ci3:=ci2.more e3;cases b with
 |false=>
  rw[if_neg Al]at h;exact _qvp (hN F3 H3 σ2 ρ1 [] ys e3.ff (by simpa using ci3) (by simp) h (by simp))
 |true=>
  rw[if_pos rfl]at h;refine _qvo ?_;obtain⟨y,hy,h⟩:=bind_some h;obtain⟨ys',hys,rfl⟩:=map_some h;refine⟨F3,ρ1,y,e3.fh,ci3.re,hy,λv F4 H4 A4 e4 r4 n4=>?_⟩;have ci4:=ci3.more e4;obtain⟨acc3,A3,k1,k2,k3⟩:=ci3.hl;have t4:H4 l=some (.lst acc3):=e4.hh _ _ k1;have k2':=k2.ext e4.ff e4.hh;refine⟨acc3,t4,by rw[k2.length];exact hz,?_⟩;have nl:¬A4 l:=λz=>by have:=(n4 l z).2;rw[k1]at this;cases this
  have h1l:∀b u,H1 b=some u->b≠l:=λb u hb=>_d hb hB;refine hN F4 _ σ2 ρ1 [y] ys' (e3.ff.trans e4.ff) ⟨⟨ci4.ext.ff,λb u hb=>by rw[_f (_d hb ci4.fl)];exact ci4.ext.fh _ _ hb,λb u hb=>by rw[_f (h1l b u hb)];exact ci4.ext.hh _ _ hb,ci4.ext.nw⟩,ci4.re,ci4.len,ci4.fl,acc3++[v],λb=>A3 b\/A4 b,_b,?_,λb z=>?_⟩ (by simp) hys (by simp)
  ·refine(k2'.stay (_qwk.refl _) (H':=upd H4 l (.lst (acc3++[v]))) λb z=>_f (k3 b z).2.2).append (.cons (r4.stay (_qwk.refl _) (H':=upd H4 l (.lst (acc3++[v]))) λb z=>_f (by rintro rfl;exact nl z)) (.nil (A:=λ_=>False) λ_ z=>z) (λ_ _ z=>z) λb=>⟨.inl,λz=>z.elim id A5⟩) λb z y=>?_
   obtain⟨u,hu,_⟩:=k2.there b z;rw[(n4 b y).2]at hu;cases hu
  ·rcases z with z|z
   ·obtain⟨g1,g2,g3⟩:=k3 b z
    obtain⟨u,hu,_⟩:=k2.there b z;refine⟨?_,g2,g3⟩;cases w:F4 b with
    |none=>rfl
    |some o=>
     rcases e4.nw b o w with y|y
     ·rw[g1]at y;cases y
     ·rw[hu]at y;cases y
   ·exact⟨(n4 b z).1,ci3.ext.hh.free (n4 b z).2,by rintro rfl;exact nl z⟩
theorem CI.own{K:Frag}{F1 H1 F H:Hp}{σ:L2.St}{ρ:_qwx}{l:Addr}{done:List O}(c:CI K F1 H1 F H σ ρ l done) (hB:H1 l=none):∃A,Own K F H (.ref l) (.lst done) A/\∀b,A b->F b=none/\H1 b=none:=by
 obtain⟨acc,A,h1,h2,h3⟩:=c.hl;refine⟨_,_qbs h1 (λz=>(h3 l z).2.2 rfl) h2,λb z=>?_⟩;rcases z with rfl|z
 ·exact⟨c.fl,hB⟩
 ·exact⟨(h3 b z).1,(h3 b z).2.1⟩
theorem _qdj{K:Frag}{F H F1 H1:Hp}{σ:L2.St}{ρ:_qwx}{js:List (Option Nat)}{l:Addr}(re:RE K F σ ρ) (e1:Ext F H F1 H1) (hl:H1 l=none):CI K F1 H1 F1 (upd H1 l (.lst [])) (mkS js σ) (mkD js ρ) l []:=
 ⟨Ext.laidH e1.fh hl,re_mk re e1.ff,by simp[mkD,mkS],e1.fh.free hl,[],λ_=>False,_b,.nil λ_ z=>z,λ_ z=>z.elim⟩
section
variable{X:Cx}{js:List (Option Nat)}{g:GE}{c:FT}{e:FO}
theorem _D{K:Frag}{f:FE}{σ:L2.St}{H:Hp}{Q:VK}(h:tO K (_xn js f g c e) σ H Q):_qei (_qoc K (tD K f)) (tGE K g) (tDT K c) (tO K e) js σ H Q:=by
 obtain⟨F,ρ,total,s,re,hf,k⟩:=h;obtain⟨d,hd,hf⟩:=bind_some hf;rw[_Ke]at hf;split at hf
 ·rename_i xs
  split at hf
  ·rename_i hlen
   obtain⟨total,hf2,rfl⟩:=map_some hf;have hf:=hf2;clear hf2;refine⟨F,ρ,.lst xs,s,re,hd,λv F1 H1 e1 r1=>?_⟩;cases r1 with
   |lst q t=>
    rename_i a vs;refine⟨a,rfl,⟨vs,(_qv6 e1.fh q).l⟩,λl hl=>⟨λi m σ' H'=>∃F' ρ' done ys,CI K F1 H1 F' H' σ' ρ' l done/\SqE K F' a vs/\Reps K F' vs xs/\i<=xs.length/\m=xs.length-i/\done.length<=i/\_vn g c e (xs.drop i) ρ'=some ys/\total=done++ys,
     ⟨_,F1,mkD js ρ,[],total,_qdj re e1 hl,q,t,zero_le _,rfl,le_refl _,hf,rfl⟩,?_⟩⟩
    rintro i m σ' H' ⟨F',ρ',done,ys,ci,q',t',hi,rfl,hdn,hc,ht⟩
    by_cases hlt:i<xs.length
    ·have hv:i<vs.length:=by rw[t'.length];exact hlt
     refine .inr ⟨⟨vs,vs[i],(_qv6 ci.ext.fh q').l,by simp[hv]⟩,λx H2 y=>?_⟩;obtain⟨rfl,y⟩:=y;obtain⟨d,hd1,hd2⟩:=t'.get (y vs (_qv6 ci.ext.fh q').l);have ed:xs[i]=d:=by rw[getElem?_eq_getElem hlt]at hd1;exact Option.some.inj hd1
     rw[_J5 hlt,ed]at hc;refine _W2 (N:=λσ2 H2=>∃m',m'<xs.length-i/\_) ci hl hd2 (lt_of_lt_of_le (lt_of_le_of_lt hdn hlt) (_zo hlen)) hc λF2 H2 σ2 ρ2 new ys' s2 ci2 hn2 hc2 he2=>?_;exact⟨_,by omega,F2,ρ2,done++new,ys',ci2,_qv6 s2 q',t'.mono s2,hlt,rfl,by simp;omega,hc2,by rw[ht,he2];simp⟩
    ·refine .inl ⟨⟨vs,(_qv6 ci.ext.fh q').l,by rw[t'.length];omega⟩,?_⟩
     rw[drop_of_length_le (by omega)]at hc;cases hc
     have:total=done:=by simpa using ht
     subst this;obtain⟨A,o1,o2⟩:=ci.own hl;exact k (.ref l) F' H' A (e1.trans ci.ext) o1 λb z=>⟨(o2 b z).1,e1.hh.free (o2 b z).2⟩
  ·cases hf
 ·cases hf
end
def DIfs(X:Cx) (ifs:List Expr) (c:FT):Prop:=PIfs X ifs (tDT X.K c)
theorem _kb{X:Cx}{e:Expr}{c:FT}(h:DT X e c):DIfs X [e] c:=.inr ⟨e,rfl,h⟩
theorem _qv{X:Cx}:DIfs X [] qT:=.inl ⟨rfl,λσ H Q q=>by
 obtain⟨F,ρ,b,s,re,hf,k⟩:=q;cases hf;exact k F H (Ext.refl s)⟩
def clo(env:Env):List (Str×NameKind)->List (Str×Addr)->Option (List (Str×Addr))
 | [],cs=>some cs
 |(n,k)::r,cs=>if(k== .free)=true then(env.cells.lookup n).bind λc=>clo env r ((n,c)::cs)else clo env r cs
theorem _qdi{env:Env}:∀{ns:List (Str×NameKind)}{cs cl:List (Str×Addr)},clo env ns cs=some cl->(forIn (m:=Sem) ns cs fun(x:Str×NameKind) cs=>if(x.2== .free)=true then do let c <-cellOf env x.1;pure (ForInStep.yield ((x.1,c)::cs))else pure (ForInStep.yield cs))=pure cl
 | [],cs,cl,h=>by cases h;rfl
 |(n,k)::r,cs,cl,h=>by
  unfold clo at h;rw[forIn_cons]
  by_cases hk:(k== .free)=true
  ·rw[if_pos hk]at h
   obtain⟨c,hc,h⟩:=bind_some h;have e:cellOf env n=pure c:=by unfold cellOf;rw[hc]
   simp only[hk,if_true,e,pure_bind];exact _qdi h
  ·rw[if_neg hk]at h
   simp only[hk,if_false,pure_bind];exact _qdi h
theorem _zg{scope:Scope}{env:Env}{cl:List (Str×Addr)}(h:clo env scope.names []=some cl):L0 scope env=pure cl:=by
 have:=_qdi h
 simp only[L0];rw[this];rfl
theorem _W4{env:Env}:∀{ns:List (Str×NameKind)}{cs cl:List (Str×Addr)},clo env ns cs=some cl->∀x c,(x,c)∈cl->(x,c)∈cs\/env.cells.lookup x=some c
 | [],cs,cl,h,x,c,hx=>by cases h;exact .inl hx
 | (n,k) :: r,cs,cl,h,x,c,hx=>by
  unfold clo at h
  by_cases hk:(k== .free)=true
  ·rw[if_pos hk]at h
   obtain⟨a,ha,h⟩:=bind_some h;rcases _W4 h x c hx with z|z
   ·rcases An.mp z with y|y
    ·cases y;exact .inr ha
    ·exact .inl y
   ·exact .inr z
  ·rw[if_neg hk]at h
   exact _W4 h x c hx
theorem _W5{env:Env}:∀{ns:List (Str×NameKind)}{cs cl:List (Str×Addr)},clo env ns cs=some cl->(∀x c,(x,c)∈cs->(x,c)∈cl)/\∀x,(x,NameKind.free)∈ns->∃c,(x,c)∈cl
 | [],cs,cl,h=>by cases h;exact⟨λ_ _ z=>z,λx z=>by simp at z⟩
 |(n,k)::r,cs,cl,h=>by
  unfold clo at h
  by_cases hk:(k== .free)=true
  ·rw[if_pos hk]at h
   obtain⟨a,ha,h⟩:=bind_some h;obtain⟨h1,h2⟩:=_W5 h;refine⟨λx c z=>h1 x c (mem_cons_of_mem _ z),λx z=>?_⟩;rcases An.mp z with y|y
   ·cases y;exact⟨a,h1 _ _ mem_cons_self⟩
   ·exact h2 x y
  ·rw[if_neg hk]at h
   obtain⟨h1,h2⟩:=_W5 h;refine⟨h1,λx z=>?_⟩;rcases An.mp z with y|y
   ·cases y;exact absurd rfl hk
   ·exact h2 x y
theorem _q9{α:Type}:∀{l:List (Str×α)}{x:Str}{c:α},l.lookup x=some c->(x,c)∈l
 | [],_,_,h=>by cases h
 |(y,d)::l,x,c,h=>by
  unfold Dy at h;split at h
  ·rename_i e
   cases h;rw[beq_iff_eq]at e;subst e;exact mem_cons_self
  ·exact mem_cons_of_mem _ (_q9 h)
theorem _wo{α:Type}:∀{l:List (Str×α)}{x:Str}{c:α},(x,c)∈l->∃d,l.lookup x=some d
 | (y,d) :: l,x,c,h=>by
  by_cases e:(x==y)=true
  ·exact⟨d,by unfold Dy;rw[e]⟩
  ·rcases An.mp h with z|z
   ·cases z;simp at e
   ·obtain⟨d',hd⟩:=_wo z
    refine⟨d',?_⟩;unfold Dy;cases q:x==y with
    |true=>exact absurd q e
    |false=>exact hd
theorem _Z6{scope:Scope}{env:Env}(hcell:∀y∈scope.names,y.2≠ .cell){x:Str}(h:(C3 scope env).names.lookup x=some .cell\/(C3 scope env).names.lookup x=some .free):(x,NameKind.free)∈scope.names:=by
 have h':∃k,(x,k)∈(C3 scope env).names/\(k=.cell\/k=.free):=by
  rcases h with h|h
  ·exact⟨_,_q9 h,.inl rfl⟩
  ·exact⟨_,_q9 h,.inr rfl⟩
 obtain⟨k,hk,hkk⟩:=h';unfold C3 at hk;obtain⟨⟨n,k'⟩,hm,he⟩:=Ag.mp hk;dsimp only at he;split at he
 ·rename_i hc
  cases he;simp only[Df,beq_iff_eq]at hc;rw[<-hc.1.1];exact hm
 ·cases he
  rcases hkk with rfl|rfl
  ·exact absurd rfl (hcell _ hm)
  ·exact hm
section
variable{X:Cx}{elt target iter:Expr}{ifs:List Expr}{scope:Scope}{pos:Pos}{cl:List (Str×Addr)}{N':List Str}{js:List (Option Nat)}{g:GE}{c:FT}{e:FO}
structure CompOk(X:Cx) (scope:Scope) (cl:List (Str×Addr)) (N':List Str) (js:List (Option Nat)):Prop where
 calm:X.calm=true
 clo:clo X.env scope.names []=some cl
 free:_z6 X scope cl js N'
 cell:∀y∈scope.names,y.2≠ .cell
 kind:scope.kind=.function
 names:∀x∈scope.names,x.2=.local->scope.names.lookup x.1=some .local
theorem CompOk.hcl(k:CompOk X scope cl N' js):∀x c,cl.lookup x=some c->X.env.cells.lookup x=some c:=λx c h=>by
 rcases _W4 k.clo x c (_q9 h)with z|z
 ·simp at z
 ·exact z
theorem CompOk.hhas(k:CompOk X scope cl N' js):∀x,((C3 scope X.env).names.lookup x=some .cell\/(C3 scope X.env).names.lookup x=some .free)->∃c,cl.lookup x=some c:=λx h=>by
 obtain⟨c,hc⟩:=(_W5 k.clo).2 x (_Z6 k.cell h);exact _wo hc
theorem _qr2{K:Frag}{S:List Bool}{f:FO}{σ:L2.St}{H:Hp}{Q:VK}(q:tM K (mO S f) σ H Q):tO K f σ H Q:=by
 obtain⟨β,F,ρ,p,r,hf,k⟩:=q;obtain⟨o,ho,rfl⟩:=map_some hf;obtain⟨G,l,re,rz⟩:=r.look S;refine⟨G,frz S ρ,o,l.gh,re,ho,λv F' H' A e q n=>?_⟩
 by_cases hi:oim o=true
 ·rw[if_pos hi]at k
  exact k v _ H' _jc e.hh (r.push (l.ext e r.ext.fh) (l.own e r.ext.fh hi q) λb z=>⟨(_J0 r.ext.fh (n b z).2).trans (n b z).1,(n b z).2⟩)
 ·rw[if_neg hi]at k
  exact k v F' H' (l.fg.trans e.ff) e.hh (rz.push e q n)
section
variable{wi:TI}{f:FO}(k:CompOk X scope cl N' js) (hi:PI X target iter wi) (hw:∀σ H Q,tO X.K f σ H Q->_qei wi (tGE X.K g) (tDT X.K c) (tO X.K e) js σ H Q)
 (hg:∀C s₀ H₀ ex pn,DGE (_V X N' scope cl C s₀ H₀ ex pn) target g) (ht:∀C s₀ H₀ ex pn,DIfs (_V X N' scope cl C s₀ H₀ ex pn) ifs c) (he:∀C s₀ H₀ ex pn,DO (_V X N' scope cl C s₀ H₀ ex pn) elt e)
include k hi hw hg ht he
theorem _U(hs:∀x,Cj iter X.env x=pure x:=by intro _;rfl):DO X (.ListComp elt [⟨target,iter,ifs,0⟩] scope pos) f:=
 PE.imp (_qhf (g:=tGE X.K g) (tc:=tDT X.K c) (te:=tO X.K e) k.calm hi (_zg k.clo) k.free k.hcl k.hhas k.cell k.kind k.names hg ht he hs) hw
theorem _qd9{i:Nat}{S:List Bool}{y:Str}{py spos:Pos}(hN:X.N.Nodup) (hi':X.N[i]?=some y) (hy:X.env.scope.names.lookup y=some .local)
  (hsw:Hu (.ListComp elt [⟨target,iter,ifs,0⟩] scope pos) (some (.Name y py)) spos.line X.env=pure true) (hs:∀x,Cj iter X.env x=pure x:=by intro _;rfl):
  DS X (.Assign [.Name y py] (.ListComp elt [⟨target,iter,ifs,0⟩] scope pos) spos) [i] (_qw9 i (mO S f)):=
 _F i (PS.imp (_qhb (g:=tGE X.K g) (tc:=tDT X.K c) (te:=tO X.K e) hN hi' hy hsw k.calm hi (_zg k.clo) k.free k.hcl k.hhas k.cell k.kind k.names hg ht he hs) λE σ H q=>hw _ _ _ (_qr2 q))
end
end
end DL
set_option maxHeartbeats 1000000
namespace DL
open PySem PySem.Spec PyProof.Rows L2
theorem _qea{k:Nat}{A:Around}(r:Room k A):A.units+64+1<cLine:=by have:=r.un;omega
section
variable{X:Cx}{K:Frag}{F:Hp}
theorem _qje{α β:Type}{R:α->β->Prop}{xs:List α}{ys:List β}(hl:xs.length=ys.length) (is:List Nat) (h:∀(i:Nat) (a:α),xs[i]?=some a->∃b,ys[i]?=some b/\R a b):Paired R (is.filterMap (xs[·]?)) (is.filterMap (ys[·]?)):=by
 induction is with
 |nil=>exact .nil
 |cons i is ih=>
  rw[filterMap_cons,filterMap_cons];cases q:xs[i]? with
  |none=>
   have:ys[i]?=none:=by rw[Fg]at q⊢;omega
   rw[this];exact ih
  |some a=>
   obtain⟨b,hb,r⟩:=h i a q;rw[hb];exact .cons r ih
theorem _qs6(lo hi st:Option Int) (n:Nat):bndP lo hi st n=sliceBounds lo hi st n:=rfl
theorem _qml(a b c:Int):rngP a b c=sliceRange a b c:=rfl
theorem _qf0{xs:List V}{its:List Value}(r:_qwi xs its) (lo hi st:Option Int):_qwi (_qls xs lo hi st) (slicePick its.toArray lo hi st).toList:=by
 unfold _qls slicePick;rw[_qs6,_qml,r.length];simp only[size_toArray,Kj,Lf];exact _qje r.length _ λi a h=>r.get h
def rSl3(K:Frag) (x:V) (lo hi st:Option Int) (H:Hp) (Q:VK):Prop:=∃a xs,x=.ref a/\SqL K H a xs/\st≠some 0/\(_qls xs lo hi st).length<=Aj/\∀p,H p=none->Q (.ref p) (upd H p (.lst (_qls xs lo hi st)))
theorem _ku{e st:Expr}{lo hi:Option Expr}{te:TE}{tl th tk:TO}{p2 pos:Pos}(he:PE X e te) (hl:PO X lo tl) (hu:PO X hi th) (hk:PO X (some st) tk):
  PE X (.Subscript e (.Slice lo hi (some st) p2) pos) (λσ H Q=>te σ H λx H1=>tl σ H1 λl H2=>th σ H2 λu H3=>tk σ H3 λk H4=>rSl3 X.K x l u k H4 Q):=by
 intro pins s σ H Q I h;refine Lx (thn (he pins s σ H _ I h) λv s1 hQ=>?_);obtain⟨x,H1,I1,r1,q1⟩:=hQ;refine wpAny_Slice (thn (hl pins s1 σ H1 _ I1 q1) λvl s2 ⟨l,H2,I2,pl,q2⟩=>thn (hu pins s2 σ H2 _ I2 q2) λvu s3 ⟨u,H3,I3,pu,q3⟩=>thn (hk pins s3 σ H3 _ I3 q3) λvk s4 hQ=>?_);obtain⟨k,H4,I4,pk,q4⟩:=hQ;have I5:Inv X pins σ H4 {s4 with heap:=s4.heap.push {cls:=.type "slice",data:=.fields #[vl,vu,vk] } }:=I4.kept (t':=s4.toks) λb ob q=>Ae _ q;obtain⟨a,xs,rfl,hx,h0,hz,q⟩:=q4;cases r1;obtain⟨its,r,ht,hz0⟩:=I5.list hx;have hlen:=r.length;show wpAny (model X.prog X.w) X.A (Jg e (.Slice lo hi (some st) p2) (.ref a) (.ref s4.heap.objs.size)) (EP X pins σ Q) X.xe {s4 with heap:=s4.heap.push {cls:=.type "slice",data:=.fields #[vl,vu,vk] } };refine tail_any (ops:=[.ref a,.ref s4.heap.objs.size]) ht.isList.typeIs slot_list_getitem.lookup ?_ (by with_unfolding_all rfl);refine wpAny_getItem_list_slice ht.isList (Ly ..) pl pu pk h0 ?_ (by rw[size_toArray]<;>omega);have rp:=_qf0 r l u k;refine⟨.ref _,_,I5.lnew (t':=s4.toks) (its:=(slicePick its.toArray l u k).toList) rp hz,rfl,q _ I5.fresh⟩
theorem _Xa(hc:X.calm=true):_Qg X (.builtin "sum") (λxs H Q=>∃(p:Addr) (ns:List Int),xs=[.ref p]/\SqL X.K H p (ns.map V.int)/\Q (.int ns.sum) H):=by
 intro pins s σ H xs us Q I r h;obtain⟨p,ns,rfl,hq,q⟩:=h;cases r with
 |cons r1 r=>
  cases r;cases r1;obtain⟨its,rv,ht,hz⟩:=I.list hq;have ia:=_j5 rv;have hall:=ia.allInts;obtain⟨ys,hys⟩:=hall.items;have hl:=ht.isList;rw[hys]at hl;refine sum_intListG (I.ok.hd hc) hl λh' tk t' hk=>?_;have en:(ys.toList.map (·.1))=ns:=by rw[<-nums_intItems,<-hys];simpa using ia.numsOf
  rw[preSum_eq,Eh (by simp),en];exact⟨.int _,H,I.kept (t':=tk) hk,⟨_,rfl⟩,q⟩
theorem _qmb(ns:List Int) (a:Int):sumD (ns.map D.int) a=some (a+ns.sum):=by
 induction ns generalizing a with
 |nil=>simp[sumD]
 |cons n ns ih=>simp[sumD,ih,Int.add_assoc]
theorem _Ku:∀{ds:List D}{a b:Int},sumD ds a=some b->∃ns:List Int,ds=ns.map D.int
 | [],_,_,_=>⟨[],rfl⟩
 |d::ds,a,b,h=>by
  cases d with
  |int i=>
   obtain⟨ns,e⟩:=_Ku (ds:=ds) (a:=a+i) (b:=b) h;exact⟨i::ns,by rw[e];rfl⟩
  |_=>simp[sumD]at h
theorem _qf:∀{vs:List V}{ns:List Int},Reps K F vs (ns.map D.int)->vs=ns.map V.int
 | [],[],_=>rfl
 | [],_::_,r=>by cases r
 |_::_,[],r=>by cases r
 |v::vs,n::ns,r=>by
  cases r with
  |cons h t=>cases h;rw[_qf t];rfl
theorem _J9:_qpg K (λxs H Q=>∃(p:Addr) (ns:List Int),xs=[.ref p]/\SqL K H p (ns.map V.int)/\Q (.int ns.sum) H) dSum:=by
 intro ds d F H vs Q h s r k;unfold dSum at h;split at h
 ·obtain⟨n,hn,rfl⟩:=map_some h
  obtain⟨ns,rfl⟩:=_Ku hn;rw[_qmb]at hn;cases hn;cases r with|cons r r'=>
  cases r';cases r with|lst q t=>
  have:=_qf t
  subst this;exact⟨_,ns,rfl,(_qv6 s q).l,k _ F H (Ext.refl s) (by rw[Int.zero_add];exact .int _)⟩
 ·cases h
theorem blVals:∀{bs:List Bool}{us:List Value},_qwi (bs.map V.bl) us->us=bs.map Value.bool
 | [],_,r=>by cases r;rfl
 |b::bs,_,r=>by
  cases r with
  |cons h t=>cases h;rw[blVals t];rfl
theorem _qkm{A:Around}{E:Value->Shared->Prop}{s:Shared}{l:Addr}{its:Array Value}{Q:Value->Shared->Prop}{prog:Ak}{w:World}(hl:s.heap.IsList l its)
  (h:∀s₂:Shared,(∀b o,s.heap.get? b=some o->s₂.heap.get? b=some o)->s₂.toks=s.toks->s₂.os=s.os->s₂.gens=s.gens->s₂={s with heap:=s₂.heap}->(s₂.heap.IsListIter s.heap.objs.size l 0/\s₂.heap.IsList l its)->l≠s.heap.objs.size->Q (.ref s.heap.objs.size) s₂):
  wpAny (model prog w) A (Kq (.ref l)) Q E s:=by
 have hlt:l<s.heap.objs.size:=by obtain⟨_,e,_⟩:=hl;exact Af e
 exact Io hl (h _ (λb o e=>Ae _ e) rfl rfl rfl rfl ⟨⟨_,Ah _ rfl,rfl,rfl⟩,hl.push _⟩ (ne_of_lt hlt))
theorem _Yj{prog:Ak}{w:World}{A:Around}(bs:List Bool):TruthOf prog w A (λi v=>(bs.map Value.bool).toArray[i]?=some v) λi=>bs.getD i false:=by
 intro i v s Q E hP hQ;rw[Kj,getElem?_map]at hP;obtain⟨b,hb,rfl⟩:=map_some hP
 have:bs.getD i false=b:=by simp[List.getD,hb]
 exact Dv (by rw[<-this];exact hQ)
theorem _qez(bs:List Bool):((Ap bs.length).all λi=>bs.getD i false)=bs.all id:=by
 rw[Az];simp only[all_eq_true,Ax];constructor
 ·intro h b hb
  obtain⟨i,hi,rfl⟩:=List.mem_iff_getElem.mp hb;simpa[hi]using h i hi
 ·intro h i hi
  have:=h bs[i] (getElem_mem hi)
  simpa[hi]using this
theorem _Xb(hc:X.calm=true):_Qg X (.builtin "all") (λxs H Q=>∃(p:Addr) (bs:List Bool),xs=[.ref p]/\SqL X.K H p (bs.map V.bl)/\Q (.bl (bs.all id)) H):=by
 intro pins s σ H xs us Q I r h;obtain⟨p,bs,rfl,hq,q⟩:=h;cases r with
 |cons r1 r=>
  cases r;cases r1;obtain⟨its,rv,ht,hz⟩:=I.list hq;obtain rfl:=blVals rv;refine call_all_walk (_qkm ht.isList λs₂ ks et eo eg es st ne=>?_);refine⟨_,_,_,_,_,_,λi=>bs.getD i false,rfl,Walks.list (A:=X.A.in1) (I.ok.hd hc) _ p ne (bs.map Value.bool).toArray,st,_Yj bs,λh' tk hk=>?_⟩;have e:(bs.map Value.bool).toArray.size=bs.length:=by simp
  rw[e,_qez];rw[es];refine⟨.bl _,H,I.kept (t':=tk) (h':=h') λb o eb=>hk b o ?_ (ks b o eb),rfl,q⟩;intro hb;simp at hb;subst hb;exact absurd (Af eb) (lt_irrefl _)
theorem _Zk:∀{ds:List D}{bs:List Bool},_qgi ds=some bs->ds=bs.map D.bl
 | [],_,h=>by cases h;rfl
 |d::ds,bs,h=>by
  cases d with
  |bl b=>
   obtain⟨r,hr,rfl⟩:=map_some (show(_qgi ds).map (λr=>b::r)=some bs from h);rw[_Zk hr];rfl
  |_=>simp[_qgi]at h
theorem _Qm:∀{vs:List V}{ns:List Bool},Reps K F vs (ns.map D.bl)->vs=ns.map V.bl
 | [],[],_=>rfl
 | [],_::_,r=>by cases r
 |_::_,[],r=>by cases r
 |v::vs,n::ns,r=>by
  cases r with
  |cons h t=>cases h;rw[_Qm t];rfl
theorem _W7:_qpg K (λxs H Q=>∃(p:Addr) (bs:List Bool),xs=[.ref p]/\SqL K H p (bs.map V.bl)/\Q (.bl (bs.all id)) H) dAll:=by
 intro ds d F H vs Q h s r k;unfold dAll at h;split at h
 ·obtain⟨bs,hb,rfl⟩:=map_some h
  have e:=_Zk hb;subst e;cases r with|cons r r'=>
  cases r';cases r with|lst q t=>
  have:=_Qm t
  subst this;exact⟨_,bs,rfl,(_qv6 s q).l,k _ F H (Ext.refl s) (.bl _)⟩
 ·cases h
end
theorem Inv.turnedT{X:Cx}{pins:List (Addr×Obj)}{σ:L2.St}{H:Hp}{s:Shared}{h':Heap}{t':Nat}{fp:List Addr}{T:Addr}{o:HO}(I:Inv X pins σ H s) (k:∀b u,b∉fp->s.heap.get? b=some u->h'.get? b=some u) (hf:∀b∈fp,FpOk X pins H b)
  (hT:s.heap.objs.size<=T) (new:_z5 X.prog X.w (upd H T o) h' T o):Inv X pins σ (upd H T o) {s with heap:=h',toks:=t'}:=by
 have hn:H T=none:=I.hok.fresh hT;have lt:∀b u,s.heap.get? b=some u->b≠T:=λb u e z=>absurd (Af e) (by rw[z];exact L1.mpr hT);have nfp:∀b u,H b=some u->b∉fp:=λb u e z=>by rw[(hf b z).1]at e;cases e
 refine I.step (g':=s.gens) (d':=s.drawn) (ch:=fp) (λb hb=>?_) (λb u _ _ hc e _=>k b u hc e) (λb u _ _ hc e _=>⟨u.slots,k b u hc e⟩) (λb u _ e n=>by rw[_f (lt b u e)];exact n)
  (λb u hc e=>⟨u,k b u hc e⟩) (λb xs e=>by rw[_f (_d e hn)];exact e) (λb u w e=>by rw[_f (_d e hn)];exact e) (λb ps e=>⟨#[],by rw[_f (_d e hn),e];simp⟩) (λm hm=>?_) (λb u e=>?_) I.bare
 ·obtain⟨f0,f1,f2,f3,f4,f5⟩:=hf b hb
  exact⟨f3,f1,f4,f5⟩
 ·obtain⟨u,es,ep,ho,r⟩:=hm
  refine⟨u,es,ep,k _ u (λz=>(hf _ z).2.1 rfl) ho,r⟩
 ·by_cases hb:b=T
  ·subst hb;rw[_b]at e;cases e;exact new
  ·rw[_f hb]at e
   refine(I.hok b u e).stay (λc v hc q=>k c v ?_ q) (λc q=>by rw[_f (_d q hn)];exact q) λc xs q=>by rw[_f (_d q hn)];exact q
   rcases hc with z|z
   ·rw[z];exact nfp b u e
   ·exact nfp c _ z
theorem Inv.turnedL{X:Cx}{pins:List (Addr×Obj)}{σ:L2.St}{H:Hp}{s:Shared}{h':Heap}{t':Nat}{fp:List Addr}(I:Inv X pins σ H s) (k:∀b u,b∉fp->s.heap.get? b=some u->h'.get? b=some u) (hf:∀b∈fp,FpOk X pins H b):Inv X pins σ H {s with heap:=h',toks:=t'}:=by
 have nfp:∀b u,H b=some u->b∉fp:=λb u e z=>by rw[(hf b z).1]at e;cases e
 refine I.step (g':=s.gens) (d':=s.drawn) (ch:=fp) (λb hb=>?_) (λb u _ _ hc e _=>k b u hc e) (λb u _ _ hc e _=>⟨u.slots,k b u hc e⟩) (λb u _ e n=>n)
  (λb u hc e=>⟨u,k b u hc e⟩) (λb xs e=>e) (λb u w e=>e) (λb ps e=>⟨#[],by rw[e];simp⟩) (λm hm=>?_) (λb u e=>?_) I.bare
 ·obtain⟨f0,f1,f2,f3,f4,f5⟩:=hf b hb
  exact⟨f3,f1,f4,f5⟩
 ·obtain⟨u,es,ep,ho,r⟩:=hm
  refine⟨u,es,ep,k _ u (λz=>(hf _ z).2.1 rfl) ho,r⟩
 ·refine(I.hok b u e).stay (λc v hc q=>k c v ?_ q) (λc q=>q) λc xs q=>q
  rcases hc with z|z
  ·rw[z];exact nfp b u e
  ·exact nfp c _ z
def Ite(K:Frag) (a:Addr):It:=
 ⟨λi H=>∃xs x,SqL K H a xs/\xs[i]?=some x,λi H x H'=>∃T v,x=.ref T/\H T=none/\H'=upd H T (.tup [.int (i:Int),v])/\∀xs,SqL K H a xs->xs[i]?=some v,λi H=>∃xs,SqL K H a xs/\xs.length=i⟩
theorem _qef{P:Ak}{w:World}{K:Frag}{elts:List Expr}{kk:Nat}{tp:Pos}(a e it:Addr) (hei:e≠it) (hae:a≠e) (hai:a≠it):Turn P w K (.Tuple elts kk tp) (Ite K a) [e,it] e (λi h=>(∃old,IsEnum h e it i old)/\h.IsListIter it a i) where
 mem:=by simp
 obj:=λi h st b hb=>by
  obtain⟨⟨old,he⟩,⟨o,eo,c,d⟩⟩:=st;have hb':b=e\/b=it:=by simpa using hb
  rcases hb' with rfl|rfl
  ·exact⟨_,he,λv z=>by cases z⟩
  ·exact⟨o,eo,λv z=>by rw[d]at z;cases z⟩
 keep:=λi h h' st k=>by
  obtain⟨⟨old,he⟩,hi⟩:=st;exact⟨⟨old,k e (by simp) _ he⟩,hi.at λo q=>k it (by simp) o q⟩
 item:=by
  intro X hP hw hK hc i pins s σ H E I hf st hg;subst hP hw hK;obtain⟨xs,x,hq,hx⟩:=hg;obtain⟨its,rv,p,hz⟩:=I.list hq;obtain⟨u,hu,ru⟩:=rv.get hx;have W:=WalksT.enumerateD (prog:=X.prog) (w:=X.w) (A:=X.A) (Draws.list (A:=X.A.in1) (I.ok.hd hc) it a hai its.toArray) e hei (by simp;exact⟨hei,Bz hae⟩) (by simp);have hlt:i<its.toArray.size:=by simp;exact(Ai.mp hu).1
  refine W.item i s _ E hlt ⟨st.1,st.2,p.isList⟩ λT vals h' tk hP hT htup hmid hk=>⟨.ref T,rfl,?_⟩;refine W.go elts kk tp i T _ _ E hmid λh'' hst'' hk''=>?_;obtain⟨t,x',hx',rfl⟩:=hP;have ex:x'=u:=by
   have h1:its[i]?=some x':=by simpa using hx'
   rw[hu]at h1;cases h1;rfl
  subst ex;have nT:T∉[e,it]:=W.apart i T h' hmid;obtain⟨oT,hoT,hcT,nT2,hdT⟩:=id htup;have kall:∀b u,b∉[e,it]->s.heap.get? b=some u->h''.get? b=some u:=λb u hb e=>hk'' b u hb (hk b u hb e);have new:_z5 X.prog X.w (upd H T (.tup [.int (i:Int),x])) h'' T (.tup [.int (i:Int),x]):=by
   refine⟨by simp[Ao],[.int (i:Int) t,x'],.cons ⟨_,rfl⟩ (.cons ru .nil),?_⟩;exact⟨oT,hk'' T oT nT hoT,hcT,nT2,hdT⟩
  have I2:=DL.Inv.turnedT I (h':=h'') (t':=tk) kall hf hT new;refine⟨.ref T,_,I2,rfl,⟨T,x,rfl,I.hok.fresh hT,rfl,λys hy=>by rw[I.list_inj hy hq];exact hx⟩,⟨hst''.1,hst''.2.1⟩,λb hb=>?_⟩;rw[_f (by rintro rfl;exact nT hb)];exact(hf b hb).1
 done:=by
  intro X hP hw hK hc i pins s σ H E I hf st hg;subst hP hw hK;obtain⟨xs,hq,hx⟩:=hg;obtain⟨its,rv,p,hz⟩:=I.list hq;have W:=WalksT.enumerateD (prog:=X.prog) (w:=X.w) (A:=X.A) (Draws.list (A:=X.A.in1) (I.ok.hd hc) it a hai its.toArray) e hei (by simp;exact⟨hei,Bz hae⟩) (by simp);have hl:its.toArray.size=i:=by rw[<-hx,rv.length];simp
  refine W.done s _ E (by rw[hl];exact⟨st.1,st.2,p.isList⟩) λh' tk hk=>⟨rfl,DL.Inv.turnedL I (fp:=[e,it]) hk hf⟩
 self:=λ_ _ _ _ _ st h=>by
  obtain⟨⟨old,he⟩,_⟩:=st;exact wpAny_pyIter_enum he h
section
variable{X:Cx}{elts:List Expr}{kk:Nat}{tp p pos:Pos}{a b:Expr}
theorem sq_lt{pins:List (Addr×Obj)}{σ:L2.St}{H:Hp}{s:Shared}{l:Addr}{xs:List V}(I:Inv X pins σ H s) (h:SqL X.K H l xs):l<s.heap.objs.size:=by
 obtain⟨its,rv,p,hz⟩:=I.list h;obtain⟨o,e,_⟩:=p.isList;exact Af e
def iEnum(K:Frag) (tl:TE):TI:=λσ H R=>tl σ H λx H1=>∃a,x=.ref a/\(∃xs,SqL K H1 a xs)/\R (Ite K a) H1
theorem _qbk{tl:TE}(hg:Gl X "enumerate") (hm:X.mg "enumerate"=none) (hl:PE X a tl) (hs:Aq [a] X.env=[(false,eval a X.env)]:=by rfl):PI X (.Tuple elts kk tp) (.Call (.Name "enumerate" p) [a] [] pos) (iEnum X.K tl):=by
 intro pins s σ H R I h;refine Call_ (_Jv I hg hm _Kd (Bp (thn ((_c hl _o (by rw[hs];rfl)) pos pins s σ H (λvs H1=>∃x,vs=[x]/\∃a,x=.ref a/\(∃xs,SqL X.K H1 a xs)/\R (Ite X.K a) H1) I (by
  show tl σ H λx H1=>_;exact(show(λx H1=>∃a,x=V.ref a/\(∃xs,SqL X.K H1 a xs)/\R (Ite X.K a) H1)=(λx H1=>∃x',[x]=[x']/\∃a,x'=V.ref a/\(∃xs,SqL X.K H1 a xs)/\R (Ite X.K a) H1)from by
   funext x H1
   apply propext;exact⟨λz=>⟨x,rfl,z⟩,fun⟨x',e,z⟩=>by cases e;exact z⟩)▸h)) λus s1 ⟨vs,H1,I1,r1,q1⟩=>?_) hs rfl))
 obtain⟨x,rfl,l,rfl,⟨xs,hq⟩,q⟩:=q1;cases r1 with
 |cons r rr=>
  cases rr;cases r;obtain⟨its,rv,pl,hz⟩:=I1.list hq;refine call_enumerate_list pl.isList λh' he hit hsz hk=>?_;have hlt:=sq_lt I1 hq;refine wpAny_pyIter_enum he ?_;have I2:Inv X pins σ H1 {s1 with heap:=h'}:=I1.kept (t':=s1.toks) hk;refine⟨s1.heap.objs.size+1,[s1.heap.objs.size+1,s1.heap.objs.size],_,_,H1,rfl,I2,_qef l _ _ (Nat.succ_ne_self _) (ne_of_lt (lt_succ_of_lt hlt)) (ne_of_lt hlt),⟨⟨_,by simpa using he⟩,hit⟩,λb hb=>?_,q⟩;have hb':b=s1.heap.objs.size+1\/b=s1.heap.objs.size:=by simpa using hb
  rcases hb' with rfl|rfl
  ·exact I1.fpOk (le_succ _) (I1.hok.fresh (le_succ _))
  ·exact I1.fpOk (le_refl _) (I1.hok.fresh (le_refl _))
theorem _V3{ds:List D}:(_qd7 ds).length=ds.length:=by simp[_qd7]
theorem _ql1{ds:List D}{i:Nat}(h:i<ds.length):(_qd7 ds)[i]'(by rw[_V3];exact h)=.tup [.int (i:Int),ds[i]]:=by simp[_qd7]
variable{js:List (Option Nat)}{g:GE}{c:FT}{e:FO}
theorem _W3{K:Frag}{f:FE}{σ:L2.St}{H:Hp}{Q:VK}(h:tO K (_qc5 js f g c e) σ H Q):_qei (iEnum K (tD K f)) (tGE K g) (tDT K c) (tO K e) js σ H Q:=by
 obtain⟨F,ρ,total,s,re,hf,k⟩:=h;obtain⟨d,hd,hf⟩:=bind_some hf;rw[_Ke]at hf;split at hf
 ·rename_i xs
  split at hf
  ·rename_i hlen
   obtain⟨total,hf2,rfl⟩:=map_some hf;have hf:=hf2;clear hf2;refine⟨F,ρ,.lst xs,s,re,hd,λv F1 H1 e1 r1=>?_⟩;cases r1 with
   |lst q t=>
    rename_i a vs;refine⟨a,rfl,⟨vs,(_qv6 e1.fh q).l⟩,λl hl=>⟨λi m σ' H'=>∃F' ρ' done ys,CI K F1 H1 F' H' σ' ρ' l done/\SqE K F' a vs/\Reps K F' vs xs/\i<=xs.length/\m=xs.length-i/\done.length<=i/\_vn g c e ((_qd7 xs).drop i) ρ'=some ys/\total=done++ys,
     ⟨_,F1,mkD js ρ,[],total,_qdj re e1 hl,q,t,zero_le _,rfl,le_refl _,hf,rfl⟩,?_⟩⟩
    rintro i m σ' H' ⟨F',ρ',done,ys,ci,q',t',hi,rfl,hdn,hc,ht⟩
    by_cases hlt:i<xs.length
    ·have hv:i<vs.length:=by rw[t'.length];exact hlt
     refine .inr ⟨⟨vs,vs[i],(_qv6 ci.ext.fh q').l,by simp[hv]⟩,λx H2 y=>?_⟩;obtain⟨T,v',rfl,hT,rfl,y⟩:=y;obtain⟨d,hd1,hd2⟩:=t'.get (y vs (_qv6 ci.ext.fh q').l);have ed:xs[i]=d:=by rw[getElem?_eq_getElem hlt]at hd1;exact Option.some.inj hd1
     rw[_J5 (by rw[_V3];exact hlt),_ql1 hlt,ed]at hc;have hFT:=ci.ext.fh.free hT;have eT:=Ext.laid (o:=.tup [.int (i:Int),v']) ci.ext.fh hT;refine _W2 (N:=λσ2 H2=>∃m',m'<xs.length-i/\_) (ci.more eT) hl (.tup (.inl (.inl _b)) (.cons (.int _) (.cons (hd2.mono (_i hFT)) .nil))) (lt_of_lt_of_le (lt_of_le_of_lt hdn hlt) (_zo hlen)) hc λF2 H2 σ2 ρ2 new ys' s2 ci2 hn2 hc2 he2=>?_;exact⟨_,by omega,F2,ρ2,done++new,ys',ci2,_qv6 (eT.ff.trans s2) q',t'.mono (eT.ff.trans s2),hlt,rfl,by simp;omega,hc2,by rw[ht,he2];simp⟩
    ·refine .inl ⟨⟨vs,(_qv6 ci.ext.fh q').l,by rw[t'.length];omega⟩,?_⟩
     rw[drop_of_length_le (by rw[_V3];omega)]at hc;cases hc
     have:total=done:=by simpa using ht
     subst this;obtain⟨A,o1,o2⟩:=ci.own hl;exact k (.ref l) F' H' A (e1.trans ci.ext) o1 λb z=>⟨(o2 b z).1,e1.hh.free (o2 b z).2⟩
  ·cases hf
 ·cases hf
end
section
variable{X:Cx}{elts:List Expr}{kk:Nat}{tp p pos:Pos}{a b:Expr}
theorem _qq2(n l1 l2:Nat) (h1:l1<n) (h2:l2<n):Kt (n+4) (n+2) (n+3) n (n+1) l1 l2:=by
 constructor<;>(show(_:Nat)≠_;omega)
variable{js:List (Option Nat)}{g:GE}{c:FT}{e:FO}
end
end DL
namespace DL
open PySem
def _qa3:List D->Option (List Int)
 | []=>some []
 | .int n::ds=>(_qa3 ds).map (n:: ·)
 |_=>none
theorem _x3:∀{ds:List D}{ns:List Int},_qa3 ds=some ns->ds=ns.map D.int
 | [],_,h=>by cases h;rfl
 |d::ds,ns,h=>by
  cases d with
  |int i=>
   simp only[_qa3]at h;cases q:_qa3 ds with
   |none=>rw[q]at h;cases h
   |some ms=>rw[q]at h;cases h;rw[_x3 q];rfl
  |_=>cases h
@[simp] theorem _ky:∀(ns:List Int),_qa3 (ns.map D.int)=some ns
 | []=>rfl
 |n::ns=>by simp[_qa3,_ky ns]
def insU(x:Int):List Int->List Int
 | []=>[x]
 |y::ys=>if x<y then x::y::ys else if x=y then y::ys else y::insU x ys
def _Q(ns:List Int):List Int:=ns.foldr insU []
theorem _Vn(x z:Int):∀l:List Int,z∈insU x l↔z=x\/z∈l
 | []=>by simp[insU]
 | y :: ys=>by
  unfold insU;split
  ·simp
  ·split
   ·rename_i e;subst e;simp
   ·simp[_Vn x z ys]
    constructor
    ·rintro(h|h|h)
     ·exact .inr (.inl h)
     ·exact .inl h
     ·exact .inr (.inr h)
    ·rintro(h|h|h)
     ·exact .inr (.inl h)
     ·exact .inl h
     ·exact .inr (.inr h)
theorem _Xq(x:Int):∀l:List Int,l.Pairwise (· < ·)->(insU x l).Pairwise (· < ·)
 | [],_=>by simp[insU]
 |y::ys,h=>by
  rw[pairwise_cons]at h;unfold insU;split
  ·rename_i hx
   rw[pairwise_cons];refine⟨λz hz=>?_,Fs.mpr h⟩;rcases An.mp hz with rfl|hz
   ·exact hx
   ·exact Int.lt_trans hx (h.1 z hz)
  ·split
   ·exact Fs.mpr h
   ·rename_i h1 h2
    rw[pairwise_cons];refine⟨λz hz=>?_,_Xq x ys h.2⟩;rcases(_Vn x z ys).mp hz with rfl|hz
    ·omega
    ·exact h.1 z hz
theorem _zd(z:Int):∀ns:List Int,z∈_Q ns↔z∈ns
 | []=>by simp[_Q]
 |n::ns=>by
  have:=_zd z ns
  simp only[_Q]at this;simp only[_Q,List.foldr_cons,_Vn,mem_cons,this]
theorem _ji:∀ns:List Int,(_Q ns).Pairwise (· < ·)
 | []=>by simp[_Q]
 |n::ns=>by
  have:=_ji ns
  simp only[_Q]at this⊢;exact _Xq n _ this
theorem _zf:∀{l m:List Int},l.Pairwise (· < ·)->m.Pairwise (· < ·)->(∀x,x∈l↔x∈m)->l=m
 | [],[],_,_,_=>rfl
 | [],y::ys,_,_,h=>absurd ((h y).mpr (by simp)) (by simp)
 |x::xs,[],_,_,h=>absurd ((h x).mp (by simp)) (by simp)
 | x :: xs,y :: ys,h1,h2,h=>by
  rw [pairwise_cons] at h1 h2;have e:x=y:=by
   rcases An.mp ((h x).mp (by simp))with e|e
   ·exact e
   ·rcases An.mp ((h y).mpr (by simp))with e'|e'
    ·exact e'.symm
    ·have a1:=h2.1 x e
     have a2:=h1.1 y e';omega
  subst e;rw[_zf h1.2 h2.2 λz=>?_];constructor
  ·intro hz
   rcases An.mp ((h z).mp (mem_cons_of_mem _ hz))with e|e
   ·subst e;exact absurd (h1.1 z hz) (Int.lt_irrefl _)
   ·exact e
  ·intro hz
   rcases An.mp ((h z).mpr (mem_cons_of_mem _ hz))with e|e
   ·subst e;exact absurd (h2.1 z hz) (Int.lt_irrefl _)
   ·exact e
def _Jx:List D->Option (List D)
 | [.lst xs]=>(_qa3 xs).bind λns=>if ns.length<4000/\(_Q ns).length<64 then some ((_Q ns).map .int)else none
 |_=>none
def insL(x:Int):List Int->List Int
 | []=>[x]
 |y::ys=>if x<=y then x::y::ys else y::insL x ys
def _Xl(ns:List Int):List Int:=ns.foldr insL []
theorem _Jl(x:Int):∀l:List Int,(insL x l).Perm (x::l)
 | []=>.refl _
 |y::ys=>by
  unfold insL;split
  ·exact .refl _
  ·exact((_Jl x ys).cons y).trans (List.Perm.swap _ _ _)
theorem _vd:∀ns:List Int,(_Xl ns).Perm ns
 | []=>.refl _
 |n::ns=>(_Jl n _).trans ((_vd ns).cons n)
theorem _Xs(x:Int):∀l:List Int,l.Pairwise (· <= ·)->(insL x l).Pairwise (· <= ·)
 | [],_=>by simp[insL]
 |y::ys,h=>by
  rw[pairwise_cons]at h;unfold insL;split
  ·rename_i hx
   rw[pairwise_cons];refine⟨λz hz=>?_,Fs.mpr h⟩;rcases An.mp hz with rfl|hz
   ·exact hx
   ·exact F9 hx (h.1 z hz)
  ·rename_i hx
   rw[pairwise_cons];refine⟨λz hz=>?_,_Xs x ys h.2⟩;rcases An.mp ((_Jl x ys).mem_iff.mp hz)with rfl|hz
   ·omega
   ·exact h.1 z hz
theorem _Ql:∀ns:List Int,(_Xl ns).Pairwise (· <= ·)
 | []=>.nil
 |n::ns=>_Xs n _ (_Ql ns)
theorem _ql0{ns ns':List Int}(hp:ns'.Perm ns) (hs:ns'.Pairwise (· <= ·)):ns'=_Xl ns:=
 Ji (λ_ _ _ _ a b=>Int.le_antisymm a b) hs (_Ql ns) (hp.trans (_vd ns).symm)
def _qlu:List D->Option (List D)
 | [.lst xs]=>(_qa3 xs).bind λns=>if ns.length<64 then some ((_Xl ns).map .int)else none
 |_=>none
end DL
namespace SetW
open PySem
def Ris(xs:Array Nat):Prop:=∀(i k:Nat),i<k->∀(a b:Nat),xs[i]?=some a->xs[k]?=some b->a<b
theorem _qog{xs:Array Nat}{i d a:Nat}(h:xs[i]?=some a):xs.getD i d=a:=by
 rw[Ey,h];rfl
theorem _w2{xs:Array Nat}{i:Nat}(h:i<xs.size):∃a,xs[i]?=some a:=⟨xs[i],by rw[Dq h]⟩
theorem _Kf{xs:Array Nat}{j:Nat}(hx:Ris xs):∀(fuel lo hi:Nat),hi-lo<=fuel->lo<=hi->hi<=xs.size->(∀i a,i<lo->xs[i]?=some a->a<j)->(∀i a,hi<=i->xs[i]?=some a->j<=a)->
  Gd xs j fuel lo hi<=xs.size/\(∀i a,i<Gd xs j fuel lo hi->xs[i]?=some a->a<j)/\(∀i a,Gd xs j fuel lo hi<=i->xs[i]?=some a->j<=a)
 |0,lo,hi,h1,h2,h3,h4,h5=>by
  have:lo=hi:=by omega
  subst this;exact⟨h3,h4,h5⟩
 |fuel+1,lo,hi,h1,h2,h3,h4,h5=>by
  unfold Gd
  by_cases hl:lo<hi
  ·rw[if_pos hl]
   obtain⟨m,hm⟩:∃m,xs[(lo+hi)/2]?=some m:=_w2 (by omega);dsimp only;rw[_qog hm]
   by_cases hj:m<j
   ·rw[if_pos hj]
    refine _Kf hx fuel _ hi (by omega) (by omega) h3 (λi a hi' ha=>?_) h5
    by_cases e:i=(lo+hi)/2
    ·subst e;rw[hm]at ha;cases ha;exact hj
    ·exact lt_trans (hx i _ (by omega) a m ha hm) hj
   ·rw[if_neg hj]
    refine _Kf hx fuel lo _ (by omega) (by omega) (by omega) h4 (λi a hi' ha=>?_)
    by_cases e:i=(lo+hi)/2
    ·subst e;rw[hm]at ha;cases ha;omega
    ·have:=hx _ i (by omega) m a hm ha;omega
  ·rw[if_neg hl]
   have:lo=hi:=by omega
   subst this;exact⟨h3,h4,h5⟩
theorem _w0{xs:Array Nat}(hx:Ris xs) (j:Nat):SetTable.below xs j<=xs.size/\(∀i a,i<SetTable.below xs j->xs[i]?=some a->a<j)/\(∀i a,SetTable.below xs j<=i->xs[i]?=some a->j<=a):=
 _Kf hx xs.size 0 xs.size (by omega) (by omega) (le_refl _) (λi a h=>absurd h (Nat.not_lt_zero _)) λi a h ha=>by
  rw[getElem?_eq_none h]at ha;cases ha
theorem _qdy{xs:Array Nat}(hx:Ris xs){i a:Nat}(h:xs[i]?=some a):SetTable.below xs (a+1)=i+1:=by
 obtain⟨h1,h2,h3⟩:=_w0 hx (a+1);have hi:i<xs.size:=by
  by_cases c:i<xs.size
  ·exact c
  ·rw[getElem?_eq_none (by omega)]at h;cases h
 generalize SetTable.below xs (a+1)=r at h1 h2 h3;have g1:i<r:=by
  by_cases c:i<r
  ·exact c
  ·have:=h3 i a (by omega) h;omega
 by_cases g2:i+1<r
 ·obtain⟨b,hb⟩:=_w2 (xs:=xs) (i:=i+1) (by omega)
  have c1:=h2 (i+1) b g2 hb;have c2:=hx i (i+1) (by omega) a b h hb;omega
 ·omega
theorem _qdx{xs:Array Nat}(hx:Ris xs):SetTable.below xs 0=0:=by
 obtain⟨h1,h2,h3⟩:=_w0 hx 0;generalize SetTable.below xs 0=r at h1 h2 h3;cases r with
 |zero=>rfl
 |succ r=>
  obtain⟨a,ha⟩:=_w2 (xs:=xs) (i:=0) (by omega)
  have:=h2 0 a (by omega) ha
  omega
theorem _qex{xs:Array Nat}:Ris xs↔xs.toList.Pairwise (· < ·):=by
 rw[Bj];constructor
 ·intro h i j hi hj hij
  exact h i j hij _ _ (by rw[<-getElem?_toList];exact getElem?_eq_getElem hi) (by rw[<-getElem?_toList];exact getElem?_eq_getElem hj)
 ·intro h i k hik a b ha hb
  rw[<-getElem?_toList]at ha hb;obtain⟨hi,rfl⟩:=Ai.mp ha;obtain⟨hk,rfl⟩:=Ai.mp hb;exact h i k hi hk hik
theorem _qmn:Ris #[]:=by intro i k _ a b h;simp at h
theorem _qew(n:Nat):Ris (Array.range n):=by
 rw[_qex,Array.toList_range];exact Ge
theorem _qmm{xs:Array Nat}(hx:Ris xs){j:Nat}(hj:xs[SetTable.below xs j]?≠some j):Ris (SetTable.insertAt xs (SetTable.below xs j) j):=by
 obtain⟨h1,h2,h3⟩:=_w0 hx j;generalize SetTable.below xs j=r at h1 h2 h3 hj;have hp:=_qex.mp hx;rw[_qex,SetTable.toList_insertAt,List.pairwise_append,pairwise_cons];have hd:∀b∈xs.toList.drop r,j<b:=by
  intro b hb;obtain⟨k,hk⟩:=Ku hb;rw[List.getElem?_drop,getElem?_toList]at hk;have c1:=h3 (r+k) b (by omega) hk;cases k with
  |zero=>
   have:b≠j:=by rintro rfl;exact hj hk
   omega
  |succ k=>
   have hlt:r+(k+1)<xs.size:=by
    by_cases c:r+(k+1)<xs.size
    ·exact c
    ·rw[getElem?_eq_none (by omega)]at hk;cases hk
   obtain⟨m,hm⟩:=_w2 (xs:=xs) (i:=r) (by omega);have c2:=h3 r m (le_refl _) hm;have c3:=hx r (r+(k+1)) (by omega) m b hm hk;omega
 have ht:∀a∈xs.toList.take r,a<j:=by
  intro a ha;obtain⟨k,hk⟩:=Ku ha;have hkr:k<r:=by
   by_cases c:k<r
   ·exact c
   ·rw[L3,if_neg c]at hk;cases hk
  rw[L3,if_pos hkr,getElem?_toList]at hk;exact h2 k a hkr hk
 refine⟨hp.sublist (Iv _ _),⟨hd,hp.sublist (List.drop_sublist _ _)⟩,λa ha b hb=>?_⟩;rcases An.mp hb with rfl|hb
 ·exact ht a ha
 ·exact lt_trans (ht a ha) (hd b hb)
theorem _qeo{t:SetTable}{j:Nat}(h:∀i,t.slot j≠ .live i):t.place[SetTable.below t.place j]?≠some j:=by
 intro e;refine h (SetTable.below t.place j) ?_;simp[SetTable.slot,e]
theorem _wf{t:SetTable}{f:Nat->Int}{h:Int}:∀(fuel:Nat) (p:SetTable.Probe),(∀d,p.dummy=some d->∀i,t.slot d≠ .live i)->∀j d,SetTable.probe.go t f h fuel p=some (.empty j d)->∀i,t.slot (d.getD j)≠ .live i
 |0,p,_,j,d,e=>by cases e
 |fuel+1,p,hp,j,d,e=>by
  have had:∀q:SetTable.Probe,(t.advance q).dummy=q.dummy:=by
   intro q;unfold SetTable.advance;split<;>rfl
  unfold SetTable.probe.go at e;split at e
  ·rename_i hs
   cases e;cases hd:p.dummy with
   |none=>intro i;rw[Option.getD_none,hs];exact Ij
   |some d=>rw[Option.getD_some];exact hp d hd
  ·rename_i hs
   refine _wf fuel _ (λd hd=>?_) j d e;rw[had]at hd;cases hd;intro i;rw[hs];exact Ij
  ·split at e
   ·cases e
   ·exact _wf fuel _ (λd hd=>hp d (by rw[had]at hd;exact hd)) j d e
def _Qf(led:Bool) (t:SetTable):Prop:=Ris t.place/\t.led=led
theorem _Qf.standIn{led:Bool}{t:SetTable}(h:_Qf led t) (n:Nat):_Qf led (t.standIn n):=⟨_qew n,h.2⟩
theorem _Qf.plainOff{led:Bool}{t:SetTable}(h:_Qf led t):_Qf led {t with plain:=false}:=h
theorem _Qf.lay{led:Bool}{t:SetTable}(h:_Qf led t) (es:Array (Int×Value)) (n:Int) (x:Value):_Qf led (layNew t es n x).2.1:=by
 unfold layNew;split
 ·rename_i slot wd hf
  have hs:t.place[SetTable.below t.place slot]?≠some slot:=by
   unfold SetTable.freeSlot at hf;split at hf
   ·rename_i j d hq
    cases hf;exact _qeo (_wf _ _ (λd e=>by cases e) _ _ hq)
   ·cases hf
  have hput:_Qf led (t.put slot).1:=⟨_qmm h.1 hs,h.2⟩;dsimp only;unfold SetTable.orStandIn;split
  ·exact hput
  ·exact hput.standIn _
 ·exact h.standIn _
theorem fm_pw{f:Nat->Option (Nat×Nat)}(hf:∀j q,f j=some q->q.1=j):∀(l:List Nat),l.Pairwise (· < ·)->((l.filterMap f).map (·.1)).Pairwise (· < ·)
 | [],_=>.nil
 |a::l,h=>by
  rw[pairwise_cons]at h;rw[filterMap_cons];split
  ·exact fm_pw hf l h.2
  ·rename_i q hq
   rw[map_cons,pairwise_cons];refine⟨λb hb=>?_,fm_pw hf l h.2⟩;obtain⟨z,hz,rfl⟩:=Ag.mp hb;obtain⟨k,hk,hz'⟩:=Ee.mp hz;rw[hf _ _ hq,hf _ _ hz'];exact h.1 k hk
theorem _Qf.relay{led:Bool}{t:SetTable}(h:_Qf led t) (es:Array (Int×Value)) (n:Nat):_Qf led (Kv t es n).2.1:=by
 unfold Kv;split
 ·rename_i t' order hr
  dsimp only;split
  ·unfold SetTable.relaid SetTable.laid at hr
   cases ho:SetTable.layClean (SetTable.sizeAbove n-1) (es.map (·.1))with
   |none=>rw[ho]at hr;cases hr
   |some owner=>
    rw[ho]at hr;have hr':=Option.some.inj hr;have e:=congrArg Prod.fst hr';dsimp only at e;rw[<-e];refine⟨?_,h.2⟩;rw[_qex,Lf];refine fm_pw (λj q hq=>?_) _ Ge;obtain⟨z,_,rfl⟩:=C7.mp hq;rfl
  ·exact h.standIn _
 ·exact h.standIn _
theorem _Qf.fresh(led:Bool):_Qf led (.fresh 0 0 led):=⟨_qmn,rfl⟩
end SetW
namespace SetW
open PySem PySem.Spec PyProof.Rows
def _qw7(w:World):Bool:=w.params.followText "set-order"
section
variable{prog:Ak}{w:World}{A:Around}{E:Value->Shared->Prop}{s:Shared}
def _Xk(prog:Ak) (w:World) (h:Heap) (a:Addr) (S:Int->Bool) (n:Nat):Prop:=
 ∃o es ep t,h.get? a=some o/\o.ExactSet/\o.data=.set es ep t/\Nd (Cw prog w) es.toList/\(∀k,S k=true↔ ∃e∈es.toList,(Cw prog w).is k e.2=true)
 /\es.size<Fc/\t.fits es.size=true/\es.size=n/\_Qf (!_qw7 w) t
theorem _Xk.congr{h:Heap}{a:Addr}{S S':Int->Bool}{n n':Nat}(hS:_Xk prog w h a S n) (e:∀k,S k=S' k) (en:n=n'):_Xk prog w h a S' n':=by
 have:S=S':=funext e
 subst this;subst en;exact hS
theorem _Xk.at{h h':Heap}{a:Addr}{S:Int->Bool}{n:Nat}(hS:_Xk prog w h a S n) (e:∀o,h.get? a=some o->h'.get? a=some o):_Xk prog w h' a S n:=by
 obtain⟨o,es,ep,t,ho,r⟩:=hS;exact⟨o,es,ep,t,e o ho,r⟩
theorem _Xk.store{h:Heap}{a:Addr}{o:Obj}{es:Array (Int×Value)}{ep:Nat}{t:SetTable}(ho:h.get? a=some o) (hex:o.ExactSet) (hd:o.data=.set es ep t)
  {es':Array (Int×Value)}{t':SetTable}{S':Int->Bool}(hel:Nd (Cw prog w) es'.toList) (hmem:∀k,S' k=true↔ ∃e∈es'.toList,(Cw prog w).is k e.2=true) (hb:es'.size<Fc) (hf:t'.fits es'.size=true) (ht:_Qf (!_qw7 w) t'):
  (h.update a (Obj.putSet es' t')).get? a=some {o with data:=.set es' (ep+1) t'}/\_Xk prog w (h.update a (Obj.putSet es' t')) a S' es'.size:=by
 have q:=(SetOf_store (knd:=Cw prog w) ho hex hd hel hmem hb hf).1;exact⟨q,_,es',ep+1,t',q,hex,rfl,hel,hmem,hb,hf,rfl,ht⟩
theorem _qep{a:Addr}{S:Int->Bool}{n:Nat}{k:Int}{x:Value}{Q:Bool->Shared->Prop}(hkey:(Cw prog w).is k x=true) (hsc:x.scannable=true) (hS:_Xk prog w s.heap a S n)
  (hroom:n+1<Fc)
  (h:∀h',Heap.SameBut a s.heap h'->_Xk prog w h' a (λk'=>S k'||decide (k'=k)) (if S k then n else n+1)->Q (!S k) {s with heap:=h'}):
  wpAny (model prog w) A (setAddHashed a x ((Cw prog w).hash k)) Q E s:=by
 obtain⟨o,es,ep,t,ho,hex,hd,hel,hmem,hb,hf,hn,ht⟩:=hS;unfold setAddHashed setAddHashedIn;refine Bc (Ac (Bw ho hd hf ?_));dsimp only;rw[byScan_of hsc hb hel];simp only[↓reduceIte];unfold setAddByScan;refine Ac (Ac (Ei (Ac (wpAny_setScan_of hkey ho hd hf hel ?_))));cases hr:List.findIdx? (λe=>(Cw prog w).is k e.2) es.toList with
 |some j=>
  dsimp only;obtain⟨hj,hpj,_⟩:=List.findIdx?_eq_some_iff_getElem.mp hr;have hSk:S k=true:=(hmem k).mpr ⟨es.toList[j],getElem_mem hj,hpj⟩;refine Ad (Ad ?_)
  have:=h s.heap (Heap.SameBut.refl a s.heap) ⟨o,es,ep,t,ho,hex,hd,hel,λk'=>by
   rw[Ka,decide_eq_true_eq,<-hmem k'];exact⟨λhk=>hk.elim id (λe=>e▸hSk),.inl⟩,hb,hf,by rw[hSk];exact hn,ht⟩
  rw[hSk]at this;exact this
 |none=>
  dsimp only;have hSk:S k=false:=by
   cases hk:S k with
   |false=>rfl
   |true=>obtain⟨e,he,hp⟩:=(hmem k).mp hk;have:=List.findIdx?_eq_none_iff.mp hr e he;rw[hp]at this;exact Bool.noConfusion this
  have hperm:=layNew_perm t es ((Cw prog w).hash k) x;have hfits:=layNew_fits t es ((Cw prog w).hash k) x;have hok:=ht.lay es ((Cw prog w).hash k) x;generalize hL:layNew t es ((Cw prog w).hash k) x=L at hperm hfits hok⊢;obtain⟨es1,t1,wasDummy,gave⟩:=L;dsimp only at hperm hfits hok⊢;rw[Array.toList_push]at hperm;have hel1:Nd (Cw prog w) es1.toList:=(hel.push hkey hsc).perm hperm;have hmem1:∀k',(S k'||decide (k'=k))=true↔ ∃e∈es1.toList,(Cw prog w).is k' e.2=true:=mem_push_iff hkey hmem hperm;have hsz1:es1.size=n+1:=by rw[<-length_toList,hperm.length_eq,length_append,length_toList,hn];rfl
  have hb1:es1.size<Fc:=by rw[hsz1];exact hroom
  have hgw:∀(b:Bool){s₁:Shared}{Q':Unit->Shared->Prop},Q' () s₁->wpAny (model prog w) A (match b with|true=>rule "set.scan.the-table-gave-way"|false=>pure ()) Q' E s₁:=
   λb s₁ Q' hq=>by cases b<;>first|exact Ad hq|exact Ei hq
  have hend:∀h',Heap.SameBut a s.heap h'->_Xk prog w h' a (λk'=>S k'||decide (k'=k)) es1.size->Q true {s with heap:=h'}:=by
   intro h' hsb hS'
   have:=h h' hsb
   rw[hSk]at this;rw[hsz1]at hS';exact this hS'
  refine Ac (hgw _ ?_);have fin:∀ t2:SetTable,t2.fits es1.size=true->_Qf (!_qw7 w) t2->∀ (g:Bool->Sem Unit),(∀ (b:Bool) (s₁:Shared) (Q':Unit->Shared->Prop),Q' () s₁->wpAny (model prog w) A (g b) Q' E s₁) ->
    wpAny (model prog w) A (do
     storeSet a es1 t2
     if (!wasDummy && t2.tooFull) = true then do
         g (Kv t2 es1 (Ec es1.size)).2.2
         storeSet a (Kv t2 es1 (Ec es1.size)).1 (Kv t2 es1 (Ec es1.size)).2.1
         pure (some true)
      else pure (some true)) (λr s'=>wpAny (model prog w) A (match r with|some added=>pure added|none=>setAddHashedIn a x ((Cw prog w).hash k) 99999) Q E s') E s:=by
   intro t2 f2 k2 g hg;refine Ac (wpAny_storeSet_of ho hd ?_ (fits_of_scanBound hb1));obtain⟨ho1,hS1⟩:=_Xk.store (prog:=prog) ho hex hd hel1 hmem1 hb1 f2 k2;have hsb1:=Cn s.heap a (Obj.putSet es1 t2);split
   ·have hp:=relayAll_perm t2 es1 (Ec es1.size)
    have hfr:=relayAll_fits t2 es1 (Ec es1.size);have hkr:=k2.relay es1 (Ec es1.size);generalize hRl:Kv t2 es1 (Ec es1.size)=Rl at hp hfr hkr⊢;obtain⟨es2,t3,gave2⟩:=Rl;dsimp only at hp hfr hkr⊢;have hel2:Nd (Cw prog w) es2.toList:=hel1.perm hp;have hmem2:∀k',(S k'||decide (k'=k))=true↔ ∃e∈es2.toList,(Cw prog w).is k' e.2=true:=λk'=>(hmem1 k').trans ⟨fun⟨e,he,q⟩=>⟨e,hp.mem_iff.mpr he,q⟩,fun⟨e,he,q⟩=>⟨e,hp.mem_iff.mp he,q⟩⟩;have hsz:es2.size=es1.size:=by rw[<-length_toList,hp.length_eq,length_toList]
    have hb2:es2.size<Fc:=by rw[hsz];exact hb1
    refine Ac (hg _ _ _ ?_);refine Ac (wpAny_storeSet_of ho1 rfl ?_ (fits_of_scanBound hb2));obtain⟨_,hS2⟩:=_Xk.store (prog:=prog) ho1 hex rfl hel2 hmem2 hb2 hfr hkr;rw[hsz]at hS2;exact Ad (Ad (hend _ (hsb1.trans (Cn _ a _)) hS2))
   ·exact Ad (Ad (hend _ hsb1 hS1))
  split
  ·refine Ac ?_
   rw[hashByValue_scannable 8 hsc];refine Ad ?_;refine fin _ ?_ ?_ _ ?_
   ·split
    ·exact hfits
    ·exact SetTable.fits_plain_off hfits
   ·split
    ·exact hok
    ·exact hok.plainOff
   ·intro b s₁ Q' hq;cases b<;>first|exact Ad hq|exact Ei hq
  ·refine Ac (Ad ?_)
   simp only[↓reduceIte];refine fin _ hfits hok _ ?_;intro b s₁ Q' hq;cases b<;>first|exact Ad hq|exact Ei hq
theorem _qed{R:Mw->Shared->Prop}{I:Addr}{fp wr:List Addr}{G:Array Ng->Array Ng->Prop}{n:Nat}{P:Nat->Value->Prop}{St:Nat->Shared->Prop}(W:WalksS prog w A.in1 I fp wr G n P St) (S:Addr) (hSf:S∉fp)
  (val:Nat->Int) (hval:∀i v,P i v->∃t,v=.int (val i) t) (hb:n+1<Fc):
  ∀(k i:Nat) (s:Shared),n-i=k->i<=n->St i s->_Xk prog w s.heap S (λk'=>(firstMet val i).any (· ==k')) (firstMet val i).length->
   (∀s',Moved (S::wr) G s s'->_Xk prog w s'.heap S (λk'=>(firstMet val n).any (· ==k')) (firstMet val n).length->R (.ok (.ret .none)) s')->
   D7 (model prog w) A (.builtin "set.update.loop" ⟨[.ref S,.ref I],[]⟩) R s:=by
 have hSw:S∉wr:=λh=>hSf (W.sub _ h);have hsub:∀b∈wr,b∈S::wr:=λb hb=>mem_cons_of_mem _ hb;intro k
 induction k with
 |zero=>
  intro i s hk hi hst hS hR;have hin:i=n:=by omega
  subst hin;refine Bm Jl ?_;rw[Bg Fw _];show wpAny _ A.in1 (Eb (.ref I)>>=_) _ _ s;refine Ac (W.done s _ _ hst λs' hm=>?_);show wpAny _ A.in1 (ret Value.none) _ _ s';exact Ad (hR s' (hm.mono hsub) (hS.at λo e=>hm.heap S _ hSw e))
 |succ k ih=>
  intro i s hk hi hst hS hR;have hlt:i<n:=by omega
  refine Bm Jl ?_;rw[Bg Fw _];show wpAny _ A.in1 (Eb (.ref I)>>=_) _ _ s;refine Ac (W.item i s _ _ hlt hst λv s' hP hst' hm=>?_);obtain⟨t,rfl⟩:=hval i v hP;have hS':=hS.at (h':=s'.heap) λo e=>hm.heap S _ hSw e;show wpAny _ A.in1 (Ju [Value.int (val i) t] (setAdd S (.int (val i) t))>>=_) _ _ s';refine Ac (Bc ?_);unfold setAdd;refine Bc ?_;refine Ac ((Cw prog w).pyHash (k:=val i) (intKind_is _ _ _ _) ?_);have hroom:(firstMet val i).length+1<Fc:=by have:=firstMet_length_le val i;omega
  refine _qep (s:={s' with toks:=s'.toks+1}) (intKind_is _ _ _ _) rfl hS' hroom λh' hsb hS2=>?_;have hSi:_Xk prog w h' S (λk'=>(firstMet val (i+1)).any (· ==k')) (firstMet val (i+1)).length:=
   hS2.congr (λk'=>by rw[Lm,step_any]) (by rw[Lm,step_length])
  refine Ad ⟨De Fw _,ih (i+1) _ (by omega) hlt (W.frame _ s' _ _ hst' (le_succ _) λb hb o e=>?_) hSi λs'' hm'' hS''=>?_⟩
  ·rw[hsb.2 b (λh:b=S=>hSf (by rw[<-h];exact hb))];exact e
  ·refine hR s'' (Moved.trans W.gtrans ((hm.mono hsub).then_heap (le_succ _) λb o hb e=>?_) hm'') hS''
   rw[hsb.2 b (λh:b=S=>hb (by rw[h];exact mem_cons_self))];exact e
end
section
variable{prog:Ak}{w:World}{A:Around}{E:Value->Shared->Prop}{s:Shared}
theorem _qau(a:Value){Q₁:Value->Shared->Prop}
  (h:Q₁ (.ref s.heap.objs.size) {s with heap:=s.heap.push {cls:=.type "set",dict:=none,data:=.set #[] 0 (.fresh 0 0 (!_qw7 w)) } }):
  D7 (model prog w) A (.call (.builtin "set.__new__") ⟨[.type "set",a],[]⟩) (wants Q₁ E) s:=by
 refine codeAny_of_tree ?_;show wpAny _ A.in1 (do checkBuiltinCall "set.__new__" ⟨[.type "set",a],[]⟩;again (.builtin "set.__new__" ⟨[.type "set",a],[]⟩)) _ _ s;refine Ac (Kw (F.newCall_set_1 a) (Ad ⟨De F.plain_set_new _,Bm F.entry_set_new ?_⟩));rw[Bg F.plain_set_new _];unfold Builtin.«set.__new__» Builtin.Frozenset.newClass;have hsub:=sub_set_self;obtain⟨hp,g,d,tk,os⟩:=s;dsimp only
 wp_walk
 refine Cq (Ad ?_);dsimp only;simp only[newObj];refine Ac (wpAny_alloc (Ad ?_));exact Ad h
set_option maxHeartbeats 3200000 in
theorem _Y7{l:Addr}{items:Array Value}{ns:List Int}{Q:Value->Shared->Prop}
  (hh:A.handled=none) (hl:s.heap.IsList l items) (hi:PyProof.Rows.IntsAre items.toList ns) (hb:items.size+1<Fc)
  (h:∀(h':Heap) (tk:Nat),_Xk prog w h' s.heap.objs.size (λk'=>(Dm (λi=>ns.getD i 0) items.size).any (· ==k')) (Dm (λi=>ns.getD i 0) items.size).length->
   (∀b o,b<s.heap.objs.size->s.heap.get? b=some o->h'.get? b=some o)->Q (.ref s.heap.objs.size) {s with heap:=h',toks:=tk}):
  wpAny (model prog w) A (call (.type "set") [.ref l]) Q E s:=by
 obtain⟨c,tl,hmro⟩:=Ej.mro;have hmade:=Ej.made;have hsub:=Ej.sub;refine wpAny_call (codeAny_of_tree ?_);show wpAny _ _ (callAny (.type "set") _) _ _ _;refine Ad ⟨Code.quiet_builtin _ (by decide+kernel),Bm F.entry_type_call ?_⟩;rw[Around.under_plain (weight_type_call_type "set" [.ref l] []) rfl];have h1:=Ej.notType;have h2:=Ej.canCreate;have hct:=F.typeCall_set_1 (.ref l)
 repeat (any_goals (first|assumption|wp_step))
 refine Cy (_qau (.ref l) (E:=E) (Q₁:=λobj s₁=>obj=.ref s.heap.objs.size/\s₁={s with heap:=s.heap.push {cls:=.type "set",dict:=none,data:=.set #[] 0 (.fresh 0 0 (!_qw7 w)) } }) ⟨rfl,rfl⟩) λr s₁ hr=>?_;cases r with
 |error e=>exact hr
 | ok fl =>
  cases fl with
  |ret obj=>
   obtain⟨rfl,rfl⟩:=hr;have hS:(s.heap.push {cls:=.type "set",dict:=none,data:=.set #[] 0 (.fresh 0 0 (!_qw7 w)) }).get? s.heap.objs.size=some {cls:=.type "set",dict:=none,data:=.set #[] 0 (.fresh 0 0 (!_qw7 w)) }:=Ah _ rfl;have hT:G1 {s with heap:=s.heap.push {cls:=.type "set",dict:=none,data:=.set #[] 0 (.fresh 0 0 (!_qw7 w)) } } (.ref s.heap.objs.size) "set":=⟨_,hS,rfl⟩;have hli:=Ej.init.lookup;have hbi:=Ej.init.bind (.ref s.heap.objs.size)
   repeat (any_goals (first|assumption|wp_step))
   refine Cy (codeAny_call_builtin (R:=wants (λr s₂=>r=.none/\∃h' tk,s₂={s with heap:=h',toks:=tk}/\
     _Xk prog w h' s.heap.objs.size (λk'=>(Dm (λi=>ns.getD i 0) items.size).any (· ==k')) (Dm (λi=>ns.getD i 0) items.size).length/\
     (∀b o,b<s.heap.objs.size->s.heap.get? b=some o->h'.get? b=some o)) E) Ej.init.plain F.entry_set_init (check_set_init_1 hT ?_)) λr₂ s₂ hr₂=>?_
   ·obtain⟨ol,hol,hcl,nl,hdl⟩:=hl
    obtain⟨ocls,odict,odata,oslots⟩:=ol;simp only at hcl hdl;subst hcl;subst hdl;have hol':(s.heap.push {cls:=.type "set",dict:=none,data:=.set #[] 0 (.fresh 0 0 (!_qw7 w)) }).get? l=some {cls:=.type "list",dict:=odict,data:=.seq items nl,slots:=oslots}:=Ae _ hol;have hsls:=F.sub_list_set;have hslf:=F.sub_list_frozenset;have hne:(Value.type "list"==Value.type "dict")=false:=by decide
    have hl1:(s.heap.push {cls:=.type "set",dict:=none,data:=.set #[] 0 (.fresh 0 0 (!_qw7 w)) }).IsList l items:=⟨_,hol',rfl,nl,rfl⟩;unfold Builtin.«set.__init__» noKeywords Builtin.Frozenset.updateFrom;generalize hPI:Kq=PI
    wp_walk
    subst hPI;refine Io hl1 ?_;refine Ac (Ic ?_);have hlS:l<s.heap.objs.size:=Af hol;have hh3:A.in1.in1.in1.handled=none:=by simp[hh]
    have hneI:l≠(s.heap.push {cls:=.type "set",dict:=none,data:=.set #[] 0 (.fresh 0 0 (!_qw7 w)) }).objs.size:=by
     rw[Bx];exact ne_of_lt (lt_succ_of_lt hlS)
    have hSf:s.heap.objs.size∉[(s.heap.push {cls:=.type "set",dict:=none,data:=.set #[] 0 (.fresh 0 0 (!_qw7 w)) }).objs.size,l]:=by
     rw[Bx];simp only[mem_cons,Ek,not_mem_nil,or_false,not_or];exact⟨ne_of_lt (lt_succ_self _),ne_of_gt hlS⟩
    have hval:∀(i:Nat) (v:Value),items[i]?=some v->∃t,v=.int ((λi=>ns.getD i 0) i) t:=λi v hv=>
     PyProof.Rows.IntsAre.int_at hi i v (by rw[getElem?_toList];exact hv)
    refine _qed ((Walks.list hh3 _ l hneI items).toS) s.heap.objs.size
     hSf (λi=>ns.getD i 0) hval hb (items.size-0) 0 _ (by omega) (zero_le _)
     ⟨⟨_,Ah _ rfl,rfl,rfl⟩,(hl1.push _)⟩ ?hS0 ?hR
    case hS0=>
     have hget:((s.heap.push {cls:=.type "set",dict:=none,data:=.set #[] 0 (.fresh 0 0 (!_qw7 w)) }).push {cls:=.type "list_iterator",data:=.fields #[.ref l,.int 0 0] }).get? s.heap.objs.size
      =some {cls:=.type "set",dict:=none,data:=.set #[] 0 (.fresh 0 0 (!_qw7 w)) }:=Ae _ hS
     exact⟨_,#[],0,_,hget,⟨rfl,rfl,rfl⟩,rfl,λe he=>by simp at he,λk=>by simp[Dm],by unfold Fc;decide,by rfl,rfl,_Qf.fresh _⟩
    case hR=>
     intro s' hm hS';obtain⟨h',g',d',tk',os'⟩:=s';have eg:g'=s.gens:=hm.gens;have ed:d'=s.drawn:=hm.drawn;have eo:os'=s.os:=hm.os;subst eg;subst ed;subst eo;show wpAny _ _ _ _ _ _;refine Ad ?_;show wpAny _ _ (ret Value.none) _ _ _;refine Ad ⟨rfl,h',tk',rfl,hS',λb o hb e=>?_⟩;have hb1:b≠s.heap.objs.size:=ne_of_lt hb;have hb2:b≠(s.heap.push {cls:=.type "set",dict:=none,data:=.set #[] 0 (.fresh 0 0 (!_qw7 w)) }).objs.size:=by
      rw[Bx];exact ne_of_lt (lt_succ_of_lt hb)
     exact hm.heap b o (by simp only[mem_cons,Ek,not_mem_nil,or_false,not_or];exact⟨hb1,hb2⟩) (Ae _ (Ae _ e))
   ·cases r₂ with
    |error e=>exact hr₂
    |ok fl₂=>
     cases fl₂ with
     |ret r=>
      obtain⟨rfl,h',tk,rfl,hS',hk'⟩:=hr₂
      repeat (any_goals (first|assumption|wp_step))
      exact h _ _ hS' hk'
     |next=>exact A5 hr₂
     |brk=>exact A5 hr₂
     |cont=>exact A5 hr₂
  |next=>exact A5 hr
  |brk=>exact A5 hr
  |cont=>exact A5 hr
end
theorem _wv{α:Type}:∀{l:List α}{i:Nat}(h:i<l.length),(l[i]::l.eraseIdx i).Perm l
 |a::l,0,h=>.refl _
 |a::l,i+1,h=>by
  have:=_wv (l:=l) (i:=i) (by simpa using h)
  simp only[List.getElem_cons_succ,Fx];exact(List.Perm.swap _ _ _).trans (this.cons a)
theorem _wg{α:Type}(next:Nat->Nat):∀(fuel k:Nat) (left:List α) (out:Array α),left.length=fuel->(Mj next fuel k left out).toList.Perm (out.toList++left)
 |0,k,left,out,h=>by
  have:left=[]:=Ce.mp h
  subst this;simp[Mj]
 |fuel+1,k,left,out,h=>by
  unfold Mj;have hlt:next k%left.length<left.length:=mod_lt _ (by omega);rw[getElem?_eq_getElem hlt];dsimp only;refine(_wg next fuel (k+1) _ _ (by rw[Ie hlt];omega)).trans ?_;rw[Array.toList_push,I0];exact List.Perm.append_left _ (_wv hlt)
theorem _Jj{α:Type}(next:Nat->Nat) (xs:Array α):(pickOrder next xs).toList.Perm xs.toList:=by
 have:=_wg next xs.size 0 xs.toList #[] (by simp)
 simpa[pickOrder]using this
section
variable{prog:Ak}{w:World}{A:Around}{E:Value->Shared->Prop}{s:Shared}
theorem _Zq{src:Source}{n:Nat}{Q:Nat->Shared->Prop}(hn:n≠0) (h:∀i,i<n->Q i {s with drawn:=s.drawn.bump src}):wpAny (model prog w) A (choose src n) Q E s:=by
 intro Γ p hΓ;unfold choose;rw[Sem.wp_choose];exact⟨hn,h _ (mod_lt _ (L4 hn))⟩
theorem _kq{α:Type}:∀(n:Nat) (xs:List α) (s:Shared) (Q:List α->Shared->Prop),xs.length=n->(∀ys d,ys.Perm xs->Q ys {s with drawn:=d})->wpAny (model prog w) A (drawOrder n xs) Q E s
 |0,xs,s,Q,hl,h=>by
  have:xs=[]:=Ce.mp hl
  subst this;exact Ad (h [] s.drawn (.refl _))
 |n+1,[],s,Q,hl,h=>by cases hl
 |n+1,x::xs,s,Q,hl,h=>by
  show wpAny _ _ (choose .order (x::xs).length>>=_) _ _ s;refine Ac (_Zq (by simp) λi hi=>?_);rw[getElem?_eq_getElem hi];dsimp only;refine Ac (_kq n _ _ _ (by rw[Ie hi];omega) λys d hp=>Ad ?_);exact h _ d ((hp.cons _).trans (_wv hi))
def _Ko(h:Heap) (a:Addr) (es:Array (Int×Value)) (ep:Nat) (t:SetTable):Prop:=∃o,h.get? a=some o/\o.ExactSet/\o.data=.set es ep t/\t.fits es.size=true
def _qwu(h:Heap) (I a:Addr) (first:Value) (i n ep:Nat):Prop:=∃o,h.get? I=some o/\o.cls=.type "set_iterator"/\o.data=.fields #[first,.int i 0,.ref a,.int n 0,.int ep 0]
variable{es:Array (Int×Value)}{ep:Nat}{t:SetTable}{a I:Addr}{first:Value}{i n:Nat}
theorem _Ko.at{h h':Heap}(x:_Ko h a es ep t) (e:∀o,h.get? a=some o->h'.get? a=some o):_Ko h' a es ep t:=let⟨o,ho,r⟩:=x;⟨o,e o ho,r⟩
theorem _qwu.at{h h':Heap}(x:_qwu h I a first i n ep) (e:∀o,h.get? I=some o->h'.get? I=some o):_qwu h' I a first i n ep:=let⟨o,ho,r⟩:=x;⟨o,e o ho,r⟩
theorem _qwu.typeIs(x:_qwu s.heap I a first i n ep):s.TypeIs (.ref I) "set_iterator":=let⟨o,ho,hc,_⟩:=x;⟨o,ho,hc⟩
theorem _Ko.typeIs(x:_Ko s.heap a es ep t):s.TypeIs (.ref a) "set":=let⟨o,ho,hc,_⟩:=x;⟨o,ho,hc.1⟩
theorem _A:Slot "set_iterator" "__next__" "set_iterator.__next__":=
 .of (owner:="set_iterator") (n:="__next__") (by rw[He,Eu];kernel_rfl) (by decide+kernel) (by decide+kernel) (by decide+kernel)
  (by first|exact .inl (by decide+kernel)|exact .inr (by decide+kernel)) (by rw[Ig];kernel_rfl)
theorem _jl:Nk table "set_iterator.__next__"=some Builtin.«set_iterator.__next__»:=entryFor_of_tree (by kernel_rfl)
theorem _qbq:Manifest.owners.lookup (String.ofList ['r','o','t','a','r','e','t','i','_','t','e','s'].reverse)=some Manifest.sig_set_iterator:=by kernel_rfl
theorem _xk(a:Value):argsOk "set_iterator.__next__" ⟨[a],[]⟩:=by
 unfold argsOk;rw[signature?_of (id:="set_iterator.__next__") (n:=['_','_','t','x','e','n','_','_']) (o:=['r','o','t','a','r','e','t','i','_','t','e','s']) (by kernel_rfl) _qbq];kernel_rfl
theorem _k9:Slot "set_iterator" "__iter__" "set_iterator.__iter__":=
 .of (owner:="set_iterator") (n:="__iter__") (by rw[He,Eu];kernel_rfl) (by decide+kernel) (by decide+kernel) (by decide+kernel)
  (by first|exact .inl (by decide+kernel)|exact .inr (by decide+kernel)) (by rw[Ig];kernel_rfl)
theorem _Zd:Nk table "set_iterator.__iter__"=some Builtin.«dict_keyiterator.__iter__»:=
 Kx (id':="dict_keyiterator.__iter__") (by kernel_rfl) rfl (by decide+kernel) (by kernel_rfl)
theorem _Km(a:Value):argsOk "set_iterator.__iter__" ⟨[a],[]⟩:=by
 unfold argsOk;rw[signature?_of (id:="set_iterator.__iter__") (n:=['_','_','r','e','t','i','_','_']) (o:=['r','o','t','a','r','e','t','i','_','t','e','s']) (by kernel_rfl) _qbq];kernel_rfl
theorem _Qd:Nk table "set.__iter__"=some Builtin.«frozenset.__iter__»:=
 Kx (id':="frozenset.__iter__") (by kernel_rfl) rfl (by decide+kernel) (by kernel_rfl)
theorem _Wq{Q:Value->Shared->Prop}(x:_qwu s.heap I a first i n ep) (h:Q (.ref I) s):wpAny (model prog w) A (Kq (.ref I)) Q E s:=by
 refine Ez x.typeIs _k9 (A0 _k9 x.typeIs _Zd ?_ (_Km _));show wpAny _ _ (ret (.ref I)) _ _ s;exact Ad ⟨_,rfl,"set_iterator",_,x.typeIs,_A.lookup,h⟩
def _qwj(w:World) (a:Addr) (es:Array (Int×Value)) (ep:Nat):List (Int×Value):=if _qw7 w=true then(pickOrder (w.params.setOrder a ep) es).toList else es.toList
def At(w:World) (t:SetTable) (i sl:Nat):Prop:=_qw7 w=true\/SetTable.below t.place sl=i
def Plain(w:World) (es:Array (Int×Value)) (t:SetTable):Prop:=_qw7 w=true\/(¬ (!t.plain&&decide (es.size>1))=true/\Ris t.place/\t.led=true)
theorem _qg1(h:t.fits es.size=true):t.place.size=es.size:=by
 simp[SetTable.fits]at h;exact h.1
theorem _qo0(p3:t.led=true){Q:Unit->Shared->Prop}(h:Q () s):wpAny (model prog w) A (if(!t.led&&!es.isEmpty)=true then Ja "set:maker-not-led"else pure ()) Q E s:=by
 rw[p3];exact Ad h
theorem _qfi(S:_Ko s.heap a es ep t) (pl:Plain w es t){sl:Nat}(g:At w t i sl){e:Int×Value}(he:(_qwj w a es ep)[i]?=some e){Q:Option (Value×Nat)->Shared->Prop}
  (h:∀sl',At w t (i+1) sl'->Q (some (e.2,sl')) s):wpAny (model prog w) A (setNext a sl i ep) Q E s:=by
 obtain⟨o,ho,hex,hd,hf⟩:=S;unfold setNext;refine Ac (Bw ho hd hf ?_);refine Ac ?_;unfold Jy;refine Ac (Cq (Ad ?_));dsimp only;unfold _qwj at he
 by_cases hb:_qw7 w=true
 ·rw[if_pos hb]at he
  rw[if_pos (show(model prog w).w.params.followText "set-order"=true from hb)];refine As (λhab=>absurd hab (by simp)) λ_=>?_;unfold setWalk;refine Ac (Ac (Bw ho hd hf ?_));refine Ac ?_;unfold Jy;refine Ac (Cq (Ad ?_));dsimp only;rw[if_pos (show(model prog w).w.params.followText "set-order"=true from hb)];refine Ac (Cq (Ad ?_));refine Ad ?_;rw[<-getElem?_toList]
  have:(pickOrder ((model prog w).w.params.setOrder a ep) es).toList[i]?=some e:=he
  rw[this];exact h sl (.inl hb)
 ·rw[if_neg hb]at he
  rw[if_neg (show¬ (model prog w).w.params.followText "set-order"=true from hb)];obtain⟨p1,p2,p3⟩:=pl.resolve_left hb;have g':=g.resolve_left hb;refine As (λhab=>absurd hab p1) λ_=>?_;refine Ac (_qo0 p3 ?_);have hlt:i<es.size:=by
   by_cases c:i<es.size
   ·exact c
   ·rw[Kk (by simpa using c)]at he;cases he
  obtain⟨j,hj⟩:=_w2 (xs:=t.place) (i:=i) (by rw[_qg1 hf];exact hlt);rw[getElem?_toList]at he;rw[g',he,hj];exact Ad (h (j+1) (.inr (_qdy p2 hj)))
theorem _qfj(S:_Ko s.heap a es ep t) (pl:Plain w es t){sl:Nat}(g:At w t i sl) (he:(_qwj w a es ep)[i]?=none){Q:Option (Value×Nat)->Shared->Prop}
  (h:Q none s):wpAny (model prog w) A (setNext a sl i ep) Q E s:=by
 obtain⟨o,ho,hex,hd,hf⟩:=S;unfold setNext;refine Ac (Bw ho hd hf ?_);refine Ac ?_;unfold Jy;refine Ac (Cq (Ad ?_));dsimp only;unfold _qwj at he
 by_cases hb:_qw7 w=true
 ·rw[if_pos hb]at he
  rw[if_pos (show(model prog w).w.params.followText "set-order"=true from hb)];refine As (λhab=>absurd hab (by simp)) λ_=>?_;unfold setWalk;refine Ac (Ac (Bw ho hd hf ?_));refine Ac ?_;unfold Jy;refine Ac (Cq (Ad ?_));dsimp only;rw[if_pos (show(model prog w).w.params.followText "set-order"=true from hb)];refine Ac (Cq (Ad ?_));refine Ad ?_;rw[<-getElem?_toList]
  have:(pickOrder ((model prog w).w.params.setOrder a ep) es).toList[i]?=none:=he
  rw[this];exact h
 ·rw[if_neg hb]at he
  rw[if_neg (show¬ (model prog w).w.params.followText "set-order"=true from hb)];obtain⟨p1,p2,p3⟩:=pl.resolve_left hb;have g':=g.resolve_left hb;refine As (λhab=>absurd hab p1) λ_=>?_;refine Ac (_qo0 p3 ?_);rw[getElem?_toList]at he;rw[g',he];exact Ad h
end
section
variable{prog:Ak}{w:World}{A:Around}{E:Value->Shared->Prop}{s:Shared}
variable{es:Array (Int×Value)}{ep:Nat}{t:SetTable}{a I:Addr}{first:Value}{i n:Nat}
theorem _qwu.set{h:Heap}(x:_qwu h I a first i n ep){k:Nat}{v first':Value}{i':Nat}(e:(#[first,.int i 0,.ref a,.int n 0,.int ep 0]:Array Value).setIfInBounds k v=#[first',.int i' 0,.ref a,.int n 0,.int ep 0]):_qwu (h.update I (Cz (·.setIfInBounds k v))) I a first' i' n ep:=by
 obtain⟨o,ho,hc,hd⟩:=x;exact⟨_,Bh _ ho (Gp (El hd _)),(Obj.cls_mapFields ..).trans hc,by rw[El hd,e]⟩
theorem _qal(hh:A.handled=none){h':Heap}{Q:Option Value->Shared->Prop}(hQ:∀h'',(∀b o,h'.get? b=some o->h''.get? b=some o)->Q none {s with heap:=h''}) (P:Fin->Shared->Prop):
  wpAny (model prog w) A.in1 (Nl (.type "StopIteration") []>>=λe=>(Nm e:Sem Fin)) P
   (λe s'=>wpAny (model prog w) A (do let b <-isInstance e (.type "StopIteration");if b=true then pure none else throw e) Q E s') {s with heap:=h'}:=by
 refine Ac ?_;simp only[Nl,newTuple];refine Ac (Ba ?_ (by size_fits));refine Ac (m:=E6 _ _) (Kw (a:=Value.none) (by first|rfl|(simp only[E6];rfl)) ?_);refine Ba ?_ (by size_fits);simp only[Nm];refine Ac (Ln ?_);rw[show A.in1.handled=none from hh];refine Ac (Ad (M7 ?_));refine Ac (Fe (T:="StopIteration") (b:=true) ⟨_,Ah _ rfl,rfl⟩ isSubtype_stop ?_);exact Ad (hQ _ λb o e=>Ae _ (Ae _ e))
theorem _qa7(hh:A.handled=none) (hne:a≠I) (pl:Plain w es t) (hs:(_qwj w a es ep).length=es.size):
  Walks prog w A I [I,a] [I] (_qwj w a es ep).length (λi v=>∃e,(_qwj w a es ep)[i]?=some e/\v=e.2) (λi h=>∃sl:Nat,_qwu h I a (.int sl 0) i es.size ep/\_Ko h a es ep t/\At w t i sl) where
 sub:=λb hb=>by simp at hb;simp[hb]
 frame:=λ_ _ _ ⟨sl,x,y,g⟩ hk=>⟨sl,x.at λo e=>hk I (by simp) o e,y.at λo e=>hk a (by simp) o e,g⟩
 item:=λi s Q E hi ⟨sl,x,y,g⟩ hQ=>by
  obtain⟨e,he⟩:∃e,(_qwj w a es ep)[i]?=some e:=⟨_,getElem?_eq_getElem hi⟩;obtain⟨o,ho,hc,hd⟩:=id x;obtain⟨oS,hoS,hex,hdS,hf⟩:=id y;unfold Eb;refine Ac (Es (Bl (name:=C8 "__next__") x.typeIs _A (A0 _A x.typeIs _jl ?_ (_xk _))));unfold Builtin.«set_iterator.__next__»;refine Ac (Ad ?_);refine Ac (Di ho hd ?_);refine Ac (D9 hoS hdS hf ?_);dsimp only;refine As (λhab=>absurd hab (by simp)) λ_=>?_;rw[Bb,Bb,Bb];refine Ac (_qfi y pl g he λsl' g'=>?_);dsimp only;refine Ac (Ck ho hd (by simp) ?_);have x1:=x.set (k:=0) (v:=Cc (sl':Int)) (first':=.int sl' 0) (i':=i) (by simp[Cc]);obtain⟨o1,ho1,hc1,hd1⟩:=id x1;refine Ac (Ck (s:={s with heap:=s.heap.update I (Cz (·.setIfInBounds 0 (Cc (sl':Int)))) }) ho1 hd1 (by simp) ?_);have x2:=x1.set (k:=1) (v:=Cc ((i:Int)+1)) (first':=.int sl' 0) (i':=i+1) (by simp[Cc]);have hk:∀b o,b∉[I]->s.heap.get? b=some o->((s.heap.update I (Cz (·.setIfInBounds 0 (Cc (sl':Int))))).update I (Cz (·.setIfInBounds 1 (Cc ((i:Int)+1))))).get? b=some o:=λb o hb e=>
   (Av _ _ (λh=>hb (by simp[h]))).trans ((Av _ _ (λh=>hb (by simp[h]))).trans e)
  refine Ad ⟨_,rfl,Ad (hQ _ _ s.toks ⟨e,he,rfl⟩ ⟨sl',x2,y.at λo e=>hk a o (by simp[hne]) e,g'⟩ hk)⟩
 done:=λs Q E ⟨sl,x,y,g⟩ hQ=>by
  have he:(_qwj w a es ep)[(_qwj w a es ep).length]?=none:=by simp
  obtain⟨o,ho,hc,hd⟩:=id x;obtain⟨oS,hoS,hex,hdS,hf⟩:=id y;unfold Eb;refine Ac (Es (Bl (name:=C8 "__next__") x.typeIs _A (A0 _A x.typeIs _jl ?_ (_xk _))));unfold Builtin.«set_iterator.__next__»;refine Ac (Ad ?_);refine Ac (Di ho hd ?_);refine Ac (D9 hoS hdS hf ?_);dsimp only;refine As (λhab=>absurd hab (by simp)) λ_=>?_;rw[Bb,Bb,Bb];refine Ac (_qfj y pl g he ?_);dsimp only;refine Ac (Ck ho hd (by simp) ?_);exact _qal hh (λh'' k=>hQ h'' s.toks λb o hb e=>k b o ((Av _ _ (λh=>hb (by simp[h]))).trans e)) _
 self:=λ_ _ _ _ ⟨sl,x,y,g⟩ hQ=>_Wq x hQ
def Drw(es:Array (Int×Value)) (p:List Nat):List (Int×Value):=p.map λk=>es.getD k (0,.none)
def TuAt(h:Heap) (T:Addr) (p:List Nat):Prop:=∃o,h.get? T=some o/\o.data=.seq (p.map fun(i:Nat)=>Cc i).toArray 0
theorem _qda(y:_Ko s.heap a es ep t){k:Nat}{e:Int×Value}(he:es[k]?=some e){Q:Value->Shared->Prop}(h:Q e.2 s):wpAny (model prog w) A (setNextDrawn a k ep) Q E s:=by
 obtain⟨oS,hoS,hex,hdS,hf⟩:=y;unfold setNextDrawn;refine Ac (Bw hoS hdS hf ?_);dsimp only;refine As (λhab=>absurd hab (by simp)) λ_=>?_;rw[he];exact Ad h
theorem _qa8(hh:A.handled=none){T:Addr}(hne:a≠I) (hT:T≠I){p:List Nat}(hp:∀k∈p,k<es.size):
  Walks prog w A I [I,a,T] [I] (Drw es p).length (λi v=>∃e,(Drw es p)[i]?=some e/\v=e.2) (λi h=>_qwu h I a (.ref T) i es.size ep/\_Ko h a es ep t/\TuAt h T p) where
 sub:=λb hb=>by simp at hb;simp[hb]
 frame:=λ_ _ _ ⟨x,y,z⟩ hk=>⟨x.at λo e=>hk I (by simp) o e,y.at λo e=>hk a (by simp) o e,let⟨o,ho,r⟩:=z;⟨o,hk T (by simp) o ho,r⟩⟩
 item:=λi s Q E hi ⟨x,y,z⟩ hQ=>by
  have hi':i<p.length:=by simpa[Drw]using hi
  obtain⟨k,hk⟩:∃k,p[i]?=some k:=⟨_,getElem?_eq_getElem hi'⟩;have hkl:=hp k (mem_of_getElem? hk);obtain⟨e,he⟩:∃e,es[k]?=some e:=⟨es[k],by rw[Dq hkl]⟩;have hD:(Drw es p)[i]?=some e:=by simp[Drw,hk,Ey,he]
  obtain⟨o,ho,hc,hd⟩:=id x;obtain⟨oS,hoS,hex,hdS,hf⟩:=id y;obtain⟨oT,hoT,hdT⟩:=id z;unfold Eb;refine Ac (Es (Bl (name:=C8 "__next__") x.typeIs _A (A0 _A x.typeIs _jl ?_ (_xk _))));unfold Builtin.«set_iterator.__next__»;refine Ac (Ad ?_);refine Ac (Di ho hd ?_);refine Ac (D9 hoS hdS hf ?_);dsimp only;refine As (λhab=>absurd hab (by simp)) λ_=>?_;refine Ac ?_;unfold seqItems?;refine Ac (Gu hoT ?_);rw[hdT];refine Ad ?_;dsimp only;have hpl:(p.map fun(i:Nat)=>Cc i).toArray[((i:Nat):Int).toNat]?=some (Cc k):=by simp[hk]
  rw[hpl];dsimp only[Cc];rw[Bb,Bb];refine Ac (_qda y he ?_);refine Ac (Ck ho hd (by simp) ?_);have x2:=x.set (k:=1) (v:=Cc ((i:Int)+1)) (first':=.ref T) (i':=i+1) (by simp[Cc]);have hkp:∀b o,b∉[I]->s.heap.get? b=some o->(s.heap.update I (Cz (·.setIfInBounds 1 (Cc ((i:Int)+1))))).get? b=some o:=λb o hb e=>
   (Av _ _ (λh=>hb (by simp[h]))).trans e
  exact Ad ⟨_,rfl,Ad (hQ _ _ s.toks ⟨e,hD,rfl⟩ ⟨x2,y.at λo e=>hkp a o (by simp[hne]) e,oT,hkp T oT (by simp[hT]) hoT,hdT⟩ hkp)⟩
 done:=λs Q E ⟨x,y,z⟩ hQ=>by
  obtain⟨o,ho,hc,hd⟩:=id x;obtain⟨oS,hoS,hex,hdS,hf⟩:=id y;obtain⟨oT,hoT,hdT⟩:=id z;unfold Eb;refine Ac (Es (Bl (name:=C8 "__next__") x.typeIs _A (A0 _A x.typeIs _jl ?_ (_xk _))));unfold Builtin.«set_iterator.__next__»;refine Ac (Ad ?_);refine Ac (Di ho hd ?_);refine Ac (D9 hoS hdS hf ?_);dsimp only;refine As (λhab=>absurd hab (by simp)) λ_=>?_;refine Ac ?_;unfold seqItems?;refine Ac (Gu hoT ?_);rw[hdT];refine Ad ?_;dsimp only;have hpl:(p.map fun(i:Nat)=>Cc i).toArray[(((Drw es p).length:Nat):Int).toNat]?=none:=by simp[Drw]
  rw[hpl];dsimp only;refine Ac (Ck ho hd (by simp) ?_);have hd1:=El hd (·.setIfInBounds 0 (Cc 0));have ho1:=Bh (Cz (·.setIfInBounds 0 (Cc 0))) ho (Gp hd1);refine Ac (Ck (s:={s with heap:=s.heap.update I (Cz (·.setIfInBounds 0 (Cc 0))) }) ho1 hd1 (by simp) ?_);exact _qal hh (λh'' k=>hQ h'' s.toks λb o hb e=>k b o ((Av _ _ (λh=>hb (by simp[h]))).trans ((Av _ _ (λh=>hb (by simp[h]))).trans e))) _
 self:=λ_ _ _ _ ⟨x,y,z⟩ hQ=>_Wq x hQ
theorem _ql6{p:List Nat}(hp:p.Perm (Ap es.size)):(Drw es p).Perm es.toList:=by
 have e:(Ap es.size).map (λk=>es.getD k (0,.none))=es.toList:=by
  apply ext_getElem
  ·simp
  ·intro i h1 h2
   simp at h1;simp[Ey,h1]
 rw[<-e];exact hp.map _
theorem _qkk(hh:A.handled=none) (y:_Ko s.heap a es ep t) (ok:_Qf (!_qw7 w) t) (hz:es.size<=Aj){Q:Value->Shared->Prop}
  (h:∀(I:Addr) (fp:List Addr) (St:Nat->Heap->Prop) (order:List (Int×Value)) (s':Shared),order.Perm es.toList->Walks prog w A I fp [I] order.length (λi v=>∃e,order[i]?=some e/\v=e.2) St->St 0 s'.heap->
   (∀b o,s.heap.get? b=some o->s'.heap.get? b=some o)->s.heap.objs.size<=I->(∀b∈fp,b=a\/s.heap.objs.size<=b)->(∃h' d',s'={s with heap:=h',drawn:=d'})->Q (.ref I) s'):
  wpAny (model prog w) A (Kq (.ref a)) Q E s:=by
 obtain⟨oS,hoS,hex,hdS,hf⟩:=id y;have hlt:a<s.heap.objs.size:=Af hoS;refine Ez y.typeIs F.slot_set_iter (A0 F.slot_set_iter y.typeIs _Qd ?_ (F.args_set_iter_1 _));unfold Builtin.«frozenset.__iter__»;refine Ac (Ad ?_);refine Ac ?_;unfold Builtin.Frozenset.sizeOf;refine Ac (D9 hoS hdS hf (Ad ?_));refine Ac ?_;unfold setDrawn;refine Ac (Bw hoS hdS hf ?_);dsimp only;refine Ac ?_;unfold Jy;refine Ac (Cq (Ad ?_));refine Ad ?_;refine As (λhab=>?_) λhab=>?_
 ·refine Ac (_kq _ _ _ _ (by simp) λp d hp=>?_)
  refine Ac (Gg ?_ (by rw[length_map,hp.length_eq,List.length_range];exact hz));have hoS1:=Ae {cls:=.type "tuple",data:=.seq (p.map fun(i:Nat)=>Cc i).toArray} hoS;refine Ac ?_;unfold setEpoch;refine Ac (Bw hoS1 hdS hf (Ad ?_));refine Ac ?_;unfold newFields;refine Ba (Ad ⟨_,rfl,"set_iterator",_,⟨_,Ah _ rfl,rfl⟩,_A.lookup,?_⟩);have hI:s.heap.objs.size< (s.heap.push {cls:=.type "tuple",data:=.seq (p.map fun(i:Nat)=>Cc i).toArray}).objs.size:=by rw[Bx];exact lt_succ_self _
  refine h _ _ _ (Drw es p) _ (_ql6 hp) (_qa8 (t:=t) (ep:=ep) hh (T:=s.heap.objs.size) (ne_of_lt (lt_trans hlt hI)) (ne_of_lt hI) λk hk=>by
   have:=hp.mem_iff.mp hk
   simpa using this) ?_ (λb o e=>Ae _ (Ae _ e)) (le_of_lt hI) (λb hb=>?_) ⟨_,_,rfl⟩
  ·exact⟨⟨_,Ah _ rfl,rfl,by simp[Cc]⟩,⟨_,Ae _ hoS1,hex,hdS,hf⟩,_,Ae _ (Ah _ rfl),rfl⟩
  ·simp only[mem_cons,not_mem_nil,or_false]at hb
   rcases hb with rfl|rfl|rfl
   ·exact .inr (le_of_lt hI)
   ·exact .inl rfl
   ·exact .inr (le_refl _)
 ·refine Ac (Ad ?_)
  refine Ac ?_;unfold setEpoch;refine Ac (Bw hoS hdS hf (Ad ?_));refine Ac ?_;unfold newFields;refine Ba (Ad ⟨_,rfl,"set_iterator",_,⟨_,Ah _ rfl,rfl⟩,_A.lookup,?_⟩);have pl:Plain w es t:=by
   by_cases hb:_qw7 w=true
   ·exact .inl hb
   ·have hb':_qw7 w=false:=by simpa using hb
    refine .inr ⟨λhd=>hab ?_,ok.1,by rw[ok.2,hb'];rfl⟩;show(!_qw7 w&&(!t.plain&&decide (es.size>1)))=true;rw[hb',hd];rfl
  have hord:(_qwj w a es ep).Perm es.toList:=by
   unfold _qwj;split
   ·exact _Jj _ _
   ·exact .refl _
  refine h _ _ _ (_qwj w a es ep) _ hord (_qa7 (t:=t) (ep:=ep) hh (ne_of_lt hlt) pl (by rw[hord.length_eq,length_toList])) ?_ (λb o e=>Ae _ e) (le_refl _) (λb hb=>?_) ⟨_,_,rfl⟩
  ·refine⟨0,⟨_,Ah _ rfl,rfl,by simp[Cc]⟩,⟨_,Ae _ hoS,hex,hdS,hf⟩,?_⟩
   by_cases hb:_qw7 w=true
   ·exact .inl hb
   ·exact .inr (_qdx ok.1)
  ·simp only[mem_cons,not_mem_nil,or_false]at hb
   rcases hb with rfl|rfl
   ·exact .inr (le_refl _)
   ·exact .inl rfl
theorem _qko{Q:Bool->Shared->Prop}(hT:s.TypeIs (.ref a) "set") (h:Q false s):wpAny (model prog w) A (C9 (.ref a)) Q E s:=by
 unfold C9;refine Ac (Hf hT PySem.F.slot_set_len.lookup ?_);generalize hid:("set.__len__":String)=id0
 wp_delta
 rw[show splitId id0=some ("set","__len__")from by subst hid;decide+kernel];subst hid;refine Ac (Fe (T:="set") (b:=true) hT (by rw[Ig];kernel_rfl) ?_);refine As (λhab=>absurd hab (by decide)) (λ_=>?_);refine As (λ_=>?_) (λhab=>absurd (by decide+kernel) hab);refine Ac (Ml hT ?_);exact Ad h
theorem _Y6(hh:A.handled=none) (y:_Ko s.heap a es ep t) (ok:_Qf (!_qw7 w) t) (hz:es.size<=Aj){Q:List Value->Shared->Prop}
  (h:∀(order:List (Int×Value)) (s':Shared),order.Perm es.toList->(∀b o,s.heap.get? b=some o->s'.heap.get? b=some o)->s.heap.objs.size<s'.heap.objs.size->(∃h' d' tk,s'={s with heap:=h',drawn:=d',toks:=tk})->Q (order.map (·.2)) s'):
  wpAny (model prog w) A (Mm (.ref a)) Q E s:=by
 have hlt:a<s.heap.objs.size:=let⟨o,ho,_⟩:=y;Af ho;unfold Mm;refine Ac (Ic (Bm G6 ?_));rw[Bg E1 _];show wpAny _ A.in1 (Nc []>>=λl=>again (.builtin "list.__iadd__" ⟨[l,.ref a],[]⟩)) _ _ s;refine Ac (Ba ?_);refine Ad ⟨De Cf _,Bm Jm ?_⟩;rw[Bg Cf _];have hS₁:(s.heap.push {cls:=.type "list",data:=.seq ([]:List Value).toArray}).get? s.heap.objs.size=some {cls:=.type "list",data:=.seq #[] }:=Ah _ rfl;show wpAny _ A.in1 (Ci (.ref s.heap.objs.size) (.ref a) (.ref s.heap.objs.size)) _ _ _;have y1:_Ko (s.heap.push {cls:=.type "list",data:=.seq ([]:List Value).toArray}) a es ep t:=y.at λo e=>Ae _ e;unfold Ci;refine Ac (Ml (T:="set") (_Ko.typeIs (s:={s with heap:=s.heap.push {cls:=.type "list",data:=.seq ([]:List Value).toArray} }) y1) ?_);have h1:D6 (.ref s.heap.objs.size) (.ref a)=false:=by simp[D6];exact ne_of_gt hlt
 simp only[h1,show(Value.type "set"==Value.type "list")=false from by decide,show(Value.type "set"==Value.type "tuple")=false from by decide,Lk,Aw,if_false];refine Ac (_qkk (A:=A.in1) (s:={s with heap:=s.heap.push {cls:=.type "list",data:=.seq ([]:List Value).toArray} }) hh y1 ok hz λI fp St order s1 hord W st hk hI hfp hs1=>?_);obtain⟨h1',d1',rfl⟩:=hs1;have hsz1:(s.heap.push {cls:=.type "list",data:=.seq ([]:List Value).toArray}).objs.size=s.heap.objs.size+1:=Bx ..;have hSf:s.heap.objs.size∉fp:=λhm=>by
  rcases hfp _ hm with e|e
  ·exact absurd hlt (by rw[e];exact lt_irrefl _)
  ·exact absurd (show s.heap.objs.size+1<=s.heap.objs.size from hsz1▸e) (Nat.not_succ_le_self _)
 have hbI:∀b o,s.heap.get? b=some o->b∉s.heap.objs.size::[I]:=λb o e hm=>by
  have hb:=Af e;rcases An.mp hm with e'|hm
  ·exact absurd hb (by rw[e'];exact lt_irrefl _)
  ·have e2:b=I:=Ek.mp hm
   have:s.heap.objs.size+1<=I:=hsz1▸hI
   rw[e2]at hb;exact absurd (lt_trans hb (Nat.lt_of_succ_le this)) (lt_irrefl _)
 have hno:order.length<=Aj:=by rw[hord.length_eq,length_toList];exact hz
 have key:∀(s1:Shared) (c₁:Nat),(∃h d tk,s1={s with heap:=h,drawn:=d,toks:=tk})->St 0 s1.heap->(∀b o,s.heap.get? b=some o->s1.heap.get? b=some o)->
   s1.heap.get? s.heap.objs.size=some {cls:=.type "list",data:=.seq #[] c₁}->
   D7 (model prog w) A (.builtin "list.extend.loop" ⟨[.ref s.heap.objs.size,.ref I,.ref s.heap.objs.size],[]⟩)
    (λq s'=>∃acc' c',q=.ok (.ret (.ref s.heap.objs.size))/\(∃h' d' tk,s'={s with heap:=h',drawn:=d',toks:=tk})/\(∀b o,s.heap.get? b=some o->s'.heap.get? b=some o)/\
     s'.heap.get? s.heap.objs.size=some {cls:=.type "list",dict:=none,data:=.seq acc' c',slots:=#[] }/\acc'.toList=order.map (·.2)) s1:=by
  intro s1 c₁ hs1 hst hk1 hS1;refine codeAny_extend_loopS W.toS hno s.heap.objs.size hSf (.ref s.heap.objs.size) order.length 0 _ #[] c₁ rfl (zero_le _) hst hS1 (ItemsOf.nil _) λs' acc' c' hm hS' hacc=>?_;refine⟨acc',c',rfl,?_,λb o e=>hm.heap b o (hbI b o e) (hk1 b o e),hS',?_⟩
  ·obtain⟨h,d,tk,rfl⟩:=hs1
   rw[Moved.eq_with hm];exact⟨_,_,_,rfl⟩
  ·apply ext_getElem
   ·rw[length_toList,length_map];exact hacc.1
   ·intro j h1 h2
    obtain⟨e,he,hv⟩:=hacc.2 j acc'.toList[j] (by rw[<-getElem?_toList,getElem?_eq_getElem h1]);rw[hv];rw[length_map]at h2;rw[getElem?_eq_getElem h2]at he;cases he
    simp
 refine Ac (Bc (_qko (_Ko.typeIs (y1.at λo e=>hk a o e)) ?_));have fin:∀(s1:Shared) (c₁:Nat),(∃h d tk,s1={s with heap:=h,drawn:=d,toks:=tk})->St 0 s1.heap->(∀b o,s.heap.get? b=some o->s1.heap.get? b=some o)->
   s1.heap.get? s.heap.objs.size=some {cls:=.type "list",data:=.seq #[] c₁}->
   D7 (model prog w) A (.builtin "list.extend.loop" ⟨[.ref s.heap.objs.size,.ref I,.ref s.heap.objs.size],[]⟩)
    (λq s'=>match q with
     | .ok (.ret v)=>wpAny (model prog w) A (match v with
      | .ref a=>do
       let o <-load a
       match o.data with
       | .seq xs _=>pure xs.toList
       |_=>Ja "internal:collect"
      |_=>Ja "internal:collect") Q E s'
     | .ok _=>False
     | .error e=>E e s') s1:=by
  intro s1 c₁ a1 a2 a3 a4;refine Cy (key s1 c₁ a1 a2 a3 a4) λq s' hQ=>?_;obtain⟨acc',c',hq,hs',hk',hS',hacc⟩:=hQ;subst hq;show wpAny _ A (load s.heap.objs.size>>=_) _ _ _;refine Ac (Gu hS' ?_);show wpAny _ A (pure acc'.toList) _ _ _;rw[hacc];exact Ad (h order s' hord hk' (Af hS') hs')
 have hS2:=hk _ _ hS₁;refine As (λ_=>?_) (λ_=>Ad ⟨De Bu _,?_⟩)
 ·refine Ac (Ei ?_)
  refine Ac ?_;show wpAny _ _ (Mz s.heap.objs.size (·.push .none)>>=λ_=>Mz s.heap.objs.size (·.pop)) _ _ _;refine Ac (Hg hS2 rfl ?_);have hS₂:=Bh (Bi (·.push Value.none)) hS2 rfl;refine Hg (hz:=by seq_fits) hS₂ rfl ?_;have hS₃:=Bh (Bi (·.pop)) hS₂ rfl;have oth:∀b o,b≠s.heap.objs.size->h1'.get? b=some o->((h1'.update s.heap.objs.size (Bi (·.push Value.none))).update s.heap.objs.size (Bi (·.pop))).get? b=some o:=λb o hb e=>
   (Av _ _ (Bz hb)).trans ((Av _ _ (Bz hb)).trans e)
  refine Ad ⟨De Bu _,?_⟩;refine Cy (fin _ _ ⟨_,_,_,rfl⟩ ?_ (λb o e=>oth b o (ne_of_lt (Af e)) (hk b o (Ae _ e))) hS₃) λq s' x=>x;exact W.frame 0 _ _ st λb hb o e=>oth b o (λh=>hSf (h▸hb)) e
 ·exact Cy (fin _ _ ⟨_,_,_,rfl⟩ st (λb o e=>hk b o (Ae _ e)) hS2) λq s' x=>x
end
end SetW
namespace DL
open PySem PySem.Spec PyProof.Rows L2
section
variable{X:Cx}{K:Frag}{F:Hp}
def _qbf(K:Frag):V->List V->Hp->VK->Prop:=λx vs H Q=>∃l b xs zs,x=.ref l/\vs=[.ref b]/\H l=some (.lst xs)/\SqE K H b zs/\xs.length+zs.length<=Aj/\Q .non (upd H l (.lst (xs++zs)))
theorem _qca:MtM X "list.extend" (_qbf X.K):=by
 intro pins s σ H x vs v us Q I rx rv h;obtain⟨l,b,xs,zs,rfl,rfl,hH,hB,hz,q⟩:=h;cases rx;obtain⟨u,rfl,ru⟩:=rv.one;cases ru;obtain⟨z,its,n,r,hl,e⟩:=I.lstM hH;obtain⟨its2,n2,r2,e2,z2⟩:=Inv.listE I hB;have hl2:=r2.length;have hsz:its.toArray.size+its2.toArray.size<=Aj:=by rw[size_toArray,size_toArray];omega
 have hlong:¬ (!its.toArray.isEmpty&&Fi (its.toArray.size+its2.toArray.size))=true:=by
  rw[notLongL hsz,Bool.and_false];exact Al
 refine call_meets F.slot_list_extend ⟨_,e,rfl⟩ F.entry_list_extend (F.args_list_extend_2 _ _)
  (AutoSeq1.list_extend_list_list_0 l its.toArray n b its2.toArray n2 hlong (by rw[size_toArray];omega) (by omega)) ⟨e,e2,?_⟩
 refine⟨.non,_,I.lset (its':=its++its2) hH e (by simp) (r.append r2) ?_,rfl,q⟩;rw[length_append];omega
theorem _qrt {i:Nat} {S:List Bool} {p:FP} {f:FE} {st:Stmt} (hp:PS X st (tDrop (tBM X.K "list" (_qbf X.K) (tP X.K i S p) (_w7 (tD X.K f) _qv2)))):DS X st [] (bExt i S p f):=by
 refine PS.imp hp λE σ H z=>?_;obtain⟨β,F,ρ,o,r,hw,h,k⟩:=z;obtain⟨q,hq,h⟩:=bind_some h;obtain⟨d,hd,h⟩:=bind_some h;obtain⟨c,hc,h⟩:=bind_some h;have hc:=some_of hc;split at h
 ·rename_i ds
  split at h
  ·rename_i hi
   obtain⟨c',hc',rfl⟩:=map_some h;obtain⟨m,m',g1,g2,g3⟩:=_Xi hc';unfold gExt at g2;split at g2
   ·rename_i os
    split at g2
    ·rename_i hlen
     cases g2;refine⟨β,F,ρ,q,c,.lst os,r,hq,hc,g1,λv0 v F1 H1 e0 s1 s2 r1 at1=>⟨?_,?_⟩⟩
     ·obtain⟨A,h1,_⟩:=r1.own
      obtain⟨v0',e0',qq⟩:=h1 i c hc;rw[e0]at e0';cases e0';obtain⟨v',Aa,Ab,a1,a2,a3⟩:=qq.focus g1
      have:=at1.uniq r1.ext.fh a1
      subst this;cases a2 with
      |lst h0 _ _ _=>exact .inl ⟨rfl,_,SqL.of h0⟩
     ·obtain⟨G,l,re,rz⟩:=r1.look S
      refine⟨G,frz S ρ,_,l.gh,re,hd,λy F2 H2 e2 q2=>?_⟩;have r2:=r1.back l e2;have at2:=at1.mono (_jc (F:=F1) (H:=H1) (F':=F2)) e2.hh;obtain⟨A1,T,q1,qn,dj,fin⟩:=at_of (r2.sh .non) hc g1 e0 (_qwk.refl _) (_qwk.refl _) at2;cases q2 with
      |lst hq2 t=>
       have t2:=l.reps e2 r1.ext.fh hi t;cases q1 with
       |lst h0 n0 rv hA=>
        rename_i b zs a vs A';refine⟨a,b,vs,zs,rfl,rfl,h0,_qv6 e2.fh hq2,by rw[rv.length,t.length];exact _zo hlen,?_⟩;refine k _ _ σ (fin a _ (λb=>b=a\/A' b) _ c' ((hA a).mpr (.inl rfl)) (λb z=>.inl ((hA b).mpr z)) (.lst _b (A':=A') n0 ?_ λ_=>Mi) g3);have o1:=rv.stay (_qwk.refl _) (H':=upd H2 a (.lst (vs++zs))) λb z=>_f (by rintro rfl;exact n0 z);exact(o1.append (_qhg t2) λ_ _ z=>z).congr λb=>⟨λz=>z.elim id A5,.inl⟩
    ·cases g2
   ·cases g2
  ·cases h
 ·cases h
end
theorem Inv.drawn{pins:List (Addr×Obj)}{σ:St}{H:Hp}{s:Shared}{d':Drawn}{X:Cx}(I:Inv X pins σ H s):Inv X pins σ H {s with drawn:=d'}:=
 ⟨I.ok,I.os,I.bare,I.base,I.loc,I.cell,I.free,I.freeC,I.pin,I.hok,I.len⟩
theorem _qam{σ:List Int}{v:Int}(h:σ.Nodup):(step_dedup σ v).Nodup:=by
 unfold step_dedup;split
 ·exact h
 ·rename_i hn
  refine Jb.mpr ⟨h,by simp,λa ha b hb=>?_⟩;have e:b=v:=by simpa using hb
  rintro rfl;exact hn (by rw[any_eq_true];exact⟨a,ha,by simp[e]⟩)
theorem _xh(val:Nat->Int):∀i,(firstMet val i).Nodup
 |0=>by rw[firstMet_zero];exact nodup_nil
 |i+1=>by rw[Lm];exact _qam (_xh val i)
theorem _Qo:∀{σ l:List Int},σ.Nodup->(∀x∈σ,x∈l)->l.length=σ.length->l.Perm σ
 | [],l,_,_,h=>by
  have:l=[]:=Ce.mp (by simpa using h)
  subst this;exact .refl _
 |x::σ,l,hn,hs,h=>by
  rw[nodup_cons]at hn;have hx:=hs x (by simp);have p:=Ky hx;refine p.trans ((_Qo hn.2 (λy hy=>?_) ?_).cons x)
  ·exact(Kz (by rintro rfl;exact hn.1 hy)).mpr (hs y (mem_cons_of_mem _ hy))
  ·have:=p.length_eq
   simp at this h⊢;omega
theorem _Qp:∀{l σ:List Int},l.Nodup->σ.Nodup->(∀x,x∈l↔x∈σ)->l.Perm σ
 |l,[],_,_,h=>by
  have:l=[]:=Gw.mpr λx hx=>absurd ((h x).mp hx) (by simp)
  subst this;exact .refl _
 |l,x::σ,hl,hn,h=>by
  rw[nodup_cons]at hn;have p:=Ky ((h x).mpr (by simp));refine p.trans ((_Qp (hl.erase x) hn.2 λy=>?_).cons x);rw[hl.mem_erase_iff,h y];constructor
  ·rintro⟨a,b⟩
   exact(An.mp b).resolve_left a
  ·intro hy
   exact⟨by rintro rfl;exact hn.1 hy,mem_cons_of_mem _ hy⟩
theorem _wr{prog:Ak}{w:World}:∀{l:List (Int×Value)},Nd (Cw prog w) l->∃ks:List Int,IntsAre (l.map (·.2)) ks/\∀k,(∃e∈l,(Cw prog w).is k e.2=true)↔k∈ks
 | [],_=>⟨[],.nil,λk=>by simp⟩
 |e::l,h=>by
  obtain⟨ks,h1,h2⟩:=_wr h.tail;obtain⟨⟨k,hk,_⟩,_⟩:=h.head;obtain⟨t,ht⟩:=Value.isInt_shape hk;refine⟨k::ks,by rw[map_cons,ht];exact .cons k t h1,λj=>?_⟩;rw[mem_cons,<-h2 j];constructor
  ·rintro⟨e',he',hj⟩
   rcases An.mp he' with rfl|he'
   ·exact .inl ((Cw prog w).inj _ _ _ hj hk)
   ·exact .inr ⟨e',he',hj⟩
  ·rintro(rfl|⟨e',he',hj⟩)
   ·exact⟨e,by simp,hk⟩
   ·exact⟨e',mem_cons_of_mem _ he',hj⟩
theorem _Ws{vs:List Value}{ns:List Int}(h:IntsAre vs ns):vs.map (λv=>match v with| .int k _=>k|_=>0)=ns:=by
 induction h with
 |nil=>rfl
 |cons n t hr ih=>rw[map_cons,ih]
theorem _zu:∀{us:List Value}{ns:List Int},IntsAre us ns->_qwi (ns.map V.int) us
 |_,_,.nil=>.nil
 |_,_,.cons n t hr=>.cons ⟨t,rfl⟩ (_zu hr)
theorem _Q5{prog:Ak}{w:World}{A:Around}{E:Value->Shared->Prop}{s:Shared}{a:Addr}{ns:List Int}(hh:A.handled=none)
  (hS:SetW._Xk prog w s.heap a (λk'=>(firstMet (λi=>ns.getD i 0) ns.length).any (· ==k')) (firstMet (λi=>ns.getD i 0) ns.length).length) (h64:(_Q ns).length<64){Q:Value->Shared->Prop}
  (h:∀(D:Addr) (out:List Value) (n:Nat) (s':Shared),IntsAre out (_Q ns)->s.heap.objs.size<=D->s'.heap.get? D=some {cls:=.type "list",data:=.seq out.toArray n}->(∀b o,s.heap.get? b=some o->s'.heap.get? b=some o)->
   (∃h' d' tk,s'={s with heap:=h',drawn:=d',toks:=tk})->Q (.ref D) s'):
  wpAny (model prog w) A (call (.builtin "sorted") [.ref a]) Q E s:=by
 obtain⟨o,es,ep,t,ho,hex,hd,hel,hmem,hb,hf,hn,ht⟩:=hS;obtain⟨ks,hI,hks⟩:=_wr hel;have hmet:∀k,k∈firstMet (λi=>ns.getD i 0) ns.length↔k∈ns:=by
  intro k;have e:=firstMet_any (λi=>ns.getD i 0) ns.length k;have e2:(Ap ns.length).map (λi=>ns.getD i 0)=ns:=by
   apply ext_getElem
   ·simp
   ·intro i h1 h2;simp at h1;simp[h1]
  rw[e2]at e
  have:=Az.mp e
  simpa[any_eq_true]using this
 have hk2:∀k,k∈ks↔k∈firstMet (λi=>ns.getD i 0) ns.length:=by
  intro k;rw[<-hks k,<-hmem k];simp[any_eq_true]
 have hlen:ks.length=(firstMet (λi=>ns.getD i 0) ns.length).length:=by
  rw[<-hI.length,length_map,length_toList,hn]
 have hkp:ks.Perm (firstMet (λi=>ns.getD i 0) ns.length):=_Qo (_xh _ _) (λx hx=>(hk2 x).mpr hx) hlen;have hkn:ks.Nodup:=hkp.symm.nodup (_xh _ _);have fin:∀ns':List Int,ns'.Perm ks->ns'.Pairwise (· <= ·)->ns'=_Q ns:=by
  intro ns' hp hs;refine _zf ?_ (_ji ns) λx=>?_
  ·have hnd:ns'.Nodup:=hp.symm.nodup hkn
   have:=List.Pairwise.and hs hnd
   exact this.imp fun⟨a,b⟩=>by omega
  ·rw[hp.mem_iff,hk2,hmet,_zd]
 have hsize:es.size=(_Q ns).length:=by
  have:(_Q ns).Perm ks:=_Qp ((_ji ns).imp λh=>Int.ne_of_lt h) hkn λx=>by rw[_zd,hk2,hmet]
  rw[this.length_eq,hlen,hn]
 refine Dr M8 Mn Mo (Mp _) ?_;unfold Builtin.«sorted»;refine Ac (m:=checkCount "sorted" 1 1 _) (Ad ?_);refine Ac (SetW._Y6 (A:=A.in1) hh ⟨o,ho,hex,hd,hf⟩ ht (by rw[hsize,Ao];omega) λorder s1 hord hk1 hsz1 hs1=>?_);obtain⟨h1,d1,tk1,rfl⟩:=hs1;have hio:∃ks',IntsAre (order.map (·.2)) ks'/\ks'.Perm ks:=by
  obtain⟨ks',g1,g2⟩:=_wr (hel.perm hord);refine⟨ks',g1,?_⟩;have e1:=_Ws g1;have e2:=_Ws hI;rw[<-e1,<-e2];exact(hord.map _).map _
 obtain⟨ks',g1,g2⟩:=hio;have hol:(order.map (·.2)).length<64:=by rw[length_map,hord.length_eq,length_toList,hsize];exact h64
 refine Ac (G2 ?_ (by rw[Ao];omega));have hoL:(h1.push (Br "list" (order.map (·.2)).toArray 0)).get? h1.objs.size=some (Br "list" (order.map (·.2)).toArray 0):=Ah _ rfl;refine Ac (Bc (A0 K0 ⟨_,hoL,rfl⟩ Kb (list_sort_tree hoL g1 hol λout ns' a1 a2 a3=>⟨_,rfl,?_⟩) (K1 _)));refine Ad ⟨_,rfl,?_⟩;obtain⟨e,he⟩:=Lo (out:=out) hoL;have hsz:s.heap.objs.size<=h1.objs.size:=le_of_lt hsz1;refine h _ out.toList e _ (by rw[<-fin ns' (a2.trans g2) a3];exact a1) hsz (by simpa[Br]using he) (λb o' hb'=>?_) ⟨_,_,_,rfl⟩;have hb1:=hk1 b o' hb';have hlt:=Af hb1;rw[K2 (ne_of_lt hlt) (by rw[Jz];exact lt_succ_of_lt hlt)];exact Ae _ hb1
theorem _Vd{X:Cx}{e:Expr}{te:TE}{p p2 p3 pos:Pos}(hc:X.calm=true) (hg1:Gl X "sorted") (hg2:Gl X "set") (hm1:X.mg "sorted"=none) (hm2:X.mg "set"=none) (he:PE X e te) (hs:Aq [e] X.env=(false,eval e X.env)::Aq [] X.env:=by rfl):
  PE X (.Call (.Name "sorted" p) [.Call (.Name "set" p2) [e] [] p3] [] pos) (λσ H Q=>te σ H λx H1=>∃(a:Addr) (ns:List Int),x=.ref a/\SqL X.K H1 a (ns.map V.int)/\ns.length<4000/\(_Q ns).length<64/\
   ∀l,H1 l=none->Q (.ref l) (upd H1 l (.lst ((_Q ns).map V.int)))):=by
 intro pins s σ H Q I h;refine Cd (_Jv I hg1 hm1 _zh ?_ (by decide) (by decide));refine callWith_builtin1 ?_ rfl rfl;show wpAny _ _ (spliced ((false,eval (.Call (.Name "set" p2) [e] [] p3) X.env)::Dg pos (Aq [] X.env))) _ _ s;refine Cp ?_;refine Cd (_Jv I hg2 hm2 _qs1 ?_ (by decide) (by decide));have ha:=(_c he _o hs) p3 pins s σ H (λxs H1=>∃(a:Addr) (ns:List Int),xs=[.ref a]/\SqL X.K H1 a (ns.map V.int)/\ns.length<4000/\(_Q ns).length<64/\
   ∀l,H1 l=none->Q (.ref l) (upd H1 l (.lst ((_Q ns).map V.int)))) I (by
  refine(?_:te σ H _);refine cast (congrArg (te σ H) (funext λx=>funext λH1=>?_)) h;simp[_qv2])
 refine Bp (thn ha λus s1 hQ=>?_) hs rfl;obtain⟨vs,H1,I1,r1,a,ns,ev,hq,hl4,h64,q⟩:=hQ;subst ev;obtain⟨u,rfl,ru⟩:=r1.one;cases ru;obtain⟨its,rv,ht,hz⟩:=I1.list hq;have ia:=_j5 rv;have hil:its.length=ns.length:=ia.length;refine SetW._Y7 (items:=its.toArray) (ns:=ns) (I1.ok.hd hc) ht.isList (by simpa using ia) (by rw[size_toArray,hil];unfold Fc;omega) λh' tk hS hk=>?_;refine Ex ?_;have hk':∀b o,s1.heap.get? b=some o->h'.get? b=some o:=λb o e=>hk b o (Af e) e;have hsz0:s1.heap.objs.size<h'.objs.size:=let⟨o,_,_,_,ho,_⟩:=hS;Af ho;rw[show its.toArray.size=ns.length by rw[size_toArray,hil]]at hS;refine _Q5 (s:={s1 with heap:=h',toks:=tk}) (I1.ok.hd hc) hS h64 λD out n s' hout hD hget hk2 hs'=>?_;obtain⟨h2,d2,tk2,rfl⟩:=hs';have hDs:s1.heap.objs.size<=D:=le_trans (le_of_lt hsz0) hD;have I2:=Inv.drawn (d':=d2) (I1.laid (h':=h2) (t':=tk2) (a:=D) (o:=.lst ((_Q ns).map V.int)) (λb u e=>hk2 b u (hk' b u e)) hDs ⟨by rw[length_map,Ao];omega,out,n,_zu hout,hget⟩);exact⟨.ref D,_,I2,rfl,q D (I1.hok.fresh hDs)⟩
theorem _V8{X:Cx}{e:Expr}{f:FE}{p p2 p3 pos:Pos}(hc:X.calm=true) (hg1:Gl X "sorted") (hg2:Gl X "set") (hm1:X.mg "sorted"=none) (hm2:X.mg "set"=none) (he:DE X e f) (hs:Aq [e] X.env=(false,eval e X.env)::Aq [] X.env:=by rfl):
  DO X (.Call (.Name "sorted" p) [.Call (.Name "set" p2) [e] [] p3] [] pos) (_qvk _Jx (_k f _qwg)):=by
 refine PE.imp (_Vd hc hg1 hg2 hm1 hm2 he hs) λσ H Q q=>?_;obtain⟨F,ρ,o,s,re,hf,kk⟩:=q;obtain⟨zs,hf2,rfl⟩:=map_some hf;obtain⟨ds,hd,hf⟩:=bind_some hf2;obtain⟨d,hd1,hd⟩:=bind_some hd;obtain⟨ds',hd2,rfl⟩:=map_some hd;cases hd2;refine⟨F,ρ,d,s,re,hd1,λv F1 H1 e1 r1=>?_⟩;unfold _Jx at hf;split at hf
 ·rename_i xs heq
  cases heq;obtain⟨ns,hns,hf⟩:=bind_some hf;split at hf
  ·rename_i hcnd
   cases hf
   have:=_x3 hns
   subst this;cases r1 with
   |lst q t=>
    have hv:=_qf t;subst hv;refine⟨_,ns,rfl,(_qv6 e1.fh q).l,hcnd.1,hcnd.2,λl hl=>kk (.ref l) F1 _ _ (e1.trans (Ext.laidH e1.fh hl)) (_Ve _b ?_) λb z=>by subst z;exact⟨e1.fh.free hl,e1.hh.free hl⟩⟩;exact _qx _
  ·cases hf
 ·cases hf
section
variable{X:Cx}{K:Frag}{F:Hp}
theorem _wz:_Qg X (.builtin "sorted") (λxs H Q=>∃(p:Addr) (ns:List Int),xs=[.ref p]/\SqL X.K H p (ns.map V.int)/\ns.length<64/\∀l,H l=none->Q (.ref l) (upd H l (.lst ((_Xl ns).map V.int)))):=by
 intro pins s σ H xs us Q I r h;obtain⟨p,ns,rfl,hq,h64,q⟩:=h;cases r with
 |cons r1 r=>
  cases r;cases r1;obtain⟨its,rv,ht,hz⟩:=I.list hq;have ia:=_j5 rv;have hil:its.length=ns.length:=ia.length;refine sorted_ints ht.isList ia (by rw[hil];exact h64) λout ns' a1 a2 a3=>?_;obtain⟨e,he⟩:=sortedAll_at s.heap its out;have e':=_ql0 a2 a3;subst e';have hlen:(_Xl ns).length=ns.length:=(_vd ns).length_eq;exact⟨.ref _,_,I.laid (t':=s.toks) (o:=.lst ((_Xl ns).map V.int)) (λb u e=>sortedAll_old e) (le_succ _) ⟨by rw[length_map,hlen,Ao];omega,out.toList,e,_zu a1,by simpa[Br]using he⟩,rfl,q _ (I.hok.fresh (le_succ _))⟩
theorem _wx:CallO K (λxs H Q=>∃(p:Addr) (ns:List Int),xs=[.ref p]/\SqL K H p (ns.map V.int)/\ns.length<64/\∀l,H l=none->Q (.ref l) (upd H l (.lst ((_Xl ns).map V.int)))) _qlu:=by
 intro ds es F H vs Q h s r k;unfold _qlu at h;split at h
 ·obtain⟨ns,hns,h⟩:=bind_some h
  split at h
  ·rename_i h64
   cases h
   have:=_x3 hns
   subst this;cases r with
   |cons r r'=>
    cases r';cases r with
    |lst q t=>
     have hv:=_qf t;subst hv;exact⟨_,ns,rfl,(_qv6 s q).l,h64,λl hl=>k l _ F _ (Ext.laidH s hl) _b (s.free hl) hl (_qx _)⟩
  ·cases h
 ·cases h
end
section
variable{X:Cx}{K:Frag}{F:Hp}
end
section
variable{prog:Ak}{w:World}{A:Around}{E:Value->Shared->Prop}{s:Shared}
end
section
variable{X:Cx}{K:Frag}{F:Hp}
end
section
variable{X:Cx}{K:Frag}{F:Hp}
end
end DL
namespace DL
open PySem
end DL
namespace DL
open PySem PySem.Spec PyProof.Rows L2
variable{X:Cx}
end DL
namespace DL
open PySem
def lexP(p q:Int×Int):Bool:=if p.1=q.1 then decide (p.2<q.2)else decide (p.1<q.1)
theorem _Ju{p q:Int×Int}:lexP p q=true↔p.1<q.1\/p.1=q.1/\p.2<q.2:=by
 unfold lexP;split<;>simp<;>omega
def insP(x:Int×Int):List (Int×Int)->List (Int×Int)
 | []=>[x]
 |y::ys=>if lexP x y=true then x::y::ys else y::insP x ys
def _k8(ps:List (Int×Int)):List (Int×Int):=ps.foldr insP []
theorem _Jk(x:Int×Int):∀l:List (Int×Int),(insP x l).Perm (x::l)
 | []=>.refl _
 |y::ys=>by
  unfold insP;split
  ·exact .refl _
  ·exact((_Jk x ys).cons y).trans (List.Perm.swap _ _ _)
theorem _j2:∀ps:List (Int×Int),(_k8 ps).Perm ps
 | []=>.refl _
 |n::ns=>(_Jk n _).trans ((_j2 ns).cons n)
theorem _Xr(x:Int×Int):∀l:List (Int×Int),l.Pairwise (λa b=>lexP a b=true)->x∉l->(insP x l).Pairwise (λa b=>lexP a b=true)
 | [],_,_=>by simp[insP]
 |y::ys,h,hn=>by
  rw[pairwise_cons]at h;unfold insP;split
  ·rename_i hx
   rw[pairwise_cons];refine⟨λz hz=>?_,Fs.mpr h⟩;rcases An.mp hz with rfl|hz
   ·exact hx
   ·have h2:=h.1 z hz
    rw[_Ju]at*;omega
  ·rename_i hx
   rw[pairwise_cons];refine⟨λz hz=>?_,_Xr x ys h.2 (λm=>hn (by simp[m]))⟩;rcases An.mp ((_Jk x ys).mem_iff.mp hz)with rfl|hz
   ·have hne:z≠y:=λe=>hn (by simp[e])
    rw[_Ju]at*
    have:¬ (z.1=y.1/\z.2=y.2):=λe=>hne (Prod.ext e.1 e.2)
    omega
   ·exact h.1 z hz
theorem _v2:∀ps:List (Int×Int),ps.Nodup->(_k8 ps).Pairwise (λa b=>lexP a b=true)
 | [],_=>.nil
 |n::ns,h=>by
  rw[nodup_cons]at h;exact _Xr n _ (_v2 ns h.2) λm=>h.1 ((_j2 ns).mem_iff.mp m)
theorem _qkz{ps ps':List (Int×Int)}(hn:ps.Nodup) (hp:ps'.Perm ps) (hs:ps'.Pairwise (λa b=>lexP a b=true)):ps'=_k8 ps:=
 Ji (λa b _ _ h1 h2=>by rw[_Ju]at h1 h2;omega) hs (_v2 ps hn) (hp.trans (_j2 ps).symm)
def _qf6(p:Int×Int):D:=.tup [.int p.1,.int p.2]
def _Jw:List D->Option (List D)
 | [.lst xs,.lst ys]=>(_qa3 xs).bind λns=>(_qa3 ys).bind λms=>if ns.length=ms.length/\1<=ns.length/\ns.length<64/\(ns.zip ms).Nodup then some ((_k8 (ns.zip ms)).map _qf6)else none
 |_=>none
end DL
namespace DL
open PySem PySem.Spec PyProof.Rows L2
variable{X:Cx}{tg:Expr}
variable{X:Cx}
section
variable{K:Frag}{β:Bs}{F H:Hp}{σ:St}{ρ:Cs}
end
section
variable{X:Cx}{pos:Pos}{W2:List Nat}
end
end DL
set_option maxHeartbeats 2000000
namespace DL
open PySem PySem.Spec PyProof.Rows L2
section
variable{X:Cx}{elt target iter:Expr}{ifs:List Expr}{scope:Scope}{pos:Pos}{cl:List (Str×Addr)}{kx:Str}{N':List Str}{js:List (Option Nat)}
structure CompOk2(X:Cx) (scope:Scope) (kx:Str) (cl:List (Str×Addr)) (N':List Str) (js:List (Option Nat)):Prop where
 calm:X.calm=true
 clo:clo X.env scope.names []=some cl
 free:_z6 X scope cl js N'
 cf:∀(n:Nat) (acc:List (Str×Addr)),Mx n scope.names acc=(kx,n)::acc
 pc:∀h:Heap,pushCells h scope.names=h.push {cls:=.type "cell",data:=.cell none}
 kN:∀p∈js.zip N',p.1=none\/p.2≠kx
 cell:∀y∈scope.names,y.2=.cell->y.1=kx
 kind:scope.kind=.function
 names:∀x∈scope.names,x.2=.local->scope.names.lookup x.1=some .local
theorem CompOk2.hcl(k:CompOk2 X scope kx cl N' js):∀x c,cl.lookup x=some c->X.env.cells.lookup x=some c:=λx c h=>by
 rcases _W4 k.clo x c (_q9 h)with z|z
 ·simp at z
 ·exact z
theorem CompOk2.hhas(k:CompOk2 X scope kx cl N' js):∀x,((C3 scope X.env).names.lookup x=some .cell\/(C3 scope X.env).names.lookup x=some .free)->x=kx\/ ∃c,cl.lookup x=some c:=λx h=>by
 have h':∃k,(x,k)∈(C3 scope X.env).names/\(k=.cell\/k=.free):=by
  rcases h with h|h
  ·exact⟨_,_q9 h,.inl rfl⟩
  ·exact⟨_,_q9 h,.inr rfl⟩
 obtain⟨kk,hk,hkk⟩:=h';unfold C3 at hk;obtain⟨⟨n,k'⟩,hm,he⟩:=Ag.mp hk;dsimp only at he;have fin:(x,NameKind.free)∈scope.names->x=kx\/ ∃c,cl.lookup x=some c:=λz=>by
  obtain⟨c,hc⟩:=(_W5 k.clo).2 x z;exact .inr (_wo hc)
 split at he
 ·rename_i hc
  cases he;simp only[Df,beq_iff_eq]at hc;rw[hc.1.1]at hm;exact fin hm
 ·cases he
  rcases hkk with rfl|rfl
  ·exact .inl (k.cell _ hm rfl)
  ·exact fin hm
end
section
variable{env:Env}{es:List Expr}{p:Pos}
end
section
variable{X:Cx}{a:Expr}{es:List Expr}{pos:Pos}{x1:Nat}{f:FE}{g:FA}{o:FO}{u:FAO}
end
section
variable{X:Cx}{a e:Expr}{pos pos':Pos}{o:FO}
end
section
variable{P:Ak}{w:World}{K:Frag}{mg:Str->Option Value}{base:Heap}
end
end DL
set_option maxHeartbeats 1000000
namespace SortW
open PySem PySem.W PyProof.Rows
def _qv8{α:Type}(lt:Nat->Nat->Bool):KasT α->α
 | .ret a=>a
 | .ask i j k=>_qv8 lt (k (lt i j))
theorem _x9{α β:Type}(lt:Nat->Nat->Bool):∀(t:KasT α) (f:α->KasT β),_qv8 lt (t.bind f)=_qv8 lt (f (_qv8 lt t))
 | .ret a,f=>by simp[M0,_qv8]
 | .ask i j k,f=>by
  rw[M0];show _qv8 lt ((k (lt i j)).bind f)=_;rw[_x9 lt (k (lt i j)) f];rfl
def at0(p:Array Nat) (i:Nat):Nat:=p.getD i 0
theorem _w4(p:Array Nat) (i:Nat):at0 p i=(p[i]?).getD 0:=by simp[at0]
structure Ord(n:Nat) (lt:Nat->Nat->Bool):Prop where
 trans:∀a b c,lt a b=true->lt b c=true->lt a c=true
 asym:∀a b,lt a b=true->lt b a=false
 total:∀a b,a<n->b<n->a≠b->lt a b=false->lt b a=true
def SP(lt:Nat->Nat->Bool) (p:Array Nat) (k:Nat):Prop:=∀i j,i<j->j<k->lt (at0 p i) (at0 p j)=true
section
variable{n:Nat}{lt:Nat->Nat->Bool}(O:Ord n lt)
def PA(n:Nat) (p:Array Nat):Prop:=p.Perm (Ap n).toArray
theorem PA.size{p:Array Nat}(h:PA n p):p.size=n:=by
 have:=h.size_eq
 simpa using this
theorem PA.bd{p:Array Nat}(h:PA n p){i:Nat}(hi:i<n):at0 p i<n:=by
 have hs:i<p.size:=by rw[h.size];exact hi
 have:p[i]∈(Ap n).toArray:=(Array.Perm.mem_iff h).mp (Array.getElem_mem hs)
 have e:at0 p i=p[i]:=by simp[at0,hs]
 rw[e];simpa using this
theorem PA.ne{p:Array Nat}(h:PA n p){i j:Nat}(hi:i<n) (hj:j<n) (hij:i≠j):at0 p i≠at0 p j:=by
 have hl:p.toList.Perm (Ap n):=by simpa using h.toList
 have hn:p.toList.Nodup:=hl.nodup_iff.mpr Jn;have hsi:i<p.toList.length:=by rw[length_toList,h.size];exact hi
 have hsj:j<p.toList.length:=by rw[length_toList,h.size];exact hj
 have ei:at0 p i=p.toList[i]:=by simp[at0,show i<p.size by simpa using hsi]
 have ej:at0 p j=p.toList[j]:=by simp[at0,show j<p.size by simpa using hsj]
 rw[ei,ej];exact λe=>hij ((getElem_inj hn).mp e)
include O
theorem flip{p:Array Nat}(h:PA n p){i j:Nat}(hi:i<n) (hj:j<n) (hij:i≠j) (hf:lt (at0 p i) (at0 p j)=false):lt (at0 p j) (at0 p i)=true:=O.total _ _ (h.bd hi) (h.bd hj) (h.ne hi hj hij) hf
theorem SP.succ{p:Array Nat}{k:Nat}(hs:SP lt p k) (h1:1<=k) (hl:lt (at0 p (k-1)) (at0 p k)=true):SP lt p (k+1):=by
 intro i j hij hj
 by_cases e:j=k
 ·subst e
  by_cases e2:i=j-1
  ·subst e2;exact hl
  ·exact O.trans _ _ _ (hs i (j-1) (by omega) (by omega)) hl
 ·exact hs i j hij (by omega)
theorem _qln{p:Array Nat}(h:PA n p):∀(f x:Nat),1<=x->x+f<=n->SP lt p x->x<=_qv8 lt (Dz p f x)/\_qv8 lt (Dz p f x)<=x+f/\SP lt p (_qv8 lt (Dz p f x))/\(_qv8 lt (Dz p f x)<x+f->lt (at0 p (_qv8 lt (Dz p f x))) (at0 p (_qv8 lt (Dz p f x)-1))=true)
 |0,x,h1,h2,hs=>by
  rw[Dz];exact⟨le_refl _,le_refl _,hs,λz=>by simp[_qv8]at z⟩
 |f+1,x,h1,h2,hs=>by
  rw[Dz];show _<=_qv8 lt (if lt (at0 p x) (at0 p (x-1))=true then KasT.ret x else Dz p f (x+1))/\_qv8 lt (if lt (at0 p x) (at0 p (x-1))=true then KasT.ret x else Dz p f (x+1))<=_/\SP lt p (_qv8 lt (if lt (at0 p x) (at0 p (x-1))=true then KasT.ret x else Dz p f (x+1)))/\(_qv8 lt (if lt (at0 p x) (at0 p (x-1))=true then KasT.ret x else Dz p f (x+1))<_->lt (at0 p (_qv8 lt (if lt (at0 p x) (at0 p (x-1))=true then KasT.ret x else Dz p f (x+1)))) (at0 p (_qv8 lt (if lt (at0 p x) (at0 p (x-1))=true then KasT.ret x else Dz p f (x+1))-1))=true);cases hc:lt (at0 p x) (at0 p (x-1))with
  |true=>
   simp only[if_true,_qv8];exact⟨le_refl _,by omega,hs,λ_=>hc⟩
  |false=>
   simp only[Aw,if_false];have hl:=flip O h (i:=x) (j:=x-1) (by omega) (by omega) (by omega) hc;obtain⟨a,b,c,d⟩:=_qln h f (x+1) (by omega) (by omega) (SP.succ O hs h1 hl);exact⟨by omega,by omega,c,λz=>d (by omega)⟩
def DP(lt:Nat->Nat->Bool) (p:Array Nat) (k:Nat):Prop:=∀i j,i<j->j<k->lt (at0 p j) (at0 p i)=true
theorem _qhy{p:Array Nat}(h:PA n p):∀(f k:Nat),1<=k->k+f<=n->DP lt p k->∃m,_qv8 lt (G7 f p k 0)=(p,m,0)/\k<=m/\m<=k+f/\DP lt p m
 |0,k,h1,h2,hd=>⟨k,by rw[G7];rfl,le_refl _,le_refl _,hd⟩
 | f + 1,k,h1,h2,hd=>by
  rw[G7];show∃m,_qv8 lt (if lt (at0 p k) (at0 p (k-1))=true then if 0>0 then _ else G7 f p (k+1) 0 else KasT.ask (at0 p (k-1)) (at0 p k) λd=>if d=true then KasT.ret (p,k,0)else G7 f p (k+1) (0+1))=_/\_;cases hc:lt (at0 p k) (at0 p (k-1))with
  |true=>
   simp only[if_true,lt_irrefl,gt_iff_lt,if_false];have hd':DP lt p (k+1):=by
    intro i j hij hj
    by_cases e:j=k
    ·subst e
     by_cases e2:i=j-1
     ·subst e2;exact hc
     ·exact O.trans _ _ _ hc (hd i (j-1) (by omega) (by omega))
    ·exact hd i j hij (by omega)
   obtain⟨m,m1,m2,m3,m4⟩:=_qhy h f (k+1) (by omega) (by omega) hd';exact⟨m,m1,by omega,by omega,m4⟩
  |false=>
   simp only[Aw,if_false];have hl:=flip O h (i:=k) (j:=k-1) (by omega) (by omega) (by omega) hc;refine⟨k,?_,le_refl _,by omega,hd⟩;show _qv8 lt (if lt (at0 p (k-1)) (at0 p k)=true then KasT.ret (p,k,0)else G7 f p (k+1) (0+1))=_;rw[hl];rfl
omit O in
theorem _qmo{p:Array Nat}{m:Nat}(hm:m<=p.size) (k:Nat):at0 (Nf p 0 m) k=if k<m then at0 p (m-1-k)else at0 p k:=by
 rw[_w4,_w4,_w4];unfold Nf;rw[getElem?_mirror_all hm];simp only[zero_le,true_and,Nat.zero_add];split<;>rfl
theorem _qm8{p:Array Nat}(h:PA n p){m:Nat}(h1:1<=m) (hm:m<=n) (hd:DP lt p m):∃c q,_qv8 lt (M3 m n p)=(c,q)/\PA n q/\1<=c/\c<=n/\SP lt q c:=by
 have hq:PA n (Nf p 0 m):=(mirror_perm _ _ _ _).trans h;have hs:SP lt (Nf p 0 m) m:=by
  intro i j hij hj;have hz:m<=p.size:=by rw[h.size];exact hm
  rw[_qmo hz,_qmo hz,if_pos (by omega),if_pos hj];exact hd _ _ (by omega) (by omega)
 obtain⟨a,b,c,_⟩:=_qln O hq (n-m) m h1 (by omega) hs;refine⟨_,_,?_,hq,?_,?_,c⟩
 ·unfold M3
  rw[_x9];rfl
 ·omega
 ·omega
theorem _qlb{p:Array Nat}(h:PA n p) (h1:1<=n):∃c q,_qv8 lt (M4 n p)=(c,q)/\PA n q/\1<=c/\c<=n/\SP lt q c:=by
 have hs1:SP lt p 1:=λi j hij hj=>by omega
 obtain⟨a,b,c,d⟩:=_qln O h (n-1) 1 (le_refl _) (by omega) hs1;unfold M4;rw[_x9];generalize _qv8 lt (Dz p (n-1) 1)=m at*
 by_cases e:m=n
 ·rw[if_pos (by simpa using e)]
  exact⟨m,p,rfl,h,a,by omega,c⟩
 ·rw[if_neg (by simpa using e)]
  by_cases e2:m>1
  ·rw[if_pos e2]
   have hl:=c 0 (m-1) (by omega) (by omega);refine⟨m,p,?_,h,a,by omega,c⟩;show _qv8 lt (if lt (at0 p 0) (at0 p (m-1))=true then _ else _)=_;rw[hl];rfl
  ·rw[if_neg e2]
   have em:m=1:=by omega
   subst em;have hl:=d (by omega);have hd:DP lt p 2:=λi j hij hj=>by
    have:i=0/\j=1:=by omega
    obtain⟨rfl,rfl⟩:=this;exact hl
   obtain⟨m,m1,m2,m3,m4⟩:=_qhy O h (n- (1+1)) (1+1) (by omega) (by omega) hd;unfold Mq;rw[_x9,m1];simp only[gt_iff_lt,lt_irrefl,if_false];exact _qm8 O h (by omega) (by omega) m4
theorem _Z9{p:Array Nat}(h:PA n p){k:Nat}(hk:k<n) (hs:SP lt p k):∀(f lo hi:Nat),lo<=hi->hi<=k->hi-lo<=f->(∀i,i<lo->lt (at0 p i) (at0 p k)=true)->(∀i,hi<=i->i<k->lt (at0 p k) (at0 p i)=true)->
  _qv8 lt (Fy p k f lo hi)<=k/\(∀i,i<_qv8 lt (Fy p k f lo hi)->lt (at0 p i) (at0 p k)=true)/\(∀i,_qv8 lt (Fy p k f lo hi)<=i->i<k->lt (at0 p k) (at0 p i)=true)
 |0,lo,hi,h1,h2,h3,ha,hb=>by
  rw[Fy]
  have:lo=hi:=by omega
  subst this;exact⟨h2,ha,hb⟩
 |f+1,lo,hi,h1,h2,h3,ha,hb=>by
  rw[Fy]
  by_cases e:lo≥hi
  ·rw[if_pos e]
   have:lo=hi:=by omega
   subst this;exact⟨h2,ha,hb⟩
  ·rw[if_neg e]
   have hmid:(lo+hi)/2<hi/\lo<=(lo+hi)/2:=by omega
   show _qv8 lt (if lt (at0 p k) (at0 p ((lo+hi)/2))=true then _ else _)<=_/\_;simp only[_qv8];have eqd:lt (p.getD k 0) (p.getD ((lo+hi)/2) 0)=lt (at0 p k) (at0 p ((lo+hi)/2)):=rfl;rw[eqd];cases hc:lt (at0 p k) (at0 p ((lo+hi)/2))with
   |true=>
    simp only[if_true];refine _Z9 h hk hs f lo ((lo+hi)/2) hmid.2 (by omega) (by omega) ha λi hi1 hi2=>?_
    by_cases e2:i=(lo+hi)/2
    ·subst e2;exact hc
    ·exact O.trans _ _ _ hc (hs _ _ (by omega) hi2)
   |false=>
    simp only[Aw,if_false];have hl:=flip O h (i:=k) (j:=(lo+hi)/2) hk (by omega) (by omega) hc;refine _Z9 h hk hs f ((lo+hi)/2+1) hi (by omega) h2 (by omega) (λi hi1=>?_) hb
    by_cases e2:i=(lo+hi)/2
    ·subst e2;exact hl
    ·exact O.trans _ _ _ (hs i ((lo+hi)/2) (by omega) (by omega)) hl
theorem _qp6:∀(f:Nat) (p:Array Nat) (x:Nat),PA n p->x+f=n->SP lt p x->PA n (_qv8 lt (La f p x))/\SP lt (_qv8 lt (La f p x)) n
 |0,p,x,h,hx,hs=>by
  rw[La]
  have:x=n:=by omega
  subst this;exact⟨h,hs⟩
 | f + 1,p,x,h,hx,hs=>by
  rw[La,_x9];obtain⟨l1,l2,l3⟩:=_Z9 O h (k:=x) (by omega) hs x 0 x (by omega) (le_refl _) (by omega) (λi hi=>by omega) (λi h1 h2=>by omega);generalize _qv8 lt (Fy p x x 0 x)=l at*;have hsz:x<p.size:=by rw[h.size];omega
  have hat:∀k,at0 (bubble p x (x-l)) k=if k=l then at0 p x else if l<k/\k<=x then at0 p (k-1)else at0 p k:=by
   intro k;rw[_w4,_w4,_w4,_w4,getElem?_bubble hsz (x-l) (by omega),show x- (x-l)=l by omega];split
   ·rfl
   ·split<;>rfl
  refine _qp6 f (bubble p x (x-l)) (x+1) ((bubble_perm _ _ _).trans h) (by omega) λi j hij hj=>?_;rw[hat,hat]
  by_cases ei:i=l
  ·rw[if_pos ei,if_neg (by omega),if_pos (by omega)]
   exact l3 _ (by omega) (by omega)
  ·rw [if_neg ei]
   by_cases ej:j=l
   ·rw[if_pos ej,if_neg (by omega)]
    exact l2 i (by omega)
   ·rw[if_neg ej]
    by_cases ci:l<i/\i<=x
    ·rw[if_pos ci,if_pos (by omega)]
     exact hs _ _ (by omega) (by omega)
    ·rw[if_neg ci]
     by_cases cj:l<j/\j<=x
     ·rw[if_pos cj]
      exact hs _ _ (by omega) (by omega)
     ·rw[if_neg cj]
      exact hs _ _ hij (by omega)
theorem _qh3(h1:1<=n):PA n (_qv8 lt (Ih n))/\SP lt (_qv8 lt (Ih n)) n:=by
 have h0:PA n (Ap n).toArray:=Array.Perm.refl _;obtain⟨c,q,e,hq,c1,c2,hs⟩:=_qlb O h0 h1;unfold Ih;rw[_x9,e];dsimp only
 by_cases hc:c<n
 ·rw[if_pos hc,show max c 1=c by omega]
  exact _qp6 O (n-c) q c hq (by omega) hs
 ·rw[if_neg hc]
  have:c=n:=by omega
  subst this;exact⟨hq,hs⟩
end
section
variable{prog:Ak}{w:World}{A:Around}{E:Value->Shared->Prop}{s:Shared}
theorem _ko{a:Addr}{vs:List Value}{n:Nat}{P:M5->Shared->Prop}(ho:s.heap.get? a=some (Br "list" vs.toArray n)) (h64:vs.length<64) (h2:2<=vs.length)
  (h:wpAny (model prog w) A (keyKind' vs.toArray) (λκ s'=>L5 (kas_ask prog w A κ vs) (Ih vs.length) (λp s''=>s''=s'/\s'={s with heap:=((s.heap.update a (Bi λ_=>#[])).push (Br "tuple" vs.toArray 0)).push (Br "list" #[] 0) }/\P (.done (.ret .none)) {s with heap:=J0 s.heap a vs ((p.toList.map λi=>vs.getD i .none).toArray) }) s') (λ_ _=>False) {s with heap:=((s.heap.update a (Bi λ_=>#[])).push (Br "tuple" vs.toArray 0)).push (Br "list" #[] 0) }):
  wpAny (model prog w) A (Builtin.«list.sort» {pos:=[Value.ref a] }) P E s:=by
 rw[list_sort_plain a];have ha:=Af ho;refine Ac (Mr ho rfl (Ac (G3 ho rfl ?_)));obtain⟨e1,ho1⟩:∃e1,(s.heap.update a (Bi λ_=>#[])).get? a=some (Br "list" #[] e1):=⟨_,Kc ho λ_=>#[]⟩;refine Ac (K3 ho1 rfl (Ac (Gg (Ac (G2 (Bc ?_))))));have ho6:(((s.heap.update a (Bi λ_=>#[])).push (Br "tuple" vs.toArray 0)).push (Br "list" #[] 0)).get? a=some (Br "list" #[] e1):=by
  rw[E2 _ _ _ (by rw[Jz,Cr];exact ne_of_lt (lt_succ_of_lt ha)),E2 _ _ _ (by rw[Cr];exact ne_of_lt ha)];exact ho1
 have hsz:¬vs.toArray.size<2:=by simp;omega
 refine(?_:wpAny (model prog w) A (if vs.toArray.size<2 then _ else _) P E {s with heap:=((s.heap.update a (Bi λ_=>#[])).push (Br "tuple" vs.toArray 0)).push (Br "list" #[] 0) });rw[if_neg hsz];refine Ac (Bk h (λκ s' hk=>?_) (λ_ _ z=>z.elim));rw[if_neg hsz];refine Ac (Bk (kat_run (ks:=vs) (vs:=vs) (E:=E) (Q:=λst' s''=>∃p:Array Nat,p.size=vs.length/\arrOf st'=Lb (kas_item (vs.toArray.zip vs.toArray)) p/\failedOf st'=none/\_) rfl h2 h64 (λp st' s'' hp harr hfail hG=>⟨p,hp,harr,hfail,hG⟩) hk) (λr s'' hQ=>?_) (λ_ _ z=>z));obtain⟨p,hps,harr,hfail,rfl,rfl,hP⟩:=hQ;have hs:=kat_snds (vs:=vs) (ks:=vs) rfl harr;obtain⟨u,st'⟩:=r;dsimp only at hs harr hfail⊢;refine Ac (K3 ho6 rfl ?_);have hz1:(Lb (λx=>x.snd) (arrOf st')).size<=Aj+1:=by rw[hs];simp[hps,Ao];omega
 refine Ac (G3 ho6 rfl ?_ (by simp) hz1);simp only[hfail,bne_self_eq_false,Aw,if_false];refine Ad ?_;rw[hs];exact hP
end
def inR{α:Type}(n:Nat) (G:α->Prop):KasT α->Prop
 | .ret a=>G a
 | .ask i j k=>i<n/\j<n/\∀b,inR n G (k b)
theorem _v8{α β:Type}{n:Nat}{G:α->Prop}{G':β->Prop}:∀(t:KasT α) (f:α->KasT β),inR n G t->(∀a,G a->inR n G' (f a))->inR n G' (t.bind f)
 | .ret a,f,h,k=>by rw[M0];exact k a h
 | .ask i j g,f,h,k=>by
  rw[M0];exact⟨h.1,h.2.1,λb=>_v8 (g b) f (h.2.2 b) k⟩
theorem PA.all{n:Nat}{p:Array Nat}(h:PA n p) (hn:1<=n) (i:Nat):p.getD i 0<n:=by
 by_cases hi:i<n
 ·exact h.bd hi
 ·have:p.getD i 0=0:=by
   have hs:=h.size;simp[Array.getD,show¬i<p.size by omega]
  rw[this];omega
section
variable{n:Nat}(hn:1<=n)
include hn
theorem _qlo{p:Array Nat}(h:PA n p):∀(f x:Nat),inR n (λ_=>True) (Dz p f x)
 |0,x=>by rw[Dz];trivial
 |f+1,x=>by
  rw[Dz];refine⟨h.all hn _,h.all hn _,λb=>?_⟩;cases b
  ·simpa using _qlo h f (x+1)
  ·trivial
theorem _qbb{p:Array Nat}(h:PA n p) (i j:Nat):PA n (Nf p i j):=(mirror_perm _ _ _ _).trans h
theorem _W1:∀(f:Nat) (p:Array Nat) (k e:Nat),PA n p->inR n (λr=>PA n r.1) (G7 f p k e)
 |0,p,k,e,h=>by rw[G7];exact h
 |f+1,p,k,e,h=>by
  rw[G7];refine⟨h.all hn _,h.all hn _,λb=>?_⟩;cases b
  ·refine⟨h.all hn _,h.all hn _,λd=>?_⟩
   cases d
   ·simpa using _W1 f p (k+1) (e+1) h
   ·exact h
  ·by_cases c:e>0
   ·simp only[if_true,if_pos c]
    exact _W1 f _ _ _ (_qbb hn h _ _)
   ·simp only[if_true,if_neg c]
    exact _W1 f _ _ _ h
theorem _qgw{p:Array Nat}(h:PA n p) (m nrem:Nat):inR n (λr=>PA n r.2) (M3 m nrem p):=by
 unfold M3;exact _v8 _ _ (_qlo hn (_qbb hn h _ _) _ _) λa _=>_qbb hn h _ _
theorem _Qz{p:Array Nat}(h:PA n p) (m nrem:Nat):inR n (λr=>PA n r.2) (Mq m nrem p):=by
 unfold Mq;refine _v8 _ _ (_W1 hn _ _ _ _ h) λr hr=>?_;split
 ·exact _qgw hn (_qbb hn hr _ _) _ _
 ·exact _qgw hn hr _ _
theorem _qlc{p:Array Nat}(h:PA n p) (nrem:Nat):inR n (λr=>PA n r.2) (M4 nrem p):=by
 unfold M4;refine _v8 _ _ (_qlo hn h _ _) λm _=>?_;split
 ·exact h
 ·split
  ·refine⟨h.all hn _,h.all hn _,λb=>?_⟩
   cases b
   ·simpa using _Qz hn (_qbb hn h _ _) _ _
   ·exact h
  ·exact _Qz hn h _ _
theorem _Va{p:Array Nat}(h:PA n p) (k:Nat):∀(f lo hi:Nat),inR n (λ_=>True) (Fy p k f lo hi)
 |0,lo,hi=>by rw[Fy];trivial
 |f+1,lo,hi=>by
  rw[Fy];split
  ·trivial
  ·refine⟨h.all hn _,h.all hn _,λb=>?_⟩
   cases b
   ·simpa using _Va h k f ((lo+hi)/2+1) hi
   ·simpa using _Va h k f lo ((lo+hi)/2)
theorem _qp7:∀(f:Nat) (p:Array Nat) (x:Nat),PA n p->inR n (λr=>PA n r) (La f p x)
 |0,p,x,h=>by rw[La];exact h
 |f+1,p,x,h=>by
  rw[La];exact _v8 _ _ (_Va hn h _ _ _ _) λl _=>_qp7 f _ _ ((bubble_perm _ _ _).trans h)
theorem _qh4:inR n (λr=>PA n r) (Ih n):=by
 have h0:PA n (Ap n).toArray:=Array.Perm.refl _;unfold Ih;refine _v8 _ _ (_qlc hn h0 _) λr hr=>?_;split
 ·exact _qp7 hn _ _ _ hr
 ·exact hr
end
theorem _Vw{α:Type}{n:Nat}{lt:Nat->Nat->Bool}{cmp:Nat->Nat->(Bool->Shared->Prop)->Shared->Prop}{s:Shared}(hc:∀i j C,i<n->j<n->C (lt i j) s->cmp i j C s){G':α->Prop}{G:α->Shared->Prop}:∀(t:KasT α),inR n G' t->G (_qv8 lt t) s->L5 cmp t G s
 | .ret a,_,h=>by rw[L5];exact h
 | .ask i j k,hi,h=>by
  rw[L5];exact hc i j _ hi.1 hi.2.1 (_Vw hc (k (lt i j)) (hi.2.2 _) h)
def lexB(p q:Int×Int):Bool:=if p.1=q.1 then decide (p.2<q.2)else decide (p.1<q.1)
section
variable{prog:Ak}{w:World}{A:Around}{E:Value->Shared->Prop}{s:Shared}
theorem _qn6{x y:Addr}{ox oy:Obj}{n k:Nat}{a b c d:Int}{t1 t2 t3 t4:Tok}{C:Bool->Shared->Prop}(hx:s.heap.get? x=some ox) (dx:ox.data=.seq #[.int a t1,.int b t2] n) (hy:s.heap.get? y=some oy) (dy:oy.data=.seq #[.int c t3,.int d t4] k) (h:C (lexB (a,b) (c,d)) s):
  wpAny (model prog w) A (keyLt' (tuples' true) (.ref x) (.ref y)) C E s:=by
 refine kat_lt hx dx hy dy ?_;show KatLex prog w A true _ C [(Value.int a t1,Value.int c t3),(Value.int b t2,Value.int d t4)] 0 s;rw[KatLex];refine E9 ?_;unfold lexB at h
 by_cases e1:a=c
 ·rw[if_pos (by simpa using e1),KatLex]
  simp only[e1,if_true]at h;refine E9 ?_
  by_cases e2:b=d
  ·rw[if_pos (by simpa using e2),KatLex]
   subst e2;simpa using h
  ·rw[if_neg (by simpa using e2)]
   refine kat_one _ _ ?_;exact Hl h
 ·rw[if_neg (by simpa using e1)]
  simp only[e1,if_false]at h;exact oneLt_int h
def _qa1(h:Heap) (v:Value) (p:Int×Int):Prop:=∃(x:Addr) (o:Obj) (n:Nat) (t1 t2:Tok),v=.ref x/\h.get? x=some o/\o.cls=.type "tuple"/\o.data=.seq #[.int p.1 t1,.int p.2 t2] n
theorem _qke{n:Nat}{key:Nat->Int×Int}(hinj:∀i j,i<n->j<n->key i=key j->i=j):Ord n λi j=>lexB (key i) (key j) where
 trans:=by
  intro a b c h1 h2;unfold lexB at*;generalize key a=x at*;generalize key b=y at*;generalize key c=z at*;split at h1<;>split at h2<;>split<;>simp at* <;>omega
 asym:=by
  intro a b h1;unfold lexB at*;generalize key a=x at*;generalize key b=y at*;split at h1<;>split<;>simp at* <;>omega
 total:=by
  intro a b ha hb hab h1;have hne:key a≠key b:=λe=>hab (hinj a b ha hb e);unfold lexB at*;generalize key a=x at*;generalize key b=y at*;obtain⟨x1,x2⟩:=x;obtain⟨y1,y2⟩:=y;simp at hne;split at h1<;>split<;>simp at* <;>omega
theorem _qgn{vs:List Value}{ps:List (Int×Int)}(hl:ps.length=vs.length) (hp:∀i,i<vs.length->_qa1 s.heap (vs.getD i .none) (ps.getD i (0,0))) (i j:Nat) (C:Bool->Shared->Prop) (hi:i<vs.length) (hj:j<vs.length) (h:C (lexB (ps.getD i (0,0)) (ps.getD j (0,0))) s):kas_ask prog w A (tuples' true) vs i j C s:=by
 unfold kas_ask;obtain⟨x,ox,n,t1,t2,e1,e2,_,e3⟩:=hp i hi;obtain⟨y,oy,m,t3,t4,f1,f2,_,f3⟩:=hp j hj;rw[e1,f1];exact _qn6 e2 e3 f2 f3 h
end
section
variable{prog:Ak}{w:World}{A:Around}{E:Value->Shared->Prop}{s:Shared}
def _qwh(h:Heap) (z TI TO:Addr) (T:Nat) (b:Bool):Prop:=h.get? z=some {cls:=.type "zip",data:=.fields #[Cc (T:Int),.bool b,.bool false,.ref TI,.ref TO] }
theorem _qib{M:Model}{a:Addr}{Q:Option Obj->Shared->Prop}(h:Q (s.heap.get? a) s):wpAny M A (M9 a) Q E s:=λΓ p i=>by
 unfold M9;rw[Sem.wp_loadIfAlive];exact(Ad (M:=M) (A:=A) (E:=E) h) Γ p i
theorem _qwh.flag{h:Heap}{z TI TO:Addr}{T:Nat}{b:Bool}(hz:_qwh h z TI TO T b):_qwh (h.update z (Cz λf=>f.setIfInBounds 1 (.bool true))) z TI TO T true:=by
 unfold _qwh at*;rw[Bh _ hz rfl];rfl
theorem _qc7{z TI TO T:Addr}{fb:Bool}{oT:Obj}{Q:Bool->Shared->Prop}(hz:_qwh s.heap z TI TO T fb) (hT:s.heap.get? T=some oT)
  (hQ:∀h':Heap,_qwh h' z TI TO T true->h'.objs.size=s.heap.objs.size->(∀c,c≠z->h'.get? c=s.heap.get? c)->Q false {s with heap:=h'}):wpAny (model prog w) A (Fj (.ref z)) Q E s:=by
 unfold Fj;refine Ac (D0 hz rfl rfl ?_);refine(?_:wpAny (model prog w) A (M9 ((T:Int).toNat)>>=_) Q E s);refine Ac (_qib ?_);rw[Bb,hT];refine As (λh=>by simp at h) λ_=>?_;refine Ac (D0 hz rfl rfl ?_);refine As (λ_=>?_) (λh=>?_)
 ·refine Ac (Ck hz rfl (by simp) ?_)
  exact Ad (hQ _ hz.flag (by rw[Cr]) λc hc=>Av _ _ (Bz hc))
 ·refine Ad ?_
  have e:fb=true:=by
   cases fb with
   |true=>rfl
   |false=>exact absurd rfl h
  subst e;exact hQ s.heap hz rfl λ_ _=>rfl
theorem _qia{z TI TO i1 i2 l1 l2 T:Addr}{fb:Bool}{oT:Obj}{k1 k2:Nat}{xs ys:Array Value}{x y:Value}{Q:Value->Shared->Prop}(ap:Kt z TI TO i1 i2 l1 l2) (hz:_qwh s.heap z TI TO T fb) (hT:s.heap.get? T=some oT)
  (hTI:Gx s.heap TI (.ref i1) (.ref i2)) (h1:s.heap.IsListIter i1 l1 k1) (h2:s.heap.IsListIter i2 l2 k2) (hl1:s.heap.IsList l1 xs) (hl2:s.heap.IsList l2 ys) (hx:xs[k1]?=some x) (hy:ys[k2]?=some y)
  (hQ:∀h':Heap,_qwh h' z TI TO T true->h'.IsListIter i1 l1 (k1+1)->h'.IsListIter i2 l2 (k2+1)->Gx h' s.heap.objs.size x y->h'.objs.size=s.heap.objs.size+1->(∀c o,c≠z->c≠i1->c≠i2->s.heap.get? c=some o->h'.get? c=some o)->
   Q (.ref s.heap.objs.size) {s with heap:=h'}):
  wpAny (model prog w) A (Builtin.«zip.__next__» {pos:=[.ref z] }) (λfin s'=>∃v,fin=.done (.ret v)/\Q v s') E s:=by
 unfold Builtin.«zip.__next__»;refine Ac (Ad ?_);dsimp only;refine Ac (D0 hz rfl rfl ?_);refine Ac (D0 hz rfl rfl ?_);refine Ac (wpAny_seqItems hTI rfl ?_);refine As (λh=>absurd h (by simp)) λ_=>?_;refine Ac (_qc7 hz hT λh0 hz0 hsz0 hk0=>?_);refine As (λh=>absurd h (by simp)) λ_=>?_;have h10:h0.IsListIter i1 l1 k1:=h1.at λo e=>by rw[hk0 _ ap.i1z];exact e
 have h20:h0.IsListIter i2 l2 k2:=h2.at λo e=>by rw[hk0 _ ap.i2z];exact e
 have hl10:h0.IsList l1 xs:=hl1.at λo e=>by rw[hk0 _ ap.l1z];exact e
 have hl20:h0.IsList l2 ys:=hl2.at λo e=>by rw[hk0 _ ap.l2z];exact e
 refine Ac ?_;rw[<-L6];show wpAny _ _ (forIn [Value.ref i1,Value.ref i2] _ _) _ _ _;rw[forIn_cons];refine Ac (Ac (Bc ?_));change wpAny _ _ (if _=true then _ else(Fh (.ref i1)>>=λv=>pure (some v))) _ _ _;refine As (λh=>(Al h).elim) λ_=>?_;refine Ac (J1 (s:={s with heap:=h0}) h10 hl10 hx λhA itA sbA=>Ad ?_);refine Ad ?_;show wpAny _ _ (forIn [Value.ref i2] _ _) _ _ _;rw[forIn_cons];have hkA:∀c,c≠i1->hA.get? c=h0.get? c:=λc hc=>sbA.2 c hc;have h2A:hA.IsListIter i2 l2 k2:=h20.at λo e=>by rw[hkA _ ap.i12.symm];exact e
 have hl2A:hA.IsList l2 ys:=hl20.at λo e=>by rw[hkA _ ap.l2i1];exact e
 refine Ac (Ac (Bc ?_));change wpAny _ _ (if _=true then _ else(Fh (.ref i2)>>=λv=>pure (some v))) _ _ _;refine As (λh=>(Al h).elim) λ_=>?_;refine Ac (J1 (s:={s with heap:=hA}) h2A hl2A hy λhB itB sbB=>Ad ?_);refine Ad ?_;show wpAny _ _ (forIn ([]:List Value) _ _) _ _ _;rw[List.forIn_nil];refine Ad ?_;have hkB:∀c,c≠i2->hB.get? c=hA.get? c:=λc hc=>sbB.2 c hc;refine Ac (Gg ?_ (by simp[Ao]));refine Ad ⟨_,rfl,?_⟩;have hsz:hB.objs.size=s.heap.objs.size:=by
  have a1:=sbA.1;have a2:=sbB.1;rw[a2,a1];exact hsz0
 rw[hsz];have all:∀c,c≠z->c≠i1->c≠i2->hB.get? c=s.heap.get? c:=λc c1 c2 c3=>by rw[hkB c c3,hkA c c2,hk0 c c1]
 have ltz:z<s.heap.objs.size:=Af hz;have lt1:i1<s.heap.objs.size:=let⟨o,ho,_⟩:=h1;Af ho;have lt2:i2<s.heap.objs.size:=let⟨o,ho,_⟩:=h2;Af ho;have np:∀c,c<s.heap.objs.size->∀o,(hB.push o).get? c=hB.get? c:=λc hc o=>E2 _ _ _ (by rw[hsz];exact ne_of_lt hc);refine hQ _ ?_ ?_ ?_ ?_ ?_ ?_
 ·unfold _qwh
  rw[np z ltz,hkB z ap.i2z.symm,hkA z ap.i1z.symm];exact hz0
 ·exact itA.at λo e=>by
   rw[np i1 lt1,hkB i1 ap.i12];exact e
 ·exact itB.at λo e=>by rw[np i2 lt2];exact e
 ·rw[<-hsz]
  exact Ah _ rfl
 ·rw[Bx,hsz]
 ·intro c o c1 c2 c3 e
  rw[np c (Af e),all c c1 c2 c3];exact e
end
section
variable{prog:Ak}{w:World}{A:Around}{E:Value->Shared->Prop}{s:Shared}
theorem _Zp{z TI TO i1 i2 l1 l2 T:Addr}{fb:Bool}{oT:Obj}{k1:Nat}{xs:Array Value}{Q:M5->Shared->Prop}(hh:A.handled=none) (ap:Kt z TI TO i1 i2 l1 l2) (hz:_qwh s.heap z TI TO T fb) (hT:s.heap.get? T=some oT)
  (hTI:Gx s.heap TI (.ref i1) (.ref i2)) (h1:s.heap.IsListIter i1 l1 k1) (hl1:s.heap.IsList l1 xs) (hx:xs[k1]?=none)
  (hE:∀(h':Heap) (e:Addr),(∀c o,c≠z->c≠i1->s.heap.get? c=some o->h'.get? c=some o)->(∃o,h'.get? e=some o/\o.cls=.type "StopIteration")->E (.ref e) {s with heap:=h'}):
  wpAny (model prog w) A (Builtin.«zip.__next__» {pos:=[.ref z] }) Q E s:=by
 unfold Builtin.«zip.__next__»;refine Ac (Ad ?_);dsimp only;refine Ac (D0 hz rfl rfl ?_);refine Ac (D0 hz rfl rfl ?_);refine Ac (wpAny_seqItems hTI rfl ?_);refine As (λh=>absurd h (by simp)) λ_=>?_;refine Ac (_qc7 hz hT λh0 hz0 hsz0 hk0=>?_);refine As (λh=>absurd h (by simp)) λ_=>?_;have h10:h0.IsListIter i1 l1 k1:=h1.at λo e=>by rw[hk0 _ ap.i1z];exact e
 have hl10:h0.IsList l1 xs:=hl1.at λo e=>by rw[hk0 _ ap.l1z];exact e
 refine Ac ?_;rw[<-L6];show wpAny _ _ (forIn [Value.ref i1,Value.ref i2] _ _) _ _ _;rw[forIn_cons];refine Ac (Ac (Bc ?_));change wpAny _ _ (if _=true then _ else(Fh (.ref i1)>>=λv=>pure (some v))) _ _ _;refine As (λh=>(Al h).elim) λ_=>?_;refine Ac (wpAny_nextOf_list_end (s:={s with heap:=h0}) hh h10 hl10 hx λhA e ex st=>?_);exact hE hA e (λc o c1 c2 q=>ex c o c2 (by rw[hk0 c c1];exact q)) st
theorem _wq:isSubtype (.type "StopIteration") (.type "StopIteration")=pure true:=by rw[Ig];kernel_rfl
theorem _Qs{z:Addr}{Q:Option Value->Shared->Prop}(ht:s.TypeIs (.ref z) "zip")
  (h:wpAny (model prog w) A.in1 (Builtin.«zip.__next__» {pos:=[.ref z] }) (λfin s'=>∃v,fin=.done (.ret v)/\Q (some v) s') (λe s'=>s'.TypeIs e "StopIteration"/\Q none s') s):
  wpAny (model prog w) A (Eb (.ref z)) Q E s:=by
 unfold Eb;refine Ac (Es (Bl (name:=C8 "__next__") ht F.slot_zip_next (A0 F.slot_zip_next ht F.entry_zip_next ?_ (F.args_zip_next_1 _))));refine Bk h (λfin s' hq=>?_) (λe s' hq=>?_)
 ·obtain⟨v,rfl,hq⟩:=hq
  exact⟨v,rfl,Ad hq⟩
 ·obtain⟨t,hq⟩:=hq
  refine Ac (Fe (T:="StopIteration") (b:=true) t _wq ?_);exact Ad hq
end
section
variable{prog:Ak}{w:World}{A:Around}{E:Value->Shared->Prop}{s:Shared}
theorem _Vq:Lw (.type "zip") "__len__"=pure none:=by rw[He,Eu];kernel_rfl
theorem _X4:Lw (.type "zip") "__length_hint__"=pure none:=by rw[He,Eu];kernel_rfl
theorem _qkn{r:Addr}{Q:Bool->Shared->Prop}(hT:s.TypeIs (.ref r) "zip") (h:Q true s):wpAny (model prog w) A (C9 (.ref r)) Q E s:=by
 unfold C9;refine Ac (Hf hT _Vq ?_);dsimp only;refine As (λhab=>absurd hab (by decide)) (λ_=>?_);refine As (λhab=>absurd hab (by decide)) (λ_=>?_);refine Ac (Hf hT _X4 ?_);exact Ad h
theorem _xf{a b:Addr}{n:Nat}(h1:n>a) (h2:n<=b):b≠a:=λe=>absurd h1 (L1.mpr (e▸h2))
structure ZSt(h:Heap) (z TI TO i1 i2 l1 l2 S:Addr) (xs ys:Array Value) (N0:Nat) (Ts:List Addr) (c:Nat):Prop where
 zs:(Ts=[]/\IsZip h z TI TO .none/\∃a b,Gx h TO a b)\/(∃T fb oT,_qwh h z TI TO T fb/\h.get? T=some oT/\N0<=T)
 ti:Gx h TI (.ref i1) (.ref i2)
 a1:h.IsListIter i1 l1 Ts.length
 a2:h.IsListIter i2 l2 Ts.length
 la1:h.IsList l1 xs
 la2:h.IsList l2 ys
 ls:h.get? S=some {cls:=.type "list",data:=.seq (Ts.map Value.ref).toArray c}
 tup:∀(j:Nat) (T:Addr),Ts[j]?=some T->N0<=T/\∃x y,xs[j]?=some x/\ys[j]?=some y/\Gx h T x y
theorem ZSt.type{h:Heap}{z TI TO i1 i2 l1 l2 S:Addr}{xs ys:Array Value}{N0:Nat}{Ts:List Addr}{c:Nat}(q:ZSt h z TI TO i1 i2 l1 l2 S xs ys N0 Ts c) (hs:s.heap=h):s.TypeIs (.ref z) "zip":=by
 subst hs;rcases q.zs with⟨_,h,_⟩|⟨T,fb,oT,h,_⟩
 ·exact⟨_,h,rfl⟩
 ·exact⟨_,h,rfl⟩
theorem _qky{z TI TO i1 i2 l1 l2 S:Addr}{xs ys:Array Value}{N0 n:Nat}{res:Value}{R:Mw->Shared->Prop}(hh:A.handled=none) (ap:Kt z TI TO i1 i2 l1 l2) (hxs:xs.size=n) (hys:ys.size=n) (hn:n<=1000) (h1n:1<=n)
  (hS:S≠z/\S≠TI/\S≠TO/\S≠i1/\S≠i2/\S≠l1/\S≠l2) (hlt:N0>z/\N0>TO/\N0>i1/\N0>i2/\N0>S):
  ∀(k:Nat) (s:Shared) (Ts:List Addr) (c:Nat),n-Ts.length=k->Ts.length<=n->N0<=s.heap.objs.size->ZSt s.heap z TI TO i1 i2 l1 l2 S xs ys N0 Ts c->
  (∀(h':Heap) (Ts':List Addr) (c':Nat),Ts'.length=n->h'.get? S=some {cls:=.type "list",data:=.seq (Ts'.map Value.ref).toArray c'}->(∀(j:Nat) (T:Addr),Ts'[j]?=some T->N0<=T/\∃x y,xs[j]?=some x/\ys[j]?=some y/\Gx h' T x y)->(∀b o,b∉[S,z,TO,i1,i2]->s.heap.get? b=some o->h'.get? b=some o)->R (.ok (.ret res)) {s with heap:=h'})->
  D7 (model prog w) A (.builtin "list.extend.loop" ⟨[.ref S,.ref z,res],[]⟩) R s:=by
 intro k
 induction k with
 |zero=>
  intro s Ts c hk hle hsz q hR;have hTn:Ts.length=n:=by omega
  refine Bm Lg ?_;rw[Bg Bu _];show wpAny _ A.in1 (Eb (.ref z)>>=_) _ _ s;refine Ac (_Qs (A:=A.in1) (q.type rfl) ?_);have hx:xs[Ts.length]?=none:=by simp[hTn,hxs]
  rcases q.zs with⟨e,_⟩|⟨T,fb,oT,hz,hT,hNT⟩
  ·subst e;simp at hTn;omega
  ·refine _Zp (A:=A.in1.in1) hh ap hz hT q.ti q.a1 q.la1 hx λh' e hk' st=>⟨?_,?_⟩
   ·obtain⟨o,ho,hc⟩:=st
    exact⟨o,ho,hc⟩
   ·refine Ad ?_
    refine hR h' Ts c hTn (hk' S _ hS.1 hS.2.2.2.1 q.ls) (λj T' hj=>?_) (λb o hb e=>hk' b o (λz=>hb (by simp[z])) (λz=>hb (by simp[z])) e);obtain⟨g1,x,y,g2,g3,g4⟩:=q.tup j T' hj;exact⟨g1,x,y,g2,g3,hk' T' _ (_xf hlt.1 g1) (_xf hlt.2.2.1 g1) g4⟩
 |succ k ih=>
  intro s Ts c hk hle hsz q hR;have hlt':Ts.length<n:=by omega
  obtain⟨x,hx⟩:∃x,xs[Ts.length]?=some x:=⟨xs[Ts.length]'(by omega),by simp[hxs,hlt']⟩;obtain⟨y,hy⟩:∃y,ys[Ts.length]?=some y:=⟨ys[Ts.length]'(by omega),by simp[hys,hlt']⟩;refine Bm Lg ?_;rw[Bg Bu _];show wpAny _ A.in1 (Eb (.ref z)>>=_) _ _ s;refine Ac (_Qs (A:=A.in1) (q.type rfl) ?_);have step:∀h':Heap,(∃T fb oT,_qwh h' z TI TO T fb/\h'.get? T=some oT/\N0<=T)->h'.IsListIter i1 l1 (Ts.length+1)->h'.IsListIter i2 l2 (Ts.length+1)->Gx h' s.heap.objs.size x y->h'.objs.size=s.heap.objs.size+1->
    (∀b o,b≠z->b≠TO->b≠i1->b≠i2->s.heap.get? b=some o->h'.get? b=some o)->
    wpAny (model prog w) A.in1 (match some (Value.ref s.heap.objs.size)with|none=>ret res|some x=>do Builtin.List.listUpdate (.ref S) λx_1=>x_1.push x;again (.builtin "list.extend.loop" ⟨[.ref S,.ref z,res],[]⟩)) (λfin s'=>match fin with| .done f=>R (.ok f) s'| .again c'=>c'.quiet=true/\D7 (model prog w) A c' R s') (λe s'=>R (.error e) s') {s with heap:=h'}:=by
   intro h' hzs b1 b2 bp bsz bk;have hS':h'.get? S=some {cls:=.type "list",data:=.seq (Ts.map Value.ref).toArray c}:=bk S _ hS.1 hS.2.2.1 hS.2.2.2.1 hS.2.2.2.2.1 q.ls;refine Ac (G3 (s:={s with heap:=h'}) hS' rfl ?_ (by simp[Ao];omega) (by simp[Ao];omega));refine Ad ⟨De Bu _,?_⟩;have oth:∀b,b≠S->(h'.update S (Bi λa=>a.push (.ref s.heap.objs.size))).get? b=h'.get? b:=λb hb=>Av _ _ (Bz hb);obtain⟨c2,hS2⟩:∃c2,(h'.update S (Bi λa=>a.push (.ref s.heap.objs.size))).get? S=some {cls:=.type "list",data:=.seq ((Ts++[s.heap.objs.size]).map Value.ref).toArray c2}:=by
    have e:((Ts++[s.heap.objs.size]).map Value.ref).toArray=(Ts.map Value.ref).toArray.push (.ref s.heap.objs.size):=by simp
    rw[e];exact⟨_,Kc (n:=c) hS' λa=>a.push (.ref s.heap.objs.size)⟩
   have sel:S≠s.heap.objs.size:=(_xf hlt.2.2.2.2 hsz).symm;refine ih _ (Ts++[s.heap.objs.size]) c2 (by simp;omega) (by simp;omega) (by show N0<=(h'.update S _).objs.size;rw[Cr,bsz];omega) ⟨.inr ?_,?_,?_,?_,?_,?_,?_,λj T hj=>?_⟩ λh2 Ts2 c3 hl hs2 ht2 hk2=>?_
   ·obtain⟨T,fb,oT,g1,g2,g3⟩:=hzs
    exact⟨T,fb,oT,by unfold _qwh at*;rw[oth z hS.1.symm];exact g1,by rw[oth T (_xf hlt.2.2.2.2 g3)];exact g2,g3⟩
   ·rw[Gx,oth TI hS.2.1.symm]
    exact bk TI _ ap.TIz ap.TITO ap.TIi1 ap.TIi2 q.ti
   ·simpa using b1.at λo e=>by rw[oth i1 hS.2.2.2.1.symm];exact e
   ·simpa using b2.at λo e=>by rw[oth i2 hS.2.2.2.2.1.symm];exact e
   ·exact q.la1.at λo e=>by rw[oth l1 hS.2.2.2.2.2.1.symm];exact bk l1 o ap.l1z ap.l1TO ap.l1i1 ap.l1i2 e
   ·exact q.la2.at λo e=>by rw[oth l2 hS.2.2.2.2.2.2.symm];exact bk l2 o ap.l2z ap.l2TO ap.l2i1 ap.l2i2 e
   ·exact hS2
   ·by_cases hj':j<Ts.length
    ·rw[Dp hj']at hj
     obtain⟨g1,x,y,g2,g3,g4⟩:=q.tup j T hj;refine⟨g1,x,y,g2,g3,?_⟩;rw[Gx,oth T (_xf hlt.2.2.2.2 g1)];exact bk T _ (_xf hlt.1 g1) (_xf hlt.2.1 g1) (_xf hlt.2.2.1 g1) (_xf hlt.2.2.2.1 g1) g4
    ·have:j=Ts.length:=by
      have:=(Ai.mp hj).1
      simp at this;omega
     subst this;have hT:T=s.heap.objs.size:=by simpa using hj.symm
     subst hT;exact⟨hsz,x,y,hx,hy,by rw[Gx,oth _ sel.symm];exact bp⟩
   ·refine hR h2 Ts2 c3 hl hs2 ht2 λb o hb e=>hk2 b o hb ?_
    simp only[mem_cons,not_mem_nil,or_false,not_or]at hb;show(h'.update S _).get? b=some o;rw[oth b hb.1];exact bk b o hb.2.1 hb.2.2.1 hb.2.2.2.1 hb.2.2.2.2 e
  rcases q.zs with⟨e,hz,a,b,hTO⟩|⟨T,fb,oT,hz,hT,hNT⟩
  ·refine zip_next_item (A:=A.in1.in1) ap hz q.ti hTO q.a1 q.a2 q.la1 q.la2 hx hy λh' z1 z2 z3 z4 z5 z6 z7=>?_
   exact step h' ⟨s.heap.objs.size,false,_,z1,z5,hsz⟩ z3 z4 z5 z6 λb o b1 b2 b3 b4 e=>z7 b o b1 b2 b3 b4 e
  ·refine _qia (A:=A.in1.in1) ap hz hT q.ti q.a1 q.a2 q.la1 q.la2 hx hy λh' z1 z3 z4 z5 z6 z7=>?_
   exact step h' ⟨T,true,oT,z1,z7 T oT (_xf hlt.1 hNT) (_xf hlt.2.2.1 hNT) (_xf hlt.2.2.2.1 hNT) hT,hNT⟩ z3 z4 z5 z6 λb o b1 b2 b3 b4 e=>z7 b o b1 b3 b4 e
end
section
variable{prog:Ak}{w:World}{A:Around}{E:Value->Shared->Prop}{s:Shared}
structure ZNew(h:Heap) (z TI TO i1 i2 l1 l2:Addr) (xs ys:Array Value):Prop where
 zs:IsZip h z TI TO .none
 ti:Gx h TI (.ref i1) (.ref i2)
 to:∃a b,Gx h TO a b
 a1:h.IsListIter i1 l1 0
 a2:h.IsListIter i2 l2 0
 la1:h.IsList l1 xs
 la2:h.IsList l2 ys
theorem _Y4{z TI TO i1 i2 l1 l2:Addr}{xs ys:Array Value}{n:Nat}(hh:A.handled=none) (ap:Kt z TI TO i1 i2 l1 l2) (q:ZNew s.heap z TI TO i1 i2 l1 l2 xs ys) (hxs:xs.size=n) (hys:ys.size=n) (hn:n<=1000) (h1n:1<=n){Q:List Value->Shared->Prop}
  (h:∀(h':Heap) (Ts:List Addr),Ts.length=n->(∀(j:Nat) (T:Addr),Ts[j]?=some T->s.heap.objs.size<=T/\∃x y,xs[j]?=some x/\ys[j]?=some y/\Gx h' T x y)->s.heap.objs.size<h'.objs.size->(∀b o,b∉[z,TO,i1,i2]->s.heap.get? b=some o->h'.get? b=some o)->Q (Ts.map Value.ref) {s with heap:=h'}):
  wpAny (model prog w) A (Mm (.ref z)) Q E s:=by
 have ltz:z<s.heap.objs.size:=Af q.zs;have ltTI:TI<s.heap.objs.size:=Af q.ti;have ltTO:TO<s.heap.objs.size:=let⟨a,b,h⟩:=q.to;Af h;have lt1:i1<s.heap.objs.size:=let⟨o,ho,_⟩:=q.a1;Af ho;have lt2:i2<s.heap.objs.size:=let⟨o,ho,_⟩:=q.a2;Af ho;have ltl1:l1<s.heap.objs.size:=let⟨o,ho,_⟩:=q.la1;Af ho;have ltl2:l2<s.heap.objs.size:=let⟨o,ho,_⟩:=q.la2;Af ho;unfold Mm;refine Ac (Ic (Bm G6 ?_));rw[Bg E1 _];show wpAny _ A.in1 (Nc []>>=λl=>again (.builtin "list.__iadd__" ⟨[l,.ref z],[]⟩)) _ _ s;refine Ac (Ba ?_);refine Ad ⟨De Cf _,Bm Jm ?_⟩;rw[Bg Cf _];have hS₁:(s.heap.push {cls:=.type "list",data:=.seq ([]:List Value).toArray}).get? s.heap.objs.size=some {cls:=.type "list",data:=.seq #[] }:=Ah _ rfl;show wpAny _ A.in1 (Ci (.ref s.heap.objs.size) (.ref z) (.ref s.heap.objs.size)) _ _ _;have kp:∀b o,s.heap.get? b=some o->(s.heap.push {cls:=.type "list",data:=.seq ([]:List Value).toArray}).get? b=some o:=λb o e=>Ae _ e;have hz1:=kp _ _ q.zs;have tz:G1 {s with heap:=s.heap.push {cls:=.type "list",data:=.seq ([]:List Value).toArray} } (.ref z) "zip":=⟨_,hz1,rfl⟩;unfold Ci;refine Ac (Ml (T:="zip") tz ?_);have h1:D6 (.ref s.heap.objs.size) (.ref z)=false:=by simp[D6];exact ne_of_gt ltz
 simp only [h1,show (Value.type "zip" == Value.type "list")=false from by decide,show (Value.type "zip" == Value.type "tuple")=false from by decide,Lk,Aw,if_false];refine Ac (wpAny_pyIter_zip hz1 ?_);refine Ac (Bc (_qkn tz ?_));have hsz1:(s.heap.push { cls:=.type "list",data:=.seq ([]:List Value).toArray }).objs.size=s.heap.objs.size + 1:=Bx ..;have ne:∀ a:Addr,a < s.heap.objs.size->s.heap.objs.size ≠ a:=fun a h=>ne_of_gt h;have key:∀ (h1':Heap) (c₁:Nat),h1'.objs.size=s.heap.objs.size + 1->(∀ b o,s.heap.get? b=some o->h1'.get? b=some o)->h1'.get? s.heap.objs.size=some { cls:=.type "list",data:=.seq #[] c₁ } ->
   D7 (model prog w) A (.builtin "list.extend.loop" ⟨[.ref s.heap.objs.size,.ref z,.ref s.heap.objs.size],[]⟩)
    (λr s'=>match r with
     | .ok (.ret v)=>wpAny (model prog w) A (match v with
      | .ref a=>do
       let o <-load a
       match o.data with
       | .seq xs _=>pure xs.toList
       |_=>Ja "internal:collect"
      |_=>Ja "internal:collect") Q E s'
     | .ok _=>False
     | .error e=>E e s') {s with heap:=h1'}:=by
  intro h1' c₁ hsz hk1 hS1;refine _qky (N0:=s.heap.objs.size+1) (n:=n) (S:=s.heap.objs.size) hh ap hxs hys hn h1n ⟨ne _ ltz,ne _ ltTI,ne _ ltTO,ne _ lt1,ne _ lt2,ne _ ltl1,ne _ ltl2⟩ ⟨lt_succ_of_lt ltz,lt_succ_of_lt ltTO,lt_succ_of_lt lt1,lt_succ_of_lt lt2,lt_succ_self _⟩ (n-0) _ [] c₁ rfl (zero_le _) (by show _<=h1'.objs.size;omega)
   ⟨.inl ⟨rfl,hk1 _ _ q.zs,let⟨a,b,h⟩:=q.to;⟨a,b,hk1 _ _ h⟩⟩,hk1 _ _ q.ti,q.a1.at λo e=>hk1 _ _ e,q.a2.at λo e=>hk1 _ _ e,q.la1.at λo e=>hk1 _ _ e,q.la2.at λo e=>hk1 _ _ e,hS1,λj T hj=>by simp at hj⟩ λh2 Ts c2 hl hs2 ht2 hk2=>?_
  show wpAny _ A (load s.heap.objs.size>>=_) _ _ _;refine Ac (Gu (s:={s with heap:=h2}) hs2 ?_);refine Ad (h h2 Ts hl (λj T hj=>?_) (Af hs2) (λb o hb e=>hk2 b o ?_ (hk1 b o e)))
  ·obtain⟨g1,g2⟩:=ht2 j T hj
   exact⟨Nat.le_of_succ_le g1,g2⟩
  ·simp only[mem_cons,not_mem_nil,or_false,not_or]at hb⊢
   exact⟨ne_of_lt (Af e),hb⟩
 refine As (λ_=>?_) (λhab=>absurd rfl hab);refine Ac (Ei ?_);refine Ac ?_;show wpAny _ _ (Mz s.heap.objs.size (·.push .none)>>=λ_=>Mz s.heap.objs.size (·.pop)) _ _ _;refine Ac (Hg hS₁ rfl ?_);have hS₂:=Bh (Bi (·.push Value.none)) hS₁ rfl;refine Hg (hz:=by seq_fits) hS₂ rfl ?_;have hS₃:=Bh (Bi (·.pop)) hS₂ rfl;refine Ad ⟨De Bu _,?_⟩;refine Cy (key _ _ ?_ (λb o e=>?_) hS₃) λq s' x=>x
 ·rw[Cr,Cr,hsz1]
 ·exact(Av _ _ (Bz (ne_of_lt (Af e)))).trans ((Av _ _ (Bz (ne_of_lt (Af e)))).trans (kp b o e))
end
section
variable{prog:Ak}{w:World}{A:Around}{E:Value->Shared->Prop}{s:Shared}
theorem _kn{a:Addr}{v:Value}{n:Nat}{P:M5->Shared->Prop}(ho:s.heap.get? a=some (Br "list" #[v] n))
  (h:P (.done (.ret .none)) {s with heap:=J0 s.heap a [v] #[v] }):
  wpAny (model prog w) A (Builtin.«list.sort» {pos:=[Value.ref a] }) P E s:=by
 rw[list_sort_plain a];have ha:=Af ho;refine Ac (Mr ho rfl (Ac (G3 ho rfl ?_)));obtain⟨e1,ho1⟩:∃e1,(s.heap.update a (Bi λ_=>#[])).get? a=some (Br "list" #[] e1):=⟨_,Kc ho λ_=>#[]⟩;refine Ac (K3 ho1 rfl (Ac (Gg (Ac (G2 (Bc ?_))))));have ho6:(((s.heap.update a (Bi λ_=>#[])).push (Br "tuple" #[v] 0)).push (Br "list" #[] 0)).get? a=some (Br "list" #[] e1):=by
  rw[E2 _ _ _ (by rw[Jz,Cr];exact ne_of_lt (lt_succ_of_lt ha)),E2 _ _ _ (by rw[Cr];exact ne_of_lt ha)];exact ho1
 have hsz:(#[v]:Array Value).size<2:=by simp
 refine(?_:wpAny (model prog w) A (if(#[v]:Array Value).size<2 then _ else _) P E {s with heap:=((s.heap.update a (Bi λ_=>#[])).push (Br "tuple" #[v] 0)).push (Br "list" #[] 0) });rw[if_pos hsz];refine Ac (Ad ?_);dsimp only;rw[if_pos hsz];refine Ac ?_;refine(?_:wpAny _ _ (pure ((),_)) _ _ _);refine Ad ?_;have hs:Lb (λx=>x.snd) (arrOf ((),SortSt.mk' Ms (#[v].zip #[v]) #[] 7 none).snd)=#[v]:=by
  show Lb (λx=>x.snd) (#[v].zip #[v])=#[v]
  simp
 refine Ac (K3 ho6 rfl ?_);refine Ac (G3 ho6 rfl ?_ (by simp) (by rw[hs];simp[Ao]));have hf:failedOf ((),SortSt.mk' Ms (#[v].zip #[v]) #[] 7 none).snd=none:=rfl;simp only[hf,bne_self_eq_false,Aw,if_false];refine Ad ?_;have hs':Lb (λx=>x.snd) (arrOf (SortSt.mk' Ms (#[v].zip #[v]) #[] 7 none))=#[v]:=hs;rw[hs'];exact h
theorem _qp9:∀{vs:List Value}{ps:List (Int×Int)},vs.length=ps.length->(∀i,i<vs.length->_qa1 s.heap (vs.getD i .none) (ps.getD i (0,0)))->∃fs,KatTups s.heap vs fs/\fs.length=vs.length/\∀v∈fs,∃k t,v=Value.int k t
 | [],[],_,_=>⟨[],KatTups.nil ..,rfl,by simp⟩
 | [],_::_,h,_=>by simp at h
 |_::_,[],h,_=>by simp at h
 |v::vs,p::ps,h,k=>by
  obtain⟨fs,h1,h2,h3⟩:=_qp9 (vs:=vs) (ps:=ps) (by simpa using h) λi hi=>by have:=k (i+1) (by simp;omega);simpa using this
  obtain⟨x,o,n,t1,t2,e1,e2,e3,e4⟩:=k 0 (by simp);simp at e1;subst e1;exact⟨_,KatTups.cons e2 e3 e4 (f:=Value.int p.1 t1) rfl h1,by simp[h2],λv hv=>by
   rcases An.mp hv with rfl|hv
   ·exact⟨_,_,rfl⟩
   ·exact h3 v hv⟩
theorem _qbo{vs:List Value}{ps:List (Int×Int)}{Q:Nn->Shared->Prop}(h0:0<vs.length) (hl:vs.length=ps.length) (hp:∀i,i<vs.length->_qa1 s.heap (vs.getD i .none) (ps.getD i (0,0))) (h:Q (tuples' true) s):wpAny (model prog w) A (keyKind' vs.toArray) Q E s:=by
 obtain⟨fs,h1,h2,h3⟩:=_qp9 hl hp;refine kat_kind (T:=.type "int") h1 (by omega) (λv hv=>?_) (by decide) h;obtain⟨k,t,rfl⟩:=h3 v hv;exact Looks.of_pure rfl
theorem _Yl{vs:List Value}{ps:List (Int×Int)}{p:Array Nat}(hl:vs.length=ps.length) (hn:ps.Nodup) (pa:PA vs.length p) (sp:SP (λi j=>lexB (ps.getD i (0,0)) (ps.getD j (0,0))) p vs.length):
  (p.toList.map λi=>ps.getD i (0,0))=DL._k8 ps:=by
 have hp:p.toList.Perm (Ap vs.length):=by
  have:=pa
  unfold PA at this;exact Dj.mp this
 refine DL._qkz hn ?_ ?_
 ·have e:ps=(Ap vs.length).map λi=>ps.getD i (0,0):=by
   apply ext_getElem
   ·simp[hl]
   ·intro i h1 h2;simp[h1]
  conv=>rhs;rw[e]
  exact hp.map _
 ·have hs:p.size=vs.length:=by have:=hp.length_eq;simpa using this
  rw[pairwise_map,Bj];intro i j hi hj hij
  have:=sp i j hij (by simpa[hs]using hj)
  simp at hi hj;have a0:∀k,(hk:k<p.size)->at0 p k=p.toList[k]'(by simpa using hk):=λk hk=>by simp[at0,hk]
  rw[a0 i hi,a0 j hj]at this;exact this
end
section
variable{prog:Ak}{w:World}{A:Around}{E:Value->Shared->Prop}{s:Shared}
theorem _qaq{z TI TO i1 i2 l1 l2:Addr}{xs ys:Array Value}{ns ms:List Int}{Q:Value->Shared->Prop}(hh:A.handled=none) (ap:Kt z TI TO i1 i2 l1 l2) (q:ZNew s.heap z TI TO i1 i2 l1 l2 xs ys) (hx:IntsAre xs.toList ns) (hy:IntsAre ys.toList ms) (hl:ns.length=ms.length) (h1:1<=ns.length) (h64:ns.length<64) (hnd:(ns.zip ms).Nodup)
  (h:∀(D:Addr) (out:List Addr) (n:Nat) (h':Heap),s.heap.objs.size<=D->h'.get? D=some {cls:=.type "list",data:=.seq (out.map Value.ref).toArray n}->out.length=(DL._k8 (ns.zip ms)).length->(∀j (hj:j<out.length),s.heap.objs.size<=out[j]/\D≠out[j]/\_qa1 h' (.ref out[j]) ((DL._k8 (ns.zip ms)).getD j (0,0)))->(∀b o,b∉[z,TO,i1,i2]->s.heap.get? b=some o->h'.get? b=some o)->Q (.ref D) {s with heap:=h'}):
  wpAny (model prog w) A (call (.builtin "sorted") [.ref z]) Q E s:=by
 have hxl:=hx.length;have hyl:=hy.length;have hxs:xs.size=ns.length:=by simpa using hxl
 have hys:ys.size=ns.length:=by rw[hl];simpa using hyl
 refine Dr M8 Mn Mo (Mp _) ?_;unfold Builtin.«sorted»;refine Ac (m:=checkCount "sorted" 1 1 _) (Ad ?_);refine Ac (_Y4 (A:=A.in1) hh ap q hxs hys (by omega) h1 λh1' Ts hTl hT hsz1 hk1=>?_);have hps:∀i,i<Ts.length->_qa1 h1' ((Ts.map Value.ref).getD i .none) ((ns.zip ms).getD i (0,0)):=by
  intro i hi;obtain⟨_,x,y,e1,e2,e3⟩:=hT i Ts[i] (by simp[hi]);have g1:xs.toList[i]?=some x:=by rw[getElem?_toList];exact e1
  have g2:ys.toList[i]?=some y:=by rw[getElem?_toList];exact e2
  obtain⟨t1,f1⟩:∃t,x=.int (ns.getD i 0) t:=by
   exact IntsAre.int_at hx i x g1
  obtain⟨t2,f2⟩:∃t,y=.int (ms.getD i 0) t:=by
   exact IntsAre.int_at hy i y g2
  refine⟨Ts[i],_,0,t1,t2,by simp[hi],e3,rfl,?_⟩;subst f1 f2
  have:i<ns.length:=by omega
  have:i<ms.length:=by omega
  simp[*]
 have hzl:(ns.zip ms).length=ns.length:=by simp[hl]
 refine Ac (G2 ?_ (by rw[Ao];simp;omega));have hoL:(h1'.push (Br "list" (Ts.map Value.ref).toArray 0)).get? h1'.objs.size=some (Br "list" (Ts.map Value.ref).toArray 0):=Ah _ rfl;have fin:∀(out:List Addr),out.length=(DL._k8 (ns.zip ms)).length->(∀j (hj:j<out.length),∃i,∃hi:i<Ts.length,out[j]=Ts[i]/\(DL._k8 (ns.zip ms)).getD j (0,0)=(ns.zip ms).getD i (0,0))->
   Q (.ref h1'.objs.size) {s with heap:=J0 (h1'.push (Br "list" (Ts.map Value.ref).toArray 0)) h1'.objs.size (Ts.map Value.ref) (out.map Value.ref).toArray}:=by
  intro out ho hout;obtain⟨e,he⟩:=Lo (out:=(out.map Value.ref).toArray) hoL;have old:∀b o,h1'.get? b=some o->(J0 (h1'.push (Br "list" (Ts.map Value.ref).toArray 0)) h1'.objs.size (Ts.map Value.ref) (out.map Value.ref).toArray).get? b=some o:=λb o hb=>by
   have hlt:=Af hb;rw[K2 (ne_of_lt hlt) (by rw[Jz];exact lt_succ_of_lt hlt)];exact Ae _ hb
  refine h _ out e _ (le_of_lt hsz1) (by simpa[Br]using he) ho (λj hj=>?_) (λb o hb e=>old b o (hk1 b o hb e));obtain⟨i,hi,e1,e2⟩:=hout j hj;obtain⟨g1,_⟩:=hT i Ts[i] (by simp[hi]);obtain⟨x,o,n,t1,t2,f1,f2,f3,f4⟩:=hps i hi;have ex:x=Ts[i]:=by simpa[hi]using f1.symm
  rw[e1,e2];refine⟨g1,?_,⟨Ts[i],o,n,t1,t2,rfl,old _ _ (ex▸f2),f3,f4⟩⟩
  have:=Af f2
  rw[ex]at this;exact ne_of_gt this
 refine Ac (Bc (A0 K0 ⟨_,hoL,rfl⟩ Kb ?_ (K1 _)))
 by_cases h2:2<=ns.length
 ·refine _ko (vs:=Ts.map Value.ref) hoL (by simp;omega) (by simp;omega) ?_
  generalize hh6:(((h1'.push (Br "list" (Ts.map Value.ref).toArray 0)).update h1'.objs.size (Bi λ_=>#[])).push (Br "tuple" (Ts.map Value.ref).toArray 0)).push (Br "list" #[] 0)=h6;have old6:∀b o,h1'.get? b=some o->h6.get? b=some o:=λb o hb=>by
   rw[<-hh6];refine Ae _ (Ae _ ?_);rw[Av _ _ (ne_of_gt (Af hb))];exact Ae _ hb
  have hp6:∀i,i< (Ts.map Value.ref).length->_qa1 h6 ((Ts.map Value.ref).getD i .none) ((ns.zip ms).getD i (0,0)):=λi hi=>by
   obtain⟨x,o,n,t1,t2,f1,f2,f3,f4⟩:=hps i (by simpa using hi);exact⟨x,o,n,t1,t2,f1,old6 _ _ f2,f3,f4⟩
  have hvl:(Ts.map Value.ref).length=(ns.zip ms).length:=by simp[hTl,hl]
  refine _qbo (s:={s with heap:=h6}) (ps:=ns.zip ms) (by simp;omega) hvl hp6 ?_;have key:∀i j,i< (Ts.map Value.ref).length->j< (Ts.map Value.ref).length->(ns.zip ms).getD i (0,0)=(ns.zip ms).getD j (0,0)->i=j:=λi j hi hj e=>by
   rw[hvl]at hi hj;have e':(ns.zip ms)[i]=(ns.zip ms)[j]:=by
    rw[getD_eq_getElem?_getD,getD_eq_getElem?_getD,getElem?_eq_getElem hi,getElem?_eq_getElem hj]at e;exact e
   exact(getElem_inj hnd).mp e'
  have ord:=_qke (key:=λi=>(ns.zip ms).getD i (0,0)) key;obtain⟨pa,sp⟩:=_qh3 ord (by simp;omega);refine _Vw (n:=(Ts.map Value.ref).length) (lt:=λi j=>lexB ((ns.zip ms).getD i (0,0)) ((ns.zip ms).getD j (0,0))) (λi j C hi hj hC=>_qgn hvl.symm hp6 i j C hi hj hC) _ (_qh4 (by simp;omega)) ⟨rfl,rfl,_,rfl,Ad ⟨_,rfl,?_⟩⟩;generalize _qv8 _ (Ih (Ts.map Value.ref).length)=p at pa sp;have hsl:=_Yl hvl hnd pa sp;have hpl:p.toList.Perm (Ap (Ts.map Value.ref).length):=Dj.mp pa;have hpb:∀i∈p.toList,i<Ts.length:=λi hi=>by
   have:=Ax.mp (hpl.mem_iff.mp hi)
   simpa using this
  have eo:(p.toList.map λi=>(Ts.map Value.ref).getD i .none)=(p.toList.map λi=>Ts.getD i 0).map Value.ref:=by
   rw[map_map];apply map_congr_left;intro i hi
   have:=hpb i hi
   simp[this]
  rw[eo];refine fin _ (by rw[<-hsl];simp) λj hj=>?_;have hj':j<p.toList.length:=by simpa using hj
  have hb:=hpb p.toList[j] (getElem_mem hj');refine⟨p.toList[j],hb,by simp only[getElem_map];rw[getD_eq_getElem?_getD,getElem?_eq_getElem hb];rfl,?_⟩;rw[<-hsl,getD_eq_getElem?_getD,getElem?_map,getElem?_eq_getElem hj'];rfl
 ·have hT1:Ts.length=1:=by omega
  obtain⟨T,rfl⟩:∃T,Ts=[T]:=by
   match Ts,hT1 with
   | [T],_=>exact⟨T,rfl⟩
  refine _kn (v:=.ref T) hoL ⟨_,rfl,Ad ⟨_,rfl,?_⟩⟩;have hp1:DL._k8 (ns.zip ms)=ns.zip ms:=by
   obtain⟨p,hp⟩:∃p,ns.zip ms=[p]:=by
    have:(ns.zip ms).length=1:=by omega
    match ns.zip ms,this with
    | [p],_=>exact⟨p,rfl⟩
   rw[hp];rfl
  refine fin [T] (by rw[hp1];simp at hTl⊢;omega) λj hj=>⟨j,hj,rfl,by rw[hp1]⟩
end
end SortW
namespace DL
open PySem PySem.Spec PyProof.Rows L2
section
variable{X:Cx}
theorem _qfx{pins:List (Addr×Obj)}{σ:St}{H H':Hp}{s:Shared}{h':Heap}{t':Nat}(I:Inv X pins σ H s) (k:∀b u,s.heap.get? b=some u->h'.get? b=some u) (same:∀b u,H b=some u->H' b=some u)
  (hn:∀b u,H' b=some u->H b=some u\/s.heap.objs.size<=b/\_z5 X.prog X.w H' h' b u):Inv X pins σ H' {s with heap:=h',toks:=t'}:=by
 refine I.un ⟨λb u q _ _ _=>k b u q,λb u q _ _ _=>⟨u.slots,k b u q⟩,λb u q n _=>?_,λb u q _=>⟨u,k b u q⟩,λb xs q=>same _ _ q,λb u xs q=>same _ _ q,λb ps q=>⟨#[],by rw[same _ _ q];simp⟩⟩ λb u e=>?_
 ·cases e:H' b with
  |none=>rfl
  |some u'=>
   rcases hn b u' e with z|⟨z,_⟩
   ·rw[n]at z;cases z
   ·exact absurd (Af q) (L1.mpr z)
 ·rcases hn b u e with z|⟨_,z⟩
  ·exact(I.hok b u z).stay (λc v _ q=>k c v q) (λc q=>same _ _ q) λc xs q=>same _ _ q
  ·exact z
open Classical in
noncomputable def _quy(H:Hp) (out:List Addr) (ps:List (Int×Int)):Hp:=λb=>if b∈out then some (.tup [.int (ps.getD (out.idxOf b) (0,0)).1,.int (ps.getD (out.idxOf b) (0,0)).2])else H b
theorem _k4{H:Hp}{out:List Addr}{ps:List (Int×Int)}{b:Addr}(h:b∉out):_quy H out ps b=H b:=by unfold _quy;rw[if_neg h]
theorem _Zr{H:Hp}{out:List Addr}{ps:List (Int×Int)}{b:Addr}(h:b∈out):_quy H out ps b=some (.tup [.int (ps.getD (out.idxOf b) (0,0)).1,.int (ps.getD (out.idxOf b) (0,0)).2]):=by unfold _quy;rw[if_pos h]
def OneP(out:List Addr) (ps:List (Int×Int)):Prop:=∀j,(hj:j<out.length)->ps.getD (out.idxOf out[j]) (0,0)=ps.getD j (0,0)
theorem _Vc{a b:Expr}{ta:TA}{p p2 p3 pos:Pos}(hc:X.calm=true) (hg1:Gl X "sorted") (hg2:Gl X "zip") (hm1:X.mg "sorted"=none) (hm2:X.mg "zip"=none) (ha:PA X [a,b] ta) (hs:Aq [a,b] X.env=[(false,eval a X.env),(false,eval b X.env)]:=by rfl) (hs2:Aq [b] X.env=[(false,eval b X.env)]:=by rfl):
  PE X (.Call (.Name "sorted" p) [.Call (.Name "zip" p2) [a,b] [] p3] [] pos) (λσ H Q=>ta σ H λvs H1=>∃(l1 l2:Addr) (ns ms:List Int),vs=[.ref l1,.ref l2]/\SqL X.K H1 l1 (ns.map V.int)/\SqL X.K H1 l2 (ms.map V.int)/\ns.length=ms.length/\1<=ns.length/\ns.length<64/\(ns.zip ms).Nodup/\
   ∀(D:Addr) (out:List Addr),H1 D=none->(∀b∈out,H1 b=none)->D∉out->out.length=(_k8 (ns.zip ms)).length->OneP out (_k8 (ns.zip ms))->Q (.ref D) (upd (_quy H1 out (_k8 (ns.zip ms))) D (.lst (out.map V.ref)))):=by
 intro pins s σ H Q I h;refine Cd (_Jv I hg1 hm1 _zh ?_ (by decide) (by decide));refine callWith_builtin1 ?_ rfl rfl;show wpAny _ _ (spliced ((false,eval (.Call (.Name "zip" p2) [a,b] [] p3) X.env)::Dg pos (Aq [] X.env))) _ _ s;refine Cp ?_;refine Cd (_Jv I hg2 hm2 _qs0 ?_ (by decide) (by decide));refine Bp (thn (ha p3 pins s σ H _ I h) λus s1 hQ=>?_) (by rw[hs,hs2]) (by rw[hs2];rfl);obtain⟨vs,H1,I1,r1,l1,l2,ns,ms,ev,hq1,hq2,hl,h1,h64,hnd,q⟩:=hQ;subst ev;cases r1 with
 |cons r rr=>
  cases rr with
  |cons r' rr=>
   cases rr;cases r;cases r';obtain⟨its1,rv1,p1,hz1⟩:=I1.list hq1;obtain⟨its2,rv2,p2,hz2⟩:=I1.list hq2;have lt1:=sq_lt I1 hq1;have lt2:=sq_lt I1 hq2;refine call_zip_2 p1.isList p2.isList λh' hz hTI hTO hi1 hi2 hsz hk=>?_;refine Ex ?_;have ap:=_qq2 s1.heap.objs.size l1 l2 lt1 lt2;refine SortW._qaq (s:={s1 with heap:=h'}) (xs:=its1.toArray) (ys:=its2.toArray) (ns:=ns) (ms:=ms) (I1.ok.hd hc) ap ⟨hz,hTI,⟨_,_,hTO⟩,hi1,hi2,p1.isList.at λo e=>hk _ _ e,p2.isList.at λo e=>hk _ _ e⟩ (by simpa using _j5 rv1) (by simpa using _j5 rv2) hl h1 h64 hnd λD out n h2 hD hget hol hout hk2=>?_;have hle:s1.heap.objs.size<=D:=le_trans (by show s1.heap.objs.size<=h'.objs.size;omega) hD;have hleo:∀b∈out,s1.heap.objs.size<=b/\D≠b:=λb hb=>by
    obtain⟨j,hj,rfl⟩:=getElem_of_mem hb;obtain⟨g1,g2,_⟩:=hout j hj;exact⟨le_trans (by show s1.heap.objs.size<=h'.objs.size;omega) g1,g2⟩
   have hDo:D∉out:=λm=>(hleo D m).2 rfl;have one:OneP out (_k8 (ns.zip ms)):=λj hj=>by
    have hm:out[j]∈out:=getElem_mem hj;have hi:out.idxOf out[j]<out.length:=Hr hm;have e:out[out.idxOf out[j]]=out[j]:=L7 hi;obtain⟨_,_,x,o,k,t1,t2,f1,f2,f3,f4⟩:=hout j hj;obtain⟨_,_,x',o',k',t1',t2',f1',f2',f3',f4'⟩:=hout (out.idxOf out[j]) hi;rw[e]at f1';have ex:x=x':=by rw[<- (Value.ref.inj f1),<- (Value.ref.inj f1')]
    subst ex;rw[f2]at f2';cases f2';rw[f4]at f4';injection f4' with g1 g2;injection g1 with g1;injection g1 with g3 g4;injection g3 with g3 _;injection g4 with g4 _;injection g4 with g4 _;exact(Prod.ext g3 g4).symm
   have hH:∀b,s1.heap.objs.size<=b->H1 b=none:=λb hb=>I1.hok.fresh hb;have kk:∀b u,s1.heap.get? b=some u->h2.get? b=some u:=λb u e=>hk2 b u (λhm=>by
    have hlt:=Af e;simp only[mem_cons,not_mem_nil,or_false]at hm;rcases hm with z|z|z|z<;>(rw[z]at hlt;exact absurd hlt (L1.mpr (by omega)))) (hk b u e)
   refine⟨.ref D,_,(show L2.Inv X pins σ _ {s1 with heap:=h2}from _qfx (s:=s1) (h':=h2) (t':=s1.toks) I1 kk (λb u e=>?_) (λb u e=>?_)),rfl,q D out (hH D hle) (λb hb=>hH b (hleo b hb).1) hDo hol one⟩
   ·have nb:b≠D:=λz=>by rw[z,hH D hle]at e;cases e
    have nm:b∉out:=λz=>by rw[hH b (hleo b z).1]at e;cases e
    rw[_f nb,_k4 nm];exact e
   ·by_cases nb:b=D
    ·subst nb
     rw[_b]at e;cases e;refine .inr ⟨hle,by rw[length_map,hol,(_j2 _).length_eq,Ao];simp;omega,out.map Value.ref,n,?_,hget⟩;clear hget hol hout hk2 hleo hDo one kk q
     induction out with
     |nil=>exact .nil
     |cons x xs ih=>exact .cons rfl ih
    ·rw[_f nb]at e
     by_cases hm:b∈out
     ·rw[_Zr hm]at e;cases e
      have hi:out.idxOf b<out.length:=Hr hm;have eb:out[out.idxOf b]=b:=L7 hi;obtain⟨_,_,x,o,k,t1,t2,f1,f2,f3,f4⟩:=hout (out.idxOf b) hi;rw[eb]at f1;have ex:x=b:=(Value.ref.inj f1).symm;subst ex;refine .inr ⟨(hleo _ hm).1,by simp[Ao],_,.cons ⟨t1,rfl⟩ (.cons ⟨t2,rfl⟩ .nil),o,f2,f3,k,f4⟩
     ·rw[_k4 hm]at e
      exact .inl e
theorem _qbd{K:Frag}{F:Hp}:∀{out:List Addr}{ps:List (Int×Int)},out.length=ps.length->(∀j,(hj:j<out.length)->F out[j]=some (.tup [.int (ps.getD j (0,0)).1,.int (ps.getD j (0,0)).2]))->Reps K F (out.map V.ref) (ps.map _qf6)
 | [],[],_,_=>.nil
 | [],_::_,h,_=>by simp at h
 |_::_,[],h,_=>by simp at h
 |a::out,p::ps,h,k=>by
  refine .cons ?_ (_qbd (by simpa using h) λj hj=>by have:=k (j+1) (by simp;omega);simpa using this)
  have:=k 0 (by simp)
  exact .tup (SqT.of this) (.cons (.int _) (.cons (.int _) .nil))
theorem _V7 {a b:Expr} {f:FA} {p p2 p3 pos:Pos} (hc:X.calm=true) (hg1:Gl X "sorted") (hg2:Gl X "zip") (hm1:X.mg "sorted"=none) (hm2:X.mg "zip"=none) (ha:DA X [a,b] f) (hs:Aq [a,b] X.env=[(false,eval a X.env),(false,eval b X.env)]:=by rfl) (hs2:Aq [b] X.env=[(false,eval b X.env)]:=by rfl) :
  DO X (.Call (.Name "sorted" p) [.Call (.Name "zip" p2) [a,b] [] p3] [] pos) (_qvk _Jw f):=by
 refine PE.imp (_Vc hc hg1 hg2 hm1 hm2 ha hs hs2) λσ H Q q=>?_;obtain⟨F,ρ,o,s,re,hf,kk⟩:=q;obtain⟨zs,hf2,rfl⟩:=map_some hf;obtain⟨ds,hd,hf⟩:=bind_some hf2;refine⟨F,ρ,ds,s,re,hd,λvs F1 H1 e1 r1=>?_⟩;unfold _Jw at hf;split at hf
 ·rename_i xs ys
  obtain⟨ns,hns,hf⟩:=bind_some hf;obtain⟨ms,hms,hf⟩:=bind_some hf;split at hf
  ·rename_i hcnd
   cases hf
   have:=_x3 hns
   subst this
   have:=_x3 hms
   subst this;cases r1 with
   |cons q1 r2=>
    cases r2 with
    |cons q2 r3=>
     cases r3;cases q1 with
     |lst g1 t1=>
      cases q2 with
      |lst g2 t2=>
       have hv1:=_qf t1;have hv2:=_qf t2;subst hv1 hv2;refine⟨_,_,ns,ms,rfl,(_qv6 e1.fh g1).l,(_qv6 e1.fh g2).l,hcnd.1,hcnd.2.1,hcnd.2.2.1,hcnd.2.2.2,λD out hD ho hDo hol one=>?_⟩;have hF:∀b,H1 b=none->F1 b=none:=λb hb=>e1.fh.free hb;have ntD:_quy F1 out (_k8 (ns.zip ms)) D=F1 D:=_k4 hDo;have sFF:_qwk F1 (_quy F1 out (_k8 (ns.zip ms))):=λb u e=>by
        rw[_k4 (λm=>by rw[hF b (ho b m)]at e;cases e)];exact e
       have sFH:_qwk (_quy F1 out (_k8 (ns.zip ms))) (upd (_quy H1 out (_k8 (ns.zip ms))) D (.lst (out.map V.ref))):=λb u e=>by
        have nb:b≠D:=λz=>by rw[z,ntD,hF D hD]at e;cases e
        rw[_f nb]
        by_cases m:b∈out
        ·rw[_Zr m]at e⊢;exact e
        ·rw[_k4 m]at e⊢;exact e1.fh b u e
       have sHH:_qwk H1 (upd (_quy H1 out (_k8 (ns.zip ms))) D (.lst (out.map V.ref))):=λb u e=>by
        have nb:b≠D:=λz=>by rw[z,hD]at e;cases e
        rw[_f nb,_k4 (λm=>by rw[ho b m]at e;cases e)];exact e
       have ex:Ext F1 H1 (_quy F1 out (_k8 (ns.zip ms))) (upd (_quy H1 out (_k8 (ns.zip ms))) D (.lst (out.map V.ref))):=⟨sFF,sFH,sHH,λb u e=>by
        by_cases m:b∈out
        ·exact .inr (ho b m)
        ·rw[_k4 m]at e;exact .inl e⟩
       refine kk (.ref D) _ _ _ (e1.trans ex) (_Ve _b (_qbd hol λj hj=>?_)) λb z=>by
        subst z;exact⟨by rw[ntD];exact hF _ hD,e1.hh.free hD⟩
       rw[_Zr (getElem_mem hj),one j hj]
  ·cases hf
 ·cases hf
end
end DL
namespace DL
open PySem
end DL
namespace DL
open PySem PySem.Spec PyProof.Rows L2
section
variable{K:Frag}{F H:Hp}
end
section
variable{X:Cx}{i j:Nat}{S:List Bool}
end
def veB:List Value:=[.type "ValueError",.type "Exception",.type "BaseException",.type "object"]
structure ExcC(K:Frag) (C:Addr):Prop where
 ex:∃(nm q:Str) (N:Addr) (bs bm:List Value) (hdct:Bool) (sn:List Str) (sub:List Value) (ab:Bool) (col:Option Bool) (dd:Option Addr) (k0 k1 k2 k3 k5:Option Value),
  K.lookup C=some (excClassObj nm q C N bs bm hdct sn sub ab col dd k0 k1 k2 k3 k5 "ValueError.__new__")/\PySem.W.nsOkIn K N=true/\nsIn K N "__init__"=some none/\PySem.W.tailIn K veB bm=true
section
variable{P:Ak}{w:World}{K:Frag}{mg:Str->Option Value}{base:Heap}{N:List Str}{qual:Str}{scope:Scope}{f:Addr}{cd:Value}{A:Around}{outer:List Env}{s:Shared}{H:Hp}{E:XK}{C:Addr}
end
section
variable{X:Cx}{pins:List (Addr×Obj)}{σ:L2.St}{H:Hp}{s s':Shared}{a:Addr}{oe:Obj}{C C':Addr}{E:XK}{e:Value}
end
structure ExcH(K:Frag) (C C':Addr):Prop where
 ty:Kr K (.ref C')=some (.type "type")
 cl:(Lp K C').isSome=true
 be:Er K C' (.type "BaseException")=some true
 su:Er K C (.ref C')=some true
section
variable{X:Cx}{C C':Addr}{k:Nat}{f:Addr}{fd:Am}{ps:List Str}{sp:Sp}
end
end DL
namespace DL
open PySem PySem.Spec PyProof.Rows L2
open Builtin Builtin.ObjectAttr Builtin.Getset_descriptor
structure ExcI(K:Frag) (C:Addr):Prop where
 cl:(Lp K C).isSome=true
 ga:A9 K (.ref C) "__getattribute__"=some (some (.builtin "BaseException.__getattribute__"))
 kl:A9 K (.ref C) "__class__"=some (some (.builtin "object.__class__"))
 gt:Iq K (.builtin "object.__class__") "__get__"=some (some (.builtin "getset_descriptor.__get__"))
 tk:PySem.W.takesIn K (.builtin "object.__class__")=some true
 ob:Er K C (.type "object")=some true
 be:Er K C (.type "BaseException")=some true
 no:A9 K (.ref C) "__getattr__"=some none
section
variable{prog:Ak}{w:World}{A:Around}{E:Value->Shared->Prop}{K:Frag}{s:Shared}{a C:Addr}{oe:Obj}
end
section
variable{X:Cx}{a C:Addr}{oe:Obj}
end
section
variable{X:Cx}{C C':Addr}{k:Nat}{f:Addr}{fd:Am}{ps:List Str}{sp:Sp}
end
end DL
namespace DL
open PySem
def _qvn:List Int->List Int->Bool
 |_,[]=>false
 | [],_::_=>true
 |a::s,b::t=>decide (a<b)||(decide (a=b)&&_qvn s t)
def _qvr(m:List Int):List (List Int)->List (List Int)
 | []=>[m]
 |k::ks=>if m=k then k::ks else if _qvn m k=true then m::k::ks else k::_qvr m ks
def _ju(l:List (List Int)):List (List Int):=l.foldr _qvr []
def wtK(h:List (Int×List Int)) (m:List Int):Int:=((h.filter λp=>decide (p.2=m)).map λp=>p.1).sum
def _Xm(h:List (Int×List Int)):List (Int×List Int):=(_ju (h.map λp=>p.2)).map λm=>(wtK h m,m)
def kInt:D->Option Int
 | .int i=>some i
 |_=>none
def _qo6:D->Option (List Int)
 | .lst xs=>xs.mapM kInt
 |_=>none
def _qo5:D->Option (Int×List Int)
 | .tup [.int w,m]=>(_qo6 m).map λl=>(w,l)
 |_=>none
def _qlx:D->Option (List (Int×List Int))
 | .lst xs=>xs.mapM _qo5
 |_=>none
def _qbj(p:Int×List Int):O:=.tup [.sh (.int p.1),ow (p.2.map D.int)]
def _qm7:List D->Option O
 | [d]=>(_qlx d).bind λh=>if h.length<60/\(h.all λp=>decide (p.2.length<60))=true then some (.lst ((_Xm h).map _qbj))else none
 |_=>none
def lawD:List D->Option D
 | [d]=>(_qo6 d).bind λns=>if ns.length<=63 then some (.bl true)else none
 |_=>none
theorem _qfo(ns:List Int) (h:ns.length<=63):lawD [.lst (ns.map .int)]=some (.bl true):=by
 have:∀l:List Int,(l.map D.int).mapM kInt=some l:=by
  intro l
  induction l with
  |nil=>rfl
  |cons a l ih=>rw[map_cons,mapM_cons,ih];rfl
 simp[lawD,_qo6,this,h]
end DL
namespace DL
open PySem PySem.Spec PyProof.Rows L2
theorem fsc{N P:List Str}{sc:Scope}(a:sc.kind=.function:=by rfl) (b:sc.isCoroutine=false:=by rfl) (c:sc.isGenerator=false:=by rfl) (d:N.Nodup:=by decide+kernel) (e:N.take P.length=P:=by rfl) (f:∀x∈P,sc.names.lookup x=some .local\/sc.names.lookup x=some .cell:=by decide+kernel) (g:∀y∈sc.names,y.2≠ .free:=by decide+kernel):FnScope N P sc:=⟨a,b,c,d,e,f,g⟩
theorem hm{k n:Nat}{A:Around}(h:Room n A) (d:k<=n:=by decide):Room k A:=h.mono d
theorem pgc{X:Cx}{N':List Str}{scope:Scope}{cl:List (Str×Addr)}{C:Addr}{s₀:Shared}{H₀:Hp}{ex:List Addr}{pn:List (Addr×Obj)}(i:Nat){x:Str}{pos:Pos}(hN:N'.Nodup:=by decide) (hi:N'[i]?=some x:=by rfl) (hx:Loc (_V X N' scope cl C s₀ H₀ ex pn).env.scope x:=by first|exact .inl rfl|exact .inr rfl) (hf:(_V X N' scope cl C s₀ H₀ ex pn).fn x=true\/(_V X N' scope cl C s₀ H₀ ex pn).env.scope.names.lookup x=some .local:=by first|exact .inl rfl|exact .inr rfl|assumption):PG (_V X N' scope cl C s₀ H₀ ex pn) (.Name x pos) (_z0 i):=_qj hN hi hx hf
theorem pif0{X:Cx}{N':List Str}{scope:Scope}{cl:List (Str×Addr)}(C:Addr) (s₀:Shared) (H₀:Hp) (ex:List Addr) (pn:List (Addr×Obj)):PIfs (_V X N' scope cl C s₀ H₀ ex pn) [] _Qi:=.inl ⟨rfl,λ_ _ _ h=>h⟩
end DL
namespace MB
open PySem DL
theorem _qdv{n k:Nat}(h:n<2^k) (hk:k<=1000000):n<BIG:=by
 unfold BIG;exact lt_of_lt_of_le h (pow_le_pow_right (by decide) hk)
theorem _qdu{n k:Nat}(h:n<2^k) (hk:k<=9000):n<BIGD:=by
 unfold BIGD;exact lt_of_lt_of_le h (pow_le_pow_right (by decide) hk)
theorem _qsf(i:Int):(if i<0 then-i else i)=(i.natAbs:Int):=by split<;>omega
theorem _qfl{a b m n:Nat}(h:a<2^m) (h':b<2^n):a*b<2^(m+n):=by
 rw[pow_add];exact Nat.mul_lt_mul_of_lt_of_lt h h'
theorem _qrm{a b:Int}{k:Nat}(h:a.natAbs<2^k) (h':b.natAbs<2^k):Ea a b<2^k:=by
 by_cases ha:a=0
 ·subst ha;rw[Int.gcd_zero_left];exact h'
 ·have:Ea a b∣a.natAbs:=Nat.gcd_dvd_left _ _
  exact lt_of_le_of_lt (Lq (by omega) this) h
def rng(n:Nat):Nat:=max 1 (min n 30)
def Sz(k:Nat) (v:Int):Prop:=v.natAbs<2^k
theorem Sz.mono{a b:Nat}{v:Int}(h:Sz a v) (hab:a<=b):Sz b v:=lt_of_lt_of_le h (pow_le_pow_right (by decide) hab)
theorem Sz.mul{a b:Nat}{x y:Int}(h:Sz a x) (h':Sz b y):Sz (a+b) (x*y):=by
 unfold Sz;rw[Gh];exact _qfl h h'
theorem Sz.add{a:Nat}{x y:Int}(h:Sz a x) (h':Sz a y):Sz (a+1) (x+y):=by
 unfold Sz at*;rw[Mt];omega
theorem Sz.sub{a:Nat}{x y:Int}(h:Sz a x) (h':Sz a y):Sz (a+1) (x-y):=by
 unfold Sz at*;rw[Mt];omega
theorem Sz.big{a:Nat}{x:Int}(h:Sz a x) (ha:a<=1000000):x.natAbs<BIG:=_qdv h ha
theorem Sz.one:Sz 1 1:=by show(1:Int).natAbs<2^1;decide
def nf1(t b:Int):Int:=t/(Ea t b:Int)
def nf2(t b:Int):Int:=b/(Ea t b:Int)
section
variable{t b:Int}
theorem _V0(hb:0<b):0< (Ea t b:Int):=by
 have:Ea t b≠0:=λh=>by have:=(Int.gcd_eq_zero_iff.mp h).2;omega
 omega
theorem _qnq:nf1 t b*(Ea t b:Int)=t:=Lh (Int.gcd_dvd_left t b)
theorem _qnp:nf2 t b*(Ea t b:Int)=b:=Lh (Int.gcd_dvd_right t b)
theorem _qr0(hb:0<b):(nf1 t b).natAbs<=t.natAbs:=by
 have h1:=congrArg Int.natAbs (_qnq (t:=t) (b:=b));rw[Gh]at h1;rw[<-h1]
 have:=_V0 (t:=t) hb
 exact Jo _ (by omega)
theorem _qqz(hb:0<b):(nf2 t b).natAbs<=b.natAbs:=by
 have h1:=congrArg Int.natAbs (_qnp (t:=t) (b:=b));rw[Gh]at h1;rw[<-h1]
 have:=_V0 (t:=t) hb
 exact Jo _ (by omega)
end
def fr(p q:Int):D:=.tup [.int p,.int q]
def frD(a:Rat):D:=.tup [.int a.num,.int a.den]
theorem _qol{a b:Rat}(h:a.num=b.num) (h':(a.den:Int)=b.den):a=b:=Rat.ext h (by omega)
@[simp] theorem _qt5(a:Rat):imm (frD a)=true:=by simp[frD]
@[simp] theorem _qsk{n:Nat}(a:Rat):shp (n+1) (frD a)=true:=by simp[frD]
theorem _qhx(a b:Rat):eqD (frD a) (frD b)=decide (a=b):=by
 rw[Az];simp only[frD,eqD,_qw1,Bool.and_true,Df,beq_iff_eq,decide_eq_true_eq];exact⟨fun⟨h,h'⟩=>_qol h h',λh=>by subst h;exact⟨rfl,rfl⟩⟩
@[simp] theorem _qtk(a b:Rat):dEq (frD a) (frD b)=some (.bl (decide (a=b))):=by simp[dEq,_qhx]
@[simp] theorem _qtg(a b:Rat):dNe (frD a) (frD b)=some (.bl (!decide (a=b))):=by simp[dNe,_qhx]
theorem _qhl{t:Int}{b:Nat}(hb:b≠0):nf1 t b=(Rat.normalize t b hb).num/\nf2 t b=((Rat.normalize t b hb).den:Int):=by
 rw[Rat.normalize_eq];unfold nf1 nf2;have e:Ea t (b:Int)=t.natAbs.gcd b:=by simp[Ea]
 rw[e];exact⟨rfl,by rw[Int.natCast_ediv]⟩
theorem nf_mk{t:Int}{b:Nat}(hb:b≠0):D.tup [.int (nf1 t b),.int (nf2 t b)]=frD (mkRat t b):=by
 obtain⟨h1,h2⟩:=_qhl (t:=t) hb;rw[h1,h2,Dc];rfl
theorem den_pos(a:Rat):0< (a.den:Int):=by have:=a.den_pos;omega
theorem _qpf(a b:Rat):mkRat (a.num*b.den+b.num*a.den) (a.den*b.den)=a+b:=by rw[Rat.add_def,Dc]
theorem _qmc(a b:Rat):mkRat (a.num*b.den-b.num*a.den) (a.den*b.den)=a-b:=by rw[Rat.sub_def,Dc]
theorem _qnr(a b:Rat):mkRat (a.num*b.num) (a.den*b.den)=a*b:=by rw[Rat.mul_def,Dc]
def Bd(n d:Nat) (a:Rat):Prop:=a.num.natAbs<2^n/\a.den<2^d
theorem Bd.mono{n d n' d':Nat}{a:Rat}(h:Bd n d a) (hn:n<=n') (hd:d<=d'):Bd n' d' a:=⟨lt_of_lt_of_le h.1 (pow_le_pow_right (by decide) hn),lt_of_lt_of_le h.2 (pow_le_pow_right (by decide) hd)⟩
theorem Bd.num{n d:Nat}{a:Rat}(h:Bd n d a):Sz n a.num:=h.1
theorem Bd.den{n d:Nat}{a:Rat}(h:Bd n d a):Sz d (a.den:Int):=by show(a.den:Int).natAbs<2^d;rw[Bf];exact h.2
theorem Bd.mk{n d:Nat}{t:Int}{b:Nat}(hb:b≠0) (ht:Sz n t) (hd:b<2^d):Bd n d (mkRat t b):=by
 obtain⟨h1,h2⟩:=_qhl (t:=t) hb;rw[Dc]at h1 h2;have hp:(0:Int)<b:=by omega
 refine⟨?_,?_⟩
 ·rw[<-h1];exact lt_of_le_of_lt (_qr0 hp) ht
 ·have:=_qqz (t:=t) hp
  rw[h2]at this;omega
theorem Bd.add{n d m e:Nat}{a b:Rat}(ha:Bd n d a) (hb:Bd m e b):Bd (max (n+e) (m+d)+1) (d+e) (a+b):=by
 rw[<-_qpf];refine Bd.mk (mul_ne_zero a.den_nz b.den_nz) ?_ (_qfl ha.2 hb.2);exact Sz.add ((ha.num.mul hb.den).mono (J8 _ _)) ((hb.num.mul ha.den).mono (Jk _ _))
theorem Bd.sub{n d m e:Nat}{a b:Rat}(ha:Bd n d a) (hb:Bd m e b):Bd (max (n+e) (m+d)+1) (d+e) (a-b):=by
 rw[<-_qmc];refine Bd.mk (mul_ne_zero a.den_nz b.den_nz) ?_ (_qfl ha.2 hb.2);exact Sz.sub ((ha.num.mul hb.den).mono (J8 _ _)) ((hb.num.mul ha.den).mono (Jk _ _))
theorem Bd.mul{n d m e:Nat}{a b:Rat}(ha:Bd n d a) (hb:Bd m e b):Bd (n+m) (d+e) (a*b):=by
 rw[<-_qnr];exact Bd.mk (mul_ne_zero a.den_nz b.den_nz) (ha.num.mul hb.num) (_qfl ha.2 hb.2)
def ev{α:Type}:List α->List α
 | []=>[]
 | [x]=>[x]
 |x::_::l=>x::ev l
def od{α:Type}:List α->List α
 | []=>[]
 | [_]=>[]
 |_::y::l=>y::od l
theorem _Yo(n:Nat):Ap (n+1)=0::(Ap n).map (· +1):=by
 rw[List.range_succ_eq_map]
theorem _qd4{α:Type}:∀(l:List α),(Ap l.length).filterMap (l[·]?)=l
 | []=>rfl
 |x::l=>by
  rw[length_cons,_Yo];simp only[filterMap_cons,List.getElem?_cons_zero,List.filterMap_map,C4,List.getElem?_cons_succ];rw[_qd4 l]
theorem _xt{α:Type}(l:List α):_qls l none none (some (-1))=l.reverse:=by
 unfold _qls;have e:rngP (bndP none none (some (-1)) l.length).1 (bndP none none (some (-1)) l.length).2.1 (bndP none none (some (-1)) l.length).2.2=(Ap l.length).map λk=>l.length-1-k:=by
  have h1:¬ ((-1:Int)>0):=by decide
  have hc:(if((l.length:Int)-1)> -1 then((l.length:Int)-1- -1- -1-1)/(- -1)else 0).toNat=l.length:=by
   split
   ·simp
   ·omega
  simp only[bndP,rngP,Option.getD_some,h1,if_false,hc];apply map_congr_left;intro k hk
  have:=Ax.mp hk
  omega
 rw[e];have e1:((Ap l.length).map λk=>l.length-1-k)=(Ap l.length).reverse:=by
  apply ext_getElem
  ·simp
  ·intro i h1 h2
   simp
 rw[e1,List.filterMap_reverse,_qd4]
abbrev _qwp:=Int×List Int
def _r(l:List Int):D:=.lst (l.map .int)
def _zb(p:_qwp):D:=.tup [.int p.1,_r p.2]
def _I(h:List _qwp):D:=.lst (h.map _zb)
@[simp] theorem _qpt(l:List Int):imm (_r l)=false:=by simp[_r]
@[simp] theorem _qpk{n:Nat}(l:List Int):shp (n+1) (_r l)=true:=by simp[_r]
@[simp] theorem _qpj{n:Nat}(p:_qwp):shp (n+2) (_zb p)=true:=by simp[_zb]
@[simp] theorem _qpl{n:Nat}(h:List _qwp):shp (n+3) (_I h)=true:=by
 simp only[_I,_qh5];exact _Zu.mpr λd m=>by obtain⟨p,_,rfl⟩:=Ag.mp m;simp
@[simp] theorem _qps(p:_qwp):imm (_zb p)=false:=by simp[_zb]
@[simp] theorem _qpu(h:List _qwp):imm (_I h)=false:=by simp[_I]
theorem _J4(a b:List Int):eqD (_r a) (_r b)=decide (a=b):=by simp[_r,eqD,_qg2]
@[simp] theorem _qgc(a b:List Int):dEq (_r a) (_r b)=some (.bl (decide (a=b))):=by simp[dEq,_J4]
@[simp] theorem _qpv(a b:List Int):dNe (_r a) (_r b)=some (.bl (!decide (a=b))):=by simp[dNe,_J4]
theorem _qg3(p q:_qwp):eqD (_zb p) (_zb q)=decide (p=q):=by
 obtain⟨a,l⟩:=p;obtain⟨b,m⟩:=q;rw[Az];simp[_zb,eqD,_qw1,_J4]
theorem _qd6{α:Type} [DecidableEq α] {inj:α->D}(h:∀a b,eqD (inj a) (inj b)=decide (a=b)):∀(xs ys:List α),_qw1 (xs.map inj) (ys.map inj)=decide (xs=ys)
 | [],[]=>by simp[_qw1]
 | [],_::_=>by simp[_qw1]
 |_::_,[]=>by simp[_qw1]
 |x::xs,y::ys=>by rw[Az];simp[_qw1,h,_qd6 h xs ys]
theorem _Wx(h k:List _qwp):eqD (_I h) (_I k)=decide (h=k):=by
 simp only[_I,eqD];exact _qd6 _qg3 h k
@[simp] theorem _qq0(a b:List _qwp):dEq (_I a) (_I b)=some (.bl (decide (a=b))):=by simp[dEq,_Wx]
@[simp] theorem _qpw(a b:List _qwp):dNe (_I a) (_I b)=some (.bl (!decide (a=b))):=by simp[dNe,_Wx]
def has(l:List Int) (c:Int):Bool:=l.contains c
theorem _vm{l:List Int}{c:Int}:has l c=true↔c∈l:=by simp[has]
theorem _w6(c:Int) (l:List Int):((l.map D.int).any λy=>eqD y (.int c))=has l c:=by
 rw[Az,_vm];simp[any_eq_true,eqD]
@[simp] theorem _qry(c:Int) (l:List Int):dIn (.int c) (_r l)=some (.bl (has l c)):=by
 have:=_w6 c l
 simp only[_r,dIn,this];simp
@[simp] theorem _qly(c:Int) (l:List Int):_Zf (.int c) (_r l)=some (.bl (!has l c)):=by
 have:=_w6 c l
 simp only[_r,_Zf,this];simp
@[simp] theorem _qgb(p:_qwp):dIx (_zb p) (.int 0)=some (.int p.1):=_qga
@[simp] theorem _qpz(p:_qwp):dIx (_zb p) (.int 1)=some (_r p.2):=_qla
theorem _Vy(l:List Int):oD (ow (l.map .int))=some (_r l):=by simp[_r]
def atB{α:Type}(p:α->Bool):Option α->Bool
 |some x=>p x
 |none=>false
@[simp] theorem _qnu(l:List Int):_Jr (_r l)=some (l.map .int):=rfl
@[simp] theorem _qnv(h:List _qwp):_Jr (_I h)=some (h.map _zb):=rfl
@[simp] theorem _qpx(l:List Int):_qw3 [_r l]=some (.int l.length):=by simp[_r]
@[simp] theorem _qpy(h:List _qwp):_qw3 [_I h]=some (.int h.length):=by simp[_I]
@[simp] theorem _qpo(l:List Int):_qvq "list" (_r l)=some (.bl true):=rfl
@[simp] theorem _qpp(l:List _qwp):_qvq "list" (_I l)=some (.bl true):=rfl
@[simp] theorem _qpn(l:_qwp):_qvq "tuple" (_zb l)=some (.bl true):=rfl
@[simp] theorem _qrg(l:List Int):isT (_r l) "list"=true:=rfl
@[simp] theorem _qo2(l:List Int):_qhs [_r l]=some (l.map .int):=rfl
def _x2(m s:List Int):Bool:=s.all λc=>has m c
def agr(h:List _qwp) (s:List Int):List Int:=((Ap h.length).filter λi=>atB (λp:_qwp=>_x2 p.2 s) h[i]?).map fun(i:Nat)=>(i:Int)
theorem _Wy{α:Type}(inj:α->D) (h:List α):_qd7 (h.map inj)=((Ap h.length).zip h).map λq=>.tup [.int (q.1:Int),inj q.2]:=by
 unfold _qd7;rw[length_map];apply ext_getElem
 ·simp
 ·intro i h1 h2
  simp
theorem _qa4{α:Type}(p:α->Bool) (h:List α):((((Ap h.length).zip h).filter λq=>p q.2).map λq=>q.1)=(Ap h.length).filter λi=>atB p h[i]?:=by
 have key:∀(l:List Nat) (h':List α),(∀i∈l,i<h.length)->(l.zip h').length=l.length->(∀j (hj:j<l.length),h'[j]?=h[l[j]]?)->(((l.zip h').filter λq=>p q.2).map λq=>q.1)=l.filter λi=>atB p h[i]?:=by
  intro l
  induction l with
  |nil=>intro h' _ _ _;simp
  |cons i l ih=>
   intro h' hl hlen hget;cases h' with
   |nil=>simp at hlen
   |cons x h'=>
    have h0:=hget 0 (by simp);simp at h0;have ih':=ih h' (λj m=>hl j (mem_cons_of_mem _ m)) (by simpa using hlen) (λj hj=>by have:=hget (j+1) (by simpa using hj);simpa using this);have e:atB p h[i]?=p x:=by rw[<-h0];rfl
    rw[Ii,filter_cons,filter_cons];simp only[e];cases p x with
    |true=>simp[ih']
    |false=>simpa using ih'
 exact key (Ap h.length) h (λi m=>Ax.mp m) (by simp) (λj hj=>by simp)
end MB
namespace MT
open MB DL
theorem lex_irr:∀s,_qvn s s=false:=by
 intro s
 induction s with
 |nil=>rfl
 |cons a s ih=>simp[_qvn,ih]
theorem lex_tr:∀{s t u},_qvn s t=true->_qvn t u=true->_qvn s u=true:=by
 intro s
 induction s with
 |nil=>
  intro t u h1 h2;cases u with
  |nil=>cases t<;>simp[_qvn]at h2
  |cons _ _=>rfl
 |cons a s ih=>
  intro t u h1 h2;cases t with
  |nil=>simp[_qvn]at h1
  |cons b t=>
   cases u with
   |nil=>simp[_qvn]at h2
   |cons c u=>
    simp only[_qvn,Ka,Df,decide_eq_true_eq]at h1 h2⊢;rcases h1 with h1|⟨rfl,h1⟩<;>rcases h2 with h2|⟨rfl,h2⟩
    ·left;omega
    ·left;exact h1
    ·left;exact h2
    ·right;exact⟨rfl,ih h1 h2⟩
theorem lex_tot:∀s t,_qvn s t=false->s≠t->_qvn t s=true:=by
 intro s
 induction s with
 |nil=>intro t h1 h2;cases t with
  |nil=>exact absurd rfl h2
  |cons _ _=>simp[_qvn]at h1
 |cons a s ih=>
  intro t h1 h2;cases t with
  |nil=>rfl
  |cons b t=>
   simp only[_qvn,Ka,Df,decide_eq_true_eq,Bool.or_eq_false_iff,Bool.and_eq_false_iff,decide_eq_false_iff_not]at h1⊢
   by_cases e:a=b
   ·subst e
    right
    refine⟨rfl,ih t ?_ ?_⟩
    ·rcases h1.2 with h|h
     ·exact absurd rfl h
     ·exact h
    ·intro e;exact h2 (by rw[e])
   ·left;omega
theorem _qhp{m x:List Int}{ks:List (List Int)}:x∈_qvr m ks↔x=m\/x∈ks:=by
 induction ks with
 |nil=>simp[_qvr]
 |cons k ks ih=>
  simp only[_qvr];split
  ·rename_i e;subst e;simp
  ·split
   ·simp
   ·simp only[mem_cons,ih]
    constructor
    ·rintro(h|h|h)<;>simp[h]
    ·rintro(h|h|h)<;>simp[h]
theorem mem_keys{x:List Int}{l:List (List Int)}:x∈_ju l↔x∈l:=by
 induction l with
 |nil=>simp[_ju]
 |cons a l ih=>simp only[_ju,List.foldr_cons,_qhp,mem_cons]at ih⊢;rw[ih]
theorem _qhu(m:List Int):∀ks:List (List Int),(_qvr m ks).length<=ks.length+1
 | []=>by simp[_qvr]
 |k::ks=>by
  unfold _qvr
  have:=_qhu m ks
  split
  ·simp
  ·split
   ·simp
   ·simp;omega
theorem keys_len(l:List (List Int)):(_ju l).length<=l.length:=by
 induction l with
 |nil=>simp[_ju]
 |cons a l ih=>
  have:=_qhu a (_ju l)
  have e:_ju (a::l)=_qvr a (_ju l):=rfl;rw[e]
  simp;omega
def Ris(ks:List (List Int)):Prop:=ks.Pairwise λa b=>_qvn a b=true
theorem _qo9{m:List Int}{ks:List (List Int)}(h:Ris ks):Ris (_qvr m ks):=by
 induction ks with
 |nil=>simp[_qvr,Ris]
 |cons k ks ih=>
  simp only[Ris,pairwise_cons]at h ih;simp only[_qvr];split
  ·simpa[Ris]using h
  ·rename_i e
   split
   ·rename_i e2
    simp only[Ris,pairwise_cons,mem_cons];refine⟨?_,h⟩;rintro x (rfl|hx)
    ·exact e2
    ·exact lex_tr e2 (h.1 x hx)
   ·rename_i e2
    simp only[Ris,pairwise_cons];refine⟨?_,ih h.2⟩;intro x hx;rcases _qhp.mp hx with rfl|hx
    ·exact lex_tot _ _ (by simpa using e2) e
    ·exact h.1 x hx
theorem keys_ris(l:List (List Int)):Ris (_ju l):=by
 induction l with
 |nil=>simp[_ju,Ris]
 |cons a l ih=>exact _qo9 ih
theorem ris_eq:∀{a b:List (List Int)},Ris a->Ris b->(∀x,x∈a↔x∈b)->a=b:=by
 intro a
 induction a with
 |nil=>
  intro b _ _ h;cases b with
  |nil=>rfl
  |cons x _=>exact absurd ((h x).mpr (by simp)) (by simp)
 |cons x a ih=>
  intro b ha hb h;cases b with
  |nil=>exact absurd ((h x).mp (by simp)) (by simp)
  |cons y b=>
   simp only[Ris,pairwise_cons]at ha hb;have exy:x=y:=by
    rcases An.mp ((h x).mp (by simp))with e|hx
    ·exact e
    ·rcases An.mp ((h y).mpr (by simp))with e|hy
     ·exact e.symm
     ·have:=lex_tr (hb.1 x hx) (ha.1 y hy)
      rw[lex_irr]at this;exact absurd this (by simp)
   subst exy;congr 1;refine ih ha.2 hb.2 λz=>?_;have nx:∀{c:List (List Int)},(∀w∈c,_qvn x w=true)->x∉c:=λhc hm=>by
    have:=hc x hm;rw[lex_irr]at this;exact absurd this (by simp)
   constructor
   ·intro hz
    rcases An.mp ((h z).mp (by simp[hz]))with e|hz'
    ·subst e;exact absurd hz (nx ha.1)
    ·exact hz'
   ·intro hz
    rcases An.mp ((h z).mpr (by simp[hz]))with e|hz'
    ·subst e;exact absurd hz (nx hb.1)
    ·exact hz'
theorem wt_none{h:List _qwp}{m:List Int}(n:m∉h.map λp=>p.2):wtK h m=0:=by
 have:(h.filter λp=>decide (p.2=m))=[]:=by
  rw[List.filter_eq_nil_iff];intro p hp;simp only[decide_eq_true_eq];intro e;exact n (by rw[<-e];exact List.mem_map_of_mem hp)
 simp[wtK,this]
theorem wt_append(h k:List _qwp) (m:List Int):wtK (h++k) m=wtK h m+wtK k m:=by simp[wtK]
end MT
namespace L2
open PySem PySem.Spec PyProof.Rows
section
variable{κ:Type} [DecidableEq κ]
def _quw(kvs:List (κ×V)) (k:κ):Option V:=(kvs.find? λkv=>decide (kv.1=k)).map (·.2)
def _qvc(kvs:List (κ×V)) (k:κ) (v:V):List (κ×V):=
 if(kvs.any λkv=>decide (kv.1=k))=true then kvs.map (λkv=>if kv.1=k then(kv.1,v)else kv)else kvs++[(k,v)]
def _qg5(kvs:List (κ×V)) (k:κ):List (κ×V):=kvs.filter λkv=>decide (kv.1≠k)
theorem _qq{p:κ×V}{r:List (κ×V)}{k:κ}(e:p.1=k):_quw (p::r) k=some p.2:=by simp[_quw,find?_cons,e]
theorem _qr{p:κ×V}{r:List (κ×V)}{k:κ}(e:¬p.1=k):_quw (p::r) k=_quw r k:=by simp[_quw,find?_cons,e]
theorem _xo(k:κ):∀kvs:List (κ×V),(kvs.any λkv=>decide (kv.1=k))=(_quw kvs k).isSome
 | []=>rfl
 |p::r=>by
  rw[any_cons]
  by_cases e:p.1=k
  ·simp only[_qq e,decide_eq_true e,Bool.true_or,Option.isSome_some]
  ·rw[_qr e,decide_eq_false e,Bool.false_or];exact _xo k r
theorem _qac(k j:κ) (y:V):∀kvs:List (κ×V),_quw (kvs.map λkv=>if kv.1=k then(kv.1,y)else kv) j=(_quw kvs j).map λx=>if j=k then y else x
 | []=>rfl
 |p::r=>by
  have ih:=_qac k j y r;rw[map_cons]
  by_cases h:p.1=k
  ·rw[if_pos h]
   by_cases e:p.1=j
   ·rw[_qq (p:=(p.1,y)) e,_qq e,Option.map_some,if_pos (e.symm.trans h)]
   ·rw[_qr (p:=(p.1,y)) e,_qr e,ih]
  ·rw[if_neg h]
   by_cases e:p.1=j
   ·rw[_qq (p:=p) e,_qq e,Option.map_some,if_neg (λz=>h (e.trans z))]
   ·rw[_qr (p:=p) e,_qr e,ih]
theorem _Ks(k j:κ) (y:V):∀kvs:List (κ×V),_quw kvs k=none->_quw (kvs++[(k,y)]) j=if j=k then some y else _quw kvs j
 | [],_=>by
  by_cases e:k=j
  ·rw[if_pos e.symm];exact _qq (p:=(k,y)) e
  ·rw[if_neg (λz=>e z.symm)];exact _qr (p:=(k,y)) e
 |p::r,hn=>by
  rw[List.cons_append];have hk:¬p.1=k:=λz=>by rw[_qq z]at hn;cases hn
  rw[_qr hk]at hn;have ih:=_Ks k j y r hn
  by_cases e:p.1=j
  ·rw[_qq e,_qq e,if_neg (λz=>hk (e.trans z))]
  ·rw[_qr e,_qr e,ih]
theorem _qid(kvs:List (κ×V)) (k j:κ) (y:V):_quw (_qvc kvs k y) j=if j=k then some y else _quw kvs j:=by
 unfold _qvc
 by_cases a:(kvs.any λkv=>decide (kv.1=k))=true
 ·rw[if_pos a,_qac]
  rw[_xo]at a
  by_cases e:j=k
  ·obtain⟨x,hx⟩:=Jf.mp a
   rw[if_pos e,e,hx,Option.map_some,if_pos rfl]
  ·rw[if_neg e]
   cases _quw kvs j with
   |none=>rfl
   |some x=>rw[Option.map_some,if_neg e]
 ·rw[if_neg a]
  refine _Ks k j y kvs ?_;rw[_xo]at a;cases q:_quw kvs k with
  |none=>rfl
  |some x=>rw[q]at a;exact(a rfl).elim
theorem _v7(kvs:List (κ×V)) (k:κ) (v:V):(_qvc kvs k v).length<=kvs.length+1:=by
 unfold _qvc;split
 ·rw[length_map];omega
 ·rw[length_append,length_cons,List.length_nil];omega
theorem _qwn.isSome_eq{o:Option V}{u:Option Value}(r:_qwn o u):o.isSome=u.isSome:=by
 cases o with
 |none=>cases u with
  |none=>rfl
  |some _=>exact(show False from r).elim
 |some _=>cases u with
  |none=>exact(show False from r).elim
  |some _=>rfl
theorem _qwn.getD{o:Option V}{u:Option Value}{d:V}{d':Value}(r:_qwn o u) (rd:_qwm d d'):_qwm (o.getD d) (u.getD d'):=by
 cases o with
 |none=>cases u with
  |none=>exact rd
  |some _=>exact(show False from r).elim
 |some _=>cases u with
  |none=>exact(show False from r).elim
  |some _=>exact r
theorem KV.val{kvs:List (κ×V)}{vs:List (κ×Value)}(r:KV kvs vs) (k:κ):_qwn (_quw kvs k) (Lc vs k):=by
 unfold KV at r
 induction r with
 |nil=>exact True.intro
 | @cons p q ps qs h t ih=>
  obtain⟨h1,h2⟩:=h
  by_cases e:p.1=k
  ·have e':q.1=k:=h1.symm.trans e
   have b:Lc (q::qs) k=some q.2:=by simp[Lc,find?_cons,e']
   rw[_qq e,b];exact h2
  ·have e':¬q.1=k:=λz=>e (h1.trans z)
   have b:Lc (q::qs) k=Lc qs k:=by simp[Lc,find?_cons,e']
   rw[_qr e,b];exact ih
theorem KV.any{kvs:List (κ×V)}{vs:List (κ×Value)}(r:KV kvs vs) (k:κ):(kvs.any λkv=>decide (kv.1=k))=vs.any λkv=>decide (kv.1=k):=by
 unfold KV at r
 induction r with
 |nil=>rfl
 |cons h t ih=>rw[any_cons,any_cons,ih,h.1]
theorem KV.repl{kvs:List (κ×V)}{vs:List (κ×Value)}(r:KV kvs vs) (k:κ){y:V}{u:Value}(ry:_qwm y u):
  KV (kvs.map λkv=>if kv.1=k then(kv.1,y)else kv) (vs.map λkv=>if kv.1=k then(kv.1,u)else kv):=by
 unfold KV at r⊢
 induction r with
 |nil=>exact .nil
 | @cons p q ps qs h t ih=>
  rw[map_cons,map_cons];refine .cons ?_ ih;obtain⟨h1,h2⟩:=h
  by_cases e:p.1=k
  ·rw[if_pos e,if_pos (h1.symm.trans e)];exact⟨h1,ry⟩
  ·rw[if_neg e,if_neg (λz=>e (h1.trans z))];exact⟨h1,h2⟩
theorem KV.put{kvs:List (κ×V)}{vs:List (κ×Value)}(r:KV kvs vs) (k:κ){y:V}{u:Value}(ry:_qwm y u):KV (_qvc kvs k y) (stored vs k u):=by
 unfold _qvc stored;rw[r.any k]
 by_cases e:(vs.any λkv=>decide (kv.1=k))=true
 ·rw[if_pos e,if_pos e];exact r.repl k ry
 ·rw[if_neg e,if_neg e];exact Paired.snoc r ⟨rfl,ry⟩
theorem KV.drop{kvs:List (κ×V)}{vs:List (κ×Value)}(r:KV kvs vs) (k:κ):KV (_qg5 kvs k) (without vs k):=by
 unfold KV at r⊢;unfold _qg5 without
 induction r with
 |nil=>exact .nil
 | @cons p q ps qs h t ih=>
  obtain⟨h1,h2⟩:=h;rw[filter_cons,filter_cons]
  by_cases e:p.1=k
  ·have a:¬decide (p.1≠k)=true:=by simp[e]
   have b:¬decide (q.1≠k)=true:=by simp[h1.symm.trans e]
   rw[if_neg a,if_neg b];exact ih
  ·have e':¬q.1=k:=λz=>e (h1.trans z)
   have a:decide (p.1≠k)=true:=by simp[e]
   have b:decide (q.1≠k)=true:=by simp[e']
   rw[if_pos a,if_pos b];exact .cons ⟨h1,h2⟩ ih
theorem KV.length{kvs:List (κ×V)}{vs:List (κ×Value)}(r:KV kvs vs):kvs.length=vs.length:=Paired.length r
theorem _ql7(kvs:List (κ×V)) (k:κ):(_qg5 kvs k).length<=kvs.length:=length_filter_le _ _
end
theorem _qlw{P:Ak}{w:World}{k:Key}{u:Value}(r:_qwm (kV k) u):(_qp P w).is k u=true:=by
 cases k with
 |inl i=>obtain⟨t,e⟩:=(show∃t,u=Value.int i t from r);subst e;exact _Yu P w i t
 |inr x=>obtain⟨t,e⟩:=(show∃t,u=Value.str x t from r);subst e;exact _Yt P w x t
theorem _Wr{P:Ak}{w:World}:∀{ks:List Key}{us:List Value},_qwi (ks.map kV) us->ItemsAre (_qp P w) ks us
 | [],_,r=>by rw[map_nil]at r;cases r;exact .nil
 |k::ks,_,r=>by
  rw[map_cons]at r;cases r with
  |cons h t=>exact .cons (_qlw h) (_Wr t)
abbrev KT(H:Hp):List (List Key×V)->List (List Key×Addr×Value)->Prop:=Paired λp q=>p.1=q.1/\H q.2.1=some (.tup (p.1.map kV))/\_qwm p.2 q.2.2
theorem KT.val{H:Hp}{kvs:List (List Key×V)}{xs:List (List Key×Addr×Value)}(r:KT H kvs xs) (k:List Key):_qwn (_quw kvs k) ((atKey xs k).map (·.2)):=by
 induction r with
 |nil=>exact True.intro
 | @cons p q ps qs h t ih=>
  obtain⟨h1,_,h2⟩:=h
  by_cases e:p.1=k
  ·have e':q.1=k:=h1.symm.trans e
   have b:atKey (q::qs) k=some q.2:=by simp[atKey,find?_cons,e']
   rw[_qq e,b];exact h2
  ·have e':¬q.1=k:=λz=>e (h1.trans z)
   have b:atKey (q::qs) k=atKey qs k:=by simp[atKey,find?_cons,e']
   rw[_qr e,b];exact ih
theorem KT.repl{H:Hp}{kvs:List (List Key×V)}{xs:List (List Key×Addr×Value)}(r:KT H kvs xs) (k:List Key){y:V}{u:Value}(ry:_qwm y u):
  KT H (kvs.map λkv=>if kv.1=k then(kv.1,y)else kv) (xs.map (putAt k u)):=by
 induction r with
 |nil=>exact .nil
 | @cons p q ps qs h t ih=>
  rw[map_cons,map_cons];refine .cons ?_ ih;obtain⟨h1,h2,h3⟩:=h;unfold putAt
  by_cases e:p.1=k
  ·rw[if_pos e,if_pos (h1.symm.trans e)];exact⟨h1,h2,ry⟩
  ·rw[if_neg e,if_neg (λz=>e (h1.trans z))];exact⟨h1,h2,h3⟩
theorem KT.put{H:Hp}{kvs:List (List Key×V)}{xs:List (List Key×Addr×Value)}(r:KT H kvs xs) (k:List Key){b:Addr}{y:V}{u:Value}(hb:H b=some (.tup (k.map kV))) (ry:_qwm y u):
  KT H (_qvc kvs k y) (storedH xs k b u):=by
 have e:(kvs.any λkv=>decide (kv.1=k))=(atKey xs k).isSome:=by
  rw[_xo,(r.val k).isSome_eq,isSome_map]
 unfold _qvc storedH;rw[e]
 by_cases q:(atKey xs k).isSome=true
 ·rw[if_pos q,if_pos q];exact r.repl k ry
 ·rw[if_neg q,if_neg q];exact Paired.snoc r ⟨rfl,hb,ry⟩
theorem KT.keeps{H H':Hp}{kvs:List (List Key×V)}{xs:List (List Key×Addr×Value)}(r:KT H kvs xs) (ht:∀b ys,H b=some (.tup ys)->H' b=some (.tup ys)):KT H' kvs xs:=
 Paired.mapP r λ_ _ z=>⟨z.1,ht _ _ z.2.1,z.2.2⟩
section
variable{P:Ak}{w:World}{H:Hp}{h:Heap}{a:Addr}
theorem rd_of{u:HO}(ok:HOk P w H h) (e:Rd H a u):_z5 P w H h a u:=e.ok ok
theorem _ql8{kvs:List (Key×V)}(ok:HOk P w H h) (e:Rd H a (.dK kvs)):kvs.length<=Aj/\(a==Ca)=false/\∃vs,KV kvs vs/\h.DictOf (_qp P w) a vs:=
 show _z5 P w H h a (.dK kvs)from rd_of ok e
theorem dk_of{kvs:List (Key×V)}(ok:HOk P w H h) (e:H a=some (.dK kvs)):kvs.length<=Aj/\(a==Ca)=false/\∃vs,KV kvs vs/\h.DictOf (_qp P w) a vs:=_ql8 ok (.inl e)
theorem _Vu{ks:List Key}(ok:HOk P w H h) (e:H a=some (.tup (ks.map kV))):(Fv (_qp P w)).is h ks a:=by
 obtain⟨_,its,r,o,h1,h2,n,h3⟩:=(show _z5 P w H h a (.tup (ks.map kV))from ok a _ e);exact⟨o,its.toArray,n,h1,h2,h3,by simpa using _Wr r⟩
theorem _ql2{kvs:List (List Key×V)}(ok:HOk P w H h) (e:Rd H a (.dT kvs)):kvs.length<=Aj/\(a==Ca)=false/\
  ∃xs,KT H kvs xs/\h.DictOfH (Fv (_qp P w)) a xs:=by
 obtain⟨z,y,xs,r,o,es,ep,h1,h2,h3,h4,h5⟩:=(show _z5 P w H h a (.dT kvs)from rd_of ok e);refine⟨z,y,xs,r,o,es,ep,h1,h2,h3,h4,λx hx=>?_,h5⟩;have all:∀{l:List (List Key×V)}{m:List (List Key×Addr×Value)},KT H l m->∀x∈m,(Fv (_qp P w)).is h x.1 x.2.1:=by
  intro l m q
  induction q with
  |nil=>intro x hx;exact nomatch hx
  | @cons p q ps qs hq t ih=>
   intro x hx;rcases An.mp hx with e|hx
   ·subst e
    exact _Vu ok (by rw[<-hq.1];exact hq.2.1)
   ·exact ih x hx
 exact all r x hx
theorem dt_of{kvs:List (List Key×V)}(ok:HOk P w H h) (e:H a=some (.dT kvs)):kvs.length<=Aj/\(a==Ca)=false/\
  ∃xs,KT H kvs xs/\h.DictOfH (Fv (_qp P w)) a xs:=_ql2 ok (.inl e)
end
def _qww(H:Hp) (a:Addr) (y:V) (r:Option V):Prop:=
 (∃kvs k,Rd H a (.dK kvs)/\y=kV k/\r=_quw kvs k)\/ ∃kvs k b,Rd H a (.dT kvs)/\y=.ref b/\H b=some (.tup (k.map kV))/\r=_quw kvs k
def DPut(H:Hp) (a:Addr) (y v:V) (H':Hp):Prop:=
 (∃kvs k,H a=some (.dK kvs)/\y=kV k/\kvs.length<Aj/\H'=upd H a (.dK (_qvc kvs k v)))\/
 ∃kvs k b,H a=some (.dT kvs)/\y=.ref b/\H b=some (.tup (k.map kV))/\kvs.length<Aj/\H'=upd H a (.dT (_qvc kvs k v))
theorem _qww.t{H:Hp}{a b:Addr}{kvs:List (List Key×V)}{k:List Key}(e:H a=some (.dT kvs)) (eb:H b=some (.tup (k.map kV))):_qww H a (.ref b) (_quw kvs k):=.inr ⟨kvs,k,b,.inl e,rfl,eb,rfl⟩
theorem DPut.t{H:Hp}{a b:Addr}{kvs:List (List Key×V)}{k:List Key}{v:V}(e:H a=some (.dT kvs)) (eb:H b=some (.tup (k.map kV))) (hl:kvs.length<Aj):
  DPut H a (.ref b) v (upd H a (.dT (_qvc kvs k v))):=.inr ⟨kvs,k,b,e,rfl,eb,hl,rfl⟩
section
variable{X:Cx}{pins:List (Addr×Obj)}{σ:St}{H:Hp}{s:Shared}{a:Addr}{y v:V}{u r:Value}{o:Option V}{A:Around}{E:Value->Shared->Prop}
theorem Inv.big(I:Inv X pins σ H s):Ca<s.heap.objs.size:=by
 have h:Ar<s.heap.objs.size:=(I.mod.glob.keeps I.bk).lt;exact lt_trans (by decide) h
theorem _qg8{Q:Value->Shared->Prop}(hu:A.units+1<cLine) (I:Inv X pins σ H s) (g:_qww H a y (some v)) (ry:_qwm y u) (h:∀w' s',Inv X pins σ H s'->_qwm v w'->Q w' s'):
  wpAny (model X.prog X.w) A (Mg (.ref a) u) Q E s:=by
 rcases g with⟨kvs,k,e,ey,l⟩|⟨kvs,k,b,e,ey,eb,l⟩
 ·subst ey
  obtain⟨z,hd,vs,rel,dd⟩:=_ql8 I.hok e;obtain⟨w',hw,rw'⟩:=_qwn.some_of (v:=v) (o:=Lc vs k) (by rw[l];exact rel.val k);exact wpAny_getItem_of (_qlw ry) dd.mapOf hw (h w' _ (I.tok _) rw')
 ·subst ey
  cases(show u=Value.ref b from ry);obtain⟨z,hd,xs,rel,dd⟩:=_ql2 I.hok e;obtain⟨w',hw,rw'⟩:=_qwn.some_of (v:=v) (o:=(atKey xs k).map (·.2)) (by rw[l];exact rel.val k);obtain⟨p,hp,hp2⟩:=C7.mp hw;refine wpAny_getItem_heap (Ct hu) (_Vu I.hok eb) dd hp ?_;rw[hp2];exact h w' _ (I.tok _) rw'
theorem d_in{Q:Value->Shared->Prop}(hu:A.units+1<cLine) (I:Inv X pins σ H s) (g:_qww H a y o) (ry:_qwm y u) (h:∀s',Inv X pins σ H s'->Q (.bool o.isSome) s'):
  wpAny (model X.prog X.w) A (Bn .In u (.ref a)) Q E s:=by
 rcases g with⟨kvs,k,e,ey,l⟩|⟨kvs,k,b,e,ey,eb,l⟩
 ·subst ey
  obtain⟨z,hd,vs,rel,dd⟩:=_ql8 I.hok e;refine wpAny_in_of (_qlw ry) hd dd.mapOf ?_;rw[<- (rel.val k).isSome_eq,<-l];exact h _ (I.tok _)
 ·subst ey
  cases(show u=Value.ref b from ry);obtain⟨z,hd,xs,rel,dd⟩:=_ql2 I.hok e;refine wpAny_in_heap (Ct hu) (_Vu I.hok eb) hd dd ?_;have q:=(rel.val k).isSome_eq;rw[isSome_map]at q;rw[<-q,<-l];exact h _ (I.tok _)
theorem _qox{Q:Value->Shared->Prop}(hu:A.units+1<cLine) (I:Inv X pins σ H s) (g:_qww H a y o) (ry:_qwm y u) (h:∀s',Inv X pins σ H s'->Q (.bool (!o.isSome)) s'):
  wpAny (model X.prog X.w) A (Bn .NotIn u (.ref a)) Q E s:=by
 rcases g with⟨kvs,k,e,ey,l⟩|⟨kvs,k,b,e,ey,eb,l⟩
 ·subst ey
  obtain⟨z,hd,vs,rel,dd⟩:=_ql8 I.hok e;refine wpAny_notIn_of (_qlw ry) hd dd.mapOf ?_;rw[<- (rel.val k).isSome_eq,<-l];exact h _ (I.tok _)
 ·subst ey
  cases(show u=Value.ref b from ry);obtain⟨z,hd,xs,rel,dd⟩:=_ql2 I.hok e;refine wpAny_notIn_heap (Ct hu) (_Vu I.hok eb) hd dd ?_;have q:=(rel.val k).isSome_eq;rw[isSome_map]at q;rw[<-q,<-l];exact h _ (I.tok _)
theorem _qde{h':Heap}{t':Nat}{ob:HO}(I:Inv X pins σ H s) (mu:Mut (H a)) (hs:Heap.SameBut a s.heap h') (he:∃q,h'.get? a=some q) (new:_z5 X.prog X.w (upd H a ob) h' a ob):
  Inv X pins σ (upd H a ob) {s with heap:=h',toks:=t'}:=
 I.write (x:=a) (e:=a) mu (.inl rfl) (λb q hb z=>(hs.2 b hb).trans z) he new
theorem _qru{P:Ak}{w:World}{H':Hp}{h':Heap}{kvs:List (Key×V)}{vs:List (Key×Value)}(z:kvs.length<=Aj) (hd:(a==Ca)=false) (rel:KV kvs vs) (dd:h'.DictOf (_qp P w) a vs):
  _z5 P w H' h' a (.dK kvs):=⟨z,hd,vs,rel,dd⟩
theorem _qg7{H':Hp}{Q:Unit->Shared->Prop}(hu:A.units+1<cLine) (I:Inv X pins σ H s) (g:DPut H a y v H') (ry:_qwm y u) (rv:_qwm v r) (h:∀s',Inv X pins σ H' s'->Q () s'):
  wpAny (model X.prog X.w) A (setItem (.ref a) u r) Q E s:=by
 rcases g with⟨kvs,k,e,ey,l,eH⟩|⟨kvs,k,b,e,ey,eb,l,eH⟩
 ·subst ey eH
  obtain⟨z,hd,vs,rel,dd⟩:=dk_of I.hok e;have hz:vs.length<=Aj:=by rw[<-rel.length];exact z
  have hl:(_qvc kvs k v).length<=Aj:=by have:=_v7 kvs k v;omega
  refine wpAny_setItem_pairs (hsz:=hz) (_qlw ry) dd λh' dd' hs=>h _ ?_;have he:∃q,h'.get? a=some q:=let⟨q,_,_,hq,_⟩:=dd';⟨q,hq⟩;exact _qde I (by rw[e];exact True.intro) hs he (_qru hl hd (rel.put k rv) dd')
 ·subst ey eH
  cases(show u=Value.ref b from ry);obtain⟨z,hd,xs,rel,dd⟩:=dt_of I.hok e;have hz:xs.length<=Aj:=by rw[<-Paired.length rel];exact z
  have hl:(_qvc kvs k v).length<=Aj:=by have:=_v7 kvs k v;omega
  refine wpAny_setItem_heap (hsz:=hz) (Ct hu) (_Vu I.hok eb) dd λh' dd' hs=>h _ ?_;obtain⟨q,es,ep,hq,h2,h3,h4,_,h5⟩:=dd';refine _qde I (by rw[e];exact True.intro) hs ⟨q,hq⟩ ⟨hl,hd,_,(rel.put k eb rv).keeps λc ys ec=>?_,q,es,ep,hq,h2,h3,h4,h5⟩;rw[_f (_xf ec e (λz=>nomatch z))];exact ec
end
section
variable{X:Cx}{pins:List (Addr×Obj)}{σ:St}{H:Hp}{s:Shared}{a:Addr}{kvs:List (Key×V)}{k:Key}{u:Value}{A:Around}{E:Value->Shared->Prop}
end
def NoSl(i:Expr):Prop:=∀ov iv,Ks i false ov iv=operate [ov,iv] (Mg ov iv)
theorem _qmd{prog:Ak}{w:World}{A:Around}{E:Value->Shared->Prop}{s:Shared}{env:Env}{value slice:Expr}{pos:Pos}{T id:String}{Q:Value->Shared->Prop}
  (hl:Lw (.type T) "__getitem__"=pure (some (.builtin id))) (hs:NoSl slice)
  (h:wpAny (model prog w) A (eval value env) (λo s₁=>wpAny (model prog w) A (eval slice env) (λi s₂=>s₂.TypeIs o T/\wpAny (model prog w) A (Mg o i) Q E s₂) E s₁) E s):
  wpAny (model prog w) A (eval (.Subscript value slice pos) env) Q E s:=by
 refine Lx (Bk h (λo s₁ h₁=>Bk h₁ (λi s₂ h₂=>?_) λ_ _ x=>x) λ_ _ x=>x);obtain⟨hT,h₂⟩:=h₂;unfold Jg;refine Ac ?_;rw[getitemInPython_of_ne hT.not_modules];refine Ac (Hf hT hl ?_);have fin:wpAny (model prog w) A (Ks slice false o i) (λr s₃=>wpAny (model prog w) A (letTemporaryGo value o r>>=λ_=>pure r) Q E s₃) E s₂:=by
  rw[hs o i];exact wpAny_operating (Bk h₂ (λr s₃ h₃=>Ac (wpAny_letTemporaryGo (Ad h₃))) λ_ _ x=>x)
 first
  |exact Ad (Ac fin)
  |exact Ac (Ad (Ac fin))
  |exact Ac fin
theorem _Y2{X:Cx}{pins:List (Addr×Obj)}{σ:St}{H:Hp}{s:Shared}{a:Addr}{y:V}{o:Option V}(I:Inv X pins σ H s) (g:_qww H a y o):s.TypeIs (.ref a) "dict":=by
 rcases g with⟨kvs,k,e,_,_⟩|⟨kvs,k,b,e,_,_,_⟩
 ·obtain⟨_,_,vs,_,dd⟩:=_ql8 I.hok e
  exact dd.typeIs
 ·obtain⟨_,_,xs,_,dd⟩:=_ql2 I.hok e
  exact dd.typeIs
def tDGet(td ty:TE):TE:=λσ H Q=>td σ H λx H1=>ty σ H1 λy H2=>∃a v,x=.ref a/\_qww H2 a y (some v)/\Q v H2
def tDIn(ty td:TE):TE:=λσ H Q=>ty σ H λy H1=>td σ H1 λx H2=>∃a o,x=.ref a/\_qww H2 a y o/\Q (.bl o.isSome) H2
def tDNotIn(ty td:TE):TE:=λσ H Q=>ty σ H λy H1=>td σ H1 λx H2=>∃a o,x=.ref a/\_qww H2 a y o/\Q (.bl (!o.isSome)) H2
def sDPut(td ty tv:TE):TS:=λD σ H=>tv σ H λv H1=>td σ H1 λx H2=>ty σ H2 λy H3=>∃a H4,x=.ref a/\DPut H3 a y v H4/\D.nx σ H4
section
variable{X:Cx}{o i e value:Expr}{pos pos' tpos:Pos}{td ty tv:TE}
theorem _K5(hu:X.A.units+1<cLine) (ho:PE X o td) (hi:PE X i ty) (hs:NoSl i):PE X (.Subscript o i pos) (tDGet td ty):=by
 intro pins s σ H Q I h;refine _qmd PySem.F.slot_dict_getitem.lookup hs (thn (ho pins s σ H _ I h) λu s1 ⟨x,H1,I1,rx,q1⟩=>thn (hi pins s1 σ H1 _ I1 q1) λiv s2 hQ=>?_);obtain⟨y,H2,I2,ry,a,v,ex,g,q2⟩:=hQ;subst ex;obtain rfl:u=Value.ref a:=rx;exact⟨_Y2 I2 g,_qg8 hu I2 g ry λw' s3 I3 rw'=>⟨v,H2,I3,rw',q2⟩⟩
theorem _qqj(hu:X.A.units+1<cLine) (hi:PE X i ty) (ho:PE X o td):PC X .In i o (tDIn ty td):=by
 intro pins s σ H Q I h;refine thn (hi pins s σ H _ I h) λiv s1 ⟨y,H1,I1,ry,q1⟩=>thn (ho pins s1 σ H1 _ I1 q1) λu s2 hQ=>?_;obtain⟨x,H2,I2,rx,a,ov,ex,g,q2⟩:=hQ;subst ex;obtain rfl:u=Value.ref a:=rx;exact d_in hu I2 g ry λs3 I3=>⟨.bl ov.isSome,H2,I3,rfl,q2⟩
theorem _qf5(hu:X.A.units+1<cLine) (hi:PE X i ty) (ho:PE X o td):PC X .NotIn i o (tDNotIn ty td):=by
 intro pins s σ H Q I h;refine thn (hi pins s σ H _ I h) λiv s1 ⟨y,H1,I1,ry,q1⟩=>thn (ho pins s1 σ H1 _ I1 q1) λu s2 hQ=>?_;obtain⟨x,H2,I2,rx,a,ov,ex,g,q2⟩:=hQ;subst ex;obtain rfl:u=Value.ref a:=rx;exact _qox hu I2 g ry λs3 I3=>⟨.bl (!ov.isSome),H2,I3,rfl,q2⟩
theorem _qbi(hu:X.A.units+1<cLine) (ho:PE X o td) (hi:PE X i ty) (hv:PE X value tv) (hs:Hu value (some (.Subscript o i pos')) pos.line X.env=pure false):
  PS X (.Assign [.Subscript o i pos'] value pos) (sDPut td ty tv):=by
 intro pins s σ H D I h;refine wpAny_Assign_Subscript (thn (hv pins s σ H _ I h) λr s1 ⟨v,H1,I1,rv,q1⟩=>thn (ho pins s1 σ H1 _ I1 q1) λu s2 ⟨x,H2,I2,rx,q2⟩=>thn (hi pins s2 σ H2 _ I2 q2) λiv s3 hQ=>?_) hs;obtain⟨y,H3,I3,ry,a,H4,ex,g,q3⟩:=hQ;subst ex;obtain rfl:u=Value.ref a:=rx;exact _qg7 hu I3 g ry rv λs4 I4=>⟨σ,H4,I4,q3⟩
end
theorem _ql3{P:Ak}{w:World}{H:Hp}(h:Heap) (hb:Ca<h.objs.size):_z5 P w H (h.push {cls:=.type "dict",data:=.dict #[] }) h.objs.size (.dT []):=
 ⟨zero_le _,beq_eq_false_iff_ne.mpr (Bz (ne_of_lt hb)),[],.nil,_,#[],0,Ah _ rfl,⟨rfl,rfl,rfl⟩,rfl,rfl,nodup_nil⟩
def tDNewT:TE:=λ_ H Q=>∀p,H p=none->Q (.ref p) (upd H p (.dT []))
section
variable{X:Cx}{pos:Pos}
theorem _Jn:PE X (.Dict [] [] pos) tDNewT:=λpins s σ H Q I h=>
 wpAny_Dict_empty ⟨.ref s.heap.objs.size,_,I.laid (a:=s.heap.objs.size) (o:=.dT []) (t':=s.toks) (λ_ _ q=>Ae _ q) (le_refl _) (_ql3 s.heap I.big),rfl,h _ (I.hok.fresh (le_refl _))⟩
end
structure M1(X:Cx) (o:Expr) (m:Str) (apos:Pos) (e:Expr) (cpos:Pos):Prop where
 base:Ep o m X.env (eval o X.env)=eval o X.env
 few:((Dg cpos (Aq [e] X.env)).all (λx=>!x.1)&&(Mf cpos (Iu [] X.env)).all (λx=>x.1.isSome)
  &&decide (([e]:List Expr).length+([]:List K9).length+(if([]:List K9).isEmpty then 0 else 1)<30))=true
 line:(apos.endLine==cpos.line)=true
 trees:Dg cpos (Aq [e] X.env)=[(false,eval e X.env)]
structure M2(X:Cx) (o:Expr) (m:Str) (apos:Pos) (e f:Expr) (cpos:Pos):Prop where
 base:Ep o m X.env (eval o X.env)=eval o X.env
 few:((Dg cpos (Aq [e,f] X.env)).all (λx=>!x.1)&&(Mf cpos (Iu [] X.env)).all (λx=>x.1.isSome)
  &&decide (([e,f]:List Expr).length+([]:List K9).length+(if([]:List K9).isEmpty then 0 else 1)<30))=true
 line:(apos.endLine==cpos.line)=true
 trees:Dg cpos (Aq [e,f] X.env)=[(false,eval e X.env),(false,eval f X.env)]
def IsD(H:Hp) (a:Addr):Prop:=(∃kvs,Rd H a (.dK kvs))\/ ∃kvs,Rd H a (.dT kvs)
theorem _qo7{X:Cx}{pins:List (Addr×Obj)}{σ:St}{H:Hp}{s:Shared}{a:Addr}(I:Inv X pins σ H s) (d:IsD H a):
  s.TypeIs (.ref a) "dict"/\(∀b,Value.ref a=.ref b->∃ob,s.heap.get? b=some ob/\ob.dict=none)/\(a==Ca)=false:=by
 rcases d with⟨kvs,e⟩|⟨kvs,e⟩
 ·obtain⟨_,hd,vs,_,dd⟩:=_ql8 I.hok e
  refine⟨dd.typeIs,λb q=>?_,hd⟩;cases q;obtain⟨ob,_,_,h1,h2,_⟩:=dd;exact⟨ob,h1,h2.2.1⟩
 ·obtain⟨_,hd,xs,_,dd⟩:=_ql2 I.hok e
  refine⟨dd.typeIs,λb q=>?_,hd⟩;cases q;obtain⟨ob,_,_,h1,h2,_⟩:=dd;exact⟨ob,h1,h2.2.1⟩
section
variable{X:Cx}{pins:List (Addr×Obj)}{σ:St}{H:Hp}{s:Shared}{a:Addr}{y d:V}{u r:Value}{o:Option V}{A:Around}{E:Value->Shared->Prop}
theorem _qrw{Q:Value->Shared->Prop}(hu:A.units+1<cLine) (I:Inv X pins σ H s) (g:_qww H a y o) (ry:_qwm y u) (rd:_qwm d r) (h:∀w' s',Inv X pins σ H s'->_qwm (o.getD d) w'->Q w' s'):
  wpAny (model X.prog X.w) A (call (.builtin "dict.get") [.ref a,u,r]) Q E s:=by
 rcases g with⟨kvs,k,e,ey,l⟩|⟨kvs,k,b,e,ey,eb,l⟩
 ·subst ey
  obtain⟨z,hd,vs,rel,dd⟩:=_ql8 I.hok e;refine call_meetsIn Gq dd.typeIs J2 (Jp _ _ _) (meets_dict_get_default (_qp X.prog X.w) a (_qlw ry) hd r) ⟨_,dd.mapOf,h _ _ (I.tok _) ?_⟩;rw[l];exact(rel.val k).getD rd
 ·subst ey
  cases(show u=Value.ref b from ry);obtain⟨z,hd,xs,rel,dd⟩:=_ql2 I.hok e;refine call_meetsIn Gq dd.typeIs J2 (Jp _ _ _) (meetsH_dict_get_default (Fv (_qp X.prog X.w)) a b hd r) ⟨Ct hu,k,xs,_Vu I.hok eb,dd,h _ _ (I.tok _) ?_⟩;rw[l];exact(rel.val k).getD rd
end
def _qma(td ty tx:TE):TE:=λσ H Q=>td σ H λx H1=>∃a,x=.ref a/\IsD H1 a/\ty σ H1 λy H2=>tx σ H2 λz H3=>∃o,_qww H3 a y o/\Q (o.getD z) H3
section
variable{X:Cx}{o e f:Expr}{apos cpos:Pos}{td ty tx:TE}
theorem _Jo(hu:X.A.units+1<cLine) (ho:PE X o td) (he:PE X e ty) (hf:PE X f tx) (m:M2 X o "get" apos e f cpos):PE X (.Call (.Attribute o "get" apos) [e,f] [] cpos) (_qma td ty tx):=by
 intro pins s σ H Q I h;refine Jc m.base m.few m.line Fz Gq PySem.F.type_dict_get (thn (ho pins s σ H _ I h) λu s1 hQ=>?_);obtain⟨x,H1,I1,rx,a,ex,d,q1⟩:=hQ;subst ex;obtain rfl:u=Value.ref a:=rx;obtain⟨t1,t2,_⟩:=_qo7 I1 d;refine⟨t1,t2,?_⟩;rw[m.trees];refine Ef rfl (G5 (Cp (thn (he pins s1 σ H1 _ I1 q1) λiv s2 ⟨y,H2,I2,ry,q2⟩=>
  Cp (thn (hf pins s2 σ H2 _ I2 q2) λfv s3 ⟨z,H3,I3,rz,ov,g,q3⟩=>Ex ?_))))
 exact _qrw hu I3 g ry rz λw' s4 I4 rw'=>⟨_,H3,I4,rw',q3⟩
end
section
variable{X:Cx}{pins:List (Addr×Obj)}{σ:St}{H:Hp}{s:Shared}{a:Addr}{kvs:List (Key×V)}{A:Around}{E:Value->Shared->Prop}
end
section
variable{X:Cx}{pins:List (Addr×Obj)}{σ:St}{H:Hp}{s:Shared}{a:Addr}{y:V}{u:Value}{A:Around}{E:Value->Shared->Prop}
end
end L2
namespace DL
open PySem PySem.W PyProof.Rows PySem.SeqAt MeetsSeq MeetsSeq2 MeetsSeq3 PySem.Spec
open AutoSeq1 (wpAny_loadPart')
theorem _qcv:∀{vs:List Value}{ns:List Int}{i:Nat}{n:Int},IntsAre vs ns->ns[i]?=some n->∃t,vs[i]?=some (.int n t)
 |_,_,_,_,.nil,h=>by simp at h
 |_,_,0,_,.cons n t _,h=>by simp at h;subst h;exact⟨t,by simp⟩
 |_,_,i+1,_,.cons n t r,h=>by
  obtain⟨u,hu⟩:=_qcv (i:=i) r (by simpa using h);exact⟨u,by simpa using hu⟩
theorem _qkd{a b:List Int}{i:Nat}(h:i=a.length\/i=b.length) (h1:i<=a.length) (h2:i<=b.length):_qvn (a.drop i) (b.drop i)=decide (a.length<b.length):=by
 rcases h with h|h
 ·rw[drop_of_length_le (by omega)]
  cases q:b.drop i with
  |nil=>
   have:=congrArg List.length q
   simp at this;simp[_qvn];omega
  |cons x r=>
   have:=congrArg List.length q
   simp at this;simp[_qvn];omega
 ·rw[drop_of_length_le (l:=b) (by omega)]
  have:_qvn (a.drop i) []=false:=by cases a.drop i<;>rfl
  rw[this]
  simp;omega
theorem _qnx{a b:List Int}{i:Nat}{x y:Int}(hx:a[i]?=some x) (hy:b[i]?=some y):_qvn (a.drop i) (b.drop i)=(decide (x<y)||(decide (x=y)&&_qvn (a.drop (i+1)) (b.drop (i+1)))):=by
 obtain⟨h1,e1⟩:=Ai.mp hx;obtain⟨h2,e2⟩:=Ai.mp hy;rw[Ds h1,Ds h2,e1,e2];rfl
end DL
namespace DL
open PySem PySem.Spec PyProof.Rows L2
section
variable{X:Cx}{K:Frag}
theorem _Wk:∀{ds:List D}{ns:List Int},ds.mapM kInt=some ns->ds=ns.map D.int
 | [],ns,h=>by simp at h;subst h;rfl
 |d::ds,ns,h=>by
  rw[mapM_cons]at h;obtain⟨n,hn,h⟩:=bind_some h;obtain⟨r,hr,h⟩:=bind_some h;cases h;cases d<;>cases hn;rw[_Wk hr];rfl
theorem _X8{d:D}{ns:List Int}(h:_qo6 d=some ns):d=.lst (ns.map D.int):=by
 cases d<;>first|(cases h;done)|skip
 rw[_Wk h]
end
end DL
namespace DL
open PySem PySem.W PyProof.Rows PySem.SeqAt MeetsSeq MeetsSeq2 MeetsSeq3 PySem.Spec
open AutoSeq1 (wpAny_loadPart')
theorem _qeg(l b:Addr) (its its2:List Value) (ns ms:List Int) (n n2:Nat) (dd dd2:Option Addr) (sl sl2:Array (Option Value)) (ia:IntsAre its ns) (ib:IntsAre its2 ms):
  Meets (Builtin.«tuple.__lt__» ⟨[.ref l,.ref b],[]⟩)
   (λA R s=>s.heap.get? l=some {cls:=.type "tuple",dict:=dd,data:=.seq its.toArray n,slots:=sl}/\s.heap.get? b=some {cls:=.type "tuple",dict:=dd2,data:=.seq its2.toArray n2,slots:=sl2}/\R (.ok (.ret (.bool (_qvn ns ms)))) s):=
 .of_wp λprog w A R s h=>by
  obtain⟨hp,g,d,tk,os⟩:=s;obtain⟨hl,hb,h⟩:=h;have l1:=ia.length;have l2:=ib.length;have f2:=AutoSeq1.sub_tuple_tuple
  wp_walk using wpAny_loadPart' hl,wpAny_loadPart' hb,wpAny_forIn_list _ (λ_qvb b s'=>b.1=none/\s'=⟨hp,g,d,tk,os⟩/\∃i,i<=ns.length/\i<=ms.length/\_qvb=(its.zip its2).drop i/\
   R (.ok (.ret (.bool (_qvn (ns.drop i) (ms.drop i))))) ⟨hp,g,d,tk,os⟩) _
  case turn=>
   rintro⟨y,x⟩ _qvb b s' ⟨hb',rfl,i,hi,hj,hz,hR⟩;have hlt:i< (its.zip its2).length:=by
    rcases Nat.lt_or_ge i (its.zip its2).length with h'|h'
    ·exact h'
    ·rw[drop_of_length_le h']at hz;cases hz
   have hm:i<ns.length/\i<ms.length:=by simp at hlt;omega
   rw[Ds hlt]at hz;injection hz with hyx hrest;obtain⟨p,hp1⟩:∃p,ns[i]?=some p:=⟨ns[i]'hm.1,by simp⟩;obtain⟨q,hq1⟩:∃q,ms[i]?=some q:=⟨ms[i]'hm.2,by simp⟩;obtain⟨t,ht⟩:=_qcv ia hp1;obtain⟨u,hu⟩:=_qcv ib hq1;have e:(its.zip its2)[i]=(Value.int p t,Value.int q u):=by
    obtain⟨_,e1⟩:=Ai.mp ht;obtain⟨_,e2⟩:=Ai.mp hu;simp[e1,e2]
   rw[e]at hyx;injection hyx with e1 e2;subst e1 e2;rw[_qnx hp1 hq1]at hR;refine Ac (E9 ?_)
   by_cases e:p=q
   ·subst e
    simp only[beq_self_eq_true]
    wp_walk
    exact⟨rfl,rfl,i+1,hm.1,hm.2,hrest,by simpa using hR⟩
   ·have e':(p==q)=false:=by simpa using e
    rw[e'];simp only[Bool.not_false,if_true];refine Ac (Ei (Ac (Hl ?_)))
    wp_walk
    exact⟨_,rfl,by simpa[e]using hR⟩
  case fin=>
   rintro⟨b1,b2⟩ s' ⟨hb',rfl,i,hi,hj,hz,hR⟩;simp only at hb';subst hb';have hge:i=ns.length\/i=ms.length:=by
    rcases Nat.lt_or_ge i (its.zip its2).length with h'|h'
    ·rw[Ds h']at hz;cases hz
    ·simp at h';omega
   rw[_qkd hge hi hj]at hR
   wp_walk
   refine⟨_,rfl,?_⟩;simpa[Builtin.Tuple.tupleCompareSizes,l1,l2]using hR
  case h=>
   exact⟨rfl,rfl,0,zero_le _,zero_le _,rfl,by simpa using h⟩
end DL
namespace SortW
open PySem PySem.W PyProof.Rows DL
def _Yh(h:Heap) (x:Addr) (ns:List Int):Prop:=∃(its:List Value) (n:Nat) (dd:Option Addr) (sl:Array (Option Value)),h.get? x=some {cls:=.type "tuple",dict:=dd,data:=.seq its.toArray n,slots:=sl}/\IntsAre its ns
theorem _Yh.keep{h h':Heap}{x:Addr}{ns:List Int}(t:_Yh h x ns) (k:∀o,h.get? x=some o->h'.get? x=some o):_Yh h' x ns:=by
 obtain⟨its,n,dd,sl,e,r⟩:=t;exact⟨its,n,dd,sl,k _ e,r⟩
section
variable{prog:Ak}{w:World}{A:Around}{E:Value->Shared->Prop}{s:Shared}
theorem _Qw{fin:Bool}{C:Bool->Shared->Prop}:∀{its its2:List Value}{ns ms:List Int}(i:Nat),IntsAre its ns->IntsAre its2 ms->fin=decide (ns.length<ms.length)->C (_qvn ns ms) s->KatLex prog w A true fin C (its.zip its2) i s
 |_,_,_,_,i,.nil,.nil,hf,h=>by subst hf;exact kat_nil (by simpa[_qvn]using h)
 |_,_,_,_,i,.nil,.cons _ _ _,hf,h=>by subst hf;exact kat_nil (by simpa[_qvn]using h)
 |_,_,_,_,i,.cons _ _ _,.nil,hf,h=>by subst hf;exact kat_nil (by simpa[_qvn]using h)
 |_,_,_,_,i,.cons n t r,.cons m u q,hf,h=>by
  rw[Ii];refine kat_cons (E9 ?_)
  by_cases e:n=m
  ·subst e
   rw[show(n==n)=true by simp];exact kat_yes (_Qw (i+1) r q (by rw[hf];simp) (by simpa[_qvn]using h))
  ·rw[show(n==m)=false by simpa using e]
   have h':C (decide (n<m)) s:=by simpa[_qvn,e]using h
   refine kat_no ?_;cases i with
   |zero=>exact oneLt_int h'
   |succ i=>exact kat_one _ _ (Hl h')
def TK(κ:Nn):Prop:=κ=tuples' true\/κ=oneType'\/κ=Ms
theorem _qdp{x y:Addr}{a b:List Int}{Q:Value->Shared->Prop}(hx:_Yh s.heap x a) (hy:_Yh s.heap y b) (h:Q (.bool (_qvn a b)) s):wpAny (model prog w) A (call (.builtin "tuple.__lt__") [.ref x,.ref y]) Q E s:=by
 obtain⟨its,n,dd,sl,e,r⟩:=hx;obtain⟨its2,n2,dd2,sl2,e2,r2⟩:=hy;exact call_meets Kd ⟨_,e,rfl⟩ F.entry_tuple_lt (F.args_tuple_lt_2 _ _) (_qeg x y its its2 a b n n2 dd dd2 sl sl2 r r2) ⟨e,e2,h⟩
theorem _Jz(x y:Value):keyLt' Ms x y=oneLt' false x y:=rfl
theorem _qlm{κ:Nn}(hκ:TK κ) (hu:A.units<cLine){x y:Addr}{a b:List Int}{C:Bool->Shared->Prop}(hx:_Yh s.heap x a) (hy:_Yh s.heap y b) (h:C (_qvn a b) s):wpAny (model prog w) A (keyLt' κ (.ref x) (.ref y)) C E s:=by
 have tx:s.TypeIs (.ref x) "tuple":=by obtain⟨_,_,_,_,e,_⟩:=hx;exact⟨_,e,rfl⟩
 have ty:s.TypeIs (.ref y) "tuple":=by obtain⟨_,_,_,_,e,_⟩:=hy;exact⟨_,e,rfl⟩
 rcases hκ with rfl|rfl|rfl
 ·obtain⟨its,n,dd,sl,e,r⟩:=hx
  obtain⟨its2,n2,dd2,sl2,e2,r2⟩:=hy;refine kat_lt e rfl e2 rfl ?_;simp only[size_toArray];exact _Qw 0 r r2 (by rw[r.length,r2.length]) h
 ·rw[keyLt'_oneType,oneLt'_eq]
  simp only[if_true];refine Ac (wpAny_cRoomFor hu ?_);refine Ac (wpAny_callSpecialIfBound?_slot tx Kd (_qdp hx hy ?_));exact Dv h
 ·rw[_Jz]
  refine kat_one _ _ ?_;refine(?_:wpAny (model prog w) A (richCompare .Lt (.ref x) (.ref y)) (PySem.W.BoolBack C) E s);exact wpAny_richCompare_same_room (T:="tuple") (op:=.Lt) (id:="tuple.__lt__") tx ty Kd (_qdp hx hy ⟨by simp,h⟩) hu
theorem _Qx:∀(Ts:List Addr) (keys:List (List Int)){Q:List (Option Value)->Shared->Prop},Ts.length=keys.length->(∀i (h:i<Ts.length),_Yh s.heap Ts[i] (keys.getD i []))->(∀fs:List (Option Value),fs.length=Ts.length->(fs.all (·.isSome)=true->∀k∈keys,k≠[])->Q fs s)->wpAny (model prog w) A ((Ts.map Value.ref).mapM firstOfTuple') Q E s
 | [],[],_,_,_,h=>by
  rw[map_nil,List.mapM_nil];exact Ad (h [] rfl (by simp))
 | [],_::_,_,hl,_,_=>by simp at hl
 |_::_,[],_,hl,_,_=>by simp at hl
 |T::Ts,k::ks,Q,hl,ht,h=>by
  rw[map_cons,mapM_cons];obtain⟨its,n,dd,sl,e,r⟩:=ht 0 (by simp);refine Ac ?_;rw[kas_first_eq];refine Ac (Looks.here (show Looks (model prog w) s.heap (typeOf (.ref T)) (.type "tuple")from(Looks.ld e).andThen .now) ?_);rw[if_neg (by first|decide|simp)];refine Ac (Mr e rfl (Ad ?_));refine Ac (_Qx Ts ks (by simpa using hl) (λi hi=>ht (i+1) (Nat.succ_lt_succ hi)) λfs hfs hn=>Ad (h _ (by simp[hfs]) λha k' hk=>?_));rw[List.all_cons,Df]at ha;rcases An.mp hk with rfl|hk
  ·rintro rfl
   simp at r;cases r;simp at ha
  ·exact hn ha.2 k' hk
theorem _qah:∀(Ts:List Addr) (keys:List (List Int)),Ts.length=keys.length->(∀i (h:i<Ts.length),_Yh s.heap Ts[i] (keys.getD i []))->(∀k∈keys,k≠[])->∃fs,KatTups s.heap (Ts.map Value.ref) fs/\fs.length=Ts.length/\∀v∈fs,∃k t,v=Value.int k t
 | [],[],_,_,_=>⟨[],KatTups.nil ..,rfl,by simp⟩
 | [],_::_,hl,_,_=>by simp at hl
 |_::_,[],hl,_,_=>by simp at hl
 |T::Ts,k::ks,hl,ht,hn=>by
  obtain⟨fs,h1,h2,h3⟩:=_qah Ts ks (by simpa using hl) (λi hi=>ht (i+1) (Nat.succ_lt_succ hi)) λk hk=>hn k (mem_cons_of_mem _ hk);obtain⟨its,n,dd,sl,e,r⟩:=ht 0 (by simp);simp at e r;cases r with
  |nil=>exact absurd rfl (hn [] (by simp))
  |cons m t r=>
   exact⟨Value.int m t::fs,KatTups.cons e rfl rfl (by simp) h1,by simp[h2],λv hv=>by
    rcases An.mp hv with rfl|hv
    ·exact⟨_,_,rfl⟩
    ·exact h3 v hv⟩
theorem _qfp{Ts:List Addr}{keys:List (List Int)}{Q:Nn->Shared->Prop}(h0:0<Ts.length) (hl:Ts.length=keys.length) (ht:∀i (h:i<Ts.length),_Yh s.heap Ts[i] (keys.getD i [])) (h:∀κ,TK κ->Q κ s):wpAny (model prog w) A (keyKind' (Ts.map Value.ref).toArray) Q E s:=by
 by_cases hn:∀k∈keys,k≠[]
 ·obtain⟨fs,h1,h2,h3⟩:=_qah Ts keys hl ht hn
  refine kat_kind (T:=.type "int") h1 (by omega) (λv hv=>?_) (by decide) (h _ (.inl rfl));obtain⟨k,t,rfl⟩:=h3 v hv;exact Looks.of_pure rfl
 ·rw[kat_kind_eq,List.mapM_toArray,map_eq_pure_bind]
  refine Ac (Ac (_Qx Ts keys hl ht λfs hfs ha=>Ad ?_));rw[if_neg (by rw[List.all_toArray];exact λz=>hn (ha z))];refine As (λ_=>Ad (h _ (.inr (.inr rfl)))) λ_=>?_;rw[oneTypeOnly'_eq,List.mapM_toArray,map_eq_pure_bind];refine Ac (Ac (Ac (kas_mapM (r:=Value.type "tuple") _ (λv hv Q' hq=>?_) (Ad ?_))))
  ·obtain⟨T,hT,rfl⟩:=Ag.mp hv
   obtain⟨i,hi,rfl⟩:=getElem_of_mem hT;obtain⟨its,n,dd,sl,e,r⟩:=ht i hi;exact Looks.here (show Looks (model prog w) s.heap (typeOf (.ref Ts[i])) (.type "tuple")from(Looks.ld e).andThen .now) hq
  ·split
   ·refine Ad (Ad ?_)
    split
    ·exact h _ (.inr (.inl rfl))
    ·exact h _ (.inr (.inr rfl))
   ·refine Ad (Ad ?_)
    split
    ·exact h _ (.inr (.inl rfl))
    ·exact h _ (.inr (.inr rfl))
theorem _qkc{n:Nat}{key:Nat->List Int}(hinj:∀i j,i<n->j<n->key i=key j->i=j):Ord n λi j=>_qvn (key i) (key j) where
 trans:=λa b c h1 h2=>MT.lex_tr h1 h2
 asym:=λa b h1=>by
  cases q:_qvn (key b) (key a)with
  |false=>rfl
  |true=>have:=MT.lex_tr h1 q;rw[MT.lex_irr]at this;cases this
 total:=λa b ha hb hab h1=>MT.lex_tot _ _ h1 λe=>hab (hinj a b ha hb e)
end
section
variable{prog:Ak}{w:World}{A:Around}{E:Value->Shared->Prop}{s:Shared}
theorem _Yx{keys:List (List Int)}{n:Nat}{p:Array Nat}(hl:n=keys.length) (hn:keys.Nodup) (pa:PA n p) (sp:SP (λi j=>_qvn (keys.getD i []) (keys.getD j [])) p n):(p.toList.map λi=>keys.getD i [])=_ju keys:=by
 have hp:p.toList.Perm (Ap n):=by
  have:=pa
  unfold PA at this;exact Dj.mp this
 have e:keys=(Ap n).map λi=>keys.getD i []:=by
  apply ext_getElem
  ·simp[hl]
  ·intro i h1 h2;simp[h1]
 have hperm:(p.toList.map λi=>keys.getD i []).Perm keys:=by
  conv=>rhs;rw[e]
  exact hp.map _
 refine MT.ris_eq ?_ (MT.keys_ris _) λx=>by rw[hperm.mem_iff,MT.mem_keys]
 have hs:p.size=n:=by have:=hp.length_eq;simpa using this
 unfold MT.Ris;rw[pairwise_map,Bj];intro i j hi hj hij
 have:=sp i j hij (by simpa[hs]using hj)
 simp at hi hj;have a0:∀k,(hk:k<p.size)->at0 p k=p.toList[k]'(by simpa using hk):=λk hk=>by simp[at0,hk]
 rw[a0 i hi,a0 j hj]at this;exact this
theorem _qfq{keys:List (List Int)}(hn:keys.Nodup):(_ju keys).length=keys.length:=by
 have hd:(_ju keys).Nodup:=(MT.keys_ris keys).imp fun{a b} h e=>by subst e;rw[MT.lex_irr]at h;cases h
 have:∀{a b:List (List Int)},a.Nodup->b.Nodup->(∀x,x∈a↔x∈b)->a.length=b.length:=by
  intro a b ha hb h;exact((List.perm_ext_iff_of_nodup ha hb).mpr h).length_eq
 exact this hd hn λx=>MT.mem_keys
theorem _qem{a:Addr}{Ts:List Addr}{keys:List (List Int)}{n:Nat}{P:M5->Shared->Prop}(hu:A.units<cLine) (ho:s.heap.get? a=some (Br "list" (Ts.map Value.ref).toArray n)) (hl:Ts.length=keys.length) (hnd:keys.Nodup)
  (ht:∀i (h:i<Ts.length),_Yh s.heap Ts[i] (keys.getD i [])) (hta:∀T∈Ts,T≠a) (h64:Ts.length<64)
  (h:∀out:List Addr,out.length=(_ju keys).length->(∀j (hj:j<out.length),∃i,∃hi:i<Ts.length,out[j]=Ts[i]/\(_ju keys).getD j []=keys.getD i [])->P (.done (.ret .none)) {s with heap:=J0 s.heap a (Ts.map Value.ref) (out.map Value.ref).toArray}):
  wpAny (model prog w) A (Builtin.«list.sort» {pos:=[Value.ref a] }) P E s:=by
 by_cases h2:2<=Ts.length
 ·refine _ko (vs:=Ts.map Value.ref) ho (by simpa using h64) (by simpa using h2) ?_
  generalize hh6:((s.heap.update a (Bi λ_=>#[])).push (Br "tuple" (Ts.map Value.ref).toArray 0)).push (Br "list" #[] 0)=h6;have t6:∀i (h:i<Ts.length),_Yh h6 Ts[i] (keys.getD i []):=λi hi=>(ht i hi).keep λo hb=>by
   rw[<-hh6];refine Ae _ (Ae _ ?_);rw[Av _ _ (Bz (hta _ (getElem_mem hi)))];exact hb
  refine _qfp (s:={s with heap:=h6}) (by omega) hl t6 λκ hκ=>?_;have hinj:∀i j,i<Ts.length->j<Ts.length->keys.getD i []=keys.getD j []->i=j:=λi j hi hj e=>by
   rw[hl]at hi hj;have e':keys[i]=keys[j]:=by
    rw[getD_eq_getElem?_getD,getD_eq_getElem?_getD,getElem?_eq_getElem hi,getElem?_eq_getElem hj]at e;exact e
   exact(getElem_inj hnd).mp e'
  have ord:=_qkc (n:=Ts.length) (key:=λi=>keys.getD i []) hinj;obtain⟨pa,sp⟩:=_qh3 ord (by omega);rw[show(Ts.map Value.ref).length=Ts.length by simp];refine _Vw (n:=Ts.length) (lt:=λi j=>_qvn (keys.getD i []) (keys.getD j [])) (λi j C hi hj hC=>?_) _ (_qh4 (by omega)) ⟨rfl,rfl,?_⟩
  ·unfold kas_ask
   have e1:(Ts.map Value.ref).getD i .none=.ref Ts[i]:=by simp[hi]
   have e2:(Ts.map Value.ref).getD j .none=.ref Ts[j]:=by simp[hj]
   rw[e1,e2];exact _qlm hκ hu (t6 i hi) (t6 j hj) hC
  generalize _qv8 _ (Ih Ts.length)=p at pa sp;have hsl:=_Yx hl hnd pa sp;have hpl:p.toList.Perm (Ap Ts.length):=Dj.mp pa;have hpb:∀i∈p.toList,i<Ts.length:=λi hi=>Ax.mp (hpl.mem_iff.mp hi);have eo:(p.toList.map λi=>(Ts.map Value.ref).getD i .none)=(p.toList.map λi=>Ts.getD i 0).map Value.ref:=by
   rw[map_map];apply map_congr_left;intro i hi
   have:=hpb i hi
   simp[this]
  rw[eo];refine h _ (by rw[<-hsl];simp) λj hj=>?_;have hj':j<p.toList.length:=by simpa using hj
  have hb:=hpb p.toList[j] (getElem_mem hj');refine⟨p.toList[j],hb,by simp only[getElem_map];rw[getD_eq_getElem?_getD,getElem?_eq_getElem hb];rfl,?_⟩;rw[<-hsl,getD_eq_getElem?_getD,getElem?_map,getElem?_eq_getElem hj'];rfl
 ·match Ts,hl,ht,ho,h,h2 with
  | [],hl,ht,ho,h,h2=>
   have hk:keys=[]:=Ce.mp (by simpa using hl.symm);subst hk;refine list_sort_tree (vs:=[]) (ns:=[]) ho .nil (by simp) λout ns' a1 a2 a3=>?_
   have:ns'=[]:=Ce.mp a2.length_eq
   subst this;have ol:=a1.length
   have:out=#[]:=by
    apply Array.eq_empty_of_size_eq_zero;simpa using ol
   subst this;exact h [] rfl λj hj=>by simp at hj
  | [T],hl,ht,ho,h,h2=>
   refine _kn (v:=.ref T) ho ?_;obtain⟨k,rfl⟩:∃k,keys=[k]:=Cm.mp (by simpa using hl.symm);exact h [T] rfl λj hj=>⟨j,hj,rfl,rfl⟩
  |_::_::_,_,_,_,_,h2=>simp at h2
end
def _qwo(h:Heap) (d:Addr) (es:Array DictEntry) (ep:Nat):Prop:=∃o,h.get? d=some o/\o.ExactDict/\o.data=.dict es ep
theorem _qwo.keep{h h':Heap}{d:Addr}{es:Array DictEntry}{ep:Nat}(x:_qwo h d es ep) (k:∀o,h.get? d=some o->h'.get? d=some o):_qwo h' d es ep:=by
 obtain⟨o,e,r⟩:=x;exact⟨o,k o e,r⟩
section
variable{prog:Ak}{w:World}{A:Around}{E:Value->Shared->Prop}{s:Shared}{d:Addr}{es:Array DictEntry}{ep:Nat}
theorem _qwo.ty(x:_qwo s.heap d es ep):s.TypeIs (.ref d) "dict":=by
 obtain⟨o,e,c,_⟩:=x;exact⟨o,e,c.1⟩
theorem _qkl{Q:Value->Shared->Prop}(hd:(d==Ca)=false) (hm:_qwo s.heap d es ep)
  (hQ:Q (.ref s.heap.objs.size) {s with heap:=s.heap.push {cls:=.type "dict_keyiterator",data:=.fields #[.ref d,.int 0 0,.int es.size 0,.int ep 0] } }):wpAny (model prog w) A (Kq (.ref d)) Q E s:=by
 have hT:=hm.ty;obtain⟨o,ho,hc,hdat⟩:=hm;refine Ez hT J3 (A0 J3 hT PySem.F.entry_dict_iter ?_ (PySem.F.args_dict_iter_1 _));unfold Builtin.«dict.__iter__» Builtin.Dict.dictSlotNone;refine Ac (Ac (Gr hT ?_));refine(?_:wpAny _ _ (pure (Value.ref d)) _ _ s);refine Ad ?_;refine(?_:wpAny _ _ (Ew d>>=_) _ _ s);unfold Ew;rw[hd];simp only[Aw,if_false];refine Ac (Ad (Ac (Bq ho hdat (Ac (Eo ho hdat ?_)))));refine Ac (Ba (Ad ⟨_,rfl,"dict_keyiterator",_,⟨_,Ah _ rfl,rfl⟩,Dk.lookup,?_⟩));simpa[Cc]using hQ
theorem _qc9{it:Addr}{i:Nat}{Q:Option Value->Shared->Prop}(hit:s.heap.IsKeyIter it d i es.size ep) (hm:_qwo s.heap d es ep)
  (h:wpAny (model prog w) A.in1 (Builtin.«dict_keyiterator.__next__» ⟨[.ref it],[]⟩) (λfin s'=>∃v,fin=.done (.ret v)/\Q (some v) s') (λe s'=>s'.TypeIs e "StopIteration"/\Q none s') s):wpAny (model prog w) A (Eb (.ref it)) Q E s:=by
 unfold Eb;refine Ac (Es (Bl (name:=C8 "__next__") hit.typeIs Dk (A0 Dk hit.typeIs PySem.F.entry_dict_keyiterator_next ?_ (PySem.F.args_dict_keyiterator_next_1 _))));refine Bk h (λfin s' hq=>?_) (λe s' hq=>?_)
 ·obtain⟨v,rfl,hq⟩:=hq
  exact⟨v,rfl,Ad hq⟩
 ·obtain⟨t,hq⟩:=hq
  refine Ac (Fe (T:="StopIteration") (b:=true) t _wq ?_);exact Ad hq
theorem _Vv{it:Addr}{i:Nat}(o:Obj) (hd:o.data=.fields #[.ref d,.int i 0,.int es.size 0,.int ep 0]){h:Heap}(ho:h.get? it=some o) (hc:o.cls=.type "dict_keyiterator"):(h.update it (Cz (·.setIfInBounds 1 (Cc ((i:Int)+1))))).IsKeyIter it d (i+1) es.size ep:=
 ⟨_,Bh _ ho (Gp (El hd _)),(Obj.cls_mapFields ..).trans hc,by rw[El hd];simp[Cc]⟩
theorem _qfk{it:Addr}{i:Nat}{Q:Option Value->Shared->Prop}(hit:s.heap.IsKeyIter it d i es.size ep) (hm:_qwo s.heap d es ep) (hi:i<es.size)
  (hQ:∀h',h'.IsKeyIter it d (i+1) es.size ep->Heap.SameBut it s.heap h'->Q (some es[i].key) {s with heap:=h'}):wpAny (model prog w) A (Eb (.ref it)) Q E s:=by
 refine _qc9 hit hm ?_;obtain⟨o,ho,hc,hd⟩:=id hit;obtain⟨od,hod,hcd,hdd⟩:=hm;refine Ac (Ad (Ac (Ac ?_)));refine Ac (C2 hit.typeIs (Ad ?_));refine Ac (Di ho hd ?_);have own:B0 "dict_keyiterator"=false:=by decide
 simp only[own,Aw,if_false];refine(?_:wpAny _ _ (if(Value.ref d==Value.none)=true then _ else _) _ _ s);rw[if_neg (show¬ ((Value.ref d==Value.none)=true)from Al)];refine Ac (Ad (Ac (Bq hod hdd ?_)));rw[if_neg (by simp)];refine Ac (Ad (Ac (Eo hod hdd ?_)));rw[if_neg (by simp)];refine Ad ?_;simp only[show¬ ((i:Int)<0)from by omega,if_false,Bb,Dq hi];refine Ac (Ac (C2 hit.typeIs (Ad ?_)));refine Ac (Kl hit.typeIs ?_);refine(?_:wpAny _ _ (Np (.ref it) 1 (Cc ((i:Int)+1))>>=_) _ _ s);refine Ac (Ck ho hd (by simp) ?_);have hit':=_Vv o hd ho hc;refine Ac (Bc (Ac ?_));refine Kl (s:={s with heap:=s.heap.update it (Cz (·.setIfInBounds 1 (Cc ((i:Int)+1)))) }) hit'.typeIs ?_;refine(?_:wpAny _ _ (pure es[i].key) _ _ _);exact Ad (Ad ⟨_,rfl,hQ _ hit' (Cn ..)⟩)
theorem _qk2{it:Addr}{i:Nat}{Q:Option Value->Shared->Prop}(hh:A.handled=none) (hit:s.heap.IsKeyIter it d i es.size ep) (hm:_qwo s.heap d es ep) (hi:es.size<=i)
  (hQ:∀h',Heap.ExtBut it s.heap h'->Q none {s with heap:=h'}):wpAny (model prog w) A (Eb (.ref it)) Q E s:=by
 refine _qc9 hit hm ?_;obtain⟨o,ho,hc,hd⟩:=id hit;obtain⟨od,hod,hcd,hdd⟩:=hm;refine Ac (Ad (Ac (Ac ?_)));refine Ac (C2 hit.typeIs (Ad ?_));refine Ac (Di ho hd ?_);have own:B0 "dict_keyiterator"=false:=by decide
 simp only[own,Aw,if_false];refine(?_:wpAny _ _ (if(Value.ref d==Value.none)=true then _ else _) _ _ s);rw[if_neg (show¬ ((Value.ref d==Value.none)=true)from Al)];refine Ac (Ad (Ac (Bq hod hdd ?_)));rw[if_neg (by simp)];refine Ac (Ad (Ac (Eo hod hdd ?_)));rw[if_neg (by simp)];refine Ad ?_;simp only[show¬ ((i:Int)<0)from by omega,if_false,Bb,getElem?_eq_none hi];refine Ac (Ac (C2 hit.typeIs (Ad ?_)));refine(?_:wpAny _ _ (Np (.ref it) 0 .none>>=_) _ _ s);refine Ac (Ck ho hd (by simp) ?_);refine(?_:wpAny _ _ (Nl (.type "StopIteration") []>>=_) _ _ _);simp only[Nl,newTuple];refine Ac (Ac (Ba ?_ (by size_fits)));refine Ac (m:=E6 _ _) (Kw (a:=Value.none) (by first|rfl|(simp only[E6];rfl)) ?_);refine Ba ?_ (by size_fits);simp only[Nm];refine Ac (Ln ?_);rw[show A.in1.handled=none from hh];refine Ac (Ad (M7 ⟨⟨_,Ah _ rfl,rfl⟩,?_⟩));exact hQ _ (((Cn ..).extBut.push _).push _)
theorem _qmp(lo:(d==Ca)=false):KdlSrc prog w "dict" d d es.size (λi v=>∃h:i<es.size,v=es[i].key) (λh=>_qwo h d es ep) where
 type:=λ_ hm=>hm.ty
 there:=λ_ hm=>by obtain⟨o,e,_⟩:=hm;exact⟨Af e,Af e⟩
 keep:=λ_ _ hm hk=>hm.keep λo e=>hk d (.inl rfl) o e
 notList:=by decide
 notTuple:=by decide
 hint:=λ_ _ _ _ hm hq=>kdl_hint_dict hm.ty hq
 iter:=λA s hh hm=>by
  have hlt:d<s.heap.objs.size:=by obtain⟨o,e,_⟩:=hm;exact Af e
  refine⟨_,λi h=>h.IsKeyIter s.heap.objs.size d i es.size ep/\_qwo h d es ep,λ_ _ hq=>_qkl lo hm hq,⟨λb hb=>by simp at hb;simp[hb],λ_ _ _ st hk=>⟨st.1.at λo e=>hk _ (by simp) o e,st.2.keep λo e=>hk d (by simp) o e⟩,λi s1 Q E hi st hQ=>?_,λs1 Q E st hQ=>?_,λ_ _ _ _ st hQ=>wpAny_pyIter_keyiter st.1 hQ⟩,⟨_,Ah _ rfl,rfl,rfl⟩,hm.keep λo e=>Ae _ e⟩
  ·exact _qfk st.1 st.2 hi λh' hit' hs'=>hQ _ h' s1.toks ⟨hi,rfl⟩ ⟨hit',st.2.keep λo e=>hs'.extBut d o (ne_of_lt hlt) e⟩ λb o hb e=>hs'.extBut b o (λh=>hb (by simp[h])) e
  ·exact _qk2 hh st.1 st.2 (le_refl _) λh' he'=>hQ h' s1.toks λb o hb e=>he' b o (λh=>hb (by simp[h])) e
end
section
variable{prog:Ak}{w:World}{A:Around}{E:Value->Shared->Prop}{s:Shared}{d:Addr}{es:Array DictEntry}{ep:Nat}
theorem _Y5{T:String}{r:Addr}{n:Nat}{P:Nat->Value->Prop}{OK:Heap->Prop}{R:List Value->Shared->Prop}(K:KdlSrc prog w T r d n P OK) (hh:A.handled=none) (hok:OK s.heap) (hn:n<=Aj)
  (h:∀(h':Heap) (tk:Nat) (acc:Array Value),s.heap.objs.size<h'.objs.size->(∀b o,s.heap.get? b=some o->h'.get? b=some o)->ItemsOf P acc n->R acc.toList {s with heap:=h',toks:=tk}):wpAny (model prog w) A (Mm (.ref r)) R E s:=by
 have lt:=K.there _ hok;unfold Mm;refine Ac (Ic (Bm G6 ?_));rw[Bg E1 _];refine(?_:wpAny _ A.in1 (Nc []>>=λl=>again (.builtin "list.__iadd__" ⟨[l,.ref r],[]⟩)) _ _ s);refine Ac (Ba (Ad ⟨De Cf _,Bm Jm ?_⟩));rw[Bg Cf _];have e0:(s.heap.push {cls:=.type "list",data:=.seq ([]:List Value).toArray}).get? s.heap.objs.size=some {cls:=.type "list",data:=.seq #[] }:=Ah _ rfl;refine(?_:wpAny _ A.in1 (Ci (.ref s.heap.objs.size) (.ref r) (.ref s.heap.objs.size)) _ _ _);have fin:∀(q:Mw) (s':Shared),(∃(h':Heap) (tk:Nat) (acc':Array Value) (c':Nat),q=.ok (.ret (.ref s.heap.objs.size))/\s'={s with heap:=h',toks:=tk}/\(∀b o,s.heap.get? b=some o->h'.get? b=some o)/\h'.get? s.heap.objs.size=some {cls:=.type "list",dict:=none,data:=.seq acc' c',slots:=#[] }/\ItemsOf P acc' n)->
   ∃(h':Heap) (tk:Nat) (acc':Array Value) (c':Nat),q=.ok (.ret (.ref s.heap.objs.size))/\s'={s with heap:=h',toks:=tk}/\h'.get? s.heap.objs.size=some {cls:=.type "list",dict:=none,data:=.seq acc' c',slots:=#[] }/\R acc'.toList s':=by
  rintro q s' ⟨h',tk,acc',c',e1,e2,e3,e4,e5⟩;exact⟨h',tk,acc',c',e1,e2,e4,e2▸h h' tk acc' (Af e4) e3 e5⟩
 refine Bk (kdl_extend (A:=A) (s:={s with heap:=s.heap.push {cls:=.type "list",data:=.seq ([]:List Value).toArray} }) (R:=λq s'=>∃(h':Heap) (tk:Nat) (acc':Array Value) (c':Nat),q=.ok (.ret (.ref s.heap.objs.size))/\s'={s with heap:=h',toks:=tk}/\(∀b o,s.heap.get? b=some o->h'.get? b=some o)/\h'.get? s.heap.objs.size=some {cls:=.type "list",dict:=none,data:=.seq acc' c',slots:=#[] }/\ItemsOf P acc' n)
  K hh (K.keep _ _ hok λb _ o e=>Ae _ e) s.heap.objs.size (ne_of_gt lt.1) (ne_of_gt lt.2) (.ref s.heap.objs.size) 0 e0 (λh' tk acc' c' hk hS' hacc=>⟨h',tk,acc',c',rfl,rfl,λb o e=>hk b o (ne_of_lt (Af e)) (Ae _ e),hS',hacc⟩) hn) (λq s' x=>?_) λe s' x=>?_
 ·cases q with
  |done f=>
   obtain⟨h',tk,acc',c',e,rfl,hS',hr⟩:=fin _ _ x;cases e;refine(?_:wpAny _ A (load s.heap.objs.size>>=_) _ _ _);exact Ac (Gu hS' (Ad hr))
  |again c₁=>
   refine⟨x.1,Cy x.2 λq s₂ y=>?_⟩;obtain⟨h',tk,acc',c',rfl,rfl,hS',hr⟩:=fin _ _ y;refine(?_:wpAny _ A (load s.heap.objs.size>>=_) _ _ _);exact Ac (Gu hS' (Ad hr))
 ·obtain⟨_,_,_,_,e',_⟩:=x
  cases e'
theorem _Ym{Ts:List Addr}{keys:List (List Int)}{Q:Value->Shared->Prop}(hu:A.in1.in1.units<cLine) (hh:A.handled=none) (lo:(d==Ca)=false) (hm:_qwo s.heap d es ep) (hes:es.toList.map (·.key)=Ts.map Value.ref) (hl:Ts.length=keys.length) (hnd:keys.Nodup)
  (ht:∀i (h:i<Ts.length),_Yh s.heap Ts[i] (keys.getD i [])) (h64:Ts.length<64)
  (h:∀(D:Addr) (out:List Addr) (n:Nat) (h':Heap) (tk:Nat),s.heap.objs.size<=D->h'.get? D=some {cls:=.type "list",data:=.seq (out.map Value.ref).toArray n}->out.length=(_ju keys).length->(∀j (hj:j<out.length),∃i,∃hi:i<Ts.length,out[j]=Ts[i]/\(_ju keys).getD j []=keys.getD i [])->
   (∀b o,s.heap.get? b=some o->h'.get? b=some o)->Q (.ref D) {s with heap:=h',toks:=tk}):
  wpAny (model prog w) A (call (.builtin "sorted") [.ref d]) Q E s:=by
 have hsz:es.size=Ts.length:=by have:=congrArg List.length hes;simpa using this
 refine Dr M8 Mn Mo (Mp _) ?_;unfold Builtin.«sorted»;refine Ac (m:=checkCount "sorted" 1 1 _) (Ad ?_);refine Ac (_Y5 (A:=A.in1) (_qmp lo) hh hm (by rw[Ao];omega) λh1 tk acc hgr hk hacc=>?_);have hacc':acc.toList=Ts.map Value.ref:=by
  rw[<-hes];apply Iy;intro i;rw[getElem?_toList,getElem?_map,getElem?_toList]
  by_cases hi:i<es.size
  ·have hi':i<acc.size:=by rw[hacc.1];exact hi
   obtain⟨_,e⟩:=hacc.2 i acc[i] (by simp[hi']);simp[hi,hi',e]
  ·have hi':¬i<acc.size:=by rw[hacc.1];exact hi
   simp[hi,hi']
 rw[hacc'];refine Ac (G2 ?_ (by rw[Ao];simp;omega));have hoL:(h1.push (Br "list" (Ts.map Value.ref).toArray 0)).get? h1.objs.size=some (Br "list" (Ts.map Value.ref).toArray 0):=Ah _ rfl;have ltT:∀i (hi:i<Ts.length),Ts[i]<h1.objs.size:=λi hi=>by
  obtain⟨_,_,_,_,e,_⟩:=ht i hi;exact Af (hk _ _ e)
 refine Ac (Bc (A0 K0 ⟨_,hoL,rfl⟩ Kb ?_ (K1 _)));refine _qem (s:={s with heap:=h1.push (Br "list" (Ts.map Value.ref).toArray 0),toks:=tk}) hu hoL hl hnd (λi hi=>(ht i hi).keep λo e=>Ae _ (hk _ _ e)) (λT hT=>?_) h64 λout ho hout=>⟨_,rfl,Ad ⟨_,rfl,?_⟩⟩
 ·obtain⟨i,hi,rfl⟩:=getElem_of_mem hT
  exact ne_of_lt (ltT i hi)
 obtain⟨e,he⟩:=Lo (out:=(out.map Value.ref).toArray) hoL;refine h _ out e _ tk ?_ (by simpa[Br]using he) ho hout λb o hb=>?_
 ·exact le_of_lt hgr
 ·have hlt:=Af (hk b o hb)
  rw[K2 (ne_of_lt hlt) (by rw[Jz];exact lt_succ_of_lt hlt)];exact Ae _ (hk b o hb)
end
end SortW
namespace DL
open PySem PySem.Spec PyProof.Rows L2
def dkv(kvs:List (List Int×V)):List (List Key×V):=kvs.map λp=>(p.1.map Sum.inl,p.2)
theorem _zp(k:List Int):(k.map Sum.inl:List Key).map kV=k.map V.int:=by
 rw[map_map];rfl
theorem _X9{a b:List Int}(h:(a.map Sum.inl:List Key)=b.map Sum.inl):a=b:=by
 have:=congrArg (List.map (λk:Key=>match k with| .inl i=>i| .inr _=>0)) h
 simpa[map_map,C4]using this
theorem _qo3{H:Hp}:∀{kvs:List (List Int×V)}{xs:List (List Key×Addr×Value)},KT H (dkv kvs) xs->xs.length=kvs.length/\xs.map (·.1)=kvs.map (λp=>p.1.map Sum.inl)/\∀i (h:i<xs.length),H xs[i].2.1=some (.tup ((kvs.map (·.1)).getD i []|>.map V.int))
 | [],_,.nil=>⟨rfl,rfl,λi h=>by simp at h⟩
 |p::kvs,_,.cons (b:=q) hq t=>by
  obtain⟨h1,h2,h3⟩:=_qo3 t;refine⟨by simp[h1],?_,λi h=>?_⟩
  ·simp only[map_cons]
   rw[h2,<-hq.1]
  ·cases i with
   |zero=>
    have:=hq.2.1
    rw[_zp]at this;exact this
   |succ i=>exact h3 i (by simpa using h)
theorem _qig{X:Cx}{pins:List (Addr×Obj)}{σ:St}{H:Hp}{s:Shared}{b:Addr}{k:List Int}(I:Inv X pins σ H s) (e:H b=some (.tup (k.map V.int))):SortW._Yh s.heap b k:=by
 obtain⟨its,r,⟨o,h1,h2,n,h3⟩,_⟩:=I.tuple (SqT.of e);obtain⟨c,dd,dt,sl⟩:=o;cases h2;cases h3;exact⟨its,n,dd,sl,by simpa using h1,_j5 r⟩
theorem _wy(hu:X.A.units+64<cLine) (hc:X.calm=true):_Qg X (.builtin "sorted") (λxs H Q=>∃(p:Addr) (kvs:List (List Int×V)),xs=[.ref p]/\H p=some (.dT (dkv kvs))/\kvs.length<64/\∀l (bs:List Addr),H l=none->bs.length=(_ju (kvs.map (·.1))).length->(∀j (hj:j<bs.length),H bs[j]=some (.tup (((_ju (kvs.map (·.1))).getD j []).map V.int)))->Q (.ref l) (upd H l (.lst (bs.map V.ref)))):=by
 intro pins s σ H xs us Q I r h;obtain⟨p,kvs,rfl,hp,h64,q⟩:=h;obtain⟨u,rfl,ru⟩:=r.one;cases ru;obtain⟨z,hd,xs,rel,o,es,ep,g1,g2,g3,g4,g5,g6⟩:=dt_of I.hok hp;obtain⟨k1,k2,k3⟩:=_qo3 rel;have hes:es.toList.map (·.key)=(xs.map (·.2.1)).map Value.ref:=by
  rw[g4,map_map,map_map];rfl
 have hnd:(kvs.map (·.1)).Nodup:=by
  rw[k2]at g6
  have:(kvs.map (λp=>(p.1.map Sum.inl:List Key)))=(kvs.map (·.1)).map (λk=>(k.map Sum.inl:List Key)):=by rw[map_map];rfl
  rw[this]at g6;exact(List.pairwise_map.mp g6).imp λh e=>h (congrArg _ e)
 have hT:∀i (h:i< (xs.map (·.2.1)).length),H (xs.map (·.2.1))[i]=some (.tup (((kvs.map (·.1)).getD i []).map V.int)):=λi hi=>by
  simp only[getElem_map];exact k3 i (by simpa using hi)
 refine SortW._Ym (keys:=kvs.map (·.1)) (by simp only[units_in1];omega) (I.ok.hd hc) hd ⟨o,g1,g2,g3⟩ hes (by simp[k1]) hnd (λi hi=>_qig I (hT i hi)) (by simp[k1];omega) λD out n h' tk hD hget hlen hout hk=>?_;refine⟨.ref D,_,I.laid (a:=D) (o:=.lst (out.map V.ref)) hk hD ⟨?_,out.map Value.ref,n,?_,hget⟩,rfl,q D out (I.hok.fresh hD) hlen λj hj=>?_⟩
 ·rw[length_map,hlen,SortW._qfq hnd,length_map,Ao];omega
 ·clear hout hget hlen
  induction out with
  |nil=>exact .nil
  |cons a out ih=>exact .cons rfl ih
 ·obtain⟨i,hi,e1,e2⟩:=hout j hj
  rw[e1,e2];exact hT i hi
theorem _qdc(kvs:List (List Int×V)) (k:List Int):_quw (dkv kvs) (k.map Sum.inl)=_quw kvs k:=by
 induction kvs with
 |nil=>rfl
 |cons p r ih=>
  show _quw ((p.1.map Sum.inl,p.2)::dkv r) _=_
  by_cases e:p.1=k
  ·rw[_qq (by rw[e]),_qq e]
  ·rw[_qr λh=>e (_X9 h),_qr e,ih]
theorem _qou(kvs:List (List Int×V)) (k:List Int) (v:V):_qvc (dkv kvs) (k.map Sum.inl) v=dkv (_qvc kvs k v):=by
 have ha:((dkv kvs).any λkv=>decide (kv.1=(k.map Sum.inl:List Key)))=(kvs.any λkv=>decide (kv.1=k)):=by rw[_xo,_xo,_qdc]
 unfold _qvc;rw[ha];split
 ·unfold dkv
  rw[map_map,map_map];apply map_congr_left;intro p _;simp only[Function.comp_apply]
  by_cases e:p.1=k
  ·rw[if_pos (by rw[e]),if_pos e]
  ·rw[if_neg λh=>e (_X9 h),if_neg e]
 ·simp[dkv]
def TWt(kvs:List (List Int×V)) (hp:List (Int×List Int)):Prop:=kvs.length<=hp.length/\∀k,_quw kvs k=if k∈hp.map (·.2)then some (.int (wtK hp k))else none
theorem _qm4:TWt [] []:=⟨le_refl _,λk=>rfl⟩
theorem _qm5{kvs:List (List Int×V)}{hp:List (Int×List Int)}(h:TWt kvs hp) (k:List Int):(_quw kvs k).getD (.int 0)=.int (wtK hp k):=by
 rw[h.2 k];split
 ·rfl
 ·rename_i hn
  rw[MT.wt_none hn];rfl
theorem _qm3{kvs:List (List Int×V)}{hp:List (Int×List Int)}(h:TWt kvs hp) (w:Int) (k:List Int):TWt (_qvc kvs k (.int (wtK hp k+w))) (hp++[(w,k)]):=by
 refine⟨le_trans (_v7 _ _ _) (by have:=h.1;simp;omega),λj=>?_⟩;rw[_qid,h.2 j,MT.wt_append]
 by_cases e:j=k
 ·subst e
  rw[if_pos rfl,if_pos (by simp)];simp[wtK]
 ·rw[if_neg e]
  have:j∈(hp++[(w,k)]).map (·.2)↔j∈hp.map (·.2):=by simp[e]
  have ek:¬k=j:=λz=>e z.symm
  by_cases hm:j∈hp.map (·.2)
  ·rw[if_pos hm,if_pos (this.mpr hm)]
   simp[wtK,ek]
  ·rw[if_neg hm,if_neg λz=>hm (this.mp z)]
theorem _qif{kvs:List (List Int×V)}{hp:List (Int×List Int)}(h:TWt kvs hp):_ju (kvs.map (·.1))=_ju (hp.map (·.2)):=by
 refine MT.ris_eq (MT.keys_ris _) (MT.keys_ris _) λx=>?_;rw[MT.mem_keys,MT.mem_keys];have e:x∈kvs.map (·.1)↔(_quw kvs x).isSome=true:=by
  rw[<-_xo,any_eq_true];constructor
  ·intro hx
   obtain⟨p,hp,rfl⟩:=Ag.mp hx;exact⟨p,hp,by simp⟩
  ·rintro⟨p,hp,e⟩
   exact Ag.mpr ⟨p,hp,by simpa using e⟩
 rw[e,h.2 x];split
 ·rename_i hx;simp[hx]
 ·rename_i hx;simp[hx]
section
variable{K:Frag}{F1 H1 F H:Hp}{σ:L2.St}{ρ:_qwx}{l:Addr}{done:List O}
theorem _qrz(ci:CI K F1 H1 F H σ ρ l done) (hB:H1 l=none){y:V}{o:O}{A4:AS}{F4 H4:Hp}(e4:Ext F H F4 H4) (r4:Own K F4 H4 y o A4) (n4:∀b,A4 b->F4 b=none/\H b=none):
  ∃acc,H4 l=some (.lst acc)/\acc.length=done.length/\CI K F1 H1 F4 (upd H4 l (.lst (acc++[y]))) σ ρ l (done++[o]):=by
 have ci4:=ci.more e4;obtain⟨acc3,A3,k1,k2,k3⟩:=ci.hl;have t4:H4 l=some (.lst acc3):=e4.hh _ _ k1;have k2':=k2.ext e4.ff e4.hh;refine⟨acc3,t4,k2.length,?_⟩;have nl:¬A4 l:=λz=>by have:=(n4 l z).2;rw[k1]at this;cases this
 refine⟨⟨ci4.ext.ff,λb u hb=>by rw[_f (_d hb ci4.fl)];exact ci4.ext.fh _ _ hb,λb u hb=>by rw[_f (_d hb hB)];exact ci4.ext.hh _ _ hb,ci4.ext.nw⟩,ci4.re,ci4.len,ci4.fl,acc3++[y],λb=>A3 b\/A4 b,_b,?_,λb z=>?_⟩
 ·refine(k2'.stay (_qwk.refl _) (H':=upd H4 l (.lst (acc3++[y]))) λb z=>_f (k3 b z).2.2).append (.cons (r4.stay (_qwk.refl _) (H':=upd H4 l (.lst (acc3++[y]))) λb z=>_f (by rintro rfl;exact nl z)) (.nil (A:=λ_=>False) λ_ z=>z) (λ_ _ z=>z) λb=>⟨.inl,λz=>z.elim id A5⟩) λb z y=>?_
  obtain⟨u,hu,_⟩:=k2.there b z;rw[(n4 b y).2]at hu;cases hu
 ·rcases z with z|z
  ·obtain⟨g1,g2,g3⟩:=k3 b z
   obtain⟨u,hu,_⟩:=k2.there b z;refine⟨?_,g2,g3⟩;cases w:F4 b with
   |none=>rfl
   |some o=>
    rcases e4.nw b o w with y|y
    ·rw[g1]at y;cases y
    ·rw[hu]at y;cases y
  ·exact⟨(n4 b z).1,ci.ext.hh.free (n4 b z).2,by rintro rfl;exact nl z⟩
theorem _qjj(s:_qwk F H){q p:Addr}{w:Int}{k:List Int}(hq:H q=none) (hp:upd H q (.lst (k.map V.int)) p=none):
  Ext F H (upd F p (.tup [.int w,.ref q])) (upd (upd H q (.lst (k.map V.int))) p (.tup [.int w,.ref q]))/\Own K (upd F p (.tup [.int w,.ref q])) (upd (upd H q (.lst (k.map V.int))) p (.tup [.int w,.ref q])) (.ref p) (_qbj (w,k)) (λb=>b=q)/\∀b,b=q->upd F p (.tup [.int w,.ref q]) b=none/\H b=none:=by
 have npq:q≠p:=by rintro rfl;rw[_b]at hp;cases hp
 have e1:=Ext.laidH (o:=.lst (k.map V.int)) s hq;have e2:=Ext.laid (o:=.tup [.int w,.ref q]) e1.fh hp;refine⟨e1.trans e2,.tup _b (.cons (.sh (.int w) (A:=λ_=>False) λ_ z=>z) (.cons (_Ve (a:=q) (by rw[_f npq,_b]) (_qx k)) (.nil (A:=λ_=>False) λ_ z=>z) (λ_ _ z=>z) (A:=λb=>b=q) λb=>⟨.inl,λz=>z.elim id A5⟩) (λ_ z=>z.elim) λb=>⟨.inr,λz=>z.elim A5 id⟩),?_⟩;rintro b rfl;exact⟨by rw[_f npq];exact s.free hq,hq⟩
end
theorem _xv{X:Cx}{elt target iter:Expr}{ifs:List Expr}{scope:Scope}{pos:Pos}{cl:List (Str×Addr)}{N':List Str}{js:List (Option Nat)}{wi:TI}{g:TG}{tc:TT}{te:TE}(k:CompOk X scope cl N' js) (hi:PI X target iter wi)
  (hg:∀C s₀ H₀ ex pn,PG (_V X N' scope cl C s₀ H₀ ex pn) target g) (ht:∀C s₀ H₀ ex pn,PIfs (_V X N' scope cl C s₀ H₀ ex pn) ifs tc) (he:∀C s₀ H₀ ex pn,PE (_V X N' scope cl C s₀ H₀ ex pn) elt te) (hs:∀x,Cj iter X.env x=pure x:=by intro _;rfl):PE X (.ListComp elt [⟨target,iter,ifs,0⟩] scope pos) (_qei wi g tc te js):=
 _qhf k.calm hi (_zg k.clo) k.free k.hcl k.hhas k.cell k.kind k.names hg ht he hs
def rLOf(K:Frag):List V->Hp->VK->Prop:=λxs H Q=>∃p ys,xs=[.ref p]/\(SqL K H p ys\/SqT K H p ys)/\∀l,H l=none->Q (.ref l) (upd H l (.lst ys))
theorem _qdq{X:Cx}{K:Frag}(h:X.K=K):_Qg X (.type "list") (rLOf K):=by subst h;exact _xi
theorem _qcp{d:D}{p:Int×List Int}(h:_qo5 d=some p):d=.tup [.int p.1,.lst (p.2.map D.int)]:=by
 unfold _qo5 at h;split at h
 ·obtain⟨l,hl,rfl⟩:=map_some h
  rw[_X8 hl]
 ·cases h
theorem _qcq{d:D}{hp:List (Int×List Int)}(h:_qlx d=some hp):d=.lst (hp.map λp=>.tup [.int p.1,.lst (p.2.map D.int)]):=by
 unfold _qlx at h;split at h
 ·rename_i xs
  congr 1
  induction xs generalizing hp with
  |nil=>simp at h;subst h;rfl
  |cons x xs ih=>
   rw[mapM_cons]at h;obtain⟨p,hp1,h⟩:=bind_some h;obtain⟨r,hr,h⟩:=bind_some h;cases h;rw[_qcp hp1,ih hr];rfl
 ·cases h
theorem _qj5{K:Frag}{F:Hp}{v:V}{p:Int×List Int}(r:Rep K F v (.tup [.int p.1,.lst (p.2.map D.int)])):∃t m,v=.ref t/\SqT K F t [.int p.1,.ref m]/\SqE K F m (p.2.map V.int):=by
 cases r with
 |tup h r=>
  cases r with
  |cons r1 r=>cases r with
   |cons r2 r=>cases r with
    |nil=>
     cases r1;cases r2 with
     |lst h2 t=>
      have:=_qf t
      subst this;exact⟨_,_,rfl,h,h2⟩
theorem _qeh{K:Frag}{F0 H H':Hp}{c0 c2 c3 c4:Option V}{d:Addr}{kvs:List (List Int×V)}{hp:List (Int×List Int)}{Q:VK}(sm:_qwk F0 H) (s1:_qwk H H') (hd:H' d=some (.dT (dkv kvs))) (tw:TWt kvs hp) (hl:hp.length<60) (hm:∀p∈hp,p.2.length<60)
  (k:∀v F' H' A,Ext F0 H F' H'->Own K F' H' v (.lst ((_Xm hp).map _qbj)) A->(∀b,A b->F' b=none/\H b=none)->Q v H'):
  _qei (_qoc K (tCB (λxs H Q=>∃(p:Addr) (kvs:List (List Int×V)),xs=[.ref p]/\H p=some (.dT (dkv kvs))/\kvs.length<64/\∀l (bs:List Addr),H l=none->bs.length=(_ju (kvs.map (·.1))).length->(∀j (hj:j<bs.length),H bs[j]=some (.tup (((_ju (kvs.map (·.1))).getD j []).map V.int)))->Q (.ref l) (upd H l (.lst (bs.map V.ref)))) (_w7 (_qv1 1) _qv2)))
   (_z0 0) _Qi (tTup (_w7 (tDGet (_qv1 1) (_qv1 0)) (_w7 (tCB (rLOf K) (_w7 (_qv1 0) _qv2)) _qv2))) [none,some 1] [c0,some (.ref d),c2,c3,c4] H' Q:=by
 refine⟨_,rfl,d,kvs,rfl,hd,by have:=tw.1;omega,λl bs hl1 hbl hbs=>⟨l,rfl,⟨_,SqL.of _b⟩,λL hL=>?_⟩⟩;rw[_qif tw]at hbl hbs;have hld:d≠l:=_d hd hl1;have hd1:upd H' l (.lst (bs.map V.ref)) d=some (.dT (dkv kvs)):=by rw[_f hld];exact hd
 have s2:_qwk H' (upd H' l (.lst (bs.map V.ref))):=_i hl1;have sF:_qwk F0 (upd H' l (.lst (bs.map V.ref))):=(sm.trans s1).trans s2;have hn:bs.length=(_Xm hp).length:=by rw[hbl];simp[_Xm]
 have e0:Ext F0 H F0 (upd H' l (.lst (bs.map V.ref))):=⟨_qwk.refl _,sF,s1.trans s2,λ_ _ h=>.inl h⟩;have re0:∀(F:Hp) (σ:L2.St),RE K F σ [none,none]:=λF σ i d h=>by
  match i,h with
  |0,h=>cases h
  |1,h=>cases h
 generalize hH1:upd H' l (.lst (bs.map V.ref))=H1 at*;have hl2:H1 l=some (.lst (bs.map V.ref)):=by rw[<-hH1];exact _b
 refine⟨λi m σ' H''=>i<=bs.length/\m=bs.length-i/\∃F' c,σ'=[c,some (.ref d)]/\CI K F0 H1 F' H'' σ' [none,none] L (((_Xm hp).take i).map _qbj),⟨_,zero_le _,rfl,F0,none,rfl,Ext.laidH sF hL,re0 _ _,rfl,sF.free hL,[],λ_=>False,_b,.nil λ_ z=>z,λ_ z=>z.elim⟩,?_⟩;rintro i m σ' H'' ⟨hi,rfl,F',c,rfl,ci⟩;have hq:SqL K H'' l (bs.map V.ref):=SqL.of (ci.ext.hh _ _ hl2)
 by_cases hlt:i<bs.length
 ·have hm':(bs.map V.ref)[i]?=some (.ref bs[i]):=by simp[hlt]
  refine .inr ⟨⟨_,_,hq,hm'⟩,λx H2 y=>?_⟩;obtain⟨rfl,y⟩:=y;have hx:x=.ref bs[i]:=by
   have:=y _ hq
   rw[hm']at this;exact(Option.some.inj this).symm
  subst hx;unfold _z0 _Qi;dsimp only;rw[if_pos rfl];have hki:i< (_ju (hp.map (·.2))).length:=by rw[<-hbl];exact hlt
  have hkey:H2 bs[i]=some (.tup (((_ju (hp.map (·.2)))[i]).map V.int)):=by
   have:=hbs i hlt
   rw[getD_eq_getElem?_getD,getElem?_eq_getElem hki]at this;exact ci.ext.hh _ _ (s2 _ _ this)
  have hmem:(_ju (hp.map (·.2)))[i]∈hp.map (·.2):=MT.mem_keys.mp (getElem_mem hki);have hv:_quw (dkv kvs) (((_ju (hp.map (·.2)))[i]).map Sum.inl)=some (.int (wtK hp (_ju (hp.map (·.2)))[i])):=by
   rw[_qdc,tw.2,if_pos hmem]
  have hz:((_ju (hp.map (·.2)))[i]).length<60:=by
   obtain⟨p,hp1,e⟩:=Ag.mp hmem;rw[<-e];exact hm p hp1
  have hdg:=_qww.t (ci.ext.hh _ _ hd1) (k:=((_ju (hp.map (·.2)))[i]).map Sum.inl) (b:=bs[i]) (by rw[_zp];exact hkey);rw[hv]at hdg;refine⟨_,rfl,_,rfl,d,_,rfl,hdg,_,rfl,bs[i],_,rfl,.inr (SqT.of hkey),λq hq1=>⟨by show 2<=Aj;rw[Ao];omega,λp hp1=>?_⟩⟩;obtain⟨e4,r4,n4⟩:=_qjj (K:=K) (w:=wtK hp (_ju (hp.map (·.2)))[i]) ci.ext.fh hq1 hp1;have ci2:CI K F0 H1 F' H2 [some (.ref bs[i]),some (.ref d)] [none,none] L (((_Xm hp).take i).map _qbj):=⟨ci.ext,re0 _ _,rfl,ci.fl,ci.hl⟩;obtain⟨acc,a1,a2,a3⟩:=_qrz ci2 hL e4 r4 n4;refine⟨acc,a1,?_,_,Nat.sub_succ_lt_self _ _ hlt,hlt,rfl,upd F' p (.tup [.int (wtK hp (_ju (hp.map (·.2)))[i]),.ref q]),_,rfl,?_⟩
  ·rw[a2,length_map,length_take,Ao]
   have:(_Xm hp).length=bs.length:=hn.symm
   have hk2:(_ju (hp.map (·.2))).length<=hp.length:=by
    have:=MT.keys_len (hp.map (·.2))
    simpa using this
   omega
  ·have ht:(_Xm hp).take (i+1)=(_Xm hp).take i++[(wtK hp (_ju (hp.map (·.2)))[i],(_ju (hp.map (·.2)))[i])]:=by
    rw[take_succ_eq_append_getElem (by omega)];simp[_Xm]
   rw[ht,map_append];exact a3
 ·refine .inl ⟨⟨_,hq,by simp;omega⟩,?_⟩
  have e:(_Xm hp).take i=_Xm hp:=Eh (by omega);rw[e]at ci;obtain⟨A,o1,o2⟩:=ci.own hL;exact k (.ref L) F' H'' A (e0.trans ci.ext) o1 λb z=>⟨(o2 b z).1,e0.hh.free (o2 b z).2⟩
theorem _qai {K:Frag} {F0 H:Hp} {vs:List V} {ds:List D} {o:O} {Q:VK} (sm:_qwk F0 H) (r:Reps K F0 vs ds) (hl:ds.length=1) (hg:_qm7 ds=some o) (k:∀ v F' H' A,Ext F0 H F' H'->Own K F' H' v o A->(∀ b,A b->F' b=none/\H b=none)->Q v H') :
  tSeq (tAsg tDNewT (_z0 1)) (tSeq (tFor (_qoc K (_qv1 0)) (gTup K 2 (_qd0 (_z0 2) (_qd0 (_z0 3) gNil))) (tSeq (tAsg (tCB (λxs H Q=>∃p ys,xs=[.ref p]/\((SqL K H p ys/\∀l,H l=none->Q (.ref l) (upd H l (.tup ys)))\/(SqT K H p ys/\Q (.ref p) H))) (_w7 (_qv1 3) _qv2)) (_z0 4)) (sDPut (_qv1 1) (_qv1 4) (tOp (rI0 λi j=>.int (i+j)) (_qma (_qv1 1) (_qv1 4) (tC (.int 0))) (_qv1 2)))))
   (tRet (_qei (_qoc K (tCB (λxs H Q=>∃(p:Addr) (kvs:List (List Int×V)),xs=[.ref p]/\H p=some (.dT (dkv kvs))/\kvs.length<64/\∀l (bs:List Addr),H l=none->bs.length=(_ju (kvs.map (·.1))).length->(∀j (hj:j<bs.length),H bs[j]=some (.tup (((_ju (kvs.map (·.1))).getD j []).map V.int)))->Q (.ref l) (upd H l (.lst (bs.map V.ref)))) (_w7 (_qv1 1) _qv2)))
    (_z0 0) _Qi (tTup (_w7 (tDGet (_qv1 1) (_qv1 0)) (_w7 (tCB (rLOf K) (_w7 (_qv1 0) _qv2)) _qv2))) [none,some 1]))) {nx:=λ_ H'=>Q .non H',rt:=Q} (vs.map some++Dh (5-vs.length) none) H:=by
 cases r with
 |nil=>cases hl
 | cons r1 r=>cases r with
  |cons r2 r=>cases hl
  | nil =>
   obtain⟨hp,hk,hg⟩:=bind_some (show(_qlx _).bind _=some o from hg);split at hg
   ·rename_i hc
    cases hg
    have:=_qcq hk
    subst this;cases r1 with
    |lst q t=>
     rename_i a vs0;have hmk:∀p∈hp,p.2.length<60:=λp hp1=>by simpa using List.all_eq_true.mp hc.2 p hp1
     have hvl:vs0.length=hp.length:=by rw[t.length];simp
     refine λd hd=>?_;refine⟨_,rfl,a,rfl,⟨vs0,(_qv6 (sm.trans (_i hd)) q).l⟩,_J1 (xs:=vs0) (λi σ' H'=>∃c2 c3 c4 kvs,σ'=[some (.ref a),some (.ref d),c2,c3,c4]/\_qwk H H'/\H' d=some (.dT (dkv kvs))/\TWt kvs (hp.take i))
      ⟨none,none,none,[],rfl,_i hd,_b,by simpa using _qm4⟩ (λi σ' H' _ ⟨_,_,_,_,_,s1,_⟩=>(_qv6 (sm.trans s1) q).l) (λi x σ' H' hx hI=>?_) λσ' H' hI=>?_⟩
     ·obtain⟨c2,c3,c4,kvs,rfl,s1,hd1,tw⟩:=hI
      obtain⟨dd,hdd,rp⟩:=t.get hx;rw[getElem?_map]at hdd;obtain⟨p,hpi,rfl⟩:=map_some hdd;obtain⟨t',m,rfl,ht,hm⟩:=_qj5 rp;refine⟨t',[.int p.1,.ref m],rfl,seqT (sm.trans s1) ht,rfl,_,_,rfl,_,_,rfl,rfl,?_⟩;refine⟨_,rfl,m,_,rfl,.inl ⟨(_qv6 (sm.trans s1) hm).l,λkt hkt=>?_⟩⟩;have hdk:d≠kt:=_d hd1 hkt;have hd2:upd H' kt (.tup (p.2.map V.int)) d=some (.dT (dkv kvs)):=by rw[_f hdk];exact hd1
      have hk2:upd H' kt (.tup (p.2.map V.int)) kt=some (.tup ((p.2.map Sum.inl:List Key).map kV)):=by rw[_zp];exact _b
      have hdg:=_qww.t hd2 hk2;have hlen:(dkv kvs).length<Aj:=by
       have:=tw.1
       simp at this;simp[dkv,Ao];omega
      have hgd:(_quw (dkv kvs) (p.2.map Sum.inl)).getD (.int 0)=.int (wtK (hp.take i) p.2):=by rw[_qdc];exact _qm5 tw p.2
      refine⟨_,rfl,d,rfl,.inr ⟨_,.inl hd2⟩,_,rfl,_,hdg,_,rfl,_,_,hgd,rfl,_,rfl,_,rfl,d,_,rfl,DPut.t hd2 hk2 hlen,?_⟩;refine⟨_,_,_,_qvc kvs p.2 (.int (wtK (hp.take i) p.2+p.1)),rfl,λb u hb=>?_,by rw[_b,_qou],?_⟩
      ·rw[_f (_d hb hd),_f (_d (s1 _ _ hb) hkt)]
       exact s1 _ _ hb
      ·have e:hp.take (i+1)=hp.take i++[(p.1,p.2)]:=by
        obtain⟨hi,e⟩:=Ai.mp hpi;rw[take_succ_eq_append_getElem hi,e]
       rw[e];exact _qm3 tw p.1 p.2
     ·obtain⟨c2,c3,c4,kvs,rfl,s1,hd1,tw⟩:=hI
      rw[hvl,take_length]at tw;exact _qeh sm s1 hd1 tw hc.1 hmk k
   ·cases hg
section
variable{P:Ak}{w:World}{K:Frag}{mg:Str->Option Value}{base:Heap}{N:List Str}{qual:Str}{scope:Scope}{f:Addr}{cd:Value}{A:Around}{outer:List Env}{s:Shared}{H:Hp}{E:XK}{C:Addr}
end
section
variable{X:Cx}{pins p2:List (Addr×Obj)}{R:Addr->Hp->Prop}{σ:L2.St}{H:Hp}{s:Shared}
structure ExcS(K:Frag) (C C':Addr):Prop where
 ty:Kr K (.ref C')=some (.type "type")
 cl:(Lp K C').isSome=true
 be:Er K C' (.type "BaseException")=some true
 su:Er K C (.ref C')=some false
end
section
variable{X:Cx}
theorem _Yn(x:Str) (h:1<=x.length):(Txt.slice x (some 1) none)=⟨(x.cps.toList.drop 1).toArray⟩:=by
 unfold Txt.slice;have e:Hs (some 1) none 1 x.length=Hs (some ((1:Nat):Int)) (some (x.length:Int)) 1 x.length:=by
  rw[StrLaws.sliceIdx_none_hi];rfl
 rw[e];have e2:=StrLaws.strSliceIndices_plain h (le_refl x.length);have e3:=StrLaws.sliced_plain x h (le_refl x.length);rw[if_neg (by rw[e2];simp;omega),e3];congr 2;rw[Eh (by simp[Str.length])]
def rSl1:V->Option Int->Option Int->Hp->VK->Prop:=λx lo hi H Q=>∃z:Str,x=.str z/\lo=some 1/\hi=none/\1<=z.length/\z.length<=Aj/\Q (.str ⟨(z.cps.toList.drop 1).toArray⟩) H
theorem _qmg:SlR X rSl1:=by
 intro pins s σ H x v vl vu lo hi sl Q I rx hs pl pu h;obtain⟨z,rfl,rfl,rfl,h1,hz,q⟩:=h;obtain⟨t,rfl⟩:=rx;cases pl with
 |int i ti=>
  cases pu with
  |none=>
   refine⟨"str",_,slot_str_getitem.lookup,Lz s z t,?_⟩;have hs':s.heap.IsSlice sl (some (1,ti)) none none:=hs;refine wpAny_getItem_str_slice hs' rfl (post_val_or_str ⟨le_trans (Txt.slice_le z (some 1) none) hz,λt' k=>?_⟩);refine⟨.str ⟨(z.cps.toList.drop 1).toArray⟩,H,I.tok k,⟨t',?_⟩,q⟩;rw[<-_Yn z h1];rfl
theorem _qk4:MtR X "str.index" (λx vs H Q=>∃z y i _qvb,x=.str z/\vs=[.str y]/\Jq z y 0 z.length 1=i::_qvb/\Q (.int (i:Nat)) H):=by
 intro pins s σ H x vs v us Q I rx rv h;obtain⟨z,y,i,_qvb,rfl,rfl,ho,q⟩:=h;obtain⟨t,rfl⟩:=rx;obtain⟨u,rfl,ru⟩:=rv.one;obtain⟨t2,rfl⟩:=ru;refine call_gives F.slot_str_index (Lz s z t) F.entry_str_index (F.args_str_index_2 _ _) (gives_str_index z y t t2 i _qvb ho) ?_;exact⟨.int i,H,I.tok _,⟨_,rfl⟩,q⟩
def _xm:Str:="abcdefghijklmnopqrstuvwxyz"
theorem _X6:∀i,i<26->∃_qvb,Jq _xm ⟨#[97+i]⟩ 0 _xm.length 1=i::_qvb:=by
 intro i hi;refine⟨[],?_⟩
 revert i
 decide+kernel
end
section
variable{X:Cx}{pins:List (Addr×Obj)}{σ:L2.St}{H:Hp}{s:Shared}
end
theorem _Qn{X:Cx}{ss:List Stmt}:PSs X ss (λ_ _ _=>False):=λ_ _ _ _ _ _ h=>A5 h
end DL
namespace SortW
open PySem PySem.W PyProof.Rows DL
section
variable{prog:Ak}{w:World}{A:Around}{E:Value->Shared->Prop}{s:Shared}{d it:Addr}{es:Array DictEntry}{ep i:Nat}{ok ov:Value}
theorem _qcu{Q:Option Value->Shared->Prop}(hit:Em s.heap it d i es.size ep ok ov)
  (h:wpAny (model prog w) A.in1 (Builtin.«dict_itemiterator.__next__» ⟨[.ref it],[]⟩) (λfin s'=>∃v,fin=.done (.ret v)/\Q (some v) s') (λe s'=>s'.TypeIs e "StopIteration"/\Q none s') s):wpAny (model prog w) A (Eb (.ref it)) Q E s:=by
 have hT:s.TypeIs (.ref it) "dict_itemiterator":=⟨_,hit,rfl⟩;unfold Eb;refine Ac (Es (Bl (name:=C8 "__next__") hT By (A0 By hT PySem.F.entry_dict_itemiterator_next ?_ (PySem.F.args_dict_itemiterator_next_1 _))));refine Bk h (λfin s' hq=>?_) (λe s' hq=>?_)
 ·obtain⟨v,rfl,hq⟩:=hq
  exact⟨v,rfl,Ad hq⟩
 ·obtain⟨t,hq⟩:=hq
  refine Ac (Fe (T:="StopIteration") (b:=true) t _wq ?_);exact Ad hq
theorem _qji{k v:Value}{Q:Value->Shared->Prop}(hit:Em s.heap it d i es.size ep ok ov)
  (hQ:∀h',Lr h' it d i es.size ep k v s.heap.objs.size->h'.get? s.heap.objs.size=some {cls:=.type "tuple",data:=.seq #[k,v] }->h'.objs.size=s.heap.objs.size+1->(∀b o,b≠it->s.heap.get? b=some o->h'.get? b=some o)->Q (.ref s.heap.objs.size) {s with heap:=h'}):
  wpAny (model prog w) A (D5 (.ref it) 6 k v) Q E s:=by
 obtain⟨hp,g,dr,tk,os⟩:=s;have hil:it≠hp.objs.size:=ne_of_lt (Af hit);unfold D5;refine Ac (Gg ?_);have he:Em (hp.push {cls:=.type "tuple",data:=.seq #[k,v] }) it d i es.size ep ok ov:=Ae _ hit;have ht:(hp.push {cls:=.type "tuple",data:=.seq #[k,v] }).get? hp.objs.size=some {cls:=.type "tuple",data:=.seq #[k,v] }:=Ah _ rfl;have hz:(hp.push {cls:=.type "tuple",data:=.seq #[k,v] }).objs.size=hp.objs.size+1:=Bx _ _;have hk:∀b o,b≠it->hp.get? b=some o->(hp.push {cls:=.type "tuple",data:=.seq #[k,v] }).get? b=some o:=λb o _ e=>Ae _ e;generalize hp.push {cls:=.type "tuple",data:=.seq #[k,v] }=h2 at he ht hz hk;refine(?_:wpAny _ _ (Fk (.ref it)>>=_) _ _ ⟨h2,g,dr,tk,os⟩);refine Ac ?_;unfold Fk;refine Ac (D0 he rfl (x:=.none) rfl (Ad ?_));simp only[if_true];refine Ac (D0 he rfl (x:=ok) rfl (Ac (D0 he rfl (x:=ov) rfl ?_)));refine Ac (En he (by simp) λh3 he3 hs3=>?_);refine Ac (En (show Em h3 it d i es.size ep k ov from he3) (by simp) λh4 he4 hs4=>?_);refine Ac (En (show Em h4 it d i es.size ep k v from he4) (by simp) λh5 he5 hs5=>?_);refine Ac (En (show Lr h5 it d i es.size ep k v hp.objs.size from he5) (by simp) λh6 he6 hs6=>?_);have all:∀b o,b≠it->h2.get? b=some o->h6.get? b=some o:=λb o hb e=>(show Heap.SameBut it h5 h6 from hs6).extBut b o hb ((show Heap.SameBut it h4 h5 from hs5).extBut b o hb ((show Heap.SameBut it h3 h4 from hs4).extBut b o hb ((show Heap.SameBut it h2 h3 from hs3).extBut b o hb e)));refine Ac (K4 (Ad (hQ h6 he6 (all _ _ hil.symm ht) ?_ λb o hb e=>all b o hb (hk b o hb e))));rw[(show Heap.SameBut it h5 h6 from hs6).1,(show Heap.SameBut it h4 h5 from hs5).1,(show Heap.SameBut it h3 h4 from hs4).1,(show Heap.SameBut it h2 h3 from hs3).1,hz]
theorem _qct{Q:Option Value->Shared->Prop}(hit:Em s.heap it d i es.size ep ok ov) (hm:_qwo s.heap d es ep) (hi:i<es.size)
  (hQ:∀h',Lr h' it d (i+1) es.size ep es[i].key es[i].val s.heap.objs.size->h'.get? s.heap.objs.size=some {cls:=.type "tuple",data:=.seq #[es[i].key,es[i].val] }->h'.objs.size=s.heap.objs.size+1->
   (∀b o,b≠it->s.heap.get? b=some o->h'.get? b=some o)->Q (some (.ref s.heap.objs.size)) {s with heap:=h'}):wpAny (model prog w) A (Eb (.ref it)) Q E s:=by
 refine _qcu hit ?_;obtain⟨hp,g,dr,tk,os⟩:=s;obtain⟨od,hod,hcd,hdd⟩:=hm;have hT:G1 ⟨hp,g,dr,tk,os⟩ (.ref it) "dict_itemiterator":=⟨_,hit,rfl⟩;refine Ac (Ad (Ac (Ac ?_)));refine Ac (Cu hT (Ad ?_));refine Ac (Di hit rfl ?_);have own:B0 "dict_itemiterator"=true:=by decide
 simp only[own,if_true];refine(?_:wpAny _ _ (if(Value.ref d==Value.none)=true then _ else _) _ _ _);rw[if_neg (show¬ ((Value.ref d==Value.none)=true)from Al)];refine Ac (Ad (Ac (Bq hod hdd ?_)));rw[if_neg (by simp)];refine Ac (Ad (Ac (Eo hod hdd ?_)));rw[if_neg (by simp)];refine Ad ?_;simp only[show¬ ((i:Int)<0)from by omega,if_false,Bb,Dq hi];refine Ac (Ac (Cu hT (Ad ?_)));refine Ac (Gi hT ?_);refine(?_:wpAny _ _ (Np (.ref it) 3 (Cc ((i:Int)+1))>>=_) _ _ ⟨hp,g,dr,tk,os⟩);refine Ac (En hit (by simp) λh1 he1 hs1=>?_);have hs1':Heap.SameBut it hp h1:=hs1;have he1':Em h1 it d (i+1) es.size ep ok ov:=by
  have e:((i+1:Nat):Int)=(i:Int)+1:=by omega
  unfold Em;rw[e];simpa[Cc]using he1
 have hT1:G1 ⟨h1,g,dr,tk,os⟩ (.ref it) "dict_itemiterator":=⟨_,he1',rfl⟩;refine Ac (Bc (Ac (Gi hT1 (Ac (Gi hT1 ?_)))));refine(?_:wpAny _ _ (D5 (.ref it) 6 es[i].key es[i].val) _ _ ⟨h1,g,dr,tk,os⟩);have hz1:h1.objs.size=hp.objs.size:=hs1'.1;refine _qji he1' λh' a1 a2 a3 a4=>Ad ⟨_,rfl,?_⟩;have e1:(Shared.mk h1 g dr tk os).heap.objs.size=hp.objs.size:=hz1;rw[e1]at a1 a2 a3⊢;exact hQ h' a1 a2 a3 λb o hb e=>a4 b o hb (hs1'.extBut b o hb e)
theorem _qfu{Q:Option Value->Shared->Prop}(hh:A.handled=none) (hit:Em s.heap it d i es.size ep ok ov) (hm:_qwo s.heap d es ep) (hi:es.size<=i)
  (hQ:∀h',Heap.ExtBut it s.heap h'->Q none {s with heap:=h'}):wpAny (model prog w) A (Eb (.ref it)) Q E s:=by
 refine _qcu hit ?_;obtain⟨od,hod,hcd,hdd⟩:=hm;have hT:s.TypeIs (.ref it) "dict_itemiterator":=⟨_,hit,rfl⟩;refine Ac (Ad (Ac (Ac ?_)));refine Ac (Cu hT (Ad ?_));refine Ac (Di hit rfl ?_);have own:B0 "dict_itemiterator"=true:=by decide
 simp only[own,if_true];refine(?_:wpAny _ _ (if(Value.ref d==Value.none)=true then _ else _) _ _ s);rw[if_neg (show¬ ((Value.ref d==Value.none)=true)from Al)];refine Ac (Ad (Ac (Bq hod hdd ?_)));rw[if_neg (by simp)];refine Ac (Ad (Ac (Eo hod hdd ?_)));rw[if_neg (by simp)];refine Ad ?_;simp only[show¬ ((i:Int)<0)from by omega,if_false,Bb,getElem?_eq_none hi];refine Ac (Ac (Cu hT (Ad ?_)));refine(?_:wpAny _ _ (Np (.ref it) 2 .none>>=_) _ _ s);refine Ac (Ck hit rfl (by simp) ?_);refine(?_:wpAny _ _ (Nl (.type "StopIteration") []>>=_) _ _ _);simp only[Nl,newTuple];refine Ac (Ac (Ba ?_ (by size_fits)));refine Ac (m:=E6 _ _) (Kw (a:=Value.none) (by first|rfl|(simp only[E6];rfl)) ?_);refine Ba ?_ (by size_fits);simp only[Nm];refine Ac (Ln ?_);rw[show A.in1.handled=none from hh];refine Ac (Ad (M7 ⟨⟨_,Ah _ rfl,rfl⟩,?_⟩));exact hQ _ (((Cn ..).extBut.push _).push _)
end
end SortW
namespace DL
open PySem PySem.Spec PyProof.Rows L2 SortW
section
variable{X:Cx}{pins:List (Addr×Obj)}{σ:L2.St}{H:Hp}{s:Shared}
theorem Inv.freezeT(I:L2.Inv X pins σ H s){d:Addr}{kvs:List (List Key×V)}(e:H d=some (.dT kvs)):∃o es ep,s.heap.get? d=some o/\o.ExactDict/\o.data=.dict es ep/\es.size=kvs.length/\(d==Ca)=false/\L2.Inv X pins σ (upd H d (.frz o (.dT kvs))) s:=by
 obtain⟨z1,z2,xs,r,o,es,ep,ho,hc,hd,he,hn⟩:=(show _z5 X.prog X.w H s.heap d (.dT kvs)from I.hok d _ e);refine⟨o,es,ep,ho,hc,hd,?_,z2,?_⟩
 ·have:=congrArg List.length he
  rw[length_map]at this;rw[<-length_toList,this,r.length]
 ·have nt:∀b ys,H b=some (.tup ys)->b≠d:=λb ys q=>_xf q e (by intro z;cases z)
  exact I.write (x:=d) (e:=d) (h':=s.heap) (t':=s.toks) (by rw[e];exact True.intro) (.inl rfl) (λb q hb z=>z) ⟨o,ho⟩ ⟨ho,z1,z2,xs,Paired.mapP r λp q z=>⟨z.1,by rw[_f (nt _ _ z.2.1)];exact z.2.1,z.2.2⟩,o,es,ep,ho,hc,hd,he,hn⟩
theorem Inv.thaw(I:L2.Inv X pins σ H s){d:Addr}{o:Obj}{u:HO}(e:H d=some (.frz o u)) (h0:∀o' u',X.H₀ d≠some (.frz o' u')):L2.Inv X pins σ (upd H d u) s:=by
 have nn:∀b,H b=none->b≠d:=λb n z=>by rw[z,e]at n;cases n
 have nt:∀b ys,H b=some (.tup ys)->b≠d:=λb ys q=>_xf q e (by intro z;cases z);have no:∀b y,H b=some (.own y)->b≠d:=λb y q=>_xf q e (by intro z;cases z);refine⟨I.ok,I.os,I.bare,⟨I.base.keep,I.base.slot,λb ob q n hx=>?_,I.base.there,λb xs q=>?_,λb ob w q=>?_,λb ps q=>?_⟩,I.loc,I.cell,by rw[_f (nn _ I.free)];exact I.free,λx c q=>by rw[_f (nn _ (I.freeC x c q))];exact I.freeC x c q,λp hp=>?_,λb w q=>?_,I.len⟩
 ·have z:=I.base.free b ob q n hx
  rw[_f (nn _ z)];exact z
 ·have z:=I.base.tups b xs q
  rw[_f (nt _ _ z)];exact z
 ·have z:=I.base.frzs b ob w q
  rw[_f (by rintro rfl;exact h0 _ _ q)];exact z
 ·obtain⟨more,z⟩:=I.base.tbls b ps q
  exact⟨more,by rw[_f (_xf z e (by intro z;cases z))];exact z⟩
 ·obtain⟨a1,a2,a3⟩:=I.pin p hp
  exact⟨a1,by rw[_f (nn _ a2)];exact a2,a3⟩
 ·by_cases hb:b=d
  ·subst hb
   rw[_b]at q;cases q;obtain⟨_,z⟩:=(show _z5 X.prog X.w H s.heap b (.frz o u)from I.hok b _ e);exact z.stay (λ_ _ _ z=>z) (λc z=>by rw[_f (no _ _ z)];exact z) λc xs z=>by rw[_f (nt _ _ z)];exact z
  ·rw[_f hb]at q
   exact(I.hok b w q).stay (λ_ _ _ z=>z) (λc z=>by rw[_f (no _ _ z)];exact z) λc xs z=>by rw[_f (nt _ _ z)];exact z
end
def tThaw(H₀:Hp) (t:TE):TE:=λσ H Q=>t σ H λv H1=>∃d o u,H1 d=some (.frz o u)/\(∀o' u',H₀ d≠some (.frz o' u'))/\Q v (upd H1 d u)
theorem _qn2{X:Cx}{e:Expr}{t:TE}(h:PE X e t):PE X e (tThaw X.H₀ t):=by
 intro pins s σ H Q I q;refine thn (h pins s σ H _ I q) λv s1 hQ=>?_;obtain⟨x,H1,I1,r1,d,o,u,e1,h0,q1⟩:=hQ;exact⟨x,_,Inv.thaw I1 e1 h0,r1,q1⟩
def ItI(d:Addr) (o:Obj) (kvs:List (List Key×V)):It:=
 ⟨λi H=>H d=some (.frz o (.dT kvs))/\i<kvs.length,λi H x H'=>∃T k p,x=.ref T/\H T=none/\kvs[i]?=some p/\H k=some (.tup (p.1.map kV))/\H'=upd H T (.tup [.ref k,p.2]),λi H=>H d=some (.frz o (.dT kvs))/\kvs.length<=i⟩
theorem _Xw{α β:Type}{R:α->β->Prop}:∀{xs:List α}{ys:List β},Paired R xs ys->∀{i:Nat}{x:α},xs[i]?=some x->∃y,ys[i]?=some y/\R x y
 |_,_,.cons h t,0,x,e=>by simp at e;subst e;exact⟨_,rfl,h⟩
 |_,_,.cons h t,i+1,x,e=>by
  obtain⟨y,hy,r⟩:=_Xw t (i:=i) (x:=x) (by simpa using e);exact⟨y,by simpa using hy,r⟩
theorem _qag{P:Ak}{w:World}{K:Frag}{elts:List Expr}{kk:Nat}{tp:Pos}(d it:Addr) (o:Obj) (kvs:List (List Key×V)) (ep:Nat) (es:Array DictEntry) (hd:o.data=.dict es ep) (hz:es.size=kvs.length):
  Turn P w K (.Tuple elts kk tp) (ItI d o kvs) [it] it (λi h=>∃ok ov,Em h it d i es.size ep ok ov) where
 mem:=by simp
 obj:=λi h st b hb=>by
  obtain⟨ok,ov,st⟩:=st;have e:b=it:=by simpa using hb
  subst e;exact⟨_,st,λv z=>by
   have z':Data.fields _=Data.cell v:=z;cases z'⟩
 keep:=λi h h' st k=>by
  obtain⟨ok,ov,st⟩:=st;exact⟨ok,ov,k it (by simp) _ st⟩
 item:=by
  intro X hP hw hK hc i pins s σ H E I hf st hg;subst hP hw hK;obtain⟨ok,ov,st⟩:=st;obtain⟨hg,hi⟩:=hg;obtain⟨ho,z1,z2,xs,r,o',es',ep',ho',hx,hxd,hxs,hn⟩:=(show _z5 X.prog X.w H s.heap d (.frz o (.dT kvs))from I.hok d _ hg);rw[ho]at ho';cases ho';rw[hd]at hxd;cases hxd;have hi':i<es.size:=by omega
  obtain⟨y,hy,e1,e2,e3⟩:=_Xw r (i:=i) (x:=kvs[i]) (by simp[hi]);have he:es[i]=entryOfKey (Fv (_qp X.prog X.w)) y:=by
   have h1:es.toList[i]?=some es[i]:=by simp[hi']
   rw[hxs,getElem?_map,hy]at h1;exact(Option.some.inj h1).symm
  have hit:it<s.heap.objs.size:=Af st;refine _qct st ⟨o,ho,hx,hd⟩ hi' λh' a1 a2 a3 a4=>⟨_,rfl,?_⟩;rw[he]at a1 a2;refine wpAny_letOwnedTupleGo_items (s:={s with heap:=h'}) a1 λh'' b1 b2=>?_;have nT:s.heap.objs.size≠it:=ne_of_gt hit;have kall:∀b u,b∉[it]->s.heap.get? b=some u->h''.get? b=some u:=λb u hb e=>b2.extBut b u (by simpa using hb) (a4 b u (by simpa using hb) e);have new:_z5 X.prog X.w (upd H s.heap.objs.size (.tup [.ref y.2.1,kvs[i].2])) h'' s.heap.objs.size (.tup [.ref y.2.1,kvs[i].2]):=
   ⟨by simp[Ao],[.ref y.2.1,y.2.2],.cons rfl (.cons e3 .nil),_,b2.extBut _ _ nT a2,rfl,0,rfl⟩
  have I2:=DL.Inv.turnedT I (h':=h'') (t':=s.toks) kall hf (le_refl _) new;refine⟨.ref s.heap.objs.size,_,I2,rfl,⟨_,y.2.1,kvs[i],rfl,I.hok.fresh (le_refl _),by simp[hi],e2,rfl⟩,⟨_,_,b1⟩,λb hb=>?_⟩;have hb':b=it:=by simpa using hb
  subst hb';rw[_f nT.symm];exact(hf b (by simp)).1
 done:=by
  intro X hP hw hK hc i pins s σ H E I hf st hg;subst hP hw hK;obtain⟨ok,ov,st⟩:=st;obtain⟨hg,hi⟩:=hg;obtain⟨f0,f1,f2,f3,f4,f5⟩:=hf it (by simp);obtain⟨ho,z1,z2,xs,r,o',es',ep',ho',hx,hxd,hxs,hn⟩:=(show _z5 X.prog X.w H s.heap d (.frz o (.dT kvs))from I.hok d _ hg);exact _qfu (I.ok.hd hc) st ⟨o,ho,by rw[ho]at ho';cases ho';exact hx,hd⟩ (by omega) λh' eb=>⟨rfl,I.turned (t':=s.toks) (λb o hb e=>eb b o hb e) f0 f1 f3 f4 f5⟩
 self:=λA i s Q E st h=>by
  obtain⟨ok,ov,st⟩:=st;have hT:s.TypeIs (.ref it) "dict_itemiterator":=⟨_,st,rfl⟩;have hen:Nk table "dict_itemiterator.__iter__"=some Builtin.«dict_keyiterator.__iter__»:=Kx (id':="dict_keyiterator.__iter__") (by kernel_rfl) rfl (by decide+kernel) (by kernel_rfl);refine Ez hT Fm (A0 Fm hT hen ?_ (PySem.F.args_dict_itemiterator_iter_1 _));refine(?_:wpAny _ _ (ret (.ref it)) _ _ s);exact Ad ⟨_,rfl,"dict_itemiterator",_,hT,By.lookup,h⟩
theorem _wu{κ:Type} [DecidableEq κ] {β:Type}:∀{xs:List (κ×β)},(xs.map (·.1)).Nodup->∀{j:Nat}{k:κ}{p:β},xs[j]?=some (k,p)->xs.eraseIdx j=xs.filter λx=>decide (x.1≠k)
 | [],_,j,k,p,h=>by simp at h
 |x::xs,hn,0,k,p,h=>by
  simp at h;subst h;rw[map_cons,nodup_cons]at hn;simp only[List.eraseIdx_zero,List.tail_cons];rw[filter_cons_of_neg (by simp)];refine(Au.mpr λy hy=>?_).symm
  have:y.1∈xs.map (·.1):=Ag.mpr ⟨y,hy,rfl⟩
  simp
  rintro rfl;exact hn.1 this
 |x::xs,hn,j+1,k,p,h=>by
  rw[map_cons,nodup_cons]at hn;have hj:xs[j]?=some (k,p):=by simpa using h
  have hk:k∈xs.map (·.1):=Ag.mpr ⟨(k,p),mem_of_getElem? hj,rfl⟩;have ne:x.1≠k:=by rintro e;rw[e]at hn;exact hn.1 hk
  rw[Fx,_wu hn.2 hj,filter_cons_of_pos (by simpa using ne)]
theorem _Wj{α β:Type}(f:α->β):∀(xs:List α) (j:Nat),(xs.map f).eraseIdx j=(xs.eraseIdx j).map f
 | [],_=>by simp
 |x::xs,0=>by simp
 |x::xs,j+1=>by simp only[map_cons,Fx,_Wj f xs j]
theorem KT.drop{H:Hp}{kvs:List (List Key×V)}{xs:List (List Key×Addr×Value)}(r:KT H kvs xs) (k:List Key):KT H (_qg5 kvs k) (xs.filter λx=>decide (x.1≠k)):=by
 unfold _qg5
 induction r with
 |nil=>exact .nil
 | @cons p q ps qs h t ih=>
  by_cases e:p.1=k
  ·rw[filter_cons_of_neg (by simp[e]),filter_cons_of_neg (by simp[<-h.1,e])];exact ih
  ·rw[filter_cons_of_pos (by simp[e]),filter_cons_of_pos (by simp[<-h.1,e])];exact .cons h ih
section
variable{prog:Ak}{w:World}{κ:Type} [DecidableEq κ] {knd:HeapKind prog w κ}{A:Around}{E:Value->Shared->Prop}{s:Shared}{d a:Addr}{xs:List (κ×Addr×Value)}{k:κ}
theorem _k5{Q:Option DictEntry->Shared->Prop}(hu:knd.room A) (hkey:knd.is s.heap k a) (hm:s.heap.DictOfH knd d xs) (hsz:xs.length<=Aj)
  (hnone:atKey xs k=none->Q none {s with toks:=s.toks+knd.draws k})
  (hsome:∀p h',atKey xs k=some p->h'.DictOfH knd d (xs.filter λx=>decide (x.1≠k))->Heap.SameBut d s.heap h'->Q (some (entryOfKey knd (k,p))) {s with heap:=h',toks:=s.toks+knd.draws k}):
  wpAny (model prog w) A (K5 d (.ref a)) Q E s:=by
 obtain⟨o,es,ep,ho,hc,hd,he,his,hn⟩:=hm;unfold K5;refine Bc ?_;refine Ac (knd.pyHash hu hkey (Ac (wpAny_dictFind_heap (s:={s with toks:=s.toks+knd.draws k}) hu hkey ho hd he his hn ?_ ?_)))
 ·intro hno
  exact Ad (hnone (atKey_none_of_get hno))
 ·intro j p hj
  refine Ac (Bq (s:={s with toks:=s.toks+knd.draws k}) ho hd ?_);rw[entry_at he j,hj];have hz:es.size<=Aj:=by rw[size_of_entries he];exact hsz
  have hjl:j<es.size:=by
   rw[size_of_entries he];exact(Ai.mp hj).1
  refine Ac (wpAny_updateDictKeys (hz:=hz) (s:={s with toks:=s.toks+knd.draws k}) ho hd (Ad (hsome p _ (atKey_of_get hn hj)
   ⟨_,_,ep+1,Bh _ ho (Obj.isFreed_of_dict (K6 hd _)),hc.mapDictKeys _,K6 hd _,?_,λx hx=>?_,?_⟩ (Cn ..))))
  ·rw[Array.toList_eraseIdxIfInBounds,he,<-_wu hn hj,_Wj]
  ·exact knd.keeps (his x (Ay.mp hx).1) ho hd (Cn ..)
  ·exact(Gy _ filter_sublist).nodup hn
end
section
variable{X:Cx}{pins:List (Addr×Obj)}{σ:L2.St}{H:Hp}{s:Shared}{a b:Addr}{kvs:List (List Key×V)}{k:List Key}{A:Around}{E:Value->Shared->Prop}
theorem _qrv{more:List Value}{Q:Value->Shared->Prop}(hu:A.units+1<cLine) (I:L2.Inv X pins σ H s) (e:H a=some (.dT kvs)) (eb:H b=some (.tup (k.map kV))) (hm:more=[]\/ ∃x,more=[x])
  (h1:∀v w' s',_quw kvs k=some v->L2.Inv X pins σ (upd H a (.dT (_qg5 kvs k))) s'->_qwm v w'->Q w' s') (h2:_quw kvs k=none->∃x,more=[x]/\∀s',L2.Inv X pins σ H s'->Q x s'):
  wpAny (model X.prog X.w) A (call (.builtin "dict.pop") (.ref a:: .ref b::more)) Q E s:=by
 obtain⟨z,hd,xs,rel,dd⟩:=dt_of I.hok e;have hz:xs.length<=Aj:=by rw[<-Paired.length rel];exact z
 have ha:argsOk "dict.pop" ⟨.ref a:: .ref b::more,[]⟩:=by
  rcases hm with q|⟨x,q⟩
  ·subst q;exact PySem.F.args_dict_pop_2 _ _
  ·subst q;exact PySem.F.args_dict_pop_3 _ _ _
 have kk:=_Vu I.hok eb;refine A0 Km dd.typeIs PySem.F.entry_dict_pop ?_ ha;unfold Builtin.«dict.pop»;refine Ac ?_;unfold Builtin.Dict.keyAndDefault;refine Ac (Gr dd.typeIs ?_);obtain⟨o,es,ep,ho,hc,hdat,he,his,hn⟩:=id dd;have emp:es.isEmpty=true->_quw kvs k=none:=by
  intro hem
  have:es.toList=[]:=by simpa using hem
  rw[this]at he;have hx:xs=[]:=by simpa using he.symm
  subst hx;cases rel;rfl
 have non:atKey xs k=none->_quw kvs k=none:=by
  intro hno
  have:=rel.val k
  rw[hno]at this;cases q:_quw kvs k with
  |none=>rfl
  |some v=>rw[q]at this;exact this.elim
 have got:∀p h',atKey xs k=some p->h'.DictOfH (Fv (_qp X.prog X.w)) a (xs.filter λx=>decide (x.1≠k))->Heap.SameBut a s.heap h'->Q p.2 {s with heap:=h',toks:=s.toks+(Fv (_qp X.prog X.w)).draws k}:=by
  intro p h' hp dd' hs;have rv:=rel.val k;rw[hp]at rv;cases q:_quw kvs k with
  |none=>rw[q]at rv;exact rv.elim
  |some v=>
   rw[q]at rv;refine h1 v _ _ q ?_ rv;obtain⟨q1,es1,ep1,hq1,g2,g3,g4,_,g5⟩:=dd';refine _qde I (by rw[e];exact True.intro) hs ⟨q1,hq1⟩ ⟨le_trans (_ql7 kvs k) z,hd,_,(KT.drop rel k).keeps λc ys ec=>?_,q1,es1,ep1,hq1,g2,g3,g4,g5⟩;rw[_f (_xf ec e (λz=>nomatch z))];exact ec
 rcases hm with rfl|⟨x,rfl⟩
 ·refine(?_:wpAny _ _ (pure (a,Value.ref b,none)) _ _ s)
  refine Ad ?_;dsimp only;rw[if_neg (show¬ (keyPart (Value.ref b)).isSome=true from by simp[keyPart])];refine Ac (Bq ho hdat (Ac (Ad ?_)))
  by_cases hem:es.isEmpty=true
  ·obtain⟨x,hx,_⟩:=h2 (emp hem)
   cases hx
  ·rw[if_neg hem]
   refine Ac (_k5 (Ct hu) kk dd hz (λhno=>?_) λp h' hp dd' hs=>?_)
   ·obtain⟨x,hx,_⟩:=h2 (non hno)
    cases hx
   ·simp only[L8,Aw,if_false]
    exact Ac (K4 (Ad ⟨_,rfl,got p h' hp dd' hs⟩))
 ·refine(?_:wpAny _ _ (pure (a,Value.ref b,some x)) _ _ s)
  refine Ad ?_;dsimp only;rw[if_neg (show¬ (keyPart (Value.ref b)).isSome=true from by simp[keyPart])];refine Ac (Bq ho hdat (Ac (Ad ?_)))
  by_cases hem:es.isEmpty=true
  ·rw[if_pos hem]
   refine Ac (Ei (Ac (Ad ?_)));simp only[L9,if_true];refine Ac (Ik hd ?_);obtain⟨y,hy,hq⟩:=h2 (emp hem);cases hy;exact Ac (Ei (Ad ⟨x,rfl,hq s I⟩))
  ·rw[if_neg hem]
   refine Ac (_k5 (Ct hu) kk dd hz (λhno=>?_) λp h' hp dd' hs=>?_)
   ·simp only[L9,if_true]
    refine Ac (Ik hd ?_);obtain⟨y,hy,hq⟩:=h2 (non hno);cases hy;exact Ac (Ei (Ad ⟨x,rfl,hq _ (I.tok _)⟩))
   ·simp only[L8,Aw,if_false]
    exact Ac (K4 (Ad ⟨_,rfl,got p h' hp dd' hs⟩))
end
end DL
namespace DL
open PySem PySem.Spec PyProof.Rows L2
section
variable{X:Cx}{pins:List (Addr×Obj)}{σ:L2.St}{H H1:Hp}{s s':Shared}{C:Addr}{e:Value}
end
section
variable{P:Ak}{w:World}{K:Frag}{mg:Str->Option Value}{base:Heap}{N:List Str}{qual:Str}{scope:Scope}{f:Addr}{cd:Value}{A:Around}{outer:List Env}{s:Shared}{H:Hp}{E:XK}{C:Addr}
end
section
variable{X:Cx}{pins p2:List (Addr×Obj)}{R:Addr->Hp->Prop}{σ:L2.St}{H:Hp}{s:Shared}
end
end DL
namespace DL
open PySem PySem.Spec PyProof.Rows L2 SortW
def iItemsT(tl:TE):TI:=λσ H R=>tl σ H λx H1=>∃d kvs,x=.ref d/\H1 d=some (.dT kvs)/\∀o,R (ItI d o kvs) (upd H1 d (.frz o (.dT kvs)))
theorem _qf2{X:Cx}{e:Expr}{elts:List Expr}{kk:Nat}{tp apos pos:Pos}{tl:TE}(hl:PE X e tl) (hbase:Ep e "items" X.env (eval e X.env)=eval e X.env:=by rfl) (hline:(apos.endLine==pos.line)=true:=by rfl):
  PI X (.Tuple elts kk tp) (.Call (.Attribute e "items" apos) [] [] pos) (iItemsT tl):=by
 intro pins s σ H R I h;refine Jc (T:="dict") (id:="dict.items") hbase rfl hline Fz Jr PySem.F.type_dict_items (thn (hl pins s σ H _ I h) λv s1 hQ=>?_);obtain⟨x,H1,I1,r1,d,kvs,ex,ed,q⟩:=hQ;subst ex;obtain rfl:v=Value.ref d:=r1;obtain⟨o,es,ep,ho,hc,hd,hz,hsys,I2⟩:=Inv.freezeT I1 ed;have hT:s1.TypeIs (.ref d) "dict":=⟨o,ho,hc.1⟩;refine⟨hT,λb q=>by cases q;exact⟨o,ho,hc.2.1⟩,?_⟩;refine(?_:wpAny _ _ (callWith pos (.builtin "dict.items") [.ref d] [] []) _ _ s1);refine Ef rfl (PySem.evalArgs_none ?_);refine A0 Jr hT PySem.F.entry_dict_items ?_ (PySem.F.args_dict_items_1 _);unfold Builtin.«dict.items» Builtin.Dict.noArgs;refine Ac (Ac (Gr hT ?_));refine(?_:wpAny _ _ (pure d) _ _ s1);refine Ad ?_;refine(?_:wpAny _ _ (Ew d>>=_) _ _ s1);unfold Ew;rw[if_neg (by rw[hsys];exact Al)];refine Ac (Ad (Ac (Ba (Ad ⟨_,rfl,?_⟩))));have I3:=I2.kept (h':=s1.heap.push {cls:=.type "dict_items",data:=.fields #[.ref d] }) (t':=s1.toks) λb u q=>Ae _ q;have hv:(s1.heap.push {cls:=.type "dict_items",data:=.fields #[.ref d] }).get? s1.heap.objs.size=some {cls:=.type "dict_items",data:=.fields #[.ref d] }:=Ah _ rfl;have ho3:(s1.heap.push {cls:=.type "dict_items",data:=.fields #[.ref d] }).get? d=some o:=Ae _ ho;generalize hh3:s1.heap.push {cls:=.type "dict_items",data:=.fields #[.ref d] }=h3 at I3 hv ho3;have hTv:G1 {s1 with heap:=h3} (.ref s1.heap.objs.size) "dict_items":=⟨_,hv,rfl⟩;refine(?_:wpAny _ _ (Kq (.ref s1.heap.objs.size)) _ _ {s1 with heap:=h3});refine Ez hTv Hh (A0 Hh hTv PySem.F.entry_dict_items_iter ?_ (PySem.F.args_dict_items_iter_1 _));unfold Builtin.«dict_items.__iter__»;refine Ac (Ad (Ac ?_));unfold Builtin.Dict_items.dictOf;refine Ac (D0 hv rfl (x:=.ref d) rfl (Ad (Ac ?_)));unfold Builtin.Dict_items.newIterator;refine Ac (Bq ho3 hd (Ac (Eo ho3 hd ?_)));have own:B0 "dict_itemiterator"=true:=by decide
 simp only[own,if_true];refine Ba (Ad ⟨_,rfl,"dict_itemiterator",_,⟨_,Ah _ rfl,rfl⟩,By.lookup,?_⟩)
  (by simp only[sizeOk,Fo,size_toArray,length_append,length_cons,List.length_nil,Ao];omega)
 have I4:=I3.kept (h':=h3.push {cls:=.type "dict_itemiterator",data:=.fields #[.none,.bool false,.ref d,.int 0 0,.int es.size 0,.int ep 0,.none,.none] }) (t':=s1.toks) λb u q=>Ae _ q;have fin:PIE X pins σ (.Tuple elts kk tp) R (.ref h3.objs.size) {s1 with heap:=h3.push {cls:=.type "dict_itemiterator",data:=.fields #[.none,.bool false,.ref d,.int 0 0,.int es.size 0,.int ep 0,.none,.none] } }:=by
  refine⟨_,[_],_,_,_,rfl,I4,_qag d _ o kvs ep es hd hz,⟨_,_,Ah _ rfl⟩,λb hb=>?_,q o⟩;have hb':b=h3.objs.size:=by simpa using hb
  subst hb';exact I3.fpOk (le_refl _) (I3.hok.fresh (le_refl _))
 simpa[Cc,Fo]using fin
def _qm9(td ty tx:TE):TE:=λσ H Q=>td σ H λx H1=>∃a,x=.ref a/\IsD H1 a/\ty σ H1 λy H2=>tx σ H2 λz H3=>∃kvs k b,H3 a=some (.dT kvs)/\y=.ref b/\H3 b=some (.tup (k.map kV))/\
 (∀v,_quw kvs k=some v->Q v (upd H3 a (.dT (_qg5 kvs k))))/\(_quw kvs k=none->Q z H3)
section
variable{X:Cx}{o e f:Expr}{td ty tx:TE}{apos cpos:Pos}
theorem _qf4(hu:X.A.units+1<cLine) (ho:PE X o td) (he:PE X e ty) (hf:PE X f tx) (m:M2 X o "pop" apos e f cpos):PE X (.Call (.Attribute o "pop" apos) [e,f] [] cpos) (_qm9 td ty tx):=by
 intro pins s σ H Q I h;refine Jc m.base m.few m.line Fz Km PySem.F.type_dict_pop (thn (ho pins s σ H _ I h) λu s1 hQ=>?_);obtain⟨x,H1,I1,rx,a,ex,d,q1⟩:=hQ;subst ex;obtain rfl:u=Value.ref a:=rx;obtain⟨t1,t2,_⟩:=_qo7 I1 d;refine⟨t1,t2,?_⟩;rw[m.trees];refine Ef rfl (G5 (Cp (thn (he pins s1 σ H1 _ I1 q1) λiv s2 ⟨y,H2,I2,ry,q2⟩=>
  Cp (thn (hf pins s2 σ H2 _ I2 q2) λfv s3 ⟨z,H3,I3,rz,kvs,k,b,ea,ey,eb,q3,q4⟩=>Ex ?_))))
 subst ey;obtain rfl:iv=Value.ref b:=ry;exact _qrv hu I3 ea eb (.inr ⟨fv,rfl⟩) (λv' w' s4 e1 I4 r4=>⟨v',_,I4,r4,q3 v' e1⟩) λe1=>⟨fv,rfl,λs4 I4=>⟨z,H3,I4,rz,q4 e1⟩⟩
end
section
variable{prog:Ak}{w:World}{A:Around}{E:Value->Shared->Prop}{s:Shared}{d:Addr}{es:Array DictEntry}{ep:Nat}
theorem _qny{R:Value->Shared->Prop}(hd:(d==Ca)=false) (hm:_qwo s.heap d es ep) (h:R (.int es.size s.toks) {s with toks:=s.toks+1}):
  wpAny (model prog w) A (Builtin.«dict.__len__» ⟨[.ref d],[]⟩) (λfin s'=>∃v,fin=.done (.ret v)/\R v s') E s:=by
 obtain⟨o,ho,hc,hdat⟩:=hm;refine(?_:wpAny _ _ (dictSize d>>=_) _ _ s);unfold dictSize;refine Ac (Ac (Bq ho hdat (Ad ?_)));refine(?_:wpAny _ _ (Builtin.Dict.pendingCount d>>=_) _ _ s);refine Ac (wpAny_pendingCount_other hd ?_);refine wpAny_ret_mkInt ?_;simpa using h
theorem _Kc{Q:Value->Shared->Prop}(hd:(d==Ca)=false) (hm:_qwo s.heap d es ep) (hfit:(es.size:Int)<2^63) (h:∀t tk,Q (.int es.size t) {s with toks:=tk}):wpAny (model prog w) A (call (.builtin "len") [.ref d]) Q E s:=by
 refine Dr kind_len plain_len entry_len (args_len1 _) ?_;unfold Builtin.«len»;refine Ac (m:=oneArg "len" _) (Ad ?_);refine Ac (m:=callSpecial? (.ref d) (C8 "__len__")) (Bl (name:=C8 "__len__") hm.ty Kn
  (A0 Kn hm.ty PySem.F.entry_dict_len (_qny hd hm ?_) (PySem.F.args_dict_len_1 _)))
 refine Ac (Bc (Ad ?_));refine Ac (K4 ?_);refine(?_:wpAny _ _ (if((es.size:Nat):Int)<0 then _ else _) _ _ _);rw[if_neg (by omega)];refine(?_:wpAny _ _ (if((es.size:Nat):Int)≥2^63 then _ else _) _ _ _);rw[if_neg (by omega)];exact Ac (wpAny_mkInt (Ad ⟨_,rfl,h _ _⟩))
end
theorem _W9{X:Cx}:_Qg X (.builtin "len") (λxs H Q=>∃a kvs,xs=[V.ref a]/\H a=some (.dT kvs)/\Q (.int kvs.length) H):=by
 intro pins s σ H xs us Q I r h;obtain⟨a,kvs,rfl,ha,q⟩:=h;obtain⟨u,rfl,ru⟩:=_qm2 r;cases ru;obtain⟨o,es,ep,ho,hc,hd,hz,hsys,_⟩:=Inv.freezeT I ha;obtain⟨z,_⟩:=(show _z5 X.prog X.w H s.heap a (.dT kvs)from I.hok a _ ha);refine _Kc hsys ⟨o,ho,hc,hd⟩ (by rw[hz];rw[Ao]at z;omega) λt tk=>⟨.int kvs.length,H,I.tok _,⟨t,by rw[hz]⟩,q⟩
end DL
namespace DL
open PySem PySem.Spec PyProof.Rows L2
theorem _qhj{X:Cx}{K:Frag}(h:X.K=K) (hu:X.A.units+64+1<cLine):OpR X (Bn .In) (rInD K false):=by subst h;exact _Vh hu
theorem _qhe{X:Cx}{K:Frag}{e:Expr}{f:Str}{pos:Pos}{ta:TE}(h:X.K=K) (he:PE X e ta) (hb:Ep e f X.env (eval e X.env)=eval e X.env):PE X (.Attribute e f pos) (tFld K ta f):=by subst h;exact _v4 he hb
theorem _qhd{X:Cx}{K:Frag}{pos:Pos}{es:List Expr}{k:Nat}{t:TGs}{n:Nat}(h:X.K=K) (hc:X.calm=true) (ht:PGs X es t)
  (hn:(Cb es X.env).length=n:=by rfl) (hst:(Cb es X.env).findIdx? (·.1)=none:=by rfl):PG X (.Tuple es k pos) (gTup K n t):=by subst h;exact _qf3 hc ht hn hst
theorem _ze{α β:Type}{xs:List α}{c:α->Bool}{e:α->β}{i:Nat}{x:α}(h:xs[i]?=some x):(((xs.take (i+1)).filter c).map e)=(((xs.take i).filter c).map e)++(if c x=true then[e x]else[]):=by
 have hi:=(Ai.mp h).1;have hx:=(Ai.mp h).2;rw[take_succ_eq_append_getElem hi,hx,List.filter_append,map_append];congr 1
 by_cases hc:c x=true
 ·simp[hc]
 ·simp[hc]
theorem _ww{K:Frag}{z:Addr}{xs:List V}{j:Nat}{tc:TT}{te:TE}{js:List (Option Nat)}{σ:L2.St}{H:Hp}{Q:Addr->Hp->Prop}(hz:SqL K H z xs) (hlen:xs.length<Aj) (c:V->Bool) (e:V->V) (S:L2.St->Prop) (hS:S (mkS js σ))
  (step:∀(i:Nat) (x:V) (σ':L2.St) (H':Hp),xs[i]?=some x->S σ'->_qwk H H'->S (σ'.set j (some x))/\(∀R:Bool->Hp->Prop,R (c x) H'->tc (σ'.set j (some x)) H' R)/\(∀R:VK,c x=true->R (e x) H'->te (σ'.set j (some x)) H' R))
  (k:∀l,H l=none->Q l (upd H l (.lst ((xs.filter c).map e)))):
  ∀l,H l=none->∃W:Nat->Nat->L2.St->Hp->Prop,(∃m,W 0 m (mkS js σ) (upd H l (.lst [])))/\∀i m σ H,W i m σ H->
   ((Itl K z).stop i H/\Q l H)\/((Itl K z).go i H/\∀x H',(Itl K z).yld i H x H'->_z0 j x σ H' λσ2 H2=>tc σ2 H2 λb H3=>
     if b=true then te σ2 H3 λy H4=>∃acc,H4 l=some (.lst acc)/\acc.length<Aj/\∃m',m'<m/\W (i+1) m' σ2 (upd H4 l (.lst (acc++[y])))else∃m',m'<m/\W (i+1) m' σ2 H3):=by
 intro l hl;refine⟨λi m σ' H'=>m=xs.length-i/\i<=xs.length/\S σ'/\H'=upd H l (.lst (((xs.take i).filter c).map e)),⟨_,rfl,zero_le _,hS,by simp⟩,?_⟩;rintro i m σ' H' ⟨rfl,hi,hs,rfl⟩;have sm:_qwk H (upd H l (.lst (((xs.take i).filter c).map e))):=_i hl
 by_cases hlt:i<xs.length
 ·refine .inr ⟨⟨xs,xs[i],sm.seq hz,by simp[hlt]⟩,λx H2 y=>?_⟩
  obtain⟨rfl,y⟩:=y;have hx:=y xs (sm.seq hz);obtain⟨s1,s2,s3⟩:=step i x σ' _ hx hs sm;refine s2 _ ?_
  by_cases hc:c x=true
  ·rw[if_pos hc]
   refine s3 _ hc ⟨_,_b,?_,_,(by omega:xs.length- (i+1)<xs.length-i),rfl,hlt,s1,?_⟩
   ·have h1:(((xs.take i).filter c).map e).length<=(xs.take i).length:=by rw[length_map];exact length_filter_le _ _
    rw[length_take]at h1;omega
   ·rw[_ze hx,if_pos hc]
    funext b
    by_cases hb:b=l
    ·subst hb;rw[_b,_b]
    ·rw[_f hb,_f hb,_f hb]
  ·rw[if_neg hc]
   refine⟨_,(by omega:xs.length- (i+1)<xs.length-i),rfl,hlt,s1,?_⟩;rw[_ze hx,if_neg hc,append_nil]
 ·have e1:i=xs.length:=by omega
  subst e1;refine .inl ⟨⟨xs,sm.seq hz,le_refl _⟩,?_⟩;rw[take_length];exact k l hl
theorem _qdh{K:Frag}{z:Addr}{xs:List V}{j j':Nat}{tc:TT}{te:TE}{js:List (Option Nat)}{σ:L2.St}{H:Hp}{Q:Addr->Hp->Prop}(hz:SqL K H z xs) (hlen:xs.length<Aj) (c:Nat->V->Bool) (e:Nat->V->V) (S:L2.St->Prop) (hS:S (mkS js σ))
  (step:∀(i:Nat) (x:V) (σ':L2.St) (H':Hp),xs[i]?=some x->S σ'->_qwk H H'->S ((σ'.set j (some (.int (i:Int)))).set j' (some x))/\(∀R:Bool->Hp->Prop,R (c i x) H'->tc ((σ'.set j (some (.int (i:Int)))).set j' (some x)) H' R)/\(∀R:VK,c i x=true->R (e i x) H'->te ((σ'.set j (some (.int (i:Int)))).set j' (some x)) H' R))
  (k:∀l H',H l=none->_qwk H H'->H' l=some (.lst ((xs.zipIdx.filter λp=>c p.2 p.1).map λp=>e p.2 p.1))->Q l H'):
  ∀l,H l=none->∃W:Nat->Nat->L2.St->Hp->Prop,(∃m,W 0 m (mkS js σ) (upd H l (.lst [])))/\∀i m σ H,W i m σ H->
   ((Ite K z).stop i H/\Q l H)\/((Ite K z).go i H/\∀x H',(Ite K z).yld i H x H'->gTup K 2 (_qd0 (_z0 j) (_qd0 (_z0 j') gNil)) x σ H' λσ2 H2=>tc σ2 H2 λb H3=>
     if b=true then te σ2 H3 λy H4=>∃acc,H4 l=some (.lst acc)/\acc.length<Aj/\∃m',m'<m/\W (i+1) m' σ2 (upd H4 l (.lst (acc++[y])))else∃m',m'<m/\W (i+1) m' σ2 H3):=by
 intro l hl;refine⟨λi m σ' H'=>m=xs.length-i/\i<=xs.length/\S σ'/\_qwk H H'/\H' l=some (.lst (((xs.zipIdx.take i).filter λp=>c p.2 p.1).map λp=>e p.2 p.1)),⟨_,rfl,zero_le _,hS,_i hl,by simp[_b]⟩,?_⟩;rintro i m σ' H' ⟨rfl,hi,hs,sm,hl'⟩
 by_cases hlt:i<xs.length
 ·refine .inr ⟨⟨xs,xs[i],sm.seq hz,by simp[hlt]⟩,λx H2 y=>?_⟩
  obtain⟨T,v,rfl,hT,rfl,y⟩:=y;have hx:=y xs (sm.seq hz);have hx':xs.zipIdx[i]?=some (v,i):=by rw[List.getElem?_zipIdx,hx];simp
  have sT:_qwk H' (upd H' T (.tup [.int (i:Int),v])):=_i hT;have sm2:=sm.trans sT;have hl2:=sT _ _ hl';obtain⟨s1,s2,s3⟩:=step i v σ' _ hx hs sm2;refine⟨T,_,rfl,.inl (.inl _b),rfl,_,_,rfl,_,_,rfl,rfl,s2 _ ?_⟩
  by_cases hc:c i v=true
  ·rw[if_pos hc]
   refine s3 _ hc ⟨_,hl2,?_,_,(by omega:xs.length- (i+1)<xs.length-i),rfl,hlt,s1,?_,?_⟩
   ·have h1:(((xs.zipIdx.take i).filter λp=>c p.2 p.1).map λp=>e p.2 p.1).length<=(xs.zipIdx.take i).length:=by rw[length_map];exact length_filter_le _ _
    rw[length_take]at h1;omega
   ·intro b o hb
    rw[_f (_d hb hl)];exact sm2 _ _ hb
   ·rw[_b,_ze (c:=λp:V×Nat=>c p.2 p.1) (e:=λp=>e p.2 p.1) hx',if_pos hc]
  ·rw[if_neg hc]
   refine⟨_,(by omega:xs.length- (i+1)<xs.length-i),rfl,hlt,s1,sm2,?_⟩;rw[_ze (c:=λp:V×Nat=>c p.2 p.1) (e:=λp=>e p.2 p.1) hx',if_neg hc,append_nil];exact hl2
 ·have e1:i=xs.length:=by omega
  subst e1;refine .inl ⟨⟨xs,sm.seq hz,rfl⟩,?_⟩;rw[Eh (by simp)]at hl';exact k l _ hl sm hl'
def pkvD(p:List Int×Int):D:=.tup [.int p.2,.lst (p.1.map D.int)]
theorem _K0{K:Frag}{F:Hp}:∀{vs:List V}{ds:List D}{v:V}{d:D},Reps K F vs ds->Rep K F v d->Reps K F (vs++[v]) (ds++[d])
 |_,_,_,_,.nil,h=>.cons h .nil
 |_,_,_,_,.cons a t,h=>.cons a (_K0 t h)
theorem _Y3{K:Frag}{d:Addr}{o:Obj}{kv:List (List Int×Int)}{js:List (Option Nat)}{σ:L2.St}{H:Hp}{Q:Addr->Hp->Prop}(hd:H d=some (.frz o (.dT (kv.map λp=>(p.1.map Sum.inl,V.int p.2))))) (hlen:kv.length<Aj) (hS:∃c c',mkS js σ=[c,c'])
  (k:∀l H' F,H l=none->_qwk H H'->H' d=some (.frz o (.dT (kv.map λp=>(p.1.map Sum.inl,V.int p.2))))->_qwk F H'->F d=none->F l=none->(∃ts,H' l=some (.lst ts)/\Reps K F ts (kv.map pkvD))->Q l H'):
  ∀l,H l=none->∃W:Nat->Nat->L2.St->Hp->Prop,(∃m,W 0 m (mkS js σ) (upd H l (.lst [])))/\∀i m σ H,W i m σ H->
   ((ItI d o (kv.map λp=>(p.1.map Sum.inl,V.int p.2))).stop i H/\Q l H)\/((ItI d o (kv.map λp=>(p.1.map Sum.inl,V.int p.2))).go i H/\∀x H',(ItI d o (kv.map λp=>(p.1.map Sum.inl,V.int p.2))).yld i H x H'->gTup K 2 (_qd0 (_z0 0) (_qd0 (_z0 1) gNil)) x σ H' λσ2 H2=>_Qi σ2 H2 λb H3=>
     if b=true then tTup (_w7 (_qv1 1) (_w7 (tCB (rLOf K) (_w7 (_qv1 0) _qv2)) _qv2)) σ2 H3 λy H4=>∃acc,H4 l=some (.lst acc)/\acc.length<Aj/\∃m',m'<m/\W (i+1) m' σ2 (upd H4 l (.lst (acc++[y])))else∃m',m'<m/\W (i+1) m' σ2 H3):=by
 intro l hl;have nld:d≠l:=_d hd hl;refine⟨λi m σ' H'=>m=kv.length-i/\i<=kv.length/\(∃c c',σ'=[c,c'])/\_qwk H H'/\∃F ts,_qwk F H'/\F d=none/\F l=none/\H' l=some (.lst ts)/\ts.length=i/\Reps K F ts ((kv.take i).map pkvD),⟨_,rfl,zero_le _,hS,_i hl,λ_=>none,[],(λb o e=>by cases e),rfl,rfl,_b,rfl,.nil⟩,?_⟩;rintro i m σ' H' ⟨rfl,hi,⟨c,c',rfl⟩,sm,F,ts,sF,Fd,Fl,hl',hts,rp⟩
 by_cases hlt:i<kv.length
 ·refine .inr ⟨⟨sm _ _ hd,by rw[length_map];exact hlt⟩,λx H2 y=>?_⟩
  obtain⟨T,a,p,rfl,hT,hp,ha,rfl⟩:=y;rw[getElem?_map,getElem?_eq_getElem hlt]at hp;have hp':p=(kv[i].1.map Sum.inl,V.int kv[i].2):=(Option.some.inj hp).symm;subst hp';rw[show((kv[i].1.map Sum.inl:List Key).map kV)=kv[i].1.map V.int by rw[map_map];rfl]at ha;have sT:_qwk H' (upd H' T (.tup [.ref a,.int kv[i].2])):=_i hT;refine⟨T,_,rfl,.inl (.inl _b),rfl,_,_,rfl,_,_,rfl,rfl,?_⟩;dsimp only[_Qi];rw[if_pos rfl];have ha1:=sT _ _ ha;have hl1:=sT _ _ hl';have sm1:=sm.trans sT;have sF1:=sF.trans sT;generalize upd H' T (.tup [.ref a,.int kv[i].2])=H1 at ha1 hl1 sm1 sF1⊢;refine⟨_,rfl,_,rfl,a,_,rfl,.inr (.inl (.inl ha1)),λq hq=>⟨by show 2<=Aj;decide,λt ht=>?_⟩⟩;have s2:_qwk H1 (upd H1 q (.lst (kv[i].1.map V.int))):=_i hq;have s3:_qwk (upd H1 q (.lst (kv[i].1.map V.int))) (upd (upd H1 q (.lst (kv[i].1.map V.int))) t (.tup [.int kv[i].2,.ref q])):=_i ht;have nql:q≠l:=(_d hl1 hq).symm;have ntl:t≠l:=(_d (s2 _ _ hl1) ht).symm;have nqd:q≠d:=(_d (sm1 _ _ hd) hq).symm;have ntd:t≠d:=(_d (s2 _ _ (sm1 _ _ hd)) ht).symm;have ntq:q≠t:=_d _b ht;have Fq:F q=none:=sF1.free hq;have Ft:(upd F q (.lst (kv[i].1.map V.int))) t=none:=by rw[_f ntq.symm];exact sF1.free (s2.free ht)
  have sA:_qwk F (upd (upd F q (.lst (kv[i].1.map V.int))) t (.tup [.int kv[i].2,.ref q])):=(_i Fq).trans (_i Ft);refine⟨ts,s3 _ _ (s2 _ _ hl1),by omega,_,(by omega:kv.length- (i+1)<kv.length-i),rfl,hlt,⟨_,_,rfl⟩,λb o' hb=>?_,upd (upd F q (.lst (kv[i].1.map V.int))) t (.tup [.int kv[i].2,.ref q]),ts++[.ref t],λb o' hb=>?_,?_,?_,_b,by simp[hts],?_⟩
  ·rw[_f (_d hb hl)]
   exact s3 _ _ (s2 _ _ (sm1 _ _ hb))
  ·by_cases hbt:b=t
   ·subst hbt
    rw[_b]at hb;rw[_f ntl,_b];exact hb
   ·rw[_f hbt]at hb
    by_cases hbq:b=q
    ·subst hbq
     rw[_b]at hb;rw[_f nql,_f hbt,_b];exact hb
    ·rw[_f hbq]at hb
     have nbl:b≠l:=_d hb Fl;rw[_f nbl,_f hbt,_f hbq];exact sF1 _ _ hb
  ·rw[_f ntd.symm,_f nqd.symm];exact Fd
  ·rw[_f ntl.symm,_f nql.symm];exact Fl
  ·rw[take_succ_eq_append_getElem hlt,map_append]
   refine _K0 ((_v3 sA).2 rp) ?_;refine .tup (.inl (.inl _b)) (.cons (.int _) (.cons (.lst (.inl (.inl ?_)) (_qx _)) .nil));rw[_f ntq,_b]
 ·have e1:i=kv.length:=by omega
  subst e1;refine .inl ⟨⟨sm _ _ hd,by rw[length_map];exact le_refl _⟩,?_⟩;rw[take_length]at rp;exact k l H' F hl sm (sm _ _ hd) sF Fd Fl ⟨ts,hl',rp⟩
def idxS(st:List Str) (y:Str):Nat:=st.findIdx λx=>decide (x=y)
end DL
namespace DL
open PySem PySem.Spec PyProof.Rows L2 SortW PySem.W
section
variable{prog:Ak}{w:World}{A:Around}{E:Value->Shared->Prop}{s:Shared}{a b:Addr}{es es':Array DictEntry}{ep ep':Nat}
end
end DL
namespace MB
open PySem DL
theorem _Zc{α:Type}{inj:α->D}{g:GD}{b:Blk}(P:Cs->Prop) (bad:α->Bool) (o:α->O):∀(xs:List α) (ρ:Cs),P ρ->
  (∀a∈xs,∀ρ,P ρ->∃ρ1,g (inj a) ρ=some ρ1/\(bad a=true->∃ρ2,b ρ1=some (.rt (o a) ρ2))/\(bad a=false->∃ρ2,(b ρ1=some (.nx ρ2)\/b ρ1=some (.ct ρ2))/\P ρ2))->
  (∀a,xs.find? bad=some a->∃ρ',_qvx g b (xs.map inj) ρ=some (.rt (o a) ρ'))/\(xs.find? bad=none->∃ρ',_qvx g b (xs.map inj) ρ=some (.nx ρ')/\P ρ')
 | [],ρ,h,_=>⟨λa e=>by simp at e,λ_=>⟨ρ,rfl,h⟩⟩
 |x::xs,ρ,h,k=>by
  obtain⟨ρ1,h1,h2,h3⟩:=k x mem_cons_self ρ h;cases hb:bad x with
  |true=>
   obtain⟨ρ2,e2⟩:=h2 hb;refine⟨λa e=>?_,λe=>?_⟩
   ·rw[Gj hb]at e
    cases e;exact⟨ρ2,_qd2 h1 e2⟩
   ·rw[Gj hb]at e
    cases e
  |false=>
   obtain⟨ρ2,e2,p2⟩:=h3 hb;have ih:=_Zc P bad o xs ρ2 p2 λa m=>k a (mem_cons_of_mem _ m);rw[J4 (by simp[hb]),map_cons,_qd3 h1 e2];exact ih
@[irreducible] def _qwv(g:GD) (b:Blk) (d:D) (ρ:Cs) (Q:Cs->Prop):Prop:=match g d ρ with
 |some ρ1=>(match b ρ1 with
  |some (.nx ρ2)=>Q ρ2
  |some (.ct ρ2)=>Q ρ2
  |_=>False)
 |none=>False
@[irreducible] def Rets(g:GD) (b:Blk) (d:D) (ρ:Cs) (o:O):Prop:=match g d ρ with
 |some ρ1=>(match b ρ1 with
  |some (.rt x _)=>x=o
  |_=>False)
 |none=>False
theorem _qwv.use{g:GD}{b:Blk}{d:D}{ρ:Cs}{Q:Cs->Prop}(h:_qwv g b d ρ Q):∃ρ1 ρ2,g d ρ=some ρ1/\(b ρ1=some (.nx ρ2)\/b ρ1=some (.ct ρ2))/\Q ρ2:=by
 unfold _qwv at h;split at h
 ·rename_i ρ1 e1
  split at h
  ·rename_i ρ2 e2;exact⟨ρ1,ρ2,e1,.inl e2,h⟩
  ·rename_i ρ2 e2;exact⟨ρ1,ρ2,e1,.inr e2,h⟩
  ·exact h.elim
 ·exact h.elim
theorem Rets.use{g:GD}{b:Blk}{d:D}{ρ:Cs}{o:O}(h:Rets g b d ρ o):∃ρ1 ρ2,g d ρ=some ρ1/\b ρ1=some (.rt o ρ2):=by
 unfold Rets at h;split at h
 ·rename_i ρ1 e1
  split at h
  ·rename_i x ρ2 e2;subst h;exact⟨ρ1,ρ2,e1,e2⟩
  ·exact h.elim
 ·exact h.elim
theorem _J2{α:Type}{inj:α->D}{g:GD}{b:Blk}(P:List α->Cs->Prop) (xs:List α) (ρ:Cs) (h0:P [] ρ)
  (step:∀(pre:List α) (a:α) (post:List α) (ρ:Cs),xs=pre++a::post->P pre ρ->_qwv g b (inj a) ρ (P (pre++[a]))):
  ∃ρ',_qvx g b (xs.map inj) ρ=some (.nx ρ')/\P xs ρ':=
 _V1 P xs ρ h0 λpre a post ρ e h=>(step pre a post ρ e h).use
theorem _Y0{α:Type}{inj:α->D}{g:GD}{b:Blk}(P:Cs->Prop) (bad:α->Bool) (o:α->O) (xs:List α) (ρ:Cs) (h0:P ρ)
  (step:∀a∈xs,∀ρ,P ρ->(bad a=true->Rets g b (inj a) ρ (o a))/\(bad a=false->_qwv g b (inj a) ρ P)):
  (∀a,xs.find? bad=some a->∃ρ',_qvx g b (xs.map inj) ρ=some (.rt (o a) ρ'))/\(xs.find? bad=none->∃ρ',_qvx g b (xs.map inj) ρ=some (.nx ρ')/\P ρ'):=
 _Zc P bad o xs ρ h0 λa m ρ h=>by
  obtain⟨s1,s2⟩:=step a m ρ h;cases hb:bad a with
  |true=>
   obtain⟨ρ1,ρ2,e1,e2⟩:=(s1 hb).use;exact⟨ρ1,e1,(λ_=>⟨ρ2,e2⟩),(λe=>by cases e)⟩
  |false=>
   obtain⟨ρ1,ρ2,e1,e2,p2⟩:=(s2 hb).use;exact⟨ρ1,e1,(λe=>by cases e),λ_=>⟨ρ2,e2,p2⟩⟩
@[simp] theorem gN_ap{i:Nat}{d:D}{ρ:Cs}:gN i d ρ=some (ρ.set i (some (.sh d))):=rfl
theorem _x5{α:Type}{l:List α}{i:Nat}{d:α}(h:i<l.length):l.getD i d=l[i]:=by simp[h]
theorem _xx{α:Type} [DecidableEq α]:∀{l m:List α},l.Nodup->(∀x∈l,x∈m)->l.length<=m.length
 | [],_,_,_=>by simp
 |a::l,m,hn,hs=>by
  have ha:a∈m:=hs a (by simp);rw[nodup_cons]at hn;have ih:=_xx (l:=l) (m:=m.erase a) hn.2 λx hx=>by
   have:x≠a:=λe=>hn.1 (e▸hx)
   exact(Kz this).mpr (hs x (by simp[hx]))
  have:=List.length_erase_of_mem ha
  have hp:=List.length_pos_of_mem ha
  simp
  omega
def six:List Int:=[0,1,2,3,4,5]
theorem _Kx:six.Pairwise (· < ·):=by decide
def okH(h:List _qwp):Prop:=∀p∈h,p.2.Sublist six
theorem okH.len{h:List _qwp}(k:okH h):∀p∈h,p.2.length<=6:=λp m=>(k p m).length_le
theorem okH.mem{h:List _qwp}(k:okH h){p:_qwp}(m:p∈h){x:Int}(hx:x∈p.2):x∈six:=(k p m).subset hx
def _q(h:List _qwp):List Int:=six.filter λc=>h.any λp=>has p.2 c
theorem _X5(h:List _qwp):(_q h).Sublist six:=filter_sublist
theorem _jb(h:List _qwp):(_q h).length<=6:=length_filter_le _ _
end MB
namespace DL
open PySem PySem.Spec PyProof.Rows L2
theorem _Y9:∀r:Nat,r<26->atI _xm.cps.toList (r:Int)=some (97+r):=by decide+kernel
theorem _w3{r:Int}(h0:0<=r) (h:r<26):atI _xm.cps.toList r=some (97+r.toNat):=by
 have:=_Y9 r.toNat (by omega)
 rwa[show((r.toNat:Nat):Int)=r by omega]at this
theorem _Qu:_xm.length<=Aj:=by decide+kernel
def _qw(x:Str):Prop:=1<=x.length/\x.length<=8/\∀c∈x.cps.toList,97<=c/\c<123
theorem _qgy(x:Str) (c:Nat):(x++(⟨#[c]⟩:Str)).cps.toList=x.cps.toList++[c]:=by
 show(x.cps++#[c]).toList=_
 simp
theorem _qp3(l:List Nat) (c:Nat):((⟨#[c]⟩:Str)++(⟨l.toArray⟩:Str))=⟨(c::l).toArray⟩:=by
 show(⟨#[c]++l.toArray⟩:Str)=_
 simp
theorem _k7(x:Str):x.length=x.cps.toList.length:=by simp[Str.length]
def adv(m:Nat) (x:Str):Str:=match x.cps.toList with
 | []=>x
 |c::t=>⟨((97+(c-97+m)%26)::t).toArray⟩
theorem _Zn{x:Str}{c:Nat}{t:List Nat}(h:x.cps.toList=c::t) (m:Nat):adv m x=⟨((97+(c-97+m)%26)::t).toArray⟩:=by
 unfold adv;rw[h]
theorem _vg{x:Str}(h:_qw x):∃c t,x.cps.toList=c::t/\97<=c/\c<123/\x=⟨(c::t).toArray⟩:=by
 obtain⟨h1,h2,h3⟩:=h;rw[_k7]at h1;cases q:x.cps.toList with
 |nil=>rw[q]at h1;simp at h1
 |cons c t=>
  refine⟨c,t,rfl,(h3 c (by rw[q];simp)).1,(h3 c (by rw[q];simp)).2,?_⟩;rw[<-q]
theorem _qlp{x:Str}(h:_qw x):adv 0 x=x:=by
 obtain⟨c,t,e,h1,h2,h3⟩:=_vg h;rw[_Zn e,h3];congr 3;omega
theorem _qse{x:Str}(h:_qw x) (m:Nat):_qw (adv m x):=by
 obtain⟨c,t,e,h1,h2,h3⟩:=_vg h;rw[_Zn e];obtain⟨g1,g2,g3⟩:=h;rw[_k7,e]at g1 g2;refine⟨by rw[_k7];simp,by rw[_k7];simpa using g2,λd hd=>?_⟩;simp at hd;rcases hd with rfl|hd
 ·omega
 ·exact g3 d (by rw[e];exact mem_cons_of_mem _ hd)
theorem _qpe{x:Str}(h:_qw x) (m n:Nat):adv m (adv n x)=adv (n+m) x:=by
 obtain⟨c,t,e,h1,h2,h3⟩:=_vg h;rw[_Zn e,_Zn e,_Zn (c:=97+(c-97+n)%26) (t:=t) (by simp)];congr 3;omega
theorem _qpd{x:Str}(h:_qw x){m n:Nat}(hm:m<26) (hn:n<26) (e:adv m x=adv n x):m=n:=by
 obtain⟨c,t,ec,h1,h2,h3⟩:=_vg h;rw[_Zn ec,_Zn ec]at e
 have:=congrArg (λs:Str=>s.cps.toList.head?) e
 simp at this;omega
theorem _qlq{x:Str}(h:_qw x) (names:List Str) (hl:names.length<26):∃m,m<26/\adv m x∉names:=by
 apply Dt;intro hn;have hall:∀m,m<26->adv m x∈names:=λm hm=>Dt λhx=>hn ⟨m,hm,hx⟩;have nd:((Ap 26).map λm=>adv m x).Nodup:=by
  rw[List.Nodup,pairwise_map];refine List.Pairwise.imp_of_mem (fun{a b} ha hb hab e=>?_) (Jn (n:=26));exact hab (_qpd h (Ax.mp ha) (Ax.mp hb) e)
 have:=MB._xx nd (m:=names) λy hy=>by
  obtain⟨m,hm,rfl⟩:=Ag.mp hy;exact hall m (Ax.mp hm)
 simp at this;omega
theorem _wa{x:Str}(h:_qw x) (n:Nat):shp n (.str x)=true:=by
 have:x.cps.all (λc=>decide (c<0x110000))=true:=by
  rw[<-Array.all_toList,all_eq_true];intro c hc
  have:=h.2.2 c hc
  simp;omega
 simpa[shp]using this
theorem _j0{l:List Str}(h:∀x∈l,_qw x) (n:Nat):_qv5 n (l.map D.str)=true:=by
 induction l with
 |nil=>rfl
 |cons x l ih=>
  simp only[map_cons,_qv5,Df];exact⟨_wa (h x (by simp)) n,ih λy hy=>h y (mem_cons_of_mem _ hy)⟩
theorem _k0(l:List Str) (x:Str):((l.map D.str).any λy=>eqD y (.str x))=decide (x∈l):=by
 rw[Az,any_eq_true,decide_eq_true_eq];constructor
 ·rintro⟨d,hd,e⟩
  obtain⟨y,hy,rfl⟩:=Ag.mp hd;have e':(y==x)=true:=e;rw[<-eq_of_beq e'];exact hy
 ·intro h
  refine⟨.str x,Ag.mpr ⟨x,h,rfl⟩,?_⟩;show(x==x)=true
  simp
theorem _z9{K:Frag}{F:Hp}(l:List Str):Reps K F (l.map V.str) (l.map D.str):=by
 induction l with
 |nil=>exact .nil
 |cons x l ih=>exact .cons (.str x) ih
end DL
namespace MB
def _Zs(l:List Nat) (f:Nat->Rat):Rat:=(l.map f).sum
theorem _qej(f:Nat->Rat):_Zs [] f=0:=rfl
theorem _z7(i:Nat) (l:List Nat) (f:Nat->Rat):_Zs (i::l) f=f i+_Zs l f:=by simp[_Zs]
theorem _k6{f:Nat->Rat}:∀{l:List Nat},(∀i∈l,0<=f i)->0<=_Zs l f
 | [],_=>by rw[_qej];grind
 |i::l,h=>by
  have h1:=h i (by simp);have h2:=_k6 (f:=f) (l:=l) λj hj=>h j (by simp[hj]);rw[_z7];grind
theorem _Kv(c:Rat) (f:Nat->Rat):∀(l:List Nat),_Zs l (λi=>f i*c)=_Zs l f*c
 | []=>by simp[_Zs]
 |i::l=>by rw[_z7,_z7,_Kv c f l];grind
def cnt(lk:Nat->Int->Bool) (rows:List (Int×Rat)) (i t:Nat):Nat:=((rows.take t).filter λq=>lk i q.1).length
def pays(l:List Nat) (w p:Nat->Rat) (r:Rat):Rat:=_Zs l λi=>w i*min (p i) r
def _qwq(D:Nat) (a:Rat):Prop:=∃x:Int,a*(D:Rat)=(x:Rat)
theorem _qwq.add{D:Nat}{a b:Rat}(ha:_qwq D a) (hb:_qwq D b):_qwq D (a+b):=by
 obtain⟨x,hx⟩:=ha;obtain⟨y,hy⟩:=hb;exact⟨x+y,by rw[Rat.add_mul,hx,hy];simp⟩
theorem _qwq.sub{D:Nat}{a b:Rat}(ha:_qwq D a) (hb:_qwq D b):_qwq D (a-b):=by
 obtain⟨x,hx⟩:=ha;obtain⟨y,hy⟩:=hb;have e:(a-b)*(D:Rat)=a*D-b*D:=by grind
 exact⟨x-y,by rw[e,hx,hy];simp⟩
theorem _qwq.mulInt{D:Nat}{a:Rat}(ha:_qwq D a) (n:Int):_qwq D (a*n):=by
 obtain⟨x,hx⟩:=ha;refine⟨x*n,?_⟩;rw[Et,J5 (n:Rat),<-Et,hx];simp
theorem _qwq.mn{D:Nat}{a b:Rat}(ha:_qwq D a) (hb:_qwq D b):_qwq D (min a b):=by
 have:min a b=a\/min a b=b:=by grind
 rcases this with e|e<;>rw[e]<;>assumption
theorem _zm(D:Nat):(((D:Nat):Int):Rat)=(D:Rat):=rfl
theorem _v5(D:Nat) (n:Int):_qwq D (n:Rat):=⟨n*D,by simp[_zm]⟩
theorem _qk1(a:Rat):a*(a.den:Rat)=(a.num:Rat):=by
 rw[<-_qnr];have e1:((a.den:Rat)).num=(a.den:Int):=by simp
 have e2:((a.den:Rat)).den=1:=by simp
 rw[e1,e2,Nat.mul_one];have e3:(a.num:Rat)=mkRat a.num 1:=by simp[Rat.mkRat_one]
 rw[e3,Rat.mkRat_eq_iff a.den_nz (by decide)]
 simp
theorem _qwq.dvd{D E:Nat}{a:Rat}(ha:_qwq D a) (h:D∣E):_qwq E a:=by
 obtain⟨x,hx⟩:=ha;obtain⟨e,rfl⟩:=h;refine⟨x*e,?_⟩
 have:((D*e:Nat):Rat)=(D:Rat)*(e:Rat):=by simp
 rw[this,<-Et,hx];simp[_zm]
theorem _qwq.den{D:Nat}{a:Rat}(ha:_qwq D a):a.den∣D:=by
 obtain⟨x,hx⟩:=ha;have h1:a.num*(D:Int)=x*(a.den:Int):=by
  have h2:a*(a.den:Rat)=(a.num:Rat):=_qk1 a;have h3:((a.num*(D:Int):Int):Rat)=((x*(a.den:Int):Int):Rat):=by
   have e1:((a.num*(D:Int):Int):Rat)=(a.num:Rat)*(D:Rat):=by simp[_zm]
   have e2:((x*(a.den:Int):Int):Rat)=(x:Rat)*(a.den:Rat):=by simp[_zm]
   rw[e1,e2,<-hx,<-h2];grind
  exact_mod_cast h3
 have h4:a.den∣a.num.natAbs*D:=by
  have:=congrArg Int.natAbs h1
  rw[Gh,Gh,Bf,Bf]at this;exact⟨x.natAbs,by rw[this,Mu]⟩
 exact(Nat.Coprime.dvd_of_dvd_mul_left (Nat.Coprime.symm a.reduced) h4)
theorem _qwq.bd{D d m:Nat}{a:Rat}(ha:_qwq D a) (hD:0<D) (hd:D<2^d) (hlo:-((2^m:Nat):Rat)<=a) (hhi:a<=((2^m:Nat):Rat)):Bd (m+d) d a:=by
 have h1:a.den<=D:=Lq hD ha.den;refine⟨?_,lt_of_le_of_lt h1 hd⟩;have hden:(0:Rat)<=(a.den:Rat):=by exact_mod_cast zero_le _
 have e:=_qk1 a;have u1:(a.den:Rat)*a<=(a.den:Rat)*((2^m:Nat):Rat):=Ed hhi hden;have u2:(a.den:Rat)*(-((2^m:Nat):Rat))<=(a.den:Rat)*a:=Ed hlo hden;have v1:(a.num:Rat)<=((a.den*2^m:Nat):Rat):=by
  have:((a.den*2^m:Nat):Rat)=(a.den:Rat)*((2^m:Nat):Rat):=by simp
  rw[this];grind
 have v2:-((a.den*2^m:Nat):Rat)<=(a.num:Rat):=by
  have:((a.den*2^m:Nat):Rat)=(a.den:Rat)*((2^m:Nat):Rat):=by simp
  rw[this];grind
 have w1:a.num<=((a.den*2^m:Nat):Int):=by exact_mod_cast v1
 have w2:-((a.den*2^m:Nat):Int)<=a.num:=by
  have v3:(-a.num:Rat)<=((a.den*2^m:Nat):Rat):=by grind
  have v4:((-a.num:Int):Rat)<=((a.den*2^m:Nat):Rat):=by simpa using v3
  have v5:-a.num<=((a.den*2^m:Nat):Int):=by exact_mod_cast v4
  omega
 have w3:a.num.natAbs<=a.den*2^m:=by omega
 have w4:a.den*2^m<2^d*2^m:=E3 (lt_of_le_of_lt h1 hd) (L4 (by simp));rw[pow_add,Mu (2^m)];omega
end MB
namespace MB
open PySem DL
theorem _qd5(m n:Nat):((m:Int)).fdiv (n:Int)=((m/n:Nat):Int):=by
 rw[Hw _ (by omega)];rfl
def cbF(b:Nat) (q:Rat):Nat:=b*(q.den/Jd b q.den)
def cb(l:List Rat):Nat:=l.foldl cbF 1
theorem _W6(b:Nat) (q:Rat):cbF b q=Nat.lcm b q.den:=by
 unfold cbF Nat.lcm;rw[Nat.mul_div_assoc _ (Nat.gcd_dvd_right b q.den)]
theorem _qgf:∀(l:List Rat) (b:Nat),0<b->0<l.foldl cbF b/\b∣l.foldl cbF b/\(∀q∈l,q.den∣l.foldl cbF b)/\∀D,b∣D->(∀q∈l,q.den∣D)->l.foldl cbF b∣D
 | [],b,h=>⟨h,Nat.dvd_refl _,by simp,λD h _=>h⟩
 |q::l,b,h=>by
  have hp:0<cbF b q:=by rw[_W6];exact Nat.lcm_pos h q.den_pos
  obtain⟨a1,a2,a3,a4⟩:=_qgf l (cbF b q) hp;have d1:b∣cbF b q:=by rw[_W6];exact Nat.dvd_lcm_left _ _
  have d2:q.den∣cbF b q:=by rw[_W6];exact Nat.dvd_lcm_right _ _
  refine⟨a1,Nat.dvd_trans d1 a2,λr hr=>?_,λD hb hq=>a4 D ?_ λr hr=>hq r (by simp[hr])⟩
  ·rcases An.mp hr with rfl|hr
   ·exact Nat.dvd_trans d2 a2
   ·exact a3 r hr
  ·rw[_W6];exact Nat.lcm_dvd hb (hq q (by simp))
theorem _qdn(l:List Rat):0<cb l:=(_qgf l 1 (by decide)).1
theorem _qp2{l:List Rat}{q:Rat}(h:q∈l):q.den∣cb l:=(_qgf l 1 (by decide)).2.2.1 q h
theorem _qdo{l:List Rat}{D:Nat}(h:∀q∈l,q.den∣D):cb l∣D:=(_qgf l 1 (by decide)).2.2.2 D (Nat.one_dvd _) h
theorem _qp1(l:List Rat) (q:Rat):cb (l++[q])=cbF (cb l) q:=by simp[cb]
def _quz(b:Nat) (q:Rat):Int:=q.num*((b/q.den:Nat):Int)
theorem _qgv{b:Nat}{q:Rat}(h:q.den∣b):(_quz b q:Rat)=q*(b:Rat):=by
 obtain⟨k,rfl⟩:=h;have e:q.den*k/q.den=k:=Nat.mul_div_cancel_left k q.den_pos;unfold _quz;rw[e];have e1:((q.den*k:Nat):Rat)=(q.den:Rat)*(k:Rat):=by simp
 have e2:((q.num*(k:Int):Int):Rat)=(q.num:Rat)*(k:Rat):=by simp[_zm]
 rw[e1,e2,<-Et,_qk1]
def _qy(P:List Rat):D:=.lst (P.map frD)
@[simp] theorem _qnt(P:List Rat):_Jr (_qy P)=some (P.map frD):=rfl
@[simp] theorem _qri(P:List Rat):imm (_qy P)=false:=by simp[_qy]
def _zr(t:Nat) (P:List Rat):Prop:=∃D:Nat,0<D/\D<2^(80*t+1)/\∀q∈P,_qwq D q/\0<=q/\q<=((t*2^80:Nat):Rat)
theorem _zr.bd{t:Nat}{P:List Rat}(h:_zr t P) (ht:t<=20){q:Rat}(hq:q∈P):Bd 1800 1700 q:=by
 obtain⟨D,h1,h2,h3⟩:=h;obtain⟨o,q0,q1⟩:=h3 q hq;have hm:((t*2^80:Nat):Rat)<=((2^85:Nat):Rat):=by
  have:t*2^80<=2^85:=le_trans (E7 _ (le_trans ht (by decide:20<=32))) (by decide)
  exact_mod_cast this
 have hz:(0:Rat)<=((2^85:Nat):Rat):=by exact_mod_cast zero_le _
 exact(o.bd (m:=85) h1 h2 (by grind) (by grind)).mono (by omega) (by omega)
theorem _zr.cb{t:Nat}{P:List Rat}(h:_zr t P) (ht:t<=20):cb P<2^1700:=by
 obtain⟨D,h1,h2,h3⟩:=h
 have:=Lq h1 (_qdo λq hq=>(h3 q hq).1.den)
 exact lt_of_le_of_lt this (lt_of_lt_of_le h2 (pow_le_pow_right (by decide) (by omega)))
theorem _zr.sub{t:Nat}{P Q:List Rat}(h:_zr t P) (hs:∀q∈Q,q∈P):_zr t Q:=by
 obtain⟨D,h1,h2,h3⟩:=h;exact⟨D,h1,h2,λq hq=>h3 q (hs q hq)⟩
theorem _zr.top{t:Nat}{P:List Rat}(h:_zr t P) (ht:t<=20){q:Rat}(hq:q∈P){b:Nat}(hb:b<2^1700):Sz 3600 (_quz b q):=by
 have h1:=(h.bd ht hq).num;have h2:Sz 1700 ((b/q.den:Nat):Int):=by
  show((b/q.den:Nat):Int).natAbs<_;rw[Bf];exact lt_of_le_of_lt (Ke _ _) hb
 exact(h1.mul h2).mono (by decide)
structure Dealt(w c:List Int) (s:Nat) (n:List Nat) (q:Option Rat):Prop where
 len:n.length=w.length
 cap:∀k,k<n.length->(n.getD k 0:Int)<=c.getD k 0
 sum:n.sum=s\/n.sum<s/\∀k,k<n.length->(n.getD k 0:Int)=c.getD k 0
 non:q=none->∀k,n.getD k 0=0
 met:∀r,q=some r->∃k,k<n.length/\0<n.getD k 0/\mkRat (w.getD k 0) (n.getD k 0)=r
 low:∀r,q=some r->∀k,k<n.length->0<n.getD k 0->r<=mkRat (w.getD k 0) (n.getD k 0)
 top:∀r,q=some r->∀k,k<n.length->(n.getD k 0:Int)<c.getD k 0->mkRat (w.getD k 0) (n.getD k 0+1)<=r
def sc(b:Int) (o:Nat×Rat):Nat×Rat:=(o.1,o.2*(b:Rat))
def _qj6:List (Int×Int)->Int->Int->Option (Int×Int)
 | [],_,_=>none
 |q::l,_qvb,W=>if _qvb<=W*q.1 then some (_qvb,W)else _qj6 l (_qvb-q.2*q.1) (W-q.2)
def _qv3(l:List (Int×Int)):Int:=(l.map λq=>q.2).sum
def capS(l:List (Int×Int)) (x:Rat):Rat:=(l.map λq=>(q.2:Rat)*min (q.1:Rat) x).sum
theorem _vt:∀{l:List (Int×Int)},(∀q∈l,1<=q.2)->0<=_qv3 l
 | [],_=>by simp[_qv3]
 |q::l,h=>by
  have h1:=h q (by simp);have h2:=_vt (l:=l) λq hq=>h q (by simp[hq]);simp only[_qv3,map_cons,sum_cons]at h2⊢;omega
theorem _qbc{_qvb W t w:Int}(hr:¬_qvb<=W*t):(W-w)*t<_qvb-w*t:=by
 rw[Int.sub_mul];omega
theorem _qlf{l:List (Int×Int)}{x:Rat}(h:∀q∈l,x<=(q.1:Rat)):capS l x=(_qv3 l:Rat)*x:=by
 induction l with
 |nil=>simp only[capS,_qv3,map_nil,List.sum_nil];grind
 |cons q l ih=>
  have h1:=h q (by simp);have h2:=ih λq hq=>h q (by simp[hq]);have hm:min (q.1:Rat) x=x:=by grind
  simp only[capS,_qv3,map_cons,sum_cons]at h2⊢;rw[h2,hm];push_cast;grind
theorem _Xt:∀(l:List (Int×Int)) (_qvb W t0 ρ V:Int),(∀q∈l,0<=q.1/\1<=q.2)->l.Pairwise (λa b=>a.1<=b.1)->(∀q∈l,t0<=q.1)->W=_qv3 l->0<_qvb->W*t0<=_qvb->_qj6 l _qvb W=some (ρ,V)->
  0<ρ/\ρ<=_qvb/\1<=V/\V<=W/\t0*V<=ρ/\∀x:Rat,x*(V:Rat)=(ρ:Rat)->capS l x=(_qvb:Rat)/\∃q∈l,x<=(q.1:Rat)
 | [],_,_,_,_,_,_,_,_,_,_,_,e=>by cases e
 | q :: l,_qvb,W,t0,ρ,V,hq,hs,ht,hW,hp,h0,e=>by
  have hq1:=hq q (by simp);have hl:∀q∈l,0<=q.1/\1<=q.2:=λq hm=>hq q (by simp[hm]);have hW':W-q.2=_qv3 l:=by rw[hW];simp[_qv3];omega
  have hn:=_vt (l:=l) λq hm=>(hl q hm).2;rw[pairwise_cons]at hs;unfold _qj6 at e;split at e
  ·rename_i hr
   cases e;refine⟨hp,K7 _,by omega,K7 _,by rw[Int.mul_comm];exact h0,λx hx=>?_⟩;have Vp:(0:Rat)< (W:Rat):=by exact_mod_cast (by omega:0<W)
   have hxq:x<=(q.1:Rat):=by
    have hr':(_qvb:Rat)<=(q.1:Rat)*(W:Rat):=by
     have:_qvb<=q.1*W:=by rw[Int.mul_comm];exact hr
     exact_mod_cast this
    rw[<-hx]at hr';exact E8 hr' Vp
   refine⟨?_,q,by simp,hxq⟩;rw[_qlf λr hm=>?_]
   ·rw[<-hW,<-hx,J5]
   ·rcases An.mp hm with rfl|hm
    ·exact hxq
    ·have:(q.1:Rat)<=(r.1:Rat):=by exact_mod_cast hs.1 r hm
     exact Ht hxq this
  ·rename_i hr
   have hlt:=_qbc (w:=q.2) hr;have hge:0<=(W-q.2)*q.1:=Gk (by omega) hq1.1;have hwt:0<=q.2*q.1:=Gk (by omega) hq1.1;obtain⟨r1,r2,r3,r4,r5,r6⟩:=_Xt l (_qvb-q.2*q.1) (W-q.2) q.1 ρ V hl hs.2 (λr hm=>hs.1 r hm) hW' (by omega) (by omega) e;refine⟨r1,by omega,r3,by omega,F9 (Gz (ht q (by simp)) (by omega)) r5,λx hx=>?_⟩;obtain⟨c1,p,c2,c3⟩:=r6 x hx;refine⟨?_,p,by simp[c2],c3⟩;have Vp:(0:Rat)< (V:Rat):=by exact_mod_cast (by omega:0<V)
   have hqx:(q.1:Rat)<=x:=by
    have:(q.1:Rat)*(V:Rat)<=(ρ:Rat):=by exact_mod_cast r5
    rw[<-hx]at this;exact E8 this Vp
   have hm:min (q.1:Rat) x=(q.1:Rat):=by grind
   simp only[capS,map_cons,sum_cons]at c1⊢;rw[c1,hm];push_cast;grind
end MB
namespace L_k66
open PySem DL
noncomputable def _q8:Blk:=
 (_qwb (mO [true,true] (_xn [none,some 1] (_qvy 0) (geN 0) qT (oE (_qvz (_k (_qvy 1) (_k (fC (.int 1)) _qwg)))))))
noncomputable def _y:List D->Option D:=_qv9 2 _q8
noncomputable def _qe7:Blk:=
 (_qwb (mE [true,true] (f2 dLt (f2 _qw2 (f2 dIx (_qvy 0) (fC (.int 0))) (f2 dIx (_qvy 1) (fC (.int 1)))) (f2 _qw2 (f2 dIx (_qvy 1) (fC (.int 0))) (f2 dIx (_qvy 0) (fC (.int 1)))))))
noncomputable def _km:List D->Option D:=_qv9 2 _qe7
noncomputable def _vp:Blk:=
 (bIf (qOr (qV (f2 dIs (_qvy 1) (fC .non))) (qV (_qu 2 _km (_k (f2 dIx (_qvy 2) (fC (.int 1))) (_k (f2 dIx (_qvy 1) (fC (.int 1))) _qwg))))) (_qw9 1 (mE [false,false,true] (_qvy 2))) _qwc)
noncomputable def _qe4:Blk:=
 (_qwa (_qw9 1 (mE [false,false,false] (fC .non)))
  (_qwa (_qwd [true,false,false] (_qvy 0) (gN 2) _vp)
  (_qwb (mE [false,true,false] (_qvy 1)))))
noncomputable def _x1:List D->Option D:=_qv9 3 _qe4
noncomputable def _ke:Blk:=
 (_qwb (mE [true] (_qw0 dSum (_k (fL (_xn [none,none] (_qvy 0) (_qvw [(geN 0),(geN 1)]) qT (oE (_qvy 0)))) _qwg))))
noncomputable def _X:List D->Option D:=_qv9 1 _ke
noncomputable def _z3:Blk:=
 (_qwb (mE [true,true] (_qw0 dAll (_k (fL (_xn [none,some 0] (_qvy 1) (geN 0) qT (oE (f2 dIn (_qvy 0) (f2 dIx (_qvy 1) (fC (.int 1))))))) _qwg))))
noncomputable def _qg:List D->Option D:=_qv9 2 _z3
noncomputable def _Kl:Blk:=
 (_qwb (mO [true,true] (_qc5 [none,none,some 1] (_qvy 0) (_qvw [(geN 0),(geN 1)]) (qV (_qu 2 _qg (_k (_qvy 1) (_k (_qvy 2) _qwg)))) (oE (_qvy 0)))))
noncomputable def _jt:List D->Option O:=_qv7 2 _Kl
noncomputable def _Kk:Blk:=
 (_qwb (mO [true,true] (_Ys 2 _jt (_k (_qvy 0) (_k (fL (_qvj (_k (_qvy 1) _qwg))) _qwg)))))
noncomputable def _ja:List D->Option O:=_qv7 2 _Kk
noncomputable def _kh:Blk:=
 (_qwa (_qw9 4 (mE [false,false,true,true,false] (f2 dMod (_qvy 2) (_qvy 3))))
  (_qwa (_qw9 2 (mE [false,false,false,true,false] (_qvy 3)))
  (_qw9 3 (mE [false,false,false,false,true] (_qvy 4)))))
noncomputable def _Xg:Blk:=
 (_qwa (_qw9 2 (mE [true,false,false,false,false] (_qw0 dAbs (_k (_qvy 0) _qwg))))
  (_qwa (_qw9 3 (mE [false,true,false,false,false] (_qw0 dAbs (_k (_qvy 1) _qwg))))
  (_qwa (_vq (qV (f2 dNe (_qvy 3) (fC (.int 0)))) _kh)
  (_qwb (mE [false,false,true,false,false] (_qvy 2))))))
noncomputable def _xg:List D->Option D:=_qv9 5 _Xg
noncomputable def _q3:Blk:=
 (_qw9 1 (mE [false,true,false,true] (f2 _qw2 (_qvy 1) (f2 _qw5 (_qvy 3) (_qu 2 _xg (_k (_qvy 1) (_k (_qvy 3) _qwg)))))))
noncomputable def _jx:Blk:=
 (_qwa (_qw9 1 (mE [false,false,false,false] (fC (.int 1))))
  (_qwa (_qwd [true,false,false,false] (_qvy 0) (gTp [(gN 2),(gN 3)]) _q3)
  (_qwb (mE [false,true,false,false] (_qvy 1)))))
noncomputable def _E:List D->Option D:=_qv9 4 _jx
noncomputable def _kg:Blk:=
 (_qwb (mO [true,true] (_xn [none,none,some 0] (_qvy 1) (_qvw [(geN 0),(geN 1)]) qT (oE (f2 _qw2 (_qvy 0) (f2 _qw5 (_qvy 2) (_qvy 1)))))))
noncomputable def _qs:List D->Option D:=_qv9 2 _kg
noncomputable def _kf:Blk:=
 (_qwb (mE [true,true] (_qw0 dSum (_k (fL (_xn [none,some 0] (_qvy 1) (geN 0) qT (oE (f2 dIx (f2 dIx (_qvy 1) (_qvy 0)) (fC (.int 0)))))) _qwg))))
noncomputable def _Y:List D->Option D:=_qv9 2 _kf
noncomputable def _qe1:Blk:=
 (_qwa (bIf (qV (f2 dEq (_qvy 1) (fC (.int 0)))) bNever _qwc)
  (_qwa (_qw9 2 (mE [true,true,false] (_qu 2 _xg (_k (_qvy 0) (_k (_qvy 1) _qwg)))))
  (_qwa (bIf (qV (f2 dLt (_qvy 1) (fC (.int 0)))) (_qw9 2 (mE [false,false,true] (f1 dNeg (_qvy 2)))) _qwc)
  (_qwb (mE [true,true,true] (_qvz (_k (f2 _qw5 (_qvy 0) (_qvy 2)) (_k (f2 _qw5 (_qvy 1) (_qvy 2)) _qwg))))))))
noncomputable def _xy:List D->Option D:=_qv9 3 _qe1
noncomputable def _z2:Blk:=
 (_qwa (bIf (qV (f2 dLe (_qvy 7) (f2 _qw2 (_qvy 8) (_qvy 9)))) (_qwb (mE [false,false,false,false,false,true,false,true,true,false,false] (_qu 2 _xy (_k (_qvy 7) (_k (f2 _qw2 (_qvy 8) (_qvy 5)) _qwg))))) _qwc)
  (_qwa (_qw9 7 (mE [true,false,false,false,false,false,false,true,false,true,true] (f2 dSub (_qvy 7) (f2 _qw2 (f2 dIx (f2 dIx (_qvy 0) (_qvy 10)) (fC (.int 0))) (_qvy 9)))))
  (_qw9 8 (mE [true,false,false,false,false,false,false,false,true,false,true] (f2 dSub (_qvy 8) (f2 dIx (f2 dIx (_qvy 0) (_qvy 10)) (fC (.int 0))))))))
noncomputable def _qgm:Blk:=
 (_qwa (_qw9 4 (mO [true,false,true,false,false,false,false,false,false,false,false] (_Ys 2 _ja (_k (_qvy 0) (_k (_qvy 2) _qwg)))))
  (_qwa (_qw9 5 (mE [false,true,false,false,true,false,false,false,false,false,true] (_qu 1 _E (_k (fL (_xn [none,some 1] (_qvy 4) (geN 0) qT (oE (f2 dIx (_qvy 1) (_qvy 0))))) _qwg))))
  (_qwa (_qw9 6 (mE [false,true,false,false,true,true,false,false,false,false,true] (_qu 2 _qs (_k (_qvy 5) (_k (fL (_xn [none,some 1] (_qvy 4) (geN 0) qT (oE (f2 dIx (_qvy 1) (_qvy 0))))) _qwg)))))
  (_qwa (_qw9 7 (mE [false,false,false,true,false,true,false,false,false,false,false] (f2 _qw2 (_qvy 3) (_qvy 5))))
  (_qwa (_qw9 8 (mE [true,false,false,false,true,false,false,false,false,false,false] (_qu 2 _Y (_k (_qvy 0) (_k (_qvy 4) _qwg)))))
  (_qwa (_qwd [false,false,false,false,true,false,true,false,false,false,false] (fL (_qvk _Jw (_k (_qvy 6) (_k (_qvy 4) _qwg)))) (gTp [(gN 9),(gN 10)]) _z2)
  (_qwb (mE [false,false,false,false,false,false,false,false,false,false,false] (fC .non)))))))))
noncomputable def _Vp:List D->Option D:=_qv9 11 _qgm
noncomputable def _Xe:Blk:=
 (bExt 1 [false,false,false,true] pNil (_qvy 3))
noncomputable def _qe3:Blk:=
 (_qwa (_qw9 1 (mO [false,false,false,false] (_qvj _qwg)))
  (_qwa (_qwd [true,false,false,false] (_qvy 0) (gTp [(gN 2),(gN 3)]) _Xe)
  (_qwb (mO [false,true,false,false] (_qvk _Jx (_k (_qvy 1) _qwg))))))
noncomputable def _zn:List D->Option O:=_qv7 4 _qe3
noncomputable def _Kj:Blk:=
 (_qwa (_qw9 3 (mO [false,false,true,false,false,false] (_xn [none] (_qvy 2) (geN 0) qT (oE (f2 dIx (_qvy 0) (fC (.int 0)))))))
  (_qwa (_qw9 4 (mE [true,false,false,false,false,false] (_qu 1 _X (_k (_qvy 0) _qwg))))
  (_qwa (_qw9 5 (mO [true,true,false,true,true,false] (_xn [none,some 0,some 1,some 4,some 3] (fL (_Ys 1 _zn (_k (_qvy 0) _qwg))) (geN 0) (qV (f2 _Zf (_qvy 0) (_qvy 4))) (oE (_qvz (_k (_qvy 0) (_k (_qu 4 _Vp (_k (_qvy 1) (_k (_qvy 2) (_k (_qvy 0) (_k (_qvy 3) _qwg))))) _qwg)))))))
  (_qwb (mO [false,false,false,false,false,true] (_xn [none] (_qvy 5) (geN 0) (qV (f2 _qw4 (f2 dIx (_qvy 0) (fC (.int 1))) (fC .non))) (oE (_qvy 0))))))))
noncomputable def _xz:List D->Option D:=_qv9 6 _Kj
noncomputable def _qe2:Blk:=
 (_qwb (mE [true,true] (_qu 2 _xy (_k (f2 dSub (f2 _qw2 (f2 dIx (_qvy 0) (fC (.int 0))) (f2 dIx (_qvy 1) (fC (.int 1)))) (f2 _qw2 (f2 dIx (_qvy 1) (fC (.int 0))) (f2 dIx (_qvy 0) (fC (.int 1))))) (_k (f2 _qw2 (f2 dIx (_qvy 0) (fC (.int 1))) (f2 dIx (_qvy 1) (fC (.int 1)))) _qwg)))))
noncomputable def _Qt:List D->Option D:=_qv9 2 _qe2
noncomputable def _q7:Blk:=
 (_qwa (bIf (qV (_qu 2 _km (_k (_qvy 0) (_k (_qvy 1) _qwg)))) (_qwb (mE [false,false] (_qvz (_k (fC (.int 0)) (_k (fC (.int 1)) _qwg))))) _qwc)
  (_qwb (mE [true,true] (_qu 2 _Qt (_k (_qvy 0) (_k (_qvy 1) _qwg))))))
noncomputable def _Z:List D->Option D:=_qv9 2 _q7
noncomputable def _Ki:Blk:=
 (bPut 4 [false,false,false,false,false,true] pNil (_qvy 5) (mE [false,true,false,true,false,true] (_qu 2 _Z (_k (f2 dIx (_qvy 1) (_qvy 5)) (_k (_qvy 3) _qwg)))))
noncomputable def _qll:Blk:=
 (_qwa (_qw9 4 (mO [false,true,false,false,false,false] (_qvk _qhs (_k (_qvy 1) _qwg))))
  (_qwa (_qwd [true,false,true,false,false,false] (fL (_Ys 2 _ja (_k (_qvy 0) (_k (_qvy 2) _qwg)))) (gN 5) _Ki)
  (_qwb (mE [false,false,false,false,true,false] (_qvy 4)))))
noncomputable def _qce:List D->Option D:=_qv9 6 _qll
noncomputable def _w1:Blk:=
 (_qwa (_qw9 2 (mE [true,false,true,false,true] (_qu 4 _qce (_k (_qvy 0) (_k (_qvy 2) (_k (f2 dIx (_qvy 4) (fC (.int 0))) (_k (f2 dIx (_qvy 4) (fC (.int 1))) _qwg)))))))
  (_qwa (bMut 3 [false,false,false,false,false] pNil (mE [false,false,true,false,true] (_qvz (_k (f2 dIx (_qvy 4) (fC (.int 0))) (_k (f2 dIx (_qvy 4) (fC (.int 1))) (_k (_qvy 2) _qwg))))) gApp)
  (_qw9 4 (mE [true,false,true,true,false] (_qu 1 _x1 (_k (_qu 3 _xz (_k (_qvy 0) (_k (_qvy 2) (_k (_qvy 3) _qwg)))) _qwg))))))
noncomputable def _Kh:Blk:=
 (_qwa (_qw9 2 (mE [true,true,false,false,false] (_qu 2 _y (_k (_qvy 0) (_k (_qvy 1) _qwg)))))
  (_qwa (_qw9 3 (mO [false,false,false,false,false] (_qvj _qwg)))
  (_qwa (_qw9 4 (mE [true,false,true,true,false] (_qu 1 _x1 (_k (_qu 3 _xz (_k (_qvy 0) (_k (_qvy 2) (_k (_qvy 3) _qwg)))) _qwg))))
  (_qwa (_vq (qV (f2 _qw4 (_qvy 4) (fC .non))) _w1)
  (_qwb (mE [false,false,false,true,false] (_qvy 3)))))))
noncomputable def _v6:List D->Option D:=_qv9 5 _Kh
noncomputable def _jy:Blk:=
 (_qwb (mO [true] (_xn [none] (_qvy 0) (geN 0) qT (oE (f2 dIx (_qvy 0) (fC (.int 0)))))))
noncomputable def _N:List D->Option D:=_qv9 1 _jy
noncomputable def _Xd:Blk:=
 (_qwb (mE [true,true,true] (_qw0 dSum (_k (fL (_xn [none,some 1,some 0] (_qvy 2) (geN 0) qT (oE (f2 _qw2 (f2 dIx (f2 dIx (_qvy 2) (_qvy 0)) (fC (.int 0))) (f2 dIx (_qvy 1) (_qvy 0)))))) _qwg))))
noncomputable def _vi:List D->Option D:=_qv9 3 _Xd
noncomputable def _qgl:Blk:=
 (_qwa (_qw9 3 (mO [true,false,true,false,false,false] (_Ys 2 _ja (_k (_qvy 0) (_k (_qvy 2) _qwg)))))
  (_qwa (_qw9 4 (mE [false,true,false,false,false,false] (_qu 1 _E (_k (_qvy 1) _qwg))))
  (_qwa (_qw9 5 (mE [true,true,false,true,true,false] (f2 dSub (f2 _qw2 (_qu 1 _X (_k (_qvy 0) _qwg)) (_qvy 4)) (_qu 3 _vi (_k (_qvy 0) (_k (_qu 2 _qs (_k (_qvy 4) (_k (_qvy 1) _qwg))) (_k (_qvy 3) _qwg)))))))
  (_qwa (bIf (qV (f2 dLe (_qvy 5) (fC (.int 0)))) (_qwb (mE [false,false,false,false,false,false] (_qvz (_k (fC (.int 0)) (_k (fC (.int 1)) _qwg))))) _qwc)
  (_qwb (mE [true,false,false,true,true,true] (_qu 2 _xy (_k (_qvy 5) (_k (f2 _qw2 (_qu 2 _Y (_k (_qvy 0) (_k (_qvy 3) _qwg))) (_qvy 4)) _qwg)))))))))
noncomputable def _Vo:List D->Option D:=_qv9 6 _qgl
noncomputable def _Ye:Blk:=
 (_qwa (bIf (qV (f2 dGe (_qw0 _qw3 (_k (_qvy 2) _qwg)) (_qvy 3))) (_qwb (mO [false,false,false,false] (_qvj _qwg))) _qwc)
  (_qwb (mO [true,true,true,false] (_xn [none,some 0,some 1,some 2] (fL (_Ys 1 _zn (_k (_qvy 0) _qwg))) (geN 0) (qV (f2 _Zf (_qvy 0) (_qvy 3))) (oE (_qvz (_k (_qvy 0) (_k (_qu 3 _Vo (_k (_qvy 1) (_k (_qvy 2) (_k (_qvy 0) _qwg)))) _qwg))))))))
noncomputable def _kk:List D->Option D:=_qv9 4 _Ye
noncomputable def _qlk:Blk:=
 (_qwb (mE [true,true] (_qu 2 _xy (_k (f2 dAdd (f2 _qw2 (f2 dIx (_qvy 0) (fC (.int 0))) (f2 dIx (_qvy 1) (fC (.int 1)))) (f2 _qw2 (f2 dIx (_qvy 1) (fC (.int 0))) (f2 dIx (_qvy 0) (fC (.int 1))))) (_k (f2 _qw2 (f2 dIx (_qvy 0) (fC (.int 1))) (f2 dIx (_qvy 1) (fC (.int 1)))) _qwg)))))
noncomputable def _X2:List D->Option D:=_qv9 2 _qlk
noncomputable def _jv:Blk:=
 (_qwa (_qw9 3 (mO [true,false,true,false] (_Ys 2 _ja (_k (_qvy 0) (_k (f2 dIx (_qvy 2) (fC (.int 0))) _qwg)))))
  (_qwb (mO [false,true,true,true] (_qc5 [none,none,some 3,some 2] (_qvy 1) (_qvw [(geN 0),(geN 1)]) qT (oE (fIf (qV (f2 dIn (_qvy 0) (_qvy 2))) (_qvz (_k (fC (.int 0)) (_k (fC (.int 1)) _qwg))) (_qu 2 _X2 (_k (_qvy 1) (_k (f2 dIx (_qvy 3) (fC (.int 1))) _qwg)))))))))
noncomputable def _qc:List D->Option D:=_qv9 4 _jv
noncomputable def _Xf:Blk:=
 (_qwa (_qw9 1 (mE [true,true,false,false,false,false,true] (_qu 3 _qc (_k (_qvy 0) (_k (_qvy 1) (_k (_qvy 6) _qwg))))))
  (_qwa (bMut 5 [false,false,false,false,false,false,false] pNil (mE [false,true,false,false,false,false,true] (_qvz (_k (f2 dIx (_qvy 6) (fC (.int 0))) (_k (f2 dIx (_qvy 6) (fC (.int 1))) (_k (_qvy 1) _qwg))))) gApp)
  (_qwa (bMut 4 [false,false,false,false,false,false,false] pNil (mE [false,false,false,false,false,false,true] (f2 dIx (_qvy 6) (fC (.int 0)))) gApp)
  (_qw9 6 (mE [true,true,false,true,true,false,false] (_qu 1 _x1 (_k (_qu 4 _kk (_k (_qvy 0) (_k (_qvy 1) (_k (_qvy 4) (_k (_qvy 3) _qwg))))) _qwg)))))))
noncomputable def _qe5:Blk:=
 (_qwa (_qw9 4 (mO [false,false,true,false,false,false,false] (_qvk _qhs (_k (_qvy 2) _qwg))))
  (_qwa (_qw9 5 (mO [false,false,false,false,false,false,false] (_qvj _qwg)))
  (_qwa (_qw9 6 (mE [true,true,false,true,true,false,false] (_qu 1 _x1 (_k (_qu 4 _kk (_k (_qvy 0) (_k (_qvy 1) (_k (_qvy 4) (_k (_qvy 3) _qwg))))) _qwg))))
  (_qwa (_vq (qV (f2 _qw4 (_qvy 6) (fC .non))) _Xf)
  (_qwb (mE [false,false,false,false,false,true,false] (_qvy 5)))))))
noncomputable def _X3:List D->Option D:=_qv9 7 _qe5
noncomputable def _jo:Blk:=
 (_qwa (bIf (qV (f2 dEq (_qvy 2) (fL (_qvj _qwg)))) (_qwb (mE [true,true,false] (_qu 2 _y (_k (_qvy 0) (_k (_qvy 1) _qwg))))) _qwc)
  (_qwb (mE [false,false,true] (f2 dIx (f2 dIx (_qvy 2) (f1 dNeg (fC (.int 1)))) (fC (.int 2))))))
noncomputable def _qk:List D->Option D:=_qv9 3 _jo
noncomputable def _qe6:Blk:=
 (_qwa (_qw9 2 (mE [true,true,false,false,false] (_qu 2 _v6 (_k (_qvy 0) (_k (_qvy 1) _qwg)))))
  (_qwa (_qw9 3 (mE [false,false,true,false,false] (_qu 1 _N (_k (_qvy 2) _qwg))))
  (_qwa (_qw9 4 (mE [true,true,true,true,false] (_qu 4 _X3 (_k (_qvy 0) (_k (_qu 3 _qk (_k (_qvy 0) (_k (_qvy 1) (_k (_qvy 2) _qwg)))) (_k (fL (_qvk _qlu (_k (_qvy 3) _qwg))) (_k (_qvy 1) _qwg)))))))
  (_qwb (mO [false,false,true,true,true] (oTupO (_qa0 (_qvk _qlu (_k (fL (o2 _qw6 (_qvy 3) (_qu 1 _N (_k (_qvy 4) _qwg)))) _qwg)) (_qa0 (oE (_qvy 2)) (_qa0 (oE (_qvy 4)) aoNil)))))))))
noncomputable def _Wl:List D->Option D:=_qv9 5 _qe6
noncomputable def _jw:Blk:=
 (_qwb (mO [true,true,true] (_xn [none,some 0,some 1] (_qvy 2) (geN 0) (qV (f2 dIn (_qvy 0) (f2 dIx (f2 dIx (_qvy 1) (_qvy 2)) (fC (.int 1))))) (oE (_qvy 0)))))
noncomputable def _M:List D->Option D:=_qv9 3 _jw
noncomputable def _Q0:Blk:=
 (_qwa (bIf (qOr (qV (f2 dEq (_qw0 _qw3 (_k (_qvy 2) _qwg)) (fC (.int 0)))) (qV (f2 dEq (_qw0 _qw3 (_k (_qvy 3) _qwg)) (fC (.int 0))))) (_qwb (mE [false,false,false,false,false] (fC (.bl false)))) _qwc)
  (_qwa (_qw9 4 (mO [true,false,true,false,false] (_Ys 2 _jt (_k (_qvy 0) (_k (_qvy 2) _qwg)))))
  (_qwa (bIf (qNot (qV (_qw0 dAll (_k (fL (_xn [none,some 4] (_qvy 3) (geN 0) qT (oE (f2 dIn (_qvy 0) (_qvy 1))))) _qwg)))) (_qwb (mE [false,false,false,false,false] (fC (.bl false)))) _qwc)
  (_qwb (mE [true,true,true,true,false] (f2 dGe (f2 _qw2 (_qvy 1) (_qu 2 _Y (_k (_qvy 0) (_k (_qvy 3) _qwg)))) (f2 _qw2 (_qw0 _qw3 (_k (_qvy 2) _qwg)) (_qu 1 _X (_k (_qvy 0) _qwg)))))))))
noncomputable def _kl:List D->Option D:=_qv9 5 _Q0
noncomputable def _zi:Blk:=
 (_qw9 1 (mO [false,true,true] (o2 _qw6 (_qvy 1) (fL (_xn [none,some 2] (_qvy 1) (geN 0) qT (o2 _qw6 (_qvy 0) (fL (_qvj (_k (_qvy 1) _qwg)))))))))
noncomputable def _Xh:Blk:=
 (_qwa (_qw9 1 (mO [false,false,false] (oLstO (_qa0 (_qvj _qwg) aoNil))))
  (_qwa (_qwd [true,false,false] (_qvy 0) (gN 2) _zi)
  (_qwb (mE [false,true,false] (_qvy 1)))))
noncomputable def _vj:List D->Option D:=_qv9 3 _Xh
noncomputable def _xj:Blk:=
 (_qwa (_qw9 4 (mO [true,false,true,true,false] (_xn [none,some 3,some 0,some 2] (fL (_Ys 2 _jt (_k (_qvy 0) (_k (_qvy 3) _qwg)))) (geN 0) (qV (f2 dLt (_qw0 _qw3 (_k (_qu 3 _M (_k (_qvy 2) (_k (_qvy 0) (_k (_qvy 3) _qwg)))) _qwg)) (_qw0 _qw3 (_k (_qvy 1) _qwg)))) (oE (_qvy 0)))))
  (bIf (qV (_qu 4 _kl (_k (_qvy 0) (_k (_qvy 1) (_k (_qvy 3) (_k (_qvy 4) _qwg)))))) (_qwb (mE [false,false,false,true,true] (_qvz (_k (_qvy 3) (_k (_qvy 4) _qwg))))) _qwc))
noncomputable def _vo:Blk:=
 (_qwa (_qwd [true,false,false,false,false] (_qu 1 _vj (_k (fL (_Ys 1 _zn (_k (_qvy 0) _qwg))) _qwg)) (gN 3) _xj)
  (_qwb (mE [false,false,false,false,false] (fC .non))))
noncomputable def _x0:List D->Option D:=_qv9 5 _vo
noncomputable def _j8:Blk:=
 (_qwa (bIf (qV (f2 dLt (_qvy 1) (_qw0 _qw3 (_k (_qvy 0) _qwg)))) (_qwb (mE [true,true] (f2 dIx (_qvy 0) (_qvy 1)))) _qwc)
  (_qwa (bIf (qV (f2 dEq (_qvy 0) (fL (_qvj _qwg)))) (_qwb (mE [false,true] (f2 dAdd (f2 _qw2 (f2 _qw2 (_qvy 1) (_qvy 1)) (fC (.int 7919))) (f2 _qw2 (fC (.int 13)) (_qvy 1))))) _qwc)
  (_qwb (mE [true,true] (f2 dMod (f2 _qw2 (f2 dAdd (f2 dAdd (f2 dIx (_qvy 0) (f2 dMod (_qvy 1) (_qw0 _qw3 (_k (_qvy 0) _qwg)))) (f2 _qw2 (f2 _qw2 (_qvy 1) (_qvy 1)) (fC (.int 7919)))) (fC (.int 1))) (fC (.int 48271))) (fC (.int 2147483647)))))))
noncomputable def _O:List D->Option D:=_qv9 2 _j8
noncomputable def _qlt:List D->Option D:=lawD
end L_k66
set_option maxHeartbeats 4000000
namespace L_k66
open PySem DL MB
theorem _qfy(l:List Int):D.lst (l.map D.int)=_r l:=rfl
theorem _Wp{h:List _qwp}{i:Nat}(hi:i<h.length):dIx (_I h) (.int (i:Int))=some (_zb h[i]):=by
 have:=dIx_l (ds:=h.map _zb) (i:=i) (by simpa using hi)
 rw[_I,this];simp
theorem _qcr{l:List Int}{i:Nat}(h:i<l.length):dIx (_r l) (.int (i:Int))=some (.int l[i]):=by
 have:=dIx_l (ds:=l.map .int) (i:=i) (by simpa using h)
 rw[_r,this];simp
theorem _qka(p:_qwp) (s:List Int) (hs:s.length<=100):_qg [_zb p,_r s]=some (.bl (_x2 p.2 s)):=by
 have hc:_vn (geN 0) qT (oE (f2 dIn (_qvy 0) (f2 dIx (_qvy 1) (fC (.int 1))))) (s.map D.int) [none,some (_zb p)]=some (s.map λc=>O.sh (.bl (has p.2 c))):=by
  have:=_z (inj:=D.int) (g:=geN 0) (c:=qT) (e:=oE (f2 dIn (_qvy 0) (f2 dIx (_qvy 1) (fC (.int 1))))) (λρ=>∃d,ρ=[d,some (_zb p)]) (λ_=>true) (λc=>O.sh (.bl (has p.2 c))) s [none,some (_zb p)] ⟨_,rfl⟩ (by
   rintro c _ ρ ⟨d,rfl⟩;exact⟨_,rfl,⟨_,rfl⟩,rfl,λ_=>by simp⟩)
  rwa[Au.mpr (by simp)]at this
 have hd:oDs (s.map λc=>O.sh (.bl (has p.2 c)))=some (s.map λc=>D.bl (has p.2 c)):=_xw (λc=>by simp) s;have hb:_qgi (s.map λc=>D.bl (has p.2 c))=some (s.map λc=>has p.2 c):=by
  clear hc hd hs
  induction s with
  |nil=>rfl
  |cons c s ih=>simp[_qgi,ih]
 have hl:s.length<=100000:=by omega
 simp[_qg,_qv9,_qv7,ini,_z3,_xn,mkD,hl,_qwt,hc,hd,dAll,hb,_x2,all_map,C4]
theorem _Xj(h:List _qwp) (s:List Int) (hh:h.length<=100) (hs:s.length<=100):_jt [_I h,_r s]=some (ow ((agr h s).map .int)):=by
 have hc:_vn (_qvw [(geN 0),(geN 1)]) (qV (_qu 2 _qg (_k (_qvy 1) (_k (_qvy 2) _qwg)))) (oE (_qvy 0)) (_qd7 (h.map _zb)) [none,none,some (_r s)]=some ((agr h s).map λi=>O.sh (.int i)):=by
  rw[_Wy]
  have:=_z (inj:=λq:Nat×_qwp=>D.tup [.int (q.1:Int),_zb q.2]) (g:=_qvw [(geN 0),(geN 1)]) (c:=qV (_qu 2 _qg (_k (_qvy 1) (_k (_qvy 2) _qwg)))) (e:=oE (_qvy 0))
   (λρ=>∃d d',ρ=[d,d',some (_r s)]) (λq=>_x2 q.2.2 s) (λq=>O.sh (.int (q.1:Int))) ((Ap h.length).zip h) [none,none,some (_r s)] ⟨_,_,rfl⟩ (by
   rintro⟨i,p⟩ _ ρ ⟨d,d',rfl⟩;exact⟨_,rfl,⟨_,_,rfl⟩,by simp[_qka p s hs],λ_=>by simp⟩)
  rw[this];have e:=_qa4 (λp:_qwp=>_x2 p.2 s) h;show some _=some ((agr h s).map _);unfold agr;rw[<-e,map_map,map_map];rfl
 have hl:h.length<=100000:=by omega
 simp[_jt,_qv7,ini,_Kl,_qc5,mkD,hl,_qwt,hc,ow]
theorem _kx(h:List _qwp) (c:Int) (hh:h.length<=100):_ja [_I h,.int c]=some (ow ((agr h [c]).map .int)):=by
 have ha:=_Xj h [c] hh (by simp);simp only[_r,map_cons,map_nil]at ha;simp[_ja,_qv7,ini,_Kk,_qwt,ha]
def _q0(h:List _qwp):List Int:=h.flatMap λp=>p.2
theorem _qkb(h:List _qwp) (hh:h.length<=100) (hm:∀p∈h,p.2.length<=12) (h64:(_Q (_q0 h)).length<64):_zn [_I h]=some (ow ((_Q (_q0 h)).map .int)):=by
 have hlen:∀l:List _qwp,(∀p∈l,p.2.length<=12)->(_q0 l).length<=12*l.length:=by
  intro l
  induction l with
  |nil=>intro _;simp[_q0]
  |cons p l ih=>
   intro hp;have h1:=hp p (by simp);have h2:=ih λq m=>hp q (by simp[m]);simp[_q0]at h2⊢;omega
 obtain⟨ρ',h1,c,c',h2⟩:=_V1 (inj:=_zb) (g:=gTp [(gN 2),(gN 3)]) (b:=_Xe) (λpre ρ=>∃c c',ρ=[some (.sh (_I h)),some (ow ((_q0 pre).map .int)),c,c']) h
  [some (.sh (_I h)),some (ow []),none,none] ⟨_,_,rfl⟩ (by
   rintro pre p post ρ e ⟨c,c',rfl⟩;have hp:p.2.length<=12:=hm p (by rw[e];simp);have hpre:(_q0 pre).length<=12*pre.length:=hlen pre λq m=>hm q (by rw[e];simp[m]);have hpl:pre.length<=100:=by have:=congrArg List.length e;simp at this;omega
   refine⟨[some (.sh (_I h)),some (ow ((_q0 pre).map .int)),some (.sh (.int p.1)),some (.sh (_r p.2))],_,rfl,.inl ?_,some (.sh (.int p.1)),some (.sh (_r p.2)),rfl⟩;have hl:(_q0 pre).length+p.2.length<=_qwt:=by simp only[_qwt];omega
   have em:_q0 (pre++[p])=_q0 pre++p.2:=by simp[_q0]
   rw[em];simp[_Xe,bExt,pNil,_r,atO,gExt,ow,hl,-map_append]
   simp)
 have hn:(_q0 h).length<4000:=by have:=hlen h hm;omega
 simp[_zn,_qv7,ini,_qe3,_qwd,_qwt,h1,h2,_Jx,hn,h64]
def cellOf(ns:List Int) (k:Nat):Int:=if k<ns.length then ns.getD k 0 else if ns=[]then(k:Int)*k*7919+13*k else((ns.getD (k%ns.length) 0+(k:Int)*k*7919+1)*48271).fmod 2147483647
theorem _qdm(ns:List Int) (k:Nat) (hk:k<=1000):_O [_r ns,.int (k:Int)]=some (.int (cellOf ns k)):=by
 have kk:_qw2 (.int (k:Int)) (.int (k:Int))=some (.int ((k:Int)*k)):=_qg9 (lt_of_le_of_lt (show _<=1000 by omega) (by decide));have k79:_qw2 (.int ((k:Int)*k)) (.int 7919)=some (.int ((k:Int)*k*7919)):=_qoy (by decide);have k13:_qw2 (.int 13) (.int (k:Int))=some (.int (13*(k:Int))):=_qg9 (by decide)
 by_cases h1:k<ns.length
 ·have hx:dIx (_r ns) (.int (k:Int))=some (.int (ns.getD k 0)):=by rw[_qcr h1];simp[h1]
  have h1':(k:Int)< (ns.length:Int):=by omega
  simp[_O,_qv9,_qv7,ini,_j8,h1,h1',hx,cellOf]
 ·have h1':¬ (k:Int)< (ns.length:Int):=by omega
  have he:dEq (_r ns) (.lst [])=some (.bl (decide (ns=[]))):=_qgc ns []
  by_cases h2:ns=[]
  ·subst h2
   have h1'':¬ (k:Int)<0:=by omega
   simp[_O,h1'',_qv9,_qv7,ini,_j8,he,_qwt,kk,k79,k13,cellOf]
  ·have hlen:0<ns.length:=Hm.mpr h2
   have hm:dMod (.int (k:Int)) (.int (ns.length:Int))=some (.int ((k%ns.length:Nat):Int)):=by
    rw[_qdf (by omega),E4 _ (by omega),<-Int.natCast_emod]
   have hlt:k%ns.length<ns.length:=mod_lt _ hlen;have hx:dIx (_r ns) (.int ((k%ns.length:Nat):Int))=some (.int (ns.getD (k%ns.length) 0)):=by rw[_qcr hlt];simp[hlt]
   have hm2:_qw2 (.int (ns.getD (k%ns.length) 0+(k:Int)*k*7919+1)) (.int 48271)=some (.int ((ns.getD (k%ns.length) 0+(k:Int)*k*7919+1)*48271)):=_qoy (by decide);have hm3:dMod (.int ((ns.getD (k%ns.length) 0+(k:Int)*k*7919+1)*48271)) (.int 2147483647)=some (.int (((ns.getD (k%ns.length) 0+(k:Int)*k*7919+1)*48271).fmod 2147483647)):=_qdf (by decide);rw[show cellOf ns k=((ns.getD (k%ns.length) 0+(k:Int)*k*7919+1)*48271).fmod 2147483647 by rw[cellOf,if_neg h1,if_neg h2]];generalize ns.getD (k%ns.length) 0=y at*;generalize k%ns.length=q at*;simp[_O,_qv9,_qv7,ini,_j8,h1',he,h2,_qwt,kk,k79,hm,hx,hm2,hm3]
def plD(g:List Nat):D:=_r (g.map fun(i:Nat)=>(i:Int))
def _qwe(h:List _qwp) (s:List Int):List Nat:=(Ap h.length).filter λi=>atB (λp:_qwp=>_x2 p.2 s) h[i]?
theorem agr_N(h:List _qwp) (s:List Int):agr h s=(_qwe h s).map fun(i:Nat)=>(i:Int):=rfl
theorem _qm(h:List _qwp) (s:List Int):∀i∈_qwe h s,i<h.length:=λi m=>Ax.mp (Ay.mp m).1
theorem _z4(h:List _qwp) (s:List Int):(_qwe h s).length<=h.length:=le_trans (length_filter_le _ _) (by simp)
theorem _kr:∀(ns:List Int) (a:Int),sumD (ns.map D.int) a=some (a+ns.sum)
 | [],a=>by simp[sumD]
 |n::ns,a=>by simp[sumD,_kr ns,Int.add_assoc]
def wAt(h:List _qwp) (i:Nat):Int:=(h.getD i (0,[])).1
def wG(h:List _qwp) (g:List Nat):Int:=(g.map (wAt h)).sum
def _quv(h:List _qwp):Int:=(h.map λp=>p.1).sum
theorem _zs(h:List _qwp) (hh:h.length<=100):_X [_I h]=some (.int (_quv h)):=by
 have hc:_vn (_qvw [(geN 0),(geN 1)]) qT (oE (_qvy 0)) (h.map _zb) [none,none]=some (h.map λp=>O.sh (.int p.1)):=by
  have:=_z (inj:=_zb) (g:=_qvw [(geN 0),(geN 1)]) (c:=qT) (e:=oE (_qvy 0)) (λρ=>∃d d',ρ=[d,d']) (λ_=>true) (λp=>O.sh (.int p.1)) h [none,none] ⟨_,_,rfl⟩ (by
   rintro p _ ρ ⟨d,d',rfl⟩;exact⟨_,rfl,⟨_,_,rfl⟩,rfl,λ_=>rfl⟩)
  rwa[Au.mpr (by simp)]at this
 have hd:oDs (h.map λp=>O.sh (.int p.1))=some ((h.map λp=>p.1).map D.int):=by
  have:=_xw (f:=λp:_qwp=>O.sh (.int p.1)) (g:=λp=>D.int p.1) (λp=>by simp) h
  rw[this];simp
 have hl:h.length<=100000:=by omega
 simp[_X,_qv9,_qv7,ini,_ke,_xn,mkD,_I,hl,_qwt,hc,hd,dSum,_kr,_quv,-map_map]
theorem _zt(h:List _qwp) (g:List Nat) (hg:∀i∈g,i<h.length) (hl:g.length<=1000):_Y [_I h,plD g]=some (.int (wG h g)):=by
 have hc:_vn (geN 0) qT (oE (f2 dIx (f2 dIx (_qvy 1) (_qvy 0)) (fC (.int 0)))) (g.map fun(i:Nat)=>D.int (i:Int)) [none,some (_I h)]=some (g.map λi=>O.sh (.int (wAt h i))):=by
  have:=_z (inj:=fun(i:Nat)=>D.int (i:Int)) (g:=geN 0) (c:=qT) (e:=oE (f2 dIx (f2 dIx (_qvy 1) (_qvy 0)) (fC (.int 0)))) (λρ=>∃d,ρ=[d,some (_I h)]) (λ_=>true) (λi=>O.sh (.int (wAt h i))) g [none,some (_I h)] ⟨_,rfl⟩ (by
   rintro i hi ρ ⟨d,rfl⟩;have hx:=_Wp (hg i hi);have hw:wAt h i=(h[i]'(hg i hi)).1:=by simp[wAt,hg i hi]
   exact⟨_,rfl,⟨_,rfl⟩,rfl,λ_=>by simp[hx,hw]⟩)
  rwa[Au.mpr (by simp)]at this
 have hd:oDs (g.map λi=>O.sh (.int (wAt h i)))=some ((g.map (wAt h)).map D.int):=by
  have:=_xw (f:=λi:Nat=>O.sh (.int (wAt h i))) (g:=λi=>D.int (wAt h i)) (λp=>by simp) g
  rw[this];simp
 have hl':g.length<=100000:=by omega
 have hlo:_Jr (plD g)=some (g.map fun(i:Nat)=>D.int (i:Int)):=by simp[plD]
 simp[_Y,_qv9,_qv7,ini,_kf,_xn,mkD,hl',_qwt,hlo,hc,hd,dSum,_kr,wG,-map_map]
def _qvt(l:List Nat) (i:Nat):Bool:=l.contains i
theorem _v9{l:List Nat}{i:Nat}:_qvt l i=true↔i∈l:=by simp[_qvt]
theorem _qkq(l:List Nat) (i:Nat):has (l.map fun(j:Nat)=>(j:Int)) (i:Int)=_qvt l i:=by
 rw[Az,_vm,_v9,mem_map];exact⟨fun⟨a,m,e⟩=>by rw[<-Int.ofNat_inj.mp e];exact m,λm=>⟨i,m,rfl⟩⟩
theorem _Xc{α:Type}(f:α->Bool):∀l:List α,_qgi (l.map λa=>D.bl (f a))=some (l.map f)
 | []=>rfl
 |a::l=>by simp[_qgi,_Xc f l]
theorem _Yg(h:List _qwp) (s:List Int):(agr h s).map D.int=(_qwe h s).map fun(i:Nat)=>D.int (i:Int):=by rw[agr_N,map_map];rfl
theorem _Ji(g:List Nat):D.lst (g.map fun(i:Nat)=>D.int (i:Int))=plD g:=by simp[plD,_r]
def _Zh(h:List _qwp) (seats:Int) (s:List Int) (g:List Nat):Bool:=!decide (s=[])&&!decide (g=[])&&g.all (_qvt (_qwe h s))&&decide ((s.length:Int)*_quv h<=seats*wG h g)
theorem _qle(h:List _qwp) (seats:Int) (s:List Int) (g:List Nat) (hh:h.length<=100) (hs:s.length<=100) (hl:g.length<=1000) (hse:seats.natAbs<2^63):_kl [_I h,.int seats,_r s,plD g]=some (.bl (_Zh h seats s g)):=by
 have e1:(((s.length:Int)==0):Bool)=decide (s=[]):=by rw[Az];simp
 have e2:(((g.length:Int)==0):Bool)=decide (g=[]):=by rw[Az];simp
 have hlen:_qw3 [plD g]=some (.int g.length):=by simp[plD]
 have ha:_jt [_I h,_r s]=some (ow ((agr h s).map .int)):=_Xj h s hh hs;have hz:fzc (some (ow ((agr h s).map .int)))=some (.sh (_r (agr h s))):=by simp[_r]
 have hz2:oD (ow ((agr h s).map .int))=some (_r (agr h s)):=by simp[_r]
 have hlo:_Jr (plD g)=some (g.map fun(i:Nat)=>D.int (i:Int)):=by simp[plD]
 have hc:_vn (geN 0) qT (oE (f2 dIn (_qvy 0) (_qvy 1))) (g.map fun(i:Nat)=>D.int (i:Int)) [none,some (_r (agr h s))]=some (g.map λi=>O.sh (.bl (_qvt (_qwe h s) i))):=by
  have:=_z (inj:=fun(i:Nat)=>D.int (i:Int)) (g:=geN 0) (c:=qT) (e:=oE (f2 dIn (_qvy 0) (_qvy 1))) (λρ=>∃d,ρ=[d,some (_r (agr h s))]) (λ_=>true) (λi=>O.sh (.bl (_qvt (_qwe h s) i))) g [none,some (_r (agr h s))] ⟨_,rfl⟩ (by
   rintro i hi ρ ⟨d,rfl⟩;exact⟨_,rfl,⟨_,rfl⟩,rfl,λ_=>by simp[agr_N,_qkq]⟩)
  rwa[Au.mpr (by simp)]at this
 have hc':=hc;have hl':g.length<=100000:=by omega
 have hd:oDs (g.map λi=>O.sh (.bl (_qvt (_qwe h s) i)))=some (g.map λi=>D.bl (_qvt (_qwe h s) i)):=_xw (λc=>by simp) g;have w2:=_zs h hh;have m1:_qw2 (.int seats) (.int (wG h g))=some (.int (seats*wG h g)):=_qg9 hse;have m2:_qw2 (.int (s.length:Int)) (.int (_quv h))=some (.int ((s.length:Int)*_quv h)):=_qg9 (lt_of_le_of_lt (show _<=100 by omega) (by decide))
 by_cases c1:s=[]
 ·subst c1
  simp[_kl,_qv9,_qv7,ini,_Q0,e1,_Zh]
 ·have c1':¬ ((s.length:Int)=0):=by simp[c1]
  by_cases c2:g=[]
  ·subst c2
   simp[_kl,_qv9,_qv7,ini,_Q0,hlen,c1,_Zh]
  ·have c2':¬ ((g.length:Int)=0):=by simp[c2]
   cases c3:g.all (_qvt (_qwe h s))with
   |false=>
    simp[_kl,_qv9,_qv7,ini,_Q0,hlen,c1,c2,ha,_xn,mkD,hlo,hl',_qwt,hz2,hc',hd,dAll,_Xc,all_map,C4,_Zh,c3,-all_eq_true,-List.all_eq_false]
   |true=>
    have hg:∀i∈g,i<h.length:=λi m=>_qm h s i (_v9.mp (List.all_eq_true.mp c3 i m));have w1:=_zt h g hg hl;simp[_kl,_qv9,_qv7,ini,_Q0,hlen,c1,c2,ha,_xn,mkD,hlo,hl',_qwt,hz2,hc',hd,dAll,_Xc,all_map,C4,_Zh,c3,w1,w2,m1,m2,-all_eq_true,-List.all_eq_false]
theorem _qci(h:List _qwp) (k:okH h) (hh:h.length<=100):_zn [_I h]=some (ow ((_q h).map .int)):=by
 have e:_Q (_q0 h)=_q h:=by
  refine _zf (_ji _) (List.Pairwise.filter _ _Kx) λx=>?_;show x∈_Q (_q0 h)↔x∈six.filter _;rw[_zd,Ay,any_eq_true];simp only[_q0,List.mem_flatMap,_vm];exact⟨fun⟨p,hp,hx⟩=>⟨k.mem hp hx,p,hp,hx⟩,fun⟨_,p,hp,hx⟩=>⟨p,hp,hx⟩⟩
 have hl:(_Q (_q0 h)).length<64:=by
  rw[e];exact lt_of_le_of_lt (_jb h) (by decide)
 rw[<-e];exact _qkb h hh (λp hp=>le_trans (k.len p hp) (by decide)) hl
def mlk(h:List _qwp) (mem:List Int) (i:Nat):List Int:=mem.filter (has (h.getD i (0,[])).2)
theorem _qrj(g:List Nat):imm (plD g)=false:=by simp[plD]
theorem _qqd(g:List Nat):_Jr (plD g)=some (g.map fun(i:Nat)=>D.int (i:Int)):=by simp[plD]
theorem _qn0(g:List Nat):D.lst (g.map fun(i:Nat)=>D.int (i:Int))=plD g:=by simp[plD,_r]
theorem _qsd(h:List _qwp) (s:List Int):(agr h s).map D.int=(_qwe h s).map fun(i:Nat)=>D.int (i:Int):=by rw[agr_N,map_map];rfl
theorem pl_oD(g:List Nat):oDs (g.map fun(i:Nat)=>O.sh (.int (i:Int)))=some (g.map fun(i:Nat)=>D.int (i:Int)):=_xw (λp=>by simp) g
theorem _qqc(g:List Nat):_qvh (g.map fun(i:Nat)=>O.sh (.int (i:Int)))=true:=_qhk (λ_=>by simp) g
theorem _qr1(h:List _qwp) (i:Nat) (hi:i<h.length) (mem:List Int) (hm:mem.length<=100):_M [_I h,.int (i:Int),_r mem]=some (_r (mlk h mem i)):=by
 have hx:=_Wp hi;have hc:_vn (geN 0) (qV (f2 dIn (_qvy 0) (f2 dIx (f2 dIx (_qvy 1) (_qvy 2)) (fC (.int 1))))) (oE (_qvy 0)) (mem.map D.int) [none,some (_I h),some (.int (i:Int))]=some ((mlk h mem i).map λc=>O.sh (.int c)):=
  _z (inj:=D.int) (λρ=>∃d,ρ=[d,some (_I h),some (.int (i:Int))]) (has (h.getD i (0,[])).2) (λc=>O.sh (.int c)) mem _ ⟨_,rfl⟩ (by
   rintro c _ ρ ⟨d,rfl⟩;exact⟨_,rfl,⟨_,rfl⟩,by simp[hx,hi],λ_=>by simp⟩)
 have hd:oDs ((mlk h mem i).map λc=>O.sh (.int c))=some ((mlk h mem i).map D.int):=_xw (λp=>by simp) _;have hl:mem.length<=100000:=by omega
 simp[_M,_qv9,_qv7,ini,_jw,_xn,mkD,hl,_qwt,hc,hd];rfl
theorem _qas{α:Type}{P:List α->Prop}(h0:P []) (h1:∀l a,P l->P (l++[a])):∀l,P l:=by
 intro l;have key:∀m:List α,P m.reverse:=by
  intro m
  induction m with
  |nil=>exact h0
  |cons a m ih=>rw[Iw];exact h1 _ _ ih
 have:=key l.reverse
 rwa[List.reverse_reverse]at this
def _xb(l:List Int):List (List Int):=l.foldl (λrows t=>rows++rows.map (·++[t])) [[]]
theorem _vu(l:List Int) (t:Int):_xb (l++[t])=_xb l++(_xb l).map (·++[t]):=by simp[_xb]
theorem _Xn:∀l:List Int,(_xb l).length=2^l.length:=
 _qas (by simp[_xb]) λl a ih=>by rw[_vu,length_append,length_map,ih,length_append,Ki,Mt];omega
theorem _wn:∀(l s:List Int),s∈_xb l↔s.Sublist l:=
 _qas (by intro s;simp[_xb]) λl a ih s=>by
  rw[_vu,C6,ih,mem_map,List.sublist_append_iff];constructor
  ·rintro(h|⟨r,hr,rfl⟩)
   ·exact⟨s,[],by simp,h,by simp⟩
   ·exact⟨r,[a],rfl,(ih r).mp hr,List.Sublist.refl _⟩
  ·rintro⟨s1,s2,rfl,h1,h2⟩
   have h3:s2=[]\/s2=[a]:=by
    cases h2 with
    |cons _ h=>left;exact List.sublist_nil.mp h
    |cons_cons _ h=>right;rw[List.sublist_nil.mp h]
   rcases h3 with rfl|rfl
   ·exact .inl (by simpa using h1)
   ·exact .inr ⟨s1,(ih s1).mpr h1,rfl⟩
def _qa2(r:List (List Int)):D:=.lst (r.map _r)
theorem _Kb(l:List Int) (o:O) (R:List (List Int)) (t:Int) (ho:oD o=some (_qa2 R)) (hR:R.length<=64) (hr:∀r∈R,r.length<=10):
  _zi [some (.sh (_r l)),some o,some (.sh (.int t))]=some (.nx [some (.sh (_r l)),some (ow ((R++R.map (·++[t])).map _r)),some (.sh (.int t))]):=by
 have hc:_vn (geN 0) qT (o2 _qw6 (_qvy 0) (fL (_qvj (_k (_qvy 1) _qwg)))) (R.map _r) [none,some (.int t)]=some (R.map λr=>ow (r.map D.int++[D.int t])):=by
  have:=_z (inj:=_r) (g:=geN 0) (c:=qT) (e:=o2 _qw6 (_qvy 0) (fL (_qvj (_k (_qvy 1) _qwg)))) (λρ=>∃d,ρ=[d,some (.int t)]) (λ_=>true) (λr=>ow (r.map D.int++[D.int t])) R [none,some (.int t)] ⟨_,rfl⟩ (by
   rintro r hm ρ ⟨d,rfl⟩;have h10:=hr r hm;have hl:r.length+1<=100000:=by omega
   exact⟨_,rfl,⟨_,rfl⟩,rfl,λ_=>by simp[_qw6,_r,_qwt,hl]⟩)
  rwa[Au.mpr (by simp)]at this
 have hd:oDs (R.map λr=>ow (r.map D.int++[D.int t]))=some (R.map λr=>_r (r++[t])):=_xw (λr=>by have:=_Vy (r++[t]);simpa using this) R;have hl:R.length<=100000:=by omega
 have hl2:R.length+R.length<=100000:=by omega
 have hz:fzc (some o)=some (.sh (_qa2 R)):=by
  cases o with
  |sh d=>simp at ho;subst ho;rfl
  |_=>simp[fzc,ho]
 have hlo:_Jr (_qa2 R)=some (R.map _r):=rfl;simp[_zi,frz,ho,_xn,mkD,hlo,hl,_qwt,hc,hd,o2,_qw6,_qa2,hl2,C4];split<;>rfl
theorem _qdk(l:List Int) (hl:l.length<=6):_vj [_r l]=some (_qa2 (_xb l)):=by
 obtain⟨ρ',h1,c,o,h2,h3⟩:=_V1 (inj:=D.int) (g:=gN 2) (b:=_zi) (λpre ρ=>∃(c:Option O) (o:O),ρ=[some (.sh (_r l)),some o,c]/\oD o=some (_qa2 (_xb pre))) l
  [some (.sh (_r l)),some (.lst [.lst []]),none] ⟨none,.lst [.lst []],rfl,by simp[_qa2,_xb,_r]⟩ (by
   rintro pre a post ρ e ⟨c,o,rfl,ho⟩;have hpl:pre.length<=5:=by have:=congrArg List.length e;simp at this;omega
   have hR:(_xb pre).length<=64:=by
    rw[_Xn];exact le_trans (pow_le_pow_right (by decide) hpl) (by decide)
   refine⟨[some (.sh (_r l)),some o,some (.sh (.int a))],_,rfl,.inl (_Kb l o (_xb pre) a ho hR λr hr=>?_),_,_,rfl,?_⟩
   ·have:=((_wn pre r).mp hr).length_le
    omega
   ·rw[_vu]
    simp[_qa2])
 have hr:frz [false,true,false] ρ'=[none,some (_qa2 (_xb l)),none]:=by rw[h2];simp[frz,h3]
 have hi:imm (_qa2 (_xb l))=false:=by simp[_qa2]
 have e0:O.lst [ow []]=O.lst [O.lst []]:=rfl;simp[_vj,_qv9,_qv7,ini,_Xh,_qwd,_qwt,e0,h1,_qwb,mE,hr,_qvy,hi]
theorem _qba(R:List (List Int)):_Jr (_qa2 R)=some (R.map _r):=rfl
theorem _qil{h:List _qwp}{s:List Int}(hs:s∈_xb (_q h)):s.Sublist six:=((_wn _ s).mp hs).trans (_X5 h)
def _qvu(h:List _qwp) (mem s:List Int):List Nat:=(_qwe h s).filter λi=>decide (((mlk h mem i).length:Int)< (s.length:Int))
theorem _qkr(h:List _qwp) (mem s:List Int):(_qvu h mem s).length<=h.length:=le_trans (length_filter_le _ _) (_z4 h s)
def _qhq(h:List _qwp) (seats:Int) (mem:List Int):Option (List Int):=(_xb (_q h)).find? λs=>_Zh h seats s (_qvu h mem s)
def leftD(h:List _qwp) (seats:Int) (mem:List Int):D:=match _qhq h seats mem with|some s=>.tup [_r s,plD (_qvu h mem s)]|none=>.non
theorem _qnz(h:List _qwp) (k:okH h) (hh:h.length<=100) (seats:Int) (hse:seats.natAbs<2^63) (mem:List Int) (hm:mem.length<=100):
  _x0 [_I h,.int seats,_r mem]=some (leftD h seats mem):=by
 have lk:=_qci h k hh;have hz:oD (ow ((_q h).map D.int))=some (_r (_q h)):=by simp[_r]
 have ch:=_qdk (_q h) (_jb h);obtain⟨f1,f2'⟩:=_Y0 (inj:=_r) (g:=gN 3) (b:=_xj) (λρ=>∃c c',ρ=[some (.sh (_I h)),some (.sh (.int seats)),some (.sh (_r mem)),c,c']) (λs=>_Zh h seats s (_qvu h mem s)) (λs=>O.sh (.tup [_r s,plD (_qvu h mem s)])) (_xb (_q h))
  [some (.sh (_I h)),some (.sh (.int seats)),some (.sh (_r mem)),none,none] ⟨_,_,rfl⟩ (by
   rintro s hs ρ ⟨d,d',rfl⟩;have hsl:s.length<=6:=(_qil hs).length_le;have l1:=_Xj h s hh (by omega);rw[_qsd]at l1;have hc:_vn (geN 0) (qV (f2 dLt (_qw0 _qw3 (_k (_qu 3 _M (_k (_qvy 2) (_k (_qvy 0) (_k (_qvy 3) _qwg)))) _qwg)) (_qw0 _qw3 (_k (_qvy 1) _qwg)))) (oE (_qvy 0)) ((_qwe h s).map fun(i:Nat)=>D.int (i:Int)) [none,some (_r s),some (_I h),some (_r mem)]=some ((_qvu h mem s).map fun(i:Nat)=>O.sh (.int (i:Int))):=
    _z (inj:=fun(i:Nat)=>D.int (i:Int)) (λρ=>∃d,ρ=[d,some (_r s),some (_I h),some (_r mem)]) (λi=>decide (((mlk h mem i).length:Int)< (s.length:Int))) (fun(i:Nat)=>O.sh (.int (i:Int))) (_qwe h s) _ ⟨_,rfl⟩ (by
     rintro i hi ρ ⟨d,rfl⟩;have ml:=_qr1 h i (_qm h s i hi) mem hm;exact⟨_,rfl,⟨_,rfl⟩,by simp[ml],λ_=>by simp⟩)
   have hl:(_qwe h s).length<=100000:=by have:=_z4 h s;omega
   have hg:=pl_oD (_qvu h mem s);have hgi:=_qqc (_qvu h mem s);have hf:=_qn0 (_qvu h mem s);have cl:=_qle h seats s (_qvu h mem s) hh (by omega) (by have:=_qkr h mem s;omega) hse;refine⟨λhb=>?_,λhb=>?_⟩
   ·simp[Rets,_xj,l1,_xn,mkD,hl,_qwt,hc,hg,hgi,hf,cl,hb,_qrj]
   ·simp[_qwv,_xj,l1,_xn,mkD,hl,_qwt,hc,hg,hgi,hf,cl,hb])
 cases hf:_qhq h seats mem with
 |none=>
  obtain⟨ρ',e1,c,c',e2⟩:=f2' hf;simp[_x0,_qv9,_qv7,ini,_vo,lk,hz,ch,_qba,_qwd,_qwt,e1,leftD,hf]
 |some c=>
  obtain⟨ρ',e1⟩:=f1 c hf;simp[_x0,_qv9,_qv7,ini,_vo,lk,hz,ch,_qba,_qwd,_qwt,e1,leftD,hf]
def pAt(P:List Rat) (i:Nat):Rat:=P.getD i 0
def _qv4(h:List _qwp) (P:List Rat) (c:Int):Rat:=_Zs (_qwe h [c]) λi=>(wAt h i:Rat)*pAt P i
def _xl(h:List _qwp) (P:List Rat) (c:Int):Rat:=if(_quv h:Rat)-_qv4 h P c<=0 then 0 else((_quv h:Rat)-_qv4 h P c)/(wG h (_qwe h [c]):Rat)
theorem _qo8(l:List Int):((l.sum:Int):Rat)=(l.map fun(n:Int)=>(n:Rat)).sum:=by
 induction l with
 |nil=>rfl
 |cons a l ih=>simp[ih]
theorem _qgq(h:List _qwp):_quv h=wG h (Ap h.length):=by
 unfold _quv wG;congr 1;apply ext_getElem
 ·simp
 ·intro i h1 h2
  simp at h1;simp[wAt,h1]
structure okW(h:List _qwp):Prop where
 pos:∀p∈h,1<=p.1
 lt:∀p∈h,p.1<2^72
 len:h.length<=16
theorem okW.at0{h:List _qwp}(k:okW h) (i:Nat):0<=wAt h i:=by
 unfold wAt
 by_cases hi:i<h.length
 ·rw[_x5 hi];have:=k.pos _ (getElem_mem hi);omega
 ·simp[List.getD,hi]
theorem okW.at1{h:List _qwp}(k:okW h){i:Nat}(hi:i<h.length):1<=wAt h i:=by
 unfold wAt;rw[_x5 hi];exact k.pos _ (getElem_mem hi)
theorem okW.atlt{h:List _qwp}(k:okW h) (i:Nat):wAt h i<2^72:=by
 unfold wAt
 by_cases hi:i<h.length
 ·rw[_x5 hi];exact k.lt _ (getElem_mem hi)
 ·simp[List.getD,hi]
theorem _Kq{h:List _qwp}(k:okW h):∀g:List Nat,0<=wG h g/\wG h g<=(g.length:Int)*2^72
 | []=>by simp[wG]
 |i::g=>by
  obtain⟨a,b⟩:=_Kq k g;have h1:=k.at0 i;have h2:=k.atlt i;have e:wG h (i::g)=wAt h i+wG h g:=by simp[wG]
  have e2:(((i::g).length:Nat):Int)*2^72=(g.length:Int)*2^72+2^72:=by
   rw[length_cons,Int.natCast_add,Int.add_mul];simp
  rw[e,e2];omega
theorem _qlr{h:List _qwp}(k:okW h){g:List Nat}(hg:g.length<=16):0<=wG h g/\wG h g<=2^76:=by
 obtain⟨a,b⟩:=_Kq k g;refine⟨a,F9 b ?_⟩
 have:(g.length:Int)*2^72<=16*2^72:=Gz (by omega) (by decide)
 exact F9 this (by decide)
theorem _qab{h:List _qwp}(k:okW h):0<=_quv h/\_quv h<=2^76:=by
 rw[_qgq];exact _qlr k (by simpa using k.len)
theorem _qaa{h:List _qwp}(k:okW h){g:List Nat}(hne:g≠[]) (hg:∀i∈g,i<h.length):1<=wG h g:=by
 cases g with
 |nil=>exact absurd rfl hne
 |cons i g=>
  have e:wG h (i::g)=wAt h i+wG h g:=by simp[wG]
  have:=k.at1 (hg i (by simp))
  have:=(_Kq k g).1
  omega
theorem _vk{h:List _qwp}{c:Int}(hc:c∈_q h):_qwe h [c]≠[]:=by
 obtain⟨hs,ha⟩:=Ay.mp hc;obtain⟨p,hp,hl⟩:=Js.mp ha;obtain⟨i,hi,rfl⟩:=getElem_of_mem hp;refine List.ne_nil_of_mem (a:=i) (Ay.mpr ⟨Ax.mpr hi,?_⟩);rw[getElem?_eq_getElem hi];simpa[atB,_x2]using hl
def _R(f:Option (Int×Rat)) (o:Int×Rat):Option (Int×Rat):=match f with
 |none=>some o
 |some a=>if o.2<a.2 then some o else some a
def _T(l:List (Int×Rat)):Option (Int×Rat):=l.foldl _R none
def _jg(h:List _qwp) (P:List Rat) (ch:List Int) (seats:Int):List (Int×Rat):=if seats<=(ch.length:Int)then[]else((_q h).filter λc=>!has ch c).map λc=>(c,_xl h P c)
def _W(h:List _qwp) (P:List Rat) (o:Int×Rat):List Rat:=(Ap P.length).map λi=>if _qvt (_qwe h [o.1]) i=true then 0 else pAt P i+o.2
def _Wv(h:List _qwp) (seats:Int):Nat->List Rat->List Int->List (Int×Rat×List Rat)
 |0,_,_=>[]
 |n+1,P,ch=>match _T (_jg h P ch seats)with
  |none=>[]
  |some o=>(o.1,o.2,_W h P o)::_Wv h seats n (_W h P o) (ch++[o.1])
theorem _zl{P:List Rat}{i:Nat}(h:i<P.length):pAt P i∈P:=by unfold pAt;rw[_x5 h];exact getElem_mem h
theorem _j4{l:List (Int×Rat)}{o:Int×Rat}(h:_T l=some o):o∈l:=by
 have key:∀(l:List (Int×Rat)) (f:Option (Int×Rat)) (o:Int×Rat),l.foldl _R f=some o->o∈l\/f=some o:=by
  intro l
  induction l with
  |nil=>intro f o h;exact .inr h
  |cons a l ih=>
   intro f o h;rcases ih _ _ h with h|h
   ·exact .inl (by simp[h])
   ·cases f with
    |none=>simp[_R]at h;exact .inl (by simp[h])
    |some b=>
     simp only[_R]at h;split at h
     ·simp at h;exact .inl (by simp[h])
     ·exact .inr h
 rcases key l none o h with h|h
 ·exact h
 ·cases h
theorem _k3{h:List _qwp}(k:okW h) (P:List Rat) (c:Int):0<=_xl h P c:=by
 unfold _xl;split
 ·exact Na
 ·rename_i hn
  have h1:(0:Rat)<=(wG h (_qwe h [c]):Rat):=by exact_mod_cast (_Kq k _).1
  have h2:(0:Rat)<=(_quv h:Rat)-_qv4 h P c:=by grind
  rw[Rat.div_def];refine Rat.mul_nonneg h2 ?_
  by_cases h3:(wG h (_qwe h [c]):Rat)=0
  ·rw[h3];simp
  ·exact Gm (Rat.inv_pos.mpr (by grind))
theorem _Yk{h:List _qwp}(k:okW h){P:List Rat}(hP:∀q∈P,(0:Rat)<=q) (c:Int):0<=_qv4 h P c:=by
 refine _k6 λi _=>Rat.mul_nonneg (by exact_mod_cast k.at0 i) ?_;unfold pAt
 by_cases hi:i<P.length
 ·rw[_x5 hi];exact hP _ (getElem_mem hi)
 ·simp[List.getD,hi]
theorem _qa9{h:List _qwp}(k:okW h){P:List Rat}(hP:∀q∈P,(0:Rat)<=q){c:Int}(hc:c∈_q h):_xl h P c<=((2^80:Nat):Rat):=by
 unfold _xl;have hN:(_quv h:Rat)<=((2^80:Nat):Rat):=by
  have:=(_qab k).2
  have h2:_quv h<=((2^80:Nat):Int):=F9 this (by decide);rw[<-_zm];exact Rat.intCast_le_intCast.mpr h2
 split
 ·exact_mod_cast zero_le _
 ·have h1:(1:Rat)<=(wG h (_qwe h [c]):Rat):=by exact_mod_cast _qaa k (_vk hc) (_qm h [c])
  have h2:=_Yk k hP c;generalize hx:((_quv h:Rat)-_qv4 h P c)/(wG h (_qwe h [c]):Rat)=x;generalize(wG h (_qwe h [c]):Rat)=W at*;have hW:W≠0:=by grind
  have e:x*W=(_quv h:Rat)-_qv4 h P c:=by rw[<-hx,Dl hW]
  false_or_by_contra;rename_i hgt;have hgt':((2^80:Nat):Rat)<x:=by grind
  have hx0:(0:Rat)<=x:=by
   have:(0:Rat)<=((2^80:Nat):Rat):=by exact_mod_cast zero_le _
   grind
  have:x*1<=x*W:=Ed h1 hx0
  grind
theorem _Vf{D:Nat}:∀(l:List Nat) (f:Nat->Rat),(∀i∈l,_qwq D (f i))->_qwq D (_Zs l f)
 | [],f,_=>⟨0,by simp[_Zs]⟩
 |i::l,f,h=>by
  rw[_z7];exact(h i (by simp)).add (_Vf l f λj m=>h j (by simp[m]))
theorem _Kg{h:List _qwp}(k:okW h){P:List Rat}{t:Nat}(hs:_zr t P) (hl:P.length=h.length){c:Int}(hc:c∈_q h):_zr (t+1) (_W h P (c,_xl h P c)):=by
 obtain⟨D,h1,h2,h3⟩:=hs;have hP:∀q∈P,(0:Rat)<=q:=λq m=>(h3 q m).2.1;have hW1:=_qaa k (_vk hc) (_qm h [c]);have hW2:=(_qlr k (g:=_qwe h [c]) (le_trans (_z4 h [c]) k.len)).2;obtain⟨W,hW⟩:∃W:Nat,wG h (_qwe h [c])=(W:Int):=⟨(wG h (_qwe h [c])).toNat,by omega⟩;rw[hW]at hW1 hW2;have hWlt:W<2^80:=by
  have:(W:Int)< ((2^80:Nat):Int):=Ma hW2 (by decide)
  exact_mod_cast this
 have hWp:0<W:=by omega
 have hoS:_qwq D (_qv4 h P c):=_Vf _ _ λi hi=>by
  have:=_qm h [c] i hi
  have o:=(h3 _ (_zl (P:=P) (i:=i) (by omega))).1;rw[J5];exact o.mulInt _
 have hoW:_qwq (W*D) (_xl h P c):=by
  unfold _xl;split
  ·exact _v5 _ 0
  ·have o2:_qwq D ((_quv h:Rat)-_qv4 h P c):=(_v5 D _).sub hoS
   obtain⟨x,hx⟩:=o2;refine⟨x,?_⟩;rw[hW];have hne:((W:Int):Rat)≠0:=by
    have:(0:Rat)< ((W:Int):Rat):=by exact_mod_cast hW1
    grind
   have e1:((W*D:Nat):Rat)=((W:Int):Rat)*(D:Rat):=by simp[_zm]
   rw[e1,<-Et,Dl hne];exact hx
 have hx0:=_k3 k P c;have hx1:=_qa9 k hP hc;have hcast:(((t+1)*2^80:Nat):Rat)=((t*2^80:Nat):Rat)+((2^80:Nat):Rat):=by
  rw[Nat.add_mul,Nat.one_mul]
  simp
 refine⟨W*D,mul_pos hWp h1,?_,λq hq=>?_⟩
 ·have:W*D<2^80*2^(80*t+1):=by
   calc W*D<2^80*D:=E3 hWlt h1
    _<=2^80*2^(80*t+1):=Li _ (le_of_lt h2)
  rw[<-pow_add]at this;rw[show 80*(t+1)+1=80+(80*t+1) by omega];exact this
 ·obtain⟨i,hi,rfl⟩:=Ag.mp hq
  have hi':=Ax.mp hi;have hz:(0:Rat)<=(((t+1)*2^80:Nat):Rat):=by exact_mod_cast zero_le _
  split
  ·exact⟨_v5 _ 0,Na,hz⟩
  ·obtain⟨o,q0,q1⟩:=h3 _ (_zl hi')
   refine⟨(o.dvd (Nat.dvd_mul_left D W)).add hoW,?_,?_⟩
   ·grind
   ·rw[hcast]
    grind
theorem _qdz(h:List _qwp) (P:List Rat) (o:Int×Rat):(_W h P o).length=P.length:=by simp[_W]
theorem _qku:∀(n:Nat) (p q:Option O) (c:Option O) (a b:Nat),b=n->∃c',_vq (qV (f2 dNe (_qvy 3) (fC (.int 0)))) _kh [p,q,some (.sh (.int (a:Int))),some (.sh (.int (b:Int))),c]=some (.nx [p,q,some (.sh (.int (Jd a b:Int))),some (.sh (.int 0)),c']):=by
 intro n
 induction n using Nat.strongRecOn with
 |ind n ih=>
  intro p q c a b hn
  by_cases hb:b=0
  ·subst hb
   exact⟨c,by simpa using _je (by simp)⟩
  ·have hb':(b:Int)≠0:=by omega
   have e:(a:Int).fmod (b:Int)=((a%b:Nat):Int):=by rw[E4 _ (by omega)];rfl
   obtain⟨c',h⟩:=ih (a%b) (by rw[<-hn];exact mod_lt _ (by omega)) p q (some (.sh (.int ((a%b:Nat):Int)))) b (a%b) rfl;refine⟨c',_ki (by simp[hb]) ?_ (by rw[h,Nat.gcd_comm a b,Nat.gcd_rec b a,Nat.gcd_comm])⟩;simp[_kh,_qdf hb',e]
theorem _qoh(a b:Int):_xg [.int a,.int b]=some (.int (Ea a b)):=by
 obtain⟨c',h⟩:=_qku _ (some (.sh (.int a))) (some (.sh (.int b))) none a.natAbs b.natAbs rfl;simp[_xg,_qv9,_qv7,ini,_Xg,_qsf,h,Ea]
theorem _Q6(t b:Int) (hb:0<b) (ht:Sz 8000 t) (hb':Sz 8000 b):_xy [.int t,.int b]=some (.tup [.int (nf1 t b),.int (nf2 t b)]):=by
 have hg:=_V0 (t:=t) hb;have hz:(Ea t b:Int)≠0:=by omega
 have hB:(Ea t b:Int).natAbs<BIGD:=_qdu (k:=8000) (by rw[Bf];exact _qrm ht hb') (by decide);have e1:t.fdiv (Ea t b:Int)=nf1 t b:=Jt (Int.gcd_dvd_left t b);have e2:b.fdiv (Ea t b:Int)=nf2 t b:=Jt (Int.gcd_dvd_right t b);have h0:¬b=0:=by omega
 have h1:¬b<0:=by omega
 simp[_xy,_qv9,_qv7,ini,_qe1,_qoh,h0,h1,_qdg hz hB,e1,e2,_qwt]
section
variable{p q r s:Int}(hq:0<q) (hs:0<s) (zp:Sz 2000 p) (zq:Sz 2000 q) (zr:Sz 2000 r) (zs:Sz 2000 s)
include hq hs zp zq zr zs
theorem _qmz:_X2 [.tup [.int p,.int q],.tup [.int r,.int s]]=some (.tup [.int (nf1 (p*s+r*q) (q*s)),.int (nf2 (p*s+r*q) (q*s))]):=by
 have m1:=_q2 (zp.big (by decide)) (zs.big (by decide));have m2:=_q2 (zr.big (by decide)) (zq.big (by decide));have m3:=_q2 (zq.big (by decide)) (zs.big (by decide));have sh:=_Q6 (p*s+r*q) (q*s) (G8 hq hs) (((zp.mul zs).add (zr.mul zq)).mono (by decide)) ((zq.mul zs).mono (by decide));simp[_X2,_qv9,_qv7,ini,_qlk,m1,m2,m3,sh]
end
theorem _qlj{p q r s:Int}(hp:Sz 2000 p) (hq:Sz 2000 q) (hr:Sz 2000 r) (hs:Sz 2000 s):_km [.tup [.int p,.int q],.tup [.int r,.int s]]=some (.bl (decide (p*s<r*q))):=by
 simp[_km,_qv9,_qv7,ini,_qe7,_q2 (hp.big (by decide)) (hs.big (by decide)),_q2 (hr.big (by decide)) (hq.big (by decide))]
section
variable{a b:Rat}(ha:Bd 2000 2000 a) (hb:Bd 2000 2000 b)
include ha hb
theorem _qqb:_X2 [frD a,frD b]=some (frD (a+b)):=by
 have h:=_qmz (den_pos a) (den_pos b) ha.num ha.den hb.num hb.den;have e:=nf_mk (t:=a.num*b.den+b.num*a.den) (b:=a.den*b.den) (mul_ne_zero a.den_nz b.den_nz);rw[Int.natCast_mul]at e;rw[_qpf]at e;rw[<-e];exact h
theorem _qi6:_km [frD a,frD b]=some (.bl (decide (a<b))):=by
 have h:=_qlj ha.num ha.den hb.num hb.den;have e:decide (a<b)=decide (a.num*b.den<b.num*a.den):=by rw[Az];simp[Rat.lt_iff]
 rw[e];exact h
end
section
variable{p q r s:Int}(hq:0<q) (hs:0<s) (zp:Sz 2000 p) (zq:Sz 2000 q) (zr:Sz 2000 r) (zs:Sz 2000 s)
include hq hs zp zq zr zs
theorem _qk5:_Qt [.tup [.int p,.int q],.tup [.int r,.int s]]=some (.tup [.int (nf1 (p*s-r*q) (q*s)),.int (nf2 (p*s-r*q) (q*s))]):=by
 have m1:=_q2 (zp.big (by decide)) (zs.big (by decide));have m2:=_q2 (zr.big (by decide)) (zq.big (by decide));have m3:=_q2 (zq.big (by decide)) (zs.big (by decide));have sh:=_Q6 (p*s-r*q) (q*s) (G8 hq hs) (((zp.mul zs).sub (zr.mul zq)).mono (by decide)) ((zq.mul zs).mono (by decide));simp[_Qt,_qv9,_qv7,ini,_qe2,m1,m2,m3,sh]
end
section
variable{a b:Rat}(ha:Bd 2000 2000 a) (hb:Bd 2000 2000 b)
include ha hb
theorem _qns:_Qt [frD a,frD b]=some (frD (a-b)):=by
 have h:=_qk5 (den_pos a) (den_pos b) ha.num ha.den hb.num hb.den;have e:=nf_mk (t:=a.num*b.den-b.num*a.den) (b:=a.den*b.den) (mul_ne_zero a.den_nz b.den_nz);rw[Int.natCast_mul]at e;rw[_qmc]at e;rw[<-e];exact h
end
theorem _qi3(l:List Rat){t:Nat}(hs:_zr t l) (ht:t<=20):_E [_qy l]=some (.int (cb l:Nat)):=by
 obtain⟨ρ',e1,c,c',e2⟩:=_J2 (inj:=frD) (g:=gTp [(gN 2),(gN 3)]) (b:=_q3) (λpre ρ=>∃c c',ρ=[some (.sh (_qy l)),some (.sh (.int (cb pre:Nat))),c,c']) l [some (.sh (_qy l)),some (.sh (.int 1)),none,none] ⟨_,_,rfl⟩ (by
  rintro pre q post ρ e ⟨c,c',rfl⟩;have hq:q∈l:=by rw[e];simp
  have hb:=(hs.sub (Q:=pre) λr hr=>by rw[e];simp[hr]).cb ht;have hd:=(hs.bd ht hq).2;have g1:=_qoh (cb pre:Nat) (q.den:Nat);have eg:(Ea ((cb pre:Nat):Int) (q.den:Int))=Jd (cb pre) q.den:=rfl;rw[eg]at g1;have gp:0<Jd (cb pre) q.den:=Nat.gcd_pos_of_pos_left _ (_qdn pre);have gl:Jd (cb pre) q.den<=q.den:=Nat.gcd_le_right _ q.den_pos;have d1:_qw5 (.int (q.den:Int)) (.int (Jd (cb pre) q.den:Nat))=some (.int ((q.den/Jd (cb pre) q.den:Nat):Int)):=by
   rw[_qdg (by omega) (_qdu (k:=1700) (by rw[Bf];omega) (by decide)),_qd5]
  have m1:_qw2 (.int (cb pre:Nat)) (.int ((q.den/Jd (cb pre) q.den:Nat):Int))=some (.int ((cbF (cb pre) q:Nat):Int)):=by
   rw[_q2 (_qdv (k:=1700) (by rw[Bf];exact hb) (by decide)) (_qdv (k:=1700) (by rw[Bf];exact lt_of_le_of_lt (Ke _ _) hd) (by decide))];simp[cbF]
  rw[_qp1];have hg:gTp [(gN 2),(gN 3)] (frD q) [some (.sh (_qy l)),some (.sh (.int (cb pre:Nat))),c,c']=some [some (.sh (_qy l)),some (.sh (.int (cb pre:Nat))),some (.sh (.int q.num)),some (.sh (.int (q.den:Nat)))]:=rfl;generalize cbF (cb pre) q=z at*;generalize q.den/Jd (cb pre) q.den=y at*;simp only[_qwv,hg];simp[_q3,g1,d1,m1])
 simp[_E,_qv9,_qv7,ini,_jx,_qwd,_qwt,e1,e2]
theorem _qgu(l:List Rat){t:Nat}(hs:_zr t l) (ht:t<=20) (b:Nat) (hb:b<2^1700) (hl:l.length<=1000):_qs [.int (b:Int),_qy l]=some (_r (l.map (_quz b))):=by
 have hc:_vn (_qvw [(geN 0),(geN 1)]) qT (oE (f2 _qw2 (_qvy 0) (f2 _qw5 (_qvy 2) (_qvy 1)))) (l.map frD) [none,none,some (.int (b:Int))]=some (l.map λq=>O.sh (.int (_quz b q))):=by
  have:=_z (inj:=frD) (g:=_qvw [(geN 0),(geN 1)]) (c:=qT) (e:=oE (f2 _qw2 (_qvy 0) (f2 _qw5 (_qvy 2) (_qvy 1)))) (λρ=>∃d d',ρ=[d,d',some (.int (b:Int))]) (λ_=>true) (λq=>O.sh (.int (_quz b q))) l [none,none,some (.int (b:Int))] ⟨_,_,rfl⟩ (by
   rintro q hq ρ ⟨d,d',rfl⟩;have hd:=(hs.bd ht hq).2;have hn:=(hs.bd ht hq).num;have d1:_qw5 (.int (b:Int)) (.int (q.den:Int))=some (.int ((b/q.den:Nat):Int)):=by
    rw[_qdg (by have:=q.den_pos;omega) (_qdu (k:=1700) (by rw[Bf];exact hd) (by decide)),_qd5]
   have m1:_qw2 (.int q.num) (.int ((b/q.den:Nat):Int))=some (.int (_quz b q)):=by
    rw[_q2 (hn.big (by decide)) (_qdv (k:=1700) (by rw[Bf];exact lt_of_le_of_lt (Ke _ _) hb) (by decide))];rfl
   refine⟨[some (.int q.num),some (.int (q.den:Int)),some (.int (b:Int))],rfl,⟨_,_,rfl⟩,rfl,λ_=>?_⟩;generalize _quz b q=z at*;generalize b/q.den=y at*;simp[d1,m1])
  rwa[Au.mpr (by simp)]at this
 have hd:oDs (l.map λq=>O.sh (.int (_quz b q)))=some ((l.map (_quz b)).map .int):=by
  have:=_xw (f:=λq:Rat=>O.sh (.int (_quz b q))) (g:=λq=>D.int (_quz b q)) (λp=>by simp) l
  rw[this,map_map];rfl
 have hl':l.length<=100000:=by omega
 simp[_qs,_qv9,_qv7,ini,_kg,_xn,mkD,hl',_qwt,hc,hd,-map_map];rfl
def tAt(T:List Int) (i:Nat):Int:=T.getD i 0
def _quu(h:List _qwp) (T:List Int) (g:List Nat):Int:=(g.map λi=>wAt h i*tAt T i).sum
theorem _qa6(h:List _qwp) (k:okW h) (T:List Int) (hT:∀x∈T,Sz 3600 x) (g:List Nat) (hg:∀i∈g,i<h.length) (hg2:∀i∈g,i<T.length) (hl:g.length<=1000):_vi [_I h,_r T,plD g]=some (.int (_quu h T g)):=by
 have hc:_vn (geN 0) qT (oE (f2 _qw2 (f2 dIx (f2 dIx (_qvy 2) (_qvy 0)) (fC (.int 0))) (f2 dIx (_qvy 1) (_qvy 0)))) (g.map fun(i:Nat)=>D.int (i:Int)) [none,some (_r T),some (_I h)]=some (g.map λi=>O.sh (.int (wAt h i*tAt T i))):=by
  have:=_z (inj:=fun(i:Nat)=>D.int (i:Int)) (g:=geN 0) (c:=qT) (e:=oE (f2 _qw2 (f2 dIx (f2 dIx (_qvy 2) (_qvy 0)) (fC (.int 0))) (f2 dIx (_qvy 1) (_qvy 0)))) (λρ=>∃d,ρ=[d,some (_r T),some (_I h)]) (λ_=>true) (λi=>O.sh (.int (wAt h i*tAt T i))) g [none,some (_r T),some (_I h)] ⟨_,rfl⟩ (by
   rintro i hi ρ ⟨d,rfl⟩;have hx:=_Wp (hg i hi);have hx2:=_qcr (hg2 i hi);have hw:wAt h i=(h[i]'(hg i hi)).1:=by unfold wAt;rw[_x5 (hg i hi)]
   have ht:tAt T i=T[i]'(hg2 i hi):=_x5 (hg2 i hi);have hz:=hT _ (getElem_mem (hg2 i hi));have w0:=k.at0 i;have w1:=k.atlt i;have m1:_qw2 (.int (h[i]'(hg i hi)).1) (.int (T[i]'(hg2 i hi)))=some (.int (wAt h i*tAt T i)):=by
    rw[ht,hw];exact _q2 (_qdv (k:=72) (by rw[<-hw];omega) (by decide)) (hz.big (by decide))
   refine⟨_,rfl,⟨_,rfl⟩,rfl,λ_=>?_⟩;generalize wAt h i*tAt T i=z at*;simp[hx,hx2,m1])
  rwa[Au.mpr (by simp)]at this
 have hd:oDs (g.map λi=>O.sh (.int (wAt h i*tAt T i)))=some ((g.map λi=>wAt h i*tAt T i).map D.int):=by
  have:=_xw (f:=λi:Nat=>O.sh (.int (wAt h i*tAt T i))) (g:=λi=>D.int (wAt h i*tAt T i)) (λp=>by simp) g
  rw[this,map_map];rfl
 have hl':g.length<=100000:=by omega
 have hlo:_Jr (plD g)=some (g.map fun(i:Nat)=>D.int (i:Int)):=by simp[plD]
 generalize hv:(g.map λi=>wAt h i*tAt T i)=vals at*;simp[_vi,_qv9,_qv7,ini,_Xd,_xn,mkD,hl',_qwt,hlo,hc,hd,dSum,_kr,_quu,hv,-map_map]
theorem _qec(h:List _qwp) (P:List Rat) (b:Nat) (hb:∀q∈P,q.den∣b) (g:List Nat) (hg:∀i∈g,i<P.length):(_quu h (P.map (_quz b)) g:Rat)=(_Zs g λi=>(wAt h i:Rat)*pAt P i)*(b:Rat):=by
 unfold _quu;rw[_qo8,map_map,<-_Kv];unfold _Zs;congr 1;refine map_congr_left λi hi=>?_;have h1:=hg i hi;have h2:tAt (P.map (_quz b)) i=_quz b P[i]:=by rw[tAt,_x5 (by simpa using h1)];simp
 have h3:pAt P i=P[i]:=_x5 h1;simp only[C4];rw[h2,h3]
 have:=_qgv (hb _ (getElem_mem h1))
 have e:((wAt h i*_quz b P[i]:Int):Rat)=(wAt h i:Rat)*(_quz b P[i]:Rat):=by simp
 rw[e,this,Et]
theorem _qm1(h:List _qwp) (k:okW h) (P:List Rat) (hl:P.length=h.length){t:Nat}(hs:_zr t P) (ht:t<=20) (c:Int) (hc:c∈_q h):_Vo [_I h,_qy P,.int c]=some (frD (_xl h P c)):=by
 have hh:=k.len;have l1:=_kx h c (by omega);rw[_Yg]at l1;have hlen:=_z4 h [c];have b1:=_qi3 P hs ht;have hb:=hs.cb ht;have t1:=_qgu P hs ht (cb P) hb (by omega);have hTz:∀x∈P.map (_quz (cb P)),Sz 3600 x:=λx hx=>by
  obtain⟨q,hq,rfl⟩:=Ag.mp hx;exact hs.top ht hq hb
 have w1:=_qa6 h k (P.map (_quz (cb P))) hTz (_qwe h [c]) (_qm h [c]) (λi hi=>by simp;have:=_qm h [c] i hi;omega) (by omega);have w2:=_zs h (by omega);have w3:=_zt h (_qwe h [c]) (_qm h [c]) (by omega);have hN:=_qab k;have hW:=_qlr k (g:=_qwe h [c]) (by omega);have hW1:=_qaa k (_vk hc) (_qm h [c]);have zN:Sz 77 (_quv h):=by show _<_;omega
 have zW:Sz 77 (wG h (_qwe h [c])):=by show _<_;omega
 have zb:Sz 1700 ((cb P:Nat):Int):=by show _<_;rw[Bf];exact hb
 have m1:=_q2 (zN.big (by decide)) (zb.big (by decide));have m2:=_q2 (zW.big (by decide)) (zb.big (by decide));have hbp:=_qdn P;have key:((_quv h*(cb P:Nat)-_quu h (P.map (_quz (cb P))) (_qwe h [c]):Int):Rat)=((_quv h:Rat)-_qv4 h P c)*((cb P:Nat):Rat):=by
  have e:=_qec h P (cb P) (λq hq=>_qp2 hq) (_qwe h [c]) (λi hi=>by have:=_qm h [c] i hi;omega);have e2:((_quv h*((cb P:Nat):Int)-_quu h (P.map (_quz (cb P))) (_qwe h [c]):Int):Rat)=(_quv h:Rat)*((cb P:Nat):Rat)- (_quu h (P.map (_quz (cb P))) (_qwe h [c]):Rat):=by simp[_zm]
  rw[e2,e];unfold _qv4;grind
 have zs:Sz 3700 (_quu h (P.map (_quz (cb P))) (_qwe h [c])):=by
  have gen:∀g:List Nat,(∀i∈g,i<P.length)->(_quu h (P.map (_quz (cb P))) g).natAbs<=g.length*2^3672:=by
   intro g
   induction g with
   |nil=>intro _;simp[_quu]
   |cons i g ih=>
    intro hi;have h1:=ih λj m=>hi j (by simp[m]);have h2:=hi i (by simp);have e:_quu h (P.map (_quz (cb P))) (i::g)=wAt h i*tAt (P.map (_quz (cb P))) i+_quu h (P.map (_quz (cb P))) g:=by simp[_quu]
    have h3:Sz 3600 (tAt (P.map (_quz (cb P))) i):=by rw[tAt,_x5 (by simpa using h2)];exact hTz _ (getElem_mem _)
    have w0:=k.at0 i;have wl:=k.atlt i;have h4:Sz 72 (wAt h i):=by show _<_;omega
    have h5:(wAt h i*tAt (P.map (_quz (cb P))) i).natAbs<2^(72+3600):=h4.mul h3;rw[e,length_cons,Nat.add_mul,Nat.one_mul];have h6:=Int.natAbs_add_le (wAt h i*tAt (P.map (_quz (cb P))) i) (_quu h (P.map (_quz (cb P))) g);omega
  have g1:=gen (_qwe h [c]) λi hi=>by have:=_qm h [c] i hi;omega
  have g2:(_qwe h [c]).length*2^3672<=16*2^3672:=E7 _ (by omega);have g3:16*2^3672<2^3700:=by
   have:16*2^3672=2^3676:=by rw[show 3676=4+3672 by decide,pow_add]
   rw[this];exact Nat.pow_lt_pow_right (by decide) (by decide)
  exact lt_of_le_of_lt (le_trans g1 g2) g3
 have zm:Sz 3701 (_quv h*(cb P:Nat)-_quu h (P.map (_quz (cb P))) (_qwe h [c])):=((zN.mul zb).mono (by decide)).sub zs;generalize hmiss:_quv h*((cb P:Nat):Int)-_quu h (P.map (_quz (cb P))) (_qwe h [c])=miss at*;have hf:=_Ji (_qwe h [c]);have hbr:(0:Rat)< ((cb P:Nat):Rat):=by exact_mod_cast hbp
 by_cases cm:miss<=0
 ·have hle:(_quv h:Rat)-_qv4 h P c<=0:=by
   false_or_by_contra;rename_i hgt
   have:(0:Rat)< (_quv h:Rat)-_qv4 h P c:=by grind
   have h2:=Rat.mul_pos this hbr;rw[<-key]at h2
   have:(miss:Rat)<=0:=by exact_mod_cast cm
   grind
  have e0:_xl h P c=0:=by unfold _xl;rw[if_pos hle]
  rw[e0];simp[_Vo,_qv9,_qv7,ini,_qgl,l1,b1,w2,hf,t1,w1,m1,hmiss,cm,_qwt];rfl
 ·have hgt:¬ (_quv h:Rat)-_qv4 h P c<=0:=λhle=>by
   have:(0:Rat)< (miss:Rat):=by
    have:0<miss:=by omega
    exact_mod_cast this
   rw[key]at this;have h2:((_quv h:Rat)-_qv4 h P c)*((cb P:Nat):Rat)<=0*((cb P:Nat):Rat):=Cv hle (Gm hbr);grind
  have sh:=_Q6 miss (wG h (_qwe h [c])*(cb P:Nat)) (G8 (by omega) (by omega)) (zm.mono (by decide)) ((zW.mul zb).mono (by decide));obtain⟨W,hWn⟩:∃W:Nat,wG h (_qwe h [c])=(W:Int):=⟨(wG h (_qwe h [c])).toNat,by omega⟩;have hne:W*cb P≠0:=mul_ne_zero (by omega) (by omega);have e1:wG h (_qwe h [c])*((cb P:Nat):Int)=((W*cb P:Nat):Int):=by rw[hWn];simp
  have e2:=nf_mk (t:=miss) hne;rw[<-e1]at e2;rw[e2]at sh;have e3:mkRat miss (W*cb P)=_xl h P c:=by
   unfold _xl;rw[if_neg hgt,hWn];have hWr:((W:Int):Rat)≠0:=by
    have:(0:Rat)< ((W:Int):Rat):=by
     have:0< (W:Int):=by omega
     exact_mod_cast this
    grind
   have hbr':((cb P:Nat):Rat)≠0:=by grind
   have e4:mkRat miss (W*cb P)=(miss:Rat)/(((W*cb P:Nat):Rat)):=by
    rw[<-Rat.divInt_ofNat,Rat.divInt_eq_div];rfl
   have e5:((W*cb P:Nat):Rat)=((W:Int):Rat)*((cb P:Nat):Rat):=by simp[_zm]
   rw[e4,e5,key];generalize(_quv h:Rat)-_qv4 h P c=X at*;generalize((cb P:Nat):Rat)=B at*;generalize((W:Int):Rat)=V at*;have hVB:V*B≠0:=by
    intro hz;rcases Rat.mul_eq_zero.mp hz with hz|hz
    ·exact hWr hz
    ·exact hbr' hz
   have q1:X*B/(V*B)*(V*B)=X*B:=Dl hVB;have q2:X/V*V=X:=Dl hWr;generalize X*B/(V*B)=Y at*;generalize X/V=Z at*;grind
  rw[e3]at sh;simp[_Vo,_qv9,_qv7,ini,_qgl,l1,b1,w2,hf,t1,w1,m1,hmiss,cm,w3,m2,sh,_qwt]
def _qvi(o:Int×Rat):D:=.tup [.int o.1,frD o.2]
@[simp] theorem _qt1(o:Int×Rat):imm (_qvi o)=true:=by simp[_qvi]
def _qvg:Option (Int×Rat)->D
 |none=>.non
 |some o=>_qvi o
theorem _Wt(o:Option (Int×Rat)):imm (_qvg o)=true:=by cases o<;>simp[_qvg]
def _Wf(l:List (Int×Rat)):D:=.lst (l.map _qvi)
theorem off0(o:Int×Rat):dIx (_qvi o) (.int 0)=some (.int o.1):=_qga
theorem off1(o:Int×Rat):dIx (_qvi o) (.int 1)=some (frD o.2):=_qla
theorem _qck(l:List (Int×Rat)) (hb:∀o∈l,Bd 2000 2000 o.2):_x1 [_Wf l]=some (_qvg (_T l)):=by
 have hmem:∀pre:List (Int×Rat),(∀o∈pre,Bd 2000 2000 o.2)->∀o,_T pre=some o->Bd 2000 2000 o.2:=λpre hp o ho=>hp o (_j4 ho);obtain⟨ρ',e1,c,e2⟩:=_J2 (inj:=_qvi) (g:=gN 2) (b:=_vp) (λpre ρ=>∃c,ρ=[some (.sh (_Wf l)),some (.sh (_qvg (_T pre))),c]) l [some (.sh (_Wf l)),some (.sh .non),none] ⟨_,rfl⟩ (by
  rintro pre o post ρ e ⟨c,rfl⟩;have ho:=hb o (by rw[e];simp);have es:_T (pre++[o])=_R (_T pre) o:=by simp[_T]
  rw[es];have hp:=hmem pre λr hr=>hb r (by rw[e];simp[hr]);cases hl:_T pre with
  |none=>
   have i0:dIs .non .non=some (.bl true):=rfl;simp[_qwv,_vp,_qvg,i0,_R]
  |some a=>
   have ba:=hp a hl;have i0:dIs (_qvi a) .non=some (.bl false):=rfl;have bl:=_qi6 ho ba
   by_cases hlt:o.2<a.2
   ·rw[decide_eq_true hlt]at bl
    simp[_qwv,_vp,_qvg,i0,_R,off1,bl,hlt]
   ·rw[decide_eq_false hlt]at bl
    simp[_qwv,_vp,_qvg,i0,_R,off1,bl,hlt])
 have hlo:_Jr (_Wf l)=some (l.map _qvi):=rfl;simp[_x1,_qv9,_qv7,ini,_qe4,_qwd,_qwt,hlo,e1,e2]
theorem _qgp{h:List _qwp}(k:okW h){P:List Rat}(hl:P.length=h.length){t:Nat}(hs:_zr t P) (ht:t<=19){c:Int}(hc:c∈_q h):Bd 2000 2000 (_xl h P c):=by
 obtain⟨D,h1,h2,h3⟩:=hs;have hP:∀q∈P,(0:Rat)<=q:=λq m=>(h3 q m).2.1;have hW1:=_qaa k (_vk hc) (_qm h [c]);have hW2:=(_qlr k (g:=_qwe h [c]) (le_trans (_z4 h [c]) k.len)).2;obtain⟨W,hW⟩:∃W:Nat,wG h (_qwe h [c])=(W:Int):=⟨(wG h (_qwe h [c])).toNat,by omega⟩;rw[hW]at hW1 hW2;have hWlt:W<2^80:=by
  have:(W:Int)< ((2^80:Nat):Int):=Ma hW2 (by decide)
  exact_mod_cast this
 have hWp:0<W:=by omega
 have hoS:_qwq D (_qv4 h P c):=_Vf _ _ λi hi=>by
  have:=_qm h [c] i hi
  have o:=(h3 _ (_zl (P:=P) (i:=i) (by omega))).1;rw[J5];exact o.mulInt _
 have hoW:_qwq (W*D) (_xl h P c):=by
  unfold _xl;split
  ·exact _v5 _ 0
  ·have o2:_qwq D ((_quv h:Rat)-_qv4 h P c):=(_v5 D _).sub hoS
   obtain⟨x,hx⟩:=o2;refine⟨x,?_⟩;rw[hW];have hne:((W:Int):Rat)≠0:=by
    have:(0:Rat)< ((W:Int):Rat):=by exact_mod_cast hW1
    grind
   have e1:((W*D:Nat):Rat)=((W:Int):Rat)*(D:Rat):=by simp[_zm]
   rw[e1,<-Et,Dl hne];exact hx
 have hx0:=_k3 k P c;have hx1:=_qa9 k hP hc;have hlt:W*D<2^(80+(80*t+1)):=by
  rw[pow_add]
  calc W*D<2^80*D:=E3 hWlt h1
   _<=2^80*2^(80*t+1):=Li _ (le_of_lt h2)
 have hz:(0:Rat)<=((2^80:Nat):Rat):=by exact_mod_cast zero_le _
 exact(hoW.bd (m:=80) (mul_pos hWp h1) hlt (by grind) hx1).mono (by omega) (by omega)
theorem _qic(h:List _qwp) (kh:okH h) (k:okW h) (P:List Rat) (hl:P.length=h.length){t:Nat}(hs:_zr t P) (ht:t<=19) (ch:List Int) (seats:Int):_kk [_I h,_qy P,_r ch,.int seats]=some (_Wf (_jg h P ch seats)):=by
 have hh:=k.len
 by_cases c1:seats<=(ch.length:Int)
 ·simp[_kk,_qv9,_qv7,ini,_Ye,c1,_qwt,_jg,_Wf]
 ·have lk:=_qci h kh (by omega)
  have hz:oD (ow ((_q h).map D.int))=some (_r (_q h)):=by simp[_r]
  have hc:_vn (geN 0) (qV (f2 _Zf (_qvy 0) (_qvy 3))) (oE (_qvz (_k (_qvy 0) (_k (_qu 3 _Vo (_k (_qvy 1) (_k (_qvy 2) (_k (_qvy 0) _qwg)))) _qwg)))) ((_q h).map D.int) [none,some (_I h),some (_qy P),some (_r ch)]=some (((_q h).filter λc=>!has ch c).map λc=>O.sh (_qvi (c,_xl h P c))):=
   _z (inj:=D.int) (λρ=>∃d,ρ=[d,some (_I h),some (_qy P),some (_r ch)]) (λc=>!has ch c) (λc=>O.sh (_qvi (c,_xl h P c))) (_q h) _ ⟨_,rfl⟩ (by
    rintro c hc ρ ⟨d,rfl⟩;have w:=_qm1 h k P hl hs (by omega) c hc;exact⟨_,rfl,⟨_,rfl⟩,by simp,λ_=>by simp[w,_qwt,_qvi]⟩)
  have hd:oDs (((_q h).filter λc=>!has ch c).map λc=>O.sh (_qvi (c,_xl h P c)))=some ((((_q h).filter λc=>!has ch c).map λc=>(c,_xl h P c)).map _qvi):=by
   have:=_xw (f:=λc:Int=>O.sh (_qvi (c,_xl h P c))) (g:=λc=>_qvi (c,_xl h P c)) (λp=>by simp) ((_q h).filter λc=>!has ch c)
   rw[this,map_map];rfl
  have hll:(_q h).length<=100000:=by have:=_jb h;omega
  have e:_jg h P ch seats=((_q h).filter λc=>!has ch c).map λc=>(c,_xl h P c):=by unfold _jg;rw[if_neg c1]
  rw[e];simp[_kk,_qv9,_qv7,ini,_Ye,c1,_qwt,lk,hz,_xn,mkD,hll,hc,hd,_Wf,-map_map]
theorem _Kr{h:List _qwp}{P:List Rat}{ch:List Int}{seats:Int}{o:Int×Rat}(ho:o∈_jg h P ch seats):o.1∈_q h/\o.1∉ch/\o.2=_xl h P o.1/\(ch.length:Int)<seats:=by
 unfold _jg at ho;split at ho
 ·simp at ho
 ·obtain⟨c,hc,rfl⟩:=Ag.mp ho
  obtain⟨h1,h2⟩:=Ay.mp hc;refine⟨h1,λhm=>?_,rfl,by omega⟩;rw[_vm.mpr hm]at h2;simp at h2
theorem _qgk(h:List _qwp) (k:okW h) (P:List Rat) (hl:P.length=h.length){t:Nat}(hs:_zr t P) (ht:t<=19) (c:Int) (hc:c∈_q h):_qc [_I h,_qy P,_qvi (c,_xl h P c)]=some (_qy (_W h P (c,_xl h P c))):=by
 have hh:=k.len;have l1:=_kx h c (by omega);rw[_Yg]at l1;have hf:=_Ji (_qwe h [c]);have en:_qd7 (P.map frD)=(Ap P.length).map fun(i:Nat)=>D.tup [.int (i:Int),frD (pAt P i)]:=by
  rw[_Wy];apply ext_getElem
  ·simp
  ·intro i h1 h2
   simp at h1;simp[pAt,h1]
 have hwb:=_qgp k hl hs ht hc;have hc2:_vn (_qvw [(geN 0),(geN 1)]) qT (oE (fIf (qV (f2 dIn (_qvy 0) (_qvy 2))) (_qvz (_k (fC (.int 0)) (_k (fC (.int 1)) _qwg))) (_qu 2 _X2 (_k (_qvy 1) (_k (f2 dIx (_qvy 3) (fC (.int 1))) _qwg))))) (_qd7 (P.map frD)) [none,none,some (plD (_qwe h [c])),some (_qvi (c,_xl h P c))]=some ((Ap P.length).map λi=>O.sh (frD (if _qvt (_qwe h [c]) i=true then 0 else pAt P i+_xl h P c))):=by
  rw[en]
  have:=_z (inj:=λi:Nat=>D.tup [.int (i:Int),frD (pAt P i)]) (g:=_qvw [(geN 0),(geN 1)]) (c:=qT) (e:=(oE (fIf (qV (f2 dIn (_qvy 0) (_qvy 2))) (_qvz (_k (fC (.int 0)) (_k (fC (.int 1)) _qwg))) (_qu 2 _X2 (_k (_qvy 1) (_k (f2 dIx (_qvy 3) (fC (.int 1))) _qwg)))))) (λρ=>∃d d',ρ=[d,d',some (plD (_qwe h [c])),some (_qvi (c,_xl h P c))]) (λ_=>true) (λi=>O.sh (frD (if _qvt (_qwe h [c]) i=true then 0 else pAt P i+_xl h P c))) (Ap P.length) [none,none,some (plD (_qwe h [c])),some (_qvi (c,_xl h P c))] ⟨_,_,rfl⟩ (by
   rintro i hi ρ ⟨d,d',rfl⟩;have hi':=Ax.mp hi;have hpb:=(hs.bd (by omega) (_zl hi')).mono (show 1800<=2000 by decide) (show 1700<=2000 by decide);have pl:=_qqb hpb hwb;refine⟨[some (.int (i:Int)),some (frD (pAt P i)),some (plD (_qwe h [c])),some (_qvi (c,_xl h P c))],rfl,⟨_,_,rfl⟩,rfl,λ_=>?_⟩;cases hi2:_qvt (_qwe h [c]) i with
   |true=>
    simp[plD,_qkq,hi2,_qwt];rfl
   |false=>simp[plD,_qkq,hi2,off1,pl])
  rwa[Au.mpr (by simp)]at this
 have hd:oDs ((Ap P.length).map λi=>O.sh (frD (if _qvt (_qwe h [c]) i=true then 0 else pAt P i+_xl h P c)))=some ((_W h P (c,_xl h P c)).map frD):=by
  have:=_xw (f:=λi:Nat=>O.sh (frD (if _qvt (_qwe h [c]) i=true then 0 else pAt P i+_xl h P c))) (g:=λi=>frD (if _qvt (_qwe h [c]) i=true then 0 else pAt P i+_xl h P c)) (λp=>by simp) (Ap P.length)
  rw[this,_W,map_map];rfl
 have hll:P.length<=100000:=by omega
 generalize _xl h P c=x at*;simp[_qc,_qv9,_qv7,ini,_jv,off0,l1,hf,_qwt,_qc5,mkD,hll,hc2,hd];rfl
def _qva(r:Int×Rat×List Rat):D:=.tup [.int r.1,frD r.2.1,_qy r.2.2]
def _vr(l:List (Int×Rat×List Rat)):D:=.lst (l.map _qva)
theorem _qhi(o:Option (Int×Rat)):_qw4 (_qvg o) .non=some (.bl o.isSome):=by cases o<;>rfl
theorem _qc4(h:List _qwp) (kh:okH h) (k:okW h) (P:List Rat) (hl:P.length=h.length){t:Nat}(hs:_zr t P) (ht:t<=19) (ch:List Int) (seats:Int):_kk [_I h,_qy P,_r ch,.int seats]=some (_Wf (_jg h P ch seats))/\_x1 [_Wf (_jg h P ch seats)]=some (_qvg (_T (_jg h P ch seats))):=
 ⟨_qic h kh k P hl hs ht ch seats,_qck _ λo ho=>by
  obtain⟨w1,_,w2,_⟩:=_Kr ho;rw[w2];exact _qgp k hl hs ht w1⟩
theorem _Za(h:List _qwp) (kh:okH h) (k:okW h) (c2:Option O) (seats:Int) (h6:seats<=6):∀(n:Nat) (P:List Rat) (ch:List Int) (rows:List (Int×Rat×List Rat)) (t:Nat),P.length=h.length->_zr t P->t+n<=19->seats<=(ch.length:Int)+n->ch.length<=100->rows.length+n<=100->
  ∃ρ',_vq (qV (f2 _qw4 (_qvy 6) (fC .non))) _Xf [some (.sh (_I h)),some (.sh (_qy P)),c2,some (.sh (.int seats)),some (ow (ch.map .int)),some (ow (rows.map _qva)),some (.sh (_qvg (_T (_jg h P ch seats))))]=some (.nx ρ')/\∃a1 a4 a6,ρ'=[some (.sh (_I h)),a1,c2,some (.sh (.int seats)),a4,some (ow ((rows++_Wv h seats n P ch).map _qva)),a6]
 |0,P,ch,rows,t,hl,hs,ht,hn,hch,hr=>by
  have e0:_jg h P ch seats=[]:=by unfold _jg;rw[if_pos (by omega)]
  rw[e0];refine⟨_,_je (by simp[_T,_qvg];rfl),some (.sh (_qy P)),some (ow (ch.map .int)),some (.sh (_qvg (_T []))),?_⟩;simp only[_Wv,append_nil]
 |n+1,P,ch,rows,t,hl,hs,ht,hn,hch,hr=>by
  cases ho:_T (_jg h P ch seats)with
  |none=>
   refine⟨_,_je (by simp[_qvg];rfl),some (.sh (_qy P)),some (ow (ch.map .int)),some (.sh (_qvg none)),?_⟩;simp only[_Wv,ho,append_nil]
  |some o=>
   obtain⟨w1,w2,w3,w4⟩:=_Kr (_j4 ho);have eo:o=(o.1,_xl h P o.1):=by rw[<-w3]
   have bh:=_qgk h k P hl hs (by omega) o.1 w1;rw[<-eo]at bh;have hs':=_Kg k hs hl w1;rw[<-eo]at hs';have hl':(_W h P o).length=h.length:=by rw[_qdz];exact hl
   have w5:(ch.length:Int)<6:=by omega
   obtain⟨f1,f2'⟩:=_qc4 h kh k (_W h P o) hl' hs' (by omega) (ch++[o.1]) seats;obtain⟨ρ',e1,e2⟩:=_Za h kh k c2 seats h6 n (_W h P o) (ch++[o.1]) (rows++[(o.1,o.2,_W h P o)]) (t+1) hl' hs' (by omega) (by simp;omega) (by simp;omega) (by simp;omega);refine⟨ρ',_ki (ρ2:=[some (.sh (_I h)),some (.sh (_qy (_W h P o))),c2,some (.sh (.int seats)),some (ow ((ch++[o.1]).map .int)),some (ow ((rows++[(o.1,o.2,_W h P o)]).map _qva)),some (.sh (_qvg (_T (_jg h (_W h P o) (ch++[o.1]) seats))))]) ?_ ?_ e1,?_⟩
   ·have:=_qhi (some o)
    simp[this]
   ·have g1:gApp (.sh (_qva (o.1,o.2,_W h P o))) (ow (rows.map _qva))=some (ow (rows.map _qva++[_qva (o.1,o.2,_W h P o)])):=_qd1 (by simp[_qwt];omega)
    have g2:gApp (.sh (.int o.1)) (ow (ch.map .int))=some (ow (ch.map .int++[.int o.1])):=_qd1 (by simp[_qwt];omega);have er:D.tup [.int o.1,frD o.2,_qy (_W h P o)]=_qva (o.1,o.2,_W h P o):=rfl;have ir:imm (_qva (o.1,o.2,_W h P o))=false:=by simp[_qva]
    have ec:D.lst ((ch++[o.1]).map .int)=_r (ch++[o.1]):=rfl;have ec':D.lst (ch.map D.int++[D.int o.1])=_r (ch++[o.1]):=by simp[_r]
    have io:=_Wt (_T (_jg h (_W h P o) (ch++[o.1]) seats));have oe:_qvg (some o)=_qvi o:=rfl;generalize _W h P o=Q at*;generalize _jg h Q (ch++[o.1]) seats=ws at*;simp[_Xf,oe,bh,off0,off1,_qwt,er,ir,g1,g2,ec',f1,f2',io]
   ·obtain⟨a1,a4,a6,e3⟩:=e2
    refine⟨a1,a4,a6,?_⟩;rw[e3];simp only[_Wv,ho,I0,Ko]
theorem _qks(h:List _qwp) (kh:okH h) (k:okW h) (P:List Rat) (hl:P.length=h.length){t:Nat}(hs:_zr t P) (ht:t<=12) (mem:List Int) (hm:mem.length<=6) (seats:Int) (h6:seats<=6):_X3 [_I h,_qy P,_r mem,.int seats]=some (_vr (_Wv h seats 6 P mem)):=by
 obtain⟨f1,f2'⟩:=_qc4 h kh k P hl hs (by omega) mem seats;obtain⟨ρ',e1,a1,a4,a6,e2⟩:=_Za h kh k (some (.sh (_r mem))) seats h6 6 P mem [] t hl hs (by omega) (by omega) (by omega) (by simp);have ec:D.lst (mem.map .int)=_r mem:=rfl;have io:=_Wt (_T (_jg h P mem seats));have er:∀l:List (Int×Rat×List Rat),D.lst (l.map _qva)=_vr l:=λ_=>rfl;have ir:∀l:List (Int×Rat×List Rat),imm (_vr l)=false:=λ_=>by simp[_vr]
 simp only[map_nil,Kf]at e1 e2;generalize _jg h P mem seats=ws at*;simp[_X3,_qv9,_qv7,ini,_qe5,_qwt,ec,f1,f2',io,e1,e2,er]
def lkB(h:List _qwp) (i:Nat) (c:Int):Bool:=atB (λp:_qwp=>_x2 p.2 [c]) h[i]?
theorem _qpc(h:List _qwp) (c:Int):_qwe h [c]=(Ap h.length).filter λi=>lkB h i c:=rfl
theorem _qod{h:List _qwp}{c:Int}{i:Nat}(hi:i<h.length):_qvt (_qwe h [c]) i=lkB h i c:=by
 rw[Az,_v9,_qpc,Ay];simp[hi]
theorem _Vr{l:List (Int×Rat)}{o:Int×Rat}(h:_T l=some o):∀q∈l,o.2<=q.2:=by
 have key:∀ (l:List (Int × Rat)) (f:Option (Int × Rat)) (o:Int × Rat),l.foldl _R f=some o->(∀ q∈l,o.2 <= q.2)/\∀ a,f=some a->o.2 <= a.2:=by
  intro l
  induction l with
  |nil=>intro f o h;exact⟨by simp,λa e=>by rw[List.foldl_nil]at h;rw[h]at e;cases e;exact Na⟩
  |cons b l ih=>
   intro f o h;obtain⟨h1,h2⟩:=ih _ _ h;cases f with
   |none=>
    have:=h2 b rfl
    exact⟨λq hq=>by
     rcases An.mp hq with rfl|hq
     ·exact this
     ·exact h1 q hq,λa e=>by cases e⟩
   |some a=>
    simp only[_R]at h2;split at h2
    ·rename_i hlt
     have:=h2 b rfl
     exact⟨λq hq=>by
      rcases An.mp hq with rfl|hq
      ·exact this
      ·exact h1 q hq,λa' e=>by cases e;grind⟩
    ·rename_i hlt
     have:=h2 a rfl
     exact⟨λq hq=>by
      rcases An.mp hq with rfl|hq
      ·grind
      ·exact h1 q hq,λa' e=>by cases e;exact this⟩
 exact(key l none o h).1
theorem _Yw{l:List (Int×Rat)}(h:_T l=none):l=[]:=by
 cases l with
 |nil=>rfl
 |cons a l=>
  exfalso;have key:∀(l:List (Int×Rat)) (b:Int×Rat),l.foldl _R (some b)≠none:=by
   intro l
   induction l with
   |nil=>intro b;simp
   |cons c l ih=>
    intro b;rw[List.foldl_cons];simp only[_R];split
    ·exact ih c
    ·exact ih b
  exact key l a h
def optQ:Option Rat->D
 |none=>.non
 |some q=>frD q
def _qve(h:List _qwp) (P:List Rat) (c:Int):List Rat:=(_qwe h [c]).map (pAt P)
def plI(h:List _qwp) (c:Int):List Int:=(_qwe h [c]).map fun(i:Nat)=>(i:Int)
def _qw8(h:List _qwp) (P:List Rat) (c:Int):Nat:=cb (_qve h P c)
def psR(h:List _qwp) (P:List Rat) (c:Int):List (Int×Int):=_k8 (((_qve h P c).map (_quz (_qw8 h P c))).zip (plI h c))
def wOf(h:List _qwp) (q:Int×Int):Int×Int:=(q.1,wAt h q.2.toNat)
def rateQ(h:List _qwp) (P:List Rat) (c N:Int):Option (Int×Int):=_qj6 ((psR h P c).map (wOf h)) (N*(_qw8 h P c:Nat)) (wG h (_qwe h [c]))
def _kj(h:List _qwp) (P:List Rat) (c N:Int):Option Rat:=(rateQ h P c N).map λr=>mkRat r.1 (r.2.toNat*_qw8 h P c)
theorem _K3(h:List _qwp) (k:okW h) (x1 x2 x3 x4 x6:Option O) (b:Nat) (hb0:0<b) (hb:b<2^1700) (R0:Int) (hR:R0<2^3700):∀(ps:List (Int×Int)) (_qvb W:Int) (x9 x10:Option O),
  (∀q∈ps,0<=q.1/\Sz 3600 q.1/\∃i:Nat,i<h.length/\q.2=(i:Int))->W=_qv3 (ps.map (wOf h))->W<=2^76->0<_qvb->_qvb<=R0->
  match _qj6 (ps.map (wOf h)) _qvb W with
  |none=>∃ρ',_qvx (gTp [(gN 9),(gN 10)]) _z2 (ps.map _qf6) [some (.sh (_I h)),x1,x2,x3,x4,some (.sh (.int (b:Int))),x6,some (.sh (.int _qvb)),some (.sh (.int W)),x9,x10]=some (.nx ρ')
  |some r=>∃ρ',_qvx (gTp [(gN 9),(gN 10)]) _z2 (ps.map _qf6) [some (.sh (_I h)),x1,x2,x3,x4,some (.sh (.int (b:Int))),x6,some (.sh (.int _qvb)),some (.sh (.int W)),x9,x10]=some (.rt (.sh (frD (mkRat r.1 (r.2.toNat*b)))) ρ')
 | [],_qvb,W,x9,x10,_,_,_,_,_=>⟨_,rfl⟩
 |q::ps,_qvb,W,x9,x10,hq,hW,hW76,hp,hrest=>by
  obtain⟨q0,qs,i,hi,qi⟩:=hq q (by simp);have hl:∀q∈ps,0<=q.1/\Sz 3600 q.1/\∃i:Nat,i<h.length/\q.2=(i:Int):=λq hm=>hq q (by simp[hm]);have wq:wOf h q=(q.1,wAt h i):=by simp[wOf,qi]
  have w1:=k.at1 hi;have w2:=k.atlt i;have hn:0<=_qv3 (ps.map (wOf h)):=_vt λr hr=>by
   obtain⟨p,hp,rfl⟩:=Ag.mp hr;obtain⟨_,_,j,hj,pj⟩:=hl p hp
   have:=k.at1 hj
   simp only[wOf,pj,Bb];exact this
  have hW':W-wAt h i=_qv3 (ps.map (wOf h)):=by
   rw[hW];simp only[map_cons,_qv3,sum_cons,wq];omega
  have zW:Sz 80 W:=by show W.natAbs<2^80;omega
  have zb:Sz 1700 (b:Int):=by show(b:Int).natAbs<2^1700;rw[Bf];exact hb
  have zw:Sz 80 (wAt h i):=by show(wAt h i).natAbs<2^80;omega
  have m1:=_q2 (zW.big (by decide)) (qs.big (by decide));have m2:=_q2 (zW.big (by decide)) (zb.big (by decide));have m3:=_q2 (zw.big (by decide)) (qs.big (by decide));have hx:dIx (_I h) (.int q.2)=some (_zb h[i]):=by rw[qi];exact _Wp hi
  have hp0:dIx (_zb h[i]) (.int 0)=some (.int (wAt h i)):=by rw[_qgb];unfold wAt;rw[_x5 hi]
  have hg:∀y9 y10:Option O,gTp [(gN 9),(gN 10)] (_qf6 q) [some (.sh (_I h)),x1,x2,x3,x4,some (.sh (.int (b:Int))),x6,some (.sh (.int _qvb)),some (.sh (.int W)),y9,y10]=some [some (.sh (_I h)),x1,x2,x3,x4,some (.sh (.int (b:Int))),x6,some (.sh (.int _qvb)),some (.sh (.int W)),some (.sh (.int q.1)),some (.sh (.int q.2))]:=λ_ _=>rfl;rw[map_cons,map_cons];unfold _qj6;rw[wq];dsimp only
  by_cases hr:_qvb<=W*q.1
  ·rw[if_pos hr]
   have Wp:0<W:=by omega
   obtain⟨V,hV⟩:∃V:Nat,W=(V:Int):=⟨W.toNat,by omega⟩;have hs:=_Q6 _qvb (W*b) (G8 Wp (by omega)) (show _<2^8000 from lt_of_lt_of_le (show _qvb.natAbs<2^3700 by omega) (pow_le_pow_right (by decide) (by decide))) ((zW.mul zb).mono (by decide));have ec:W*(b:Int)=((W.toNat*b:Nat):Int):=by rw[hV];simp
   rw[ec,nf_mk (mul_ne_zero (by omega) (by omega)),<-ec]at hs;have hb1:∃ρ',_z2 [some (.sh (_I h)),x1,x2,x3,x4,some (.sh (.int (b:Int))),x6,some (.sh (.int _qvb)),some (.sh (.int W)),some (.sh (.int q.1)),some (.sh (.int q.2))]=some (.rt (.sh (frD (mkRat _qvb (W.toNat*b)))) ρ'):=by
    generalize frD (mkRat _qvb (W.toNat*b))=R at hs;generalize W*q.1=Z at*;generalize W*(b:Int)=Y at*;simp[_z2,m1,m2,hr,hs]
   obtain⟨ρ',e⟩:=hb1;exact⟨ρ',_qd2 (hg x9 x10) e⟩
  ·rw[if_neg hr]
   have hlt:=_qbc (w:=wAt h i) hr;have hge:0<=(W-wAt h i)*q.1:=Gk (by omega) q0;have hwt:0<=wAt h i*q.1:=Gk (by omega) q0;have hb1:_z2 [some (.sh (_I h)),x1,x2,x3,x4,some (.sh (.int (b:Int))),x6,some (.sh (.int _qvb)),some (.sh (.int W)),some (.sh (.int q.1)),some (.sh (.int q.2))]=some (.nx [some (.sh (_I h)),x1,x2,x3,x4,some (.sh (.int (b:Int))),x6,some (.sh (.int (_qvb-wAt h i*q.1))),some (.sh (.int (W-wAt h i))),some (.sh (.int q.1)),some (.sh (.int q.2))]):=by
    generalize W*q.1=Z at*;generalize wAt h i*q.1=Y at*;simp[_z2,m1,m3,hr,hx,hp0]
   have ih:=_K3 h k x1 x2 x3 x4 x6 b hb0 hb R0 hR ps (_qvb-wAt h i*q.1) (W-wAt h i) (some (.sh (.int q.1))) (some (.sh (.int q.2))) hl hW' (by omega) (by omega) (by omega);rw[_qd3 (hg x9 x10) (.inl hb1)];exact ih
theorem _qbg{h:List _qwp}{P:List Rat}(hl:P.length=h.length){c:Int}{q:Rat}(hq:q∈_qve h P c):q∈P:=by
 obtain⟨i,hi,rfl⟩:=Ag.mp hq;exact _zl (by have:=_qm h [c] i hi;omega)
theorem _Qh{b:Nat}{q:Rat}(h:0<=q):0<=_quz b q:=by
 unfold _quz;have h1:0<=q.num:=Rat.num_nonneg.mpr h;exact Gk h1 (Int.natCast_nonneg _)
theorem _Wi(h:List _qwp) (c:Int):(plI h c).Nodup:=by
 unfold plI;have hn:(_qwe h [c]).Nodup:=List.Nodup.sublist filter_sublist Jn;exact List.pairwise_map.mpr (hn.imp fun{a b} hab e=>hab (by omega))
theorem _Q1:∀{xs ys:List Int},ys.Nodup->(xs.zip ys).Nodup
 | [],_,_=>by simp
 |_::_,[],_=>by simp
 |x::xs,y::ys,h=>by
  rw[nodup_cons]at h;rw[Ii,nodup_cons];refine⟨λm=>h.1 (of_mem_zip m).2,_Q1 h.2⟩
theorem _qmw{h:List _qwp}{P:List Rat}{c:Int}{q:Int×Int}(hq:q∈psR h P c):∃i∈_qwe h [c],q=(_quz (_qw8 h P c) (pAt P i),(i:Int)):=by
 have hm:=(_j2 _).mem_iff.mp hq;have e:((_qve h P c).map (_quz (_qw8 h P c))).zip (plI h c)=(_qwe h [c]).map λi=>(_quz (_qw8 h P c) (pAt P i),((i:Nat):Int)):=by
  unfold _qve plI;rw[map_map,List.zip_map',];rfl
 rw[e]at hm;obtain⟨i,hi,rfl⟩:=Ag.mp hm;exact⟨i,hi,rfl⟩
theorem _qlz(h:List _qwp) (P:List Rat) (c:Int):((_qve h P c).map (_quz (_qw8 h P c))).zip (plI h c)=(_qwe h [c]).map λi=>(_quz (_qw8 h P c) (pAt P i),((i:Nat):Int)):=by
 unfold _qve plI;rw[map_map,List.zip_map'];rfl
theorem _qjb(h:List _qwp) (P:List Rat) (c:Int):(psR h P c).Perm ((_qwe h [c]).map λi=>(_quz (_qw8 h P c) (pAt P i),((i:Nat):Int))):=by
 have:=_j2 (((_qve h P c).map (_quz (_qw8 h P c))).zip (plI h c))
 rw[_qlz]at this;unfold psR;rw[_qlz];exact this
theorem _Wn(h:List _qwp) (P:List Rat) (c:Int):((psR h P c).map (wOf h)).Perm ((_qwe h [c]).map λi=>(_quz (_qw8 h P c) (pAt P i),wAt h i)):=by
 have:=(_qjb h P c).map (wOf h)
 rw[map_map]at this;have e:((wOf h)∘fun(i:Nat)=>(_quz (_qw8 h P c) (pAt P i),((i:Nat):Int)))=fun(i:Nat)=>(_quz (_qw8 h P c) (pAt P i),wAt h i):=by
  funext i;simp[wOf,Fp]
 rw[e]at this;exact this
theorem _qfv{l m:List Int}(h:l.Perm m):l.sum=m.sum:=by
 induction h with
 |nil=>rfl
 |cons x _ ih=>simp[ih]
 |swap x y l=>simp;omega
 |trans _ _ a b=>exact a.trans b
theorem _qgx(h:List _qwp) (P:List Rat) (c:Int):_qv3 ((psR h P c).map (wOf h))=wG h (_qwe h [c]):=by
 have:=(_Wn h P c).map (λq=>q.2)
 have e:=_qfv this;unfold _qv3;rw[e,map_map];rfl
theorem _qmq(h:List _qwp) (k:okW h) (P:List Rat) (hl:P.length=h.length){t:Nat}(hs:_zr t P) (ht:t<=18) (c:Int) (hc:c∈_q h) (N:Int) (hN:0<N/\N<=2^76):_Vp [_I h,_qy P,.int c,.int N]=some (optQ (_kj h P c N)):=by
 have hh:h.length<=100:=le_trans k.len (by decide);have lk:=_kx h c hh;have hsub:_zr t (_qve h P c):=hs.sub λq hq=>_qbg hl hq;have hcb:=_qi3 (_qve h P c) hsub (by omega);have hcbl:cb (_qve h P c)<2^1700:=hsub.cb (by omega);have hcb0:=_qdn (_qve h P c);have hlen:(_qwe h [c]).length<=16:=le_trans (_z4 h [c]) k.len;have htp:=_qgu (_qve h P c) hsub (by omega) (cb (_qve h P c)) hcbl (by simp[_qve];omega);have hwt:=_zt h (_qwe h [c]) (_qm h [c]) (by omega);have hW:=(_qlr k hlen).2;have hne:=_vk hc;have hcomp:_vn (geN 0) qT (oE (f2 dIx (_qvy 1) (_qvy 0))) ((_qwe h [c]).map fun(i:Nat)=>D.int (i:Int)) [none,some (_qy P)]=some ((_qve h P c).map λq=>O.sh (frD q)):=by
  have:=_z (inj:=fun(i:Nat)=>D.int (i:Int)) (g:=geN 0) (c:=qT) (e:=oE (f2 dIx (_qvy 1) (_qvy 0))) (λρ=>∃d,ρ=[d,some (_qy P)]) (λ_=>true) (λi=>O.sh (frD (pAt P i))) (_qwe h [c]) [none,some (_qy P)] ⟨_,rfl⟩ (by
   rintro i hi ρ ⟨d,rfl⟩;have hil:i<P.length:=by have:=_qm h [c] i hi;omega
   have hx:dIx (_qy P) (.int (i:Int))=some (frD (pAt P i)):=by
    have:=dIx_l (ds:=P.map frD) (i:=i) (by simpa using hil)
    rw[_qy,this];simp[pAt,hil]
   exact⟨_,rfl,⟨_,rfl⟩,rfl,λ_=>by simp[hx]⟩)
  rw[Au.mpr (by simp)]at this;rw[this];unfold _qve;rw[map_map];rfl
 have hds:oDs ((_qve h P c).map λq=>O.sh (frD q))=some ((_qve h P c).map frD):=_xw (λp=>by simp) _;have hfold:D.lst ((_qve h P c).map frD)=_qy (_qve h P c):=rfl;have hl1:(_qwe h [c]).length<=100000:=by omega
 have zN:Sz 80 N:=by show N.natAbs<2^80;omega
 have zb:Sz 1700 ((cb (_qve h P c):Nat):Int):=by show((cb (_qve h P c):Nat):Int).natAbs<2^1700;rw[Bf];exact hcbl
 have mN:=_q2 (zN.big (by decide)) (zb.big (by decide));have hsz:_Jw [_r ((_qve h P c).map (_quz (cb (_qve h P c)))),plD (_qwe h [c])]=some ((psR h P c).map _qf6):=by
  have e1:plD (_qwe h [c])=_r (plI h c):=rfl;have h1:((_qve h P c).map (_quz (cb (_qve h P c)))).length=(plI h c).length:=by simp[_qve,plI]
  have h2:1<=((_qve h P c).map (_quz (cb (_qve h P c)))).length:=by
   have:0< (_qwe h [c]).length:=Hm.mpr hne
   simp[_qve];omega
  have h3:((_qve h P c).map (_quz (cb (_qve h P c)))).length<64:=by simp[_qve];omega
  have h4:(((_qve h P c).map (_quz (cb (_qve h P c)))).zip (plI h c)).Nodup:=_Q1 (_Wi h c);rw[e1];show((_qa3 (((_qve h P c).map (_quz (cb (_qve h P c)))).map D.int)).bind λns=>(_qa3 ((plI h c).map D.int)).bind λms=>if ns.length=ms.length/\1<=ns.length/\ns.length<64/\(ns.zip ms).Nodup then some ((_k8 (ns.zip ms)).map _qf6)else none)=_;rw[_ky,_ky];simp only[Option.bind_some];rw[if_pos ⟨h1,h2,h3,h4⟩];rfl
 have hmem:∀q∈psR h P c,0<=q.1/\Sz 3600 q.1/\∃i:Nat,i<h.length/\q.2=(i:Int):=λq hq=>by
  obtain⟨i,hi,rfl⟩:=_qmw hq;have hi':=_qm h [c] i hi;have hp:pAt P i∈P:=_zl (by omega);obtain⟨D,d1,d2,d3⟩:=id hs;exact⟨_Qh (d3 _ hp).2.1,hs.top (by omega) hp hcbl,i,hi',rfl⟩
 have hR0:N*((cb (_qve h P c):Nat):Int)<2^3700:=by
  have z:Sz 1780 (N*((cb (_qve h P c):Nat):Int)):=(zN.mul zb);have z':(N*((cb (_qve h P c):Nat):Int)).natAbs<2^3700:=z.mono (by decide);have h2:N*((cb (_qve h P c):Nat):Int)<=((N*((cb (_qve h P c):Nat):Int)).natAbs:Int):=Int.le_natAbs;have h3:(((N*((cb (_qve h P c):Nat):Int)).natAbs:Nat):Int)< ((2^3700:Nat):Int):=by exact_mod_cast z'
  have h4:((2^3700:Nat):Int)=2^3700:=by norm_cast
  omega
 have loop:=_K3 h k (some (.sh (_qy P))) (some (.sh (.int c))) (some (.sh (.int N))) (some (.sh (plD (_qwe h [c])))) (some (.sh (_r ((_qve h P c).map (_quz (cb (_qve h P c))))))) (cb (_qve h P c)) hcb0 hcbl (N*((cb (_qve h P c):Nat):Int)) hR0 (psR h P c) (N*((cb (_qve h P c):Nat):Int)) (wG h (_qwe h [c])) none none hmem (_qgx h P c).symm hW (G8 hN.1 (by omega)) (K7 _);have hagr:(agr h [c]).map D.int=(_qwe h [c]).map fun(i:Nat)=>D.int (i:Int):=_Yg h [c];rw[hagr]at lk;have z1:oD (ow ((_qwe h [c]).map fun(i:Nat)=>D.int (i:Int)))=some (plD (_qwe h [c])):=by rw[oD_ow,_Ji]
 have z2:fzc (some (ow ((_qwe h [c]).map fun(i:Nat)=>D.int (i:Int))))=some (.sh (plD (_qwe h [c]))):=by rw[_qrn,_Ji]
 have im1:_qvs ((_qwe h [c]).map fun(i:Nat)=>D.int (i:Int))=true:=_qcx.mpr λx hx=>by obtain⟨i,_,rfl⟩:=Ag.mp hx;simp
 have z3:_Jr (plD (_qwe h [c]))=some ((_qwe h [c]).map fun(i:Nat)=>D.int (i:Int)):=_qqd _;have zi:oD (ow ((psR h P c).map _qf6))=some (.lst ((psR h P c).map _qf6)):=oD_ow;unfold _kj rateQ _qw8;cases hq:_qj6 ((psR h P c).map (wOf h)) (N*((cb (_qve h P c):Nat):Int)) (wG h (_qwe h [c]))with
 |none=>
  rw[hq]at loop;obtain⟨ρ',e⟩:=loop;simp[_Vp,_qv9,_qv7,ini,_qgm,lk,z1,z2,z3,im1,_xn,mkD,hl1,_qwt,hcomp,hds,hfold,hcb,htp,mN,hwt,hsz,_qwd,e,optQ,-map_map]
 |some r=>
  rw[hq]at loop;obtain⟨ρ',e⟩:=loop;simp[_Vp,_qv9,_qv7,ini,_qgm,lk,z1,z2,z3,im1,_xn,mkD,hl1,_qwt,hcomp,hds,hfold,hcb,htp,mN,hwt,hsz,_qwd,e,optQ,-map_map]
theorem _qes{l m:List Rat}(h:l.Perm m):l.sum=m.sum:=by
 induction h with
 |nil=>rfl
 |cons x _ ih=>simp[ih]
 |swap x y l=>simp only[sum_cons];grind
 |trans _ _ a b=>exact a.trans b
theorem _qb9{α:Type}(f:α->Rat) (b:Rat):∀l:List α,(l.map λa=>f a*b).sum=(l.map f).sum*b
 | []=>by simp
 |a::l=>by rw[map_cons,map_cons,sum_cons,sum_cons,_qb9 f b l];grind
section
variable{h:List _qwp}(k:okW h){P:List Rat}(hl:P.length=h.length){t:Nat}(hs:_zr t P) (ht:t<=18){c:Int}(hc:c∈_q h){N:Int}(hN:0<N)
include k hl hs ht hc hN
theorem lR_ok:(∀q∈(psR h P c).map (wOf h),0<=q.1/\1<=q.2)/\((psR h P c).map (wOf h)).Pairwise (λa b=>a.1<=b.1):=by
 constructor
 ·intro q hq
  have:=(_Wn h P c).mem_iff.mp hq
  obtain⟨i,hi,rfl⟩:=Ag.mp this;have hi':=_qm h [c] i hi;obtain⟨D,d1,d2,d3⟩:=id hs;exact⟨_Qh (d3 _ (_zl (by omega))).2.1,k.at1 hi'⟩
 ·have:=_v2 _ (_Q1 (xs:=(_qve h P c).map (_quz (_qw8 h P c))) (_Wi h c))
  rw[pairwise_map];refine List.Pairwise.imp (fun{a b} hab=>?_) this;rw[_Ju]at hab;show a.1<=b.1;omega
theorem _qm6{i:Nat}(hi:i∈_qwe h [c]):((_quz (_qw8 h P c) (pAt P i):Int):Rat)=pAt P i*(_qw8 h P c:Rat):=
 _qgv (_qp2 (Ag.mpr ⟨i,hi,rfl⟩))
theorem _qp5:(0:Rat)< (_qw8 h P c:Rat):=by exact_mod_cast _qdn (_qve h P c)
theorem _qey{r:Rat}(e:_kj h P c N=some r):pays (_qwe h [c]) (λi=>(wAt h i:Rat)) (pAt P) r=(N:Rat)/\(∃i∈_qwe h [c],r<=pAt P i)/\0<r/\∃V:Nat,0<V/\V<=2^76/\_qwq (V*_qw8 h P c) r:=by
 unfold _kj at e;cases hq:rateQ h P c N with
 |none=>rw[hq]at e;cases e
 |some z=>
  obtain⟨ρ,V⟩:=z;rw[hq]at e;have e:mkRat ρ (V.toNat*_qw8 h P c)=r:=Option.some.inj e;have b0:=_qp5 k hl hs ht hc hN;have bn:0<_qw8 h P c:=_qdn (_qve h P c);have hb:0<N*((_qw8 h P c:Nat):Int):=G8 hN (by exact_mod_cast bn);obtain⟨ok1,ok2⟩:=lR_ok k hl hs ht hc hN;obtain⟨r1,r2,r3,r4,r5,r6⟩:=_Xt _ _ _ 0 ρ V ok1 ok2 (λq hm=>(ok1 q hm).1) (_qgx h P c).symm hb (by rw[Int.mul_zero];omega) hq;have hW:=(_qlr k (g:=_qwe h [c]) (le_trans (_z4 h [c]) k.len)).2;obtain⟨W,hVW⟩:∃W:Nat,V=(W:Int):=⟨V.toNat,by omega⟩;subst hVW;rw[Bb]at e;have wp:(0:Rat)< (W:Rat):=by exact_mod_cast (by omega:0<W)
  have er:r*((W*_qw8 h P c:Nat):Rat)=(ρ:Rat):=by
   rw[<-e,Rat.mkRat_eq_div]
   have:((W*_qw8 h P c:Nat):Rat)≠0:=by
    have:(0:Rat)< ((W*_qw8 h P c:Nat):Rat):=by exact_mod_cast mul_pos (by omega) bn
    grind
   exact Dl this
  have ex:(r*(_qw8 h P c:Rat))*((W:Int):Rat)=(ρ:Rat):=by
   rw[<-er];push_cast;grind
  obtain⟨c1,q,c2,c3⟩:=r6 _ ex;refine⟨?_,?_,?_,W,by omega,?_,ρ,er⟩
  ·have h2:capS ((psR h P c).map (wOf h)) (r*(_qw8 h P c:Rat))=pays (_qwe h [c]) (λi=>(wAt h i:Rat)) (pAt P) r*(_qw8 h P c:Rat):=by
    unfold capS;rw[_qes ((_Wn h P c).map λq=>(q.2:Rat)*min (q.1:Rat) (r*(_qw8 h P c:Rat))),map_map];unfold pays _Zs;rw[<-_qb9];congr 1;apply map_congr_left;intro i hi
    have:=_qm6 k hl hs ht hc hN hi
    simp only[Fp];rw[this];have hm:min (pAt P i*(_qw8 h P c:Rat)) (r*(_qw8 h P c:Rat))=min (pAt P i) r*(_qw8 h P c:Rat):=by
     by_cases hle:pAt P i<=r
     ·have:=Cv hle (Gm b0)
      grind
     ·have hle':r<=pAt P i:=by grind
      have:=Cv hle' (Gm b0)
      grind
    rw[hm];grind
   rw[h2]at c1;have h4:((N*((_qw8 h P c:Nat):Int):Int):Rat)=(N:Rat)*(_qw8 h P c:Rat):=by push_cast;rfl
   rw[h4]at c1;have hne:(_qw8 h P c:Rat)≠0:=by grind
   have:=congrArg (λz=>z/(_qw8 h P c:Rat)) c1
   rw[Mb hne,Mb hne]at this;exact this
  ·have:=(_Wn h P c).mem_iff.mp c2
   obtain⟨i,hi,rfl⟩:=Ag.mp this;refine⟨i,hi,?_⟩;have ht':=_qm6 k hl hs ht hc hN hi;simp only at c3;rw[ht']at c3;exact E8 c3 b0
  ·have:(0:Rat)<r*((W*_qw8 h P c:Nat):Rat):=by rw[er];exact_mod_cast r1
   have hp:(0:Rat)< ((W*_qw8 h P c:Nat):Rat):=by exact_mod_cast mul_pos (by omega) bn
   by_cases h:0<r
   ·exact h
   ·exfalso
    have:=Cv (Rat.not_lt.mp h) (Gm hp)
    grind
  ·have:((W:Nat):Int)<=2^76:=by omega
   exact_mod_cast this
end
def _j9(h:List _qwp) (P:List Rat) (c:Int) (r:Rat):List Rat:=(Ap P.length).map λi=>if lkB h i c=true then pAt P i-min (pAt P i) r else pAt P i
theorem fm_eq(f:Int->Option Rat) (g:Int->D) (hg:∀c r,f c=some r->g c=_qvi (c,r)):∀l:List Int,((l.filter λc=>(f c).isSome).map λc=>O.sh (g c))=(l.filterMap λc=>(f c).map λr=>(c,r)).map λo=>O.sh (_qvi o)
 | []=>rfl
 |c::l=>by
  cases hq:f c with
  |none=>
   rw[filter_cons_of_neg (by simp[hq]),List.filterMap_cons_none (by simp[hq])];exact fm_eq f g hg l
  |some r=>
   rw[filter_cons_of_pos (by simp[hq]),List.filterMap_cons_some (b:=(c,r)) (by simp[hq]),map_cons,map_cons,fm_eq f g hg l,hg c r hq]
theorem _qbp(h:List _qwp) (P:List Rat) (c:Int) (r:Rat):(_j9 h P c r).length=P.length:=by simp[_j9]
theorem _qe0{p r:Rat}(hp:Bd 2000 2000 p) (hr:Bd 2000 2000 r):_Z [frD p,frD r]=some (frD (p-min p r)):=by
 have bl:=_qi6 hp hr;have mi:=_qns hp hr
 by_cases h:p<r
 ·have e:p-min p r=0:=by grind
  rw[e];rw[decide_eq_true h]at bl;have z:frD 0=.tup [.int 0,.int 1]:=rfl;simp[_Z,_qv9,_qv7,ini,_q7,bl,_qwt,z]
 ·have e:p-min p r=p-r:=by grind
  rw[e];rw[decide_eq_false h]at bl;simp[_Z,_qv9,_qv7,ini,_q7,bl,mi]
theorem _qim(P:List Rat) (i:Nat) (q:Rat) (hi:i<P.length):gSetI (i:Int) (.sh (frD q)) (ow (P.map frD))=some (ow ((P.set i q).map frD)):=by
 have:ixP (P.map frD).length (i:Int)=some i:=by
  unfold ixP;rw[if_pos (by omega)]
  simp;omega
 simp[gSetI,ow]at this⊢;simp[this,List.map_set]
def pd(P:List Rat) (r:Rat) (g:List Nat):List Rat:=(Ap P.length).map λi=>if _qvt g i=true then pAt P i-min (pAt P i) r else pAt P i
theorem _qn5(P:List Rat) (r:Rat) (g:List Nat) (i:Nat) (hi:i<P.length):pd P r (g++[i])=(pd P r g).set i (pAt P i-min (pAt P i) r):=by
 unfold pd;apply ext_getElem
 ·simp
 ·intro j h1 h2
  simp at h1;simp only[getElem_map,List.getElem_range,List.getElem_set]
  by_cases e:i=j
  ·subst e
   have:_qvt (g++[i]) i=true:=_v9.mpr (by simp)
   simp[this]
  ·have:_qvt (g++[i]) j=_qvt g j:=by
    rw[Az,_v9,_v9];simp[Bz e]
   simp[e,this]
theorem _qn7(h:List _qwp) (k:okW h) (P:List Rat) (hl:P.length=h.length){t:Nat}(hs:_zr t P) (ht:t<=18) (c:Int) (r:Rat) (hr:Bd 2000 2000 r):_qce [_I h,_qy P,.int c,frD r]=some (_qy (_j9 h P c r)):=by
 have hh:h.length<=100:=le_trans k.len (by decide);have lk:=_kx h c hh;rw[_Yg]at lk;have z0:pd P r []=P:=by
  unfold pd;apply ext_getElem
  ·simp
  ·intro i h1 h2;simp[_qvt,pAt,h2]
 obtain⟨ρ',e,x5,rfl⟩:=_J2 (inj:=fun(i:Nat)=>D.int (i:Int)) (g:=gN 5) (b:=_Ki) (λpre ρ=>∃x5:Option O,ρ=[some (.sh (_I h)),some (.sh (_qy P)),some (.sh (.int c)),some (.sh (frD r)),some (ow ((pd P r pre).map frD)),x5]) (_qwe h [c])
  [some (.sh (_I h)),some (.sh (_qy P)),some (.sh (.int c)),some (.sh (frD r)),some (ow (P.map frD)),none] ⟨none,by rw[z0]⟩ (by
   rintro pre i post ρ e ⟨x5,rfl⟩;have hi:i<P.length:=by rw[hl];exact _qm h [c] i (by rw[e];simp)
   have hb:=(hs.bd (by omega) (_zl hi)).mono (show 1800<=2000 by decide) (show 1700<=2000 by decide);have h1:=_qe0 hb hr;have hx:dIx (_qy P) (.int (i:Int))=some (frD (pAt P i)):=by
    have:=dIx_l (ds:=P.map frD) (i:=i) (by simpa using hi)
    rw[_qy,this];simp[pAt,hi]
   have hset:=_qim (pd P r pre) i (pAt P i-min (pAt P i) r) (by simp[pd];exact hi);rw[_qn5 P r pre i hi];generalize pAt P i-min (pAt P i) r=q at*;simp[_qwv,_Ki,bPut,hx,h1,pNil,atO,hset])
 have ef:pd P r (_qwe h [c])=_j9 h P c r:=by
  unfold pd _j9;apply map_congr_left;intro i hi;have hi':i<h.length:=by rw[<-hl];exact Ax.mp hi
  rw[_qod hi']
 rw[ef]at e;have z3:_Jr (D.lst ((_qwe h [c]).map fun(i:Nat)=>D.int (i:Int)))=some ((_qwe h [c]).map fun(i:Nat)=>D.int (i:Int)):=rfl;have zl:_qhs [_qy P]=some (P.map frD):=rfl;have fi:∀Q:List Rat,D.lst (Q.map frD)=_qy Q:=λ_=>rfl;have im:∀Q:List Rat,_qvs (Q.map frD)=true:=λQ=>_qcx.mpr λx hx=>by obtain⟨i,_,rfl⟩:=Ag.mp hx;simp
 simp[_qce,_qv9,_qv7,ini,_qll,zl,im,lk,_qwd,e,fi]
def _J(h:List _qwp) (P:List Rat) (ch:List Int):List (Int×Rat):=((_q h).filter λc=>!has ch c).filterMap λc=>(_kj h P c (_quv h)).map λr=>(c,r)
theorem _vf{h:List _qwp}{P:List Rat}{ch:List Int}{o:Int×Rat}(ho:o∈_J h P ch):o.1∈_q h/\o.1∉ch/\_kj h P o.1 (_quv h)=some o.2:=by
 obtain⟨c,hc,e⟩:=Ee.mp ho;obtain⟨h1,h2⟩:=Ay.mp hc;cases hr:_kj h P c (_quv h)with
 |none=>rw[hr]at e;cases e
 |some r=>
  rw[hr]at e;have e:(c,r)=o:=Option.some.inj e;subst e;refine⟨h1,λhm=>?_,hr⟩;rw[_vm.mpr hm]at h2;simp at h2
theorem _kv{h:List _qwp}{P:List Rat}{ch:List Int}{c:Int}{r:Rat}(h1:c∈_q h) (h2:c∉ch) (h3:_kj h P c (_quv h)=some r):(c,r)∈_J h P ch:=by
 refine Ee.mpr ⟨c,Ay.mpr ⟨h1,?_⟩,by rw[h3];rfl⟩;cases hh:has ch c with
 |true=>exact absurd (_vm.mp hh) h2
 |false=>rfl
def _va(h:List _qwp) (P:List Rat) (c:Int):D:=.tup [.int c,optQ (_kj h P c (_quv h))]
theorem _Q2{h:List _qwp}(k:okW h) (hne:h≠[]):0<_quv h:=by
 rw[_qgq]
 have:=_qaa k (g:=Ap h.length) (by simp;exact hne) (λi hi=>Ax.mp hi)
 omega
theorem _Jt{h:List _qwp}{c:Int}(hc:c∈_q h):h≠[]:=by
 rintro rfl
 have:=(Ay.mp hc).2
 simp at this
theorem _qfg(h:List _qwp) (kh:okH h) (k:okW h) (P:List Rat) (hl:P.length=h.length){t:Nat}(hs:_zr t P) (ht:t<=18) (rows:List (Int×Rat×List Rat)) (hr:rows.length<=1000):_xz [_I h,_qy P,_vr rows]=some (_Wf (_J h P (rows.map (·.1)))):=by
 have hh:h.length<=100:=le_trans k.len (by decide);have lk:=_qci h kh hh;have hz:oD (ow ((_q h).map D.int))=some (_r (_q h)):=by simp[_r]
 have hw:=_zs h hh;have hc1:_vn (geN 0) qT (oE (f2 dIx (_qvy 0) (fC (.int 0)))) (rows.map _qva) [none]=some ((rows.map (·.1)).map λc=>O.sh (.int c)):=by
  have:=_z (inj:=_qva) (g:=geN 0) (c:=qT) (e:=oE (f2 dIx (_qvy 0) (fC (.int 0)))) (λρ=>∃d,ρ=[d]) (λ_=>true) (λr=>O.sh (.int r.1)) rows [none] ⟨_,rfl⟩ (by
   rintro r _ ρ ⟨d,rfl⟩;have x0:dIx (_qva r) (.int 0)=some (.int r.1):=_qga;exact⟨_,rfl,⟨_,rfl⟩,rfl,λ_=>by simp[x0]⟩)
  rw[Au.mpr (by simp)]at this;rw[this,map_map];rfl
 have ho1:O.lst ((rows.map (·.1)).map λc=>O.sh (.int c))=ow ((rows.map (·.1)).map .int):=by rw[ow,map_map,map_map,map_map];rfl
 generalize hch:rows.map (·.1)=ch at*;have hc2:_vn (geN 0) (qV (f2 _Zf (_qvy 0) (_qvy 4))) (oE (_qvz (_k (_qvy 0) (_k (_qu 4 _Vp (_k (_qvy 1) (_k (_qvy 2) (_k (_qvy 0) (_k (_qvy 3) _qwg))))) _qwg)))) ((_q h).map D.int) [none,some (_I h),some (_qy P),some (.int (_quv h)),some (_r ch)]=some (((_q h).filter λc=>!has ch c).map λc=>O.sh (_va h P c)):=
  _z (inj:=D.int) (λρ=>∃d,ρ=[d,some (_I h),some (_qy P),some (.int (_quv h)),some (_r ch)]) (λc=>!has ch c) (λc=>O.sh (_va h P c)) (_q h) _ ⟨_,rfl⟩ (by
   rintro c hc ρ ⟨d,rfl⟩;have w:=_qmq h k P hl hs ht c hc (_quv h) ⟨_Q2 k (_Jt hc),(_qab k).2⟩;exact⟨_,rfl,⟨_,rfl⟩,by simp,λ_=>by simp[w,_qwt,_va]⟩)
 have hd2:oDs (((_q h).filter λc=>!has ch c).map λc=>O.sh (_va h P c))=some (((_q h).filter λc=>!has ch c).map (_va h P)):=_xw (λp=>by simp) _;have hll:(_q h).length<=6:=_jb h;have hfl:((_q h).filter λc=>!has ch c).length<=6:=le_trans (length_filter_le _ _) hll;have hoff:∀l:List Int,_vn (geN 0) (qV (f2 _qw4 (f2 dIx (_qvy 0) (fC (.int 1))) (fC .non))) (oE (_qvy 0)) (l.map (_va h P)) [none]=some (((l.filterMap λc=>(_kj h P c (_quv h)).map λr=>(c,r))).map λo=>O.sh (_qvi o)):=by
  intro l
  have:=_z (inj:=_va h P) (g:=geN 0) (c:=qV (f2 _qw4 (f2 dIx (_qvy 0) (fC (.int 1))) (fC .non))) (e:=oE (_qvy 0)) (λρ=>∃d,ρ=[d]) (λc=>(_kj h P c (_quv h)).isSome) (λc=>O.sh (_va h P c)) l [none] ⟨_,rfl⟩ (by
   rintro c _ ρ ⟨d,rfl⟩;have x1:dIx (_va h P c) (.int 1)=some (optQ (_kj h P c (_quv h))):=_qla;refine⟨_,rfl,⟨_,rfl⟩,?_,λ_=>by simp⟩;cases hq:_kj h P c (_quv h)with
   |none=>
    rw[hq]at x1;have i0:_qw4 (optQ none) .non=some (.bl false):=rfl;simp[x1,i0]
   |some r=>
    rw[hq]at x1;have i0:_qw4 (optQ (some r)) .non=some (.bl true):=rfl;simp[x1,i0])
  rw[this];congr 1;exact fm_eq (λc=>_kj h P c (_quv h)) (_va h P) (λc r hq=>by unfold _va;rw[hq];rfl) l
 have hd3:∀l:List (Int×Rat),oDs (l.map λo=>O.sh (_qvi o))=some (l.map _qvi):=λl=>_xw (λp=>by simp) l;have hr':rows.length<=100000:=by omega
 have hfl':((_q h).filter λc=>!has ch c).length<=100000:=by omega
 have hll':(_q h).length<=100000:=by omega
 have zr:_Jr (_vr rows)=some (rows.map _qva):=rfl;have zi:∀l:List Int,D.lst (l.map .int)=_r l:=λ_=>rfl;have q1:∀l:List Int,oD (ow (l.map D.int))=some (_r l):=λl=>_Vy l;have rim:∀c,imm (_va h P c)=true:=λc=>by
  unfold _va;cases _kj h P c (_quv h)<;>simp[optQ]
 have im2:_qvh (((_q h).filter λc=>!has ch c).map λc=>O.sh (_va h P c))=true:=_qhk (λc=>by simp[rim]) _;have hof:_J h P ch=((_q h).filter λc=>!has ch c).filterMap λc=>(_kj h P c (_quv h)).map λr=>(c,r):=rfl;have hcf:=hoff ((_q h).filter λc=>!has ch c);rw[<-hof]at hcf;have hd4:=hd3 (_J h P ch);generalize((_q h).filter λc=>!has ch c)=fl at*;generalize _J h P ch=ofs at*;simp[_xz,_qv9,_qv7,ini,_Kj,_xn,mkD,zr,hr',_qwt,hc1,ho1,hw,lk,hz,hll',hc2,im2,hd2,hfl',hcf,hd4,q1,_Wf,-map_map]
section
variable{h:List _qwp}(k:okW h){P:List Rat}(hl:P.length=h.length){t:Nat}(hs:_zr t P) (ht:t<=18){c:Int}(hc:c∈_q h){N:Int}(hN:0<N){r:Rat}(e:_kj h P c N=some r)
include k hl hs ht hc hN e
theorem _K2:∃D:Nat,0<D/\D<2^(80*(t+1)+1)/\_qwq D r/\(∀q∈P,_qwq D q/\0<=q/\q<=((t*2^80:Nat):Rat))/\0<r/\r<=((t*2^80:Nat):Rat):=by
 obtain⟨_,⟨i,hi,hri⟩,hr0,V,v0,v1,vo⟩:=_qey k hl hs ht hc hN e;obtain⟨D,d1,d2,d3⟩:=id hs;have hbD:_qw8 h P c∣D:=_qdo λq hq=>(d3 q (_qbg hl hq)).1.den;refine⟨V*D,mul_pos v0 d1,?_,vo.dvd (Nat.mul_dvd_mul_left V hbD),λq hq=>⟨(d3 q hq).1.dvd ⟨V,Mu _ _⟩,(d3 q hq).2⟩,hr0,?_⟩
 ·have:V*D<2^77*2^(80*t+1):=Nat.mul_lt_mul'' (lt_of_le_of_lt v1 (by decide)) d2
  rw[<-pow_add]at this;exact lt_of_lt_of_le this (pow_le_pow_right (by decide) (by omega))
 ·have hm:pAt P i∈P:=_zl (by have:=_qm h [c] i hi;omega)
  exact Ht hri (d3 _ hm).2.2
theorem _qh8:Bd 2000 2000 r:=by
 obtain⟨D,d1,d2,d3,_,r0,r1⟩:=_K2 k hl hs ht hc hN e;have hle:((t*2^80:Nat):Rat)<=(((t+1)*2^80:Nat):Rat):=by exact_mod_cast E7 _ (le_succ t)
 have hz:_zr (t+1) [r]:=⟨D,d1,d2,λq hq=>by
  rw[Ek.mp hq];exact⟨d3,Gm r0,Ht r1 hle⟩⟩
 exact(hz.bd (by omega) (by simp)).mono (by decide) (by decide)
theorem _Xx:_zr (t+1) (_j9 h P c r):=by
 obtain⟨D,d1,d2,d3,d4,r0,r1⟩:=_K2 k hl hs ht hc hN e;have hle:((t*2^80:Nat):Rat)<=(((t+1)*2^80:Nat):Rat):=by exact_mod_cast E7 _ (le_succ t)
 refine⟨D,d1,d2,λq hq=>?_⟩;obtain⟨i,hi,rfl⟩:=Ag.mp hq;have hi':=Ax.mp hi;obtain⟨o1,o2,o3⟩:=d4 _ (_zl hi');split
 ·refine⟨o1.sub (o1.mn d3),?_,?_⟩<;>grind
 ·exact⟨o1,o2,Ht o3 hle⟩
end
def _v(h:List _qwp):Nat->List Rat->List Int->List (Int×Rat×List Rat)
 |0,_,_=>[]
 |n+1,P,ch=>match _T (_J h P ch)with
  |none=>[]
  |some o=>(o.1,o.2,_j9 h P o.1 o.2)::_v h n (_j9 h P o.1 o.2) (ch++[o.1])
theorem _Wg(h:List _qwp) (kh:okH h) (k:okW h) (P:List Rat) (hl:P.length=h.length){t:Nat}(hs:_zr t P) (ht:t<=18) (rows:List (Int×Rat×List Rat)) (hr:rows.length<=1000):_xz [_I h,_qy P,_vr rows]=some (_Wf (_J h P (rows.map (·.1))))/\_x1 [_Wf (_J h P (rows.map (·.1)))]=some (_qvg (_T (_J h P (rows.map (·.1))))):=
 ⟨_qfg h kh k P hl hs ht rows hr,_qck _ λo ho=>by
  obtain⟨w1,_,w2⟩:=_vf ho;exact _qh8 k hl hs ht w1 (_Q2 k (_Jt w1)) w2⟩
def _Wm(h:List _qwp) (ch:List Int):List Int:=(_q h).filter λc=>!has ch c
theorem _qcj{h:List _qwp}{ch:List Int}{c:Int}(h1:c∈_q h) (h2:c∉ch):(_Wm h (ch++[c])).length< (_Wm h ch).length:=by
 have hs:(_Wm h (ch++[c]))=(_Wm h ch).filter λd=>!(d==c):=by
  unfold _Wm;rw[List.filter_filter];apply List.filter_congr;intro d _;rw[Az];simp[has];grind
 rw[hs];have hm:c∈_Wm h ch:=Ay.mpr ⟨h1,by
  cases hh:has ch c with
  |true=>exact absurd (_vm.mp hh) h2
  |false=>rfl⟩
 exact List.length_filter_lt_length_iff_exists.mpr ⟨c,hm,by simp⟩
theorem _Qr{h:List _qwp}{P:List Rat}{ch:List Int}(hz:(_Wm h ch).length=0):_J h P ch=[]:=by
 have:_Wm h ch=[]:=Ce.mp hz
 unfold _J;unfold _Wm at this;rw[this];rfl
theorem _Qk(h:List _qwp) (kh:okH h) (k:okW h) (seats:Option O):∀(n:Nat) (P:List Rat) (rows:List (Int×Rat×List Rat)) (t:Nat),P.length=h.length->_zr t P->t+n<=18->(_Wm h (rows.map (·.1))).length<=n->rows.length+n<=100->
  ∃ρ',_vq (qV (f2 _qw4 (_qvy 4) (fC .non))) _w1 [some (.sh (_I h)),seats,some (.sh (_qy P)),some (ow (rows.map _qva)),some (.sh (_qvg (_T (_J h P (rows.map (·.1))))))]=some (.nx ρ')/\∃a2 a4,ρ'=[some (.sh (_I h)),seats,a2,some (ow ((rows++_v h n P (rows.map (·.1))).map _qva)),a4]
 |0,P,rows,t,hl,hs,ht,hn,hr=>by
  rw[_Qr (by omega)];refine⟨_,_je (by simp[_T,_qvg];rfl),some (.sh (_qy P)),some (.sh (_qvg (_T []))),?_⟩;simp only[_v,append_nil]
 |n+1,P,rows,t,hl,hs,ht,hn,hr=>by
  cases ho:_T (_J h P (rows.map (·.1)))with
  |none=>
   refine⟨_,_je (by simp[_qvg];rfl),some (.sh (_qy P)),some (.sh (_qvg none)),?_⟩;simp only[_v,ho,append_nil]
  |some o=>
   obtain⟨w1,w2,w3⟩:=_vf (_j4 ho);have hN:=_Q2 k (_Jt w1);have hb:=_qh8 k hl hs (by omega) w1 hN w3;have pa:=_qn7 h k P hl hs (by omega) o.1 o.2 hb;have hs':=_Xx k hl hs (by omega) w1 hN w3;have hl':(_j9 h P o.1 o.2).length=h.length:=by rw[_qbp];exact hl
   have hm:(rows++[(o.1,o.2,_j9 h P o.1 o.2)]).map (·.1)=rows.map (·.1)++[o.1]:=by simp
   have lt:=_qcj w1 w2;obtain⟨f1,f2'⟩:=_Wg h kh k (_j9 h P o.1 o.2) hl' hs' (by omega) (rows++[(o.1,o.2,_j9 h P o.1 o.2)]) (by simp;omega);obtain⟨ρ',e1,e2⟩:=_Qk h kh k seats n (_j9 h P o.1 o.2) (rows++[(o.1,o.2,_j9 h P o.1 o.2)]) (t+1) hl' hs' (by omega) (by rw[hm];omega) (by simp;omega);rw[hm]at f1 f2' e1 e2;refine⟨ρ',_ki (ρ2:=[some (.sh (_I h)),seats,some (.sh (_qy (_j9 h P o.1 o.2))),some (ow ((rows++[(o.1,o.2,_j9 h P o.1 o.2)]).map _qva)),some (.sh (_qvg (_T (_J h (_j9 h P o.1 o.2) (rows.map (·.1)++[o.1])))))]) ?_ ?_ e1,?_⟩
   ·have:=_qhi (some o)
    simp[this]
   ·have g1:gApp (.sh (_qva (o.1,o.2,_j9 h P o.1 o.2))) (ow (rows.map _qva))=some (ow (rows.map _qva++[_qva (o.1,o.2,_j9 h P o.1 o.2)])):=_qd1 (by simp[_qwt];omega)
    have er:D.tup [.int o.1,frD o.2,_qy (_j9 h P o.1 o.2)]=_qva (o.1,o.2,_j9 h P o.1 o.2):=rfl;have ir:imm (_qva (o.1,o.2,_j9 h P o.1 o.2))=false:=by simp[_qva]
    have io:=_Wt (_T (_J h (_j9 h P o.1 o.2) (rows.map (·.1)++[o.1])));have oe:_qvg (some o)=_qvi o:=rfl;have ef:D.lst (rows.map _qva++[_qva (o.1,o.2,_j9 h P o.1 o.2)])=_vr (rows++[(o.1,o.2,_j9 h P o.1 o.2)]):=by simp[_vr]
    generalize _j9 h P o.1 o.2=Q at*;generalize _J h Q (rows.map (·.1)++[o.1])=ws at*;simp[_w1,oe,pa,off0,off1,_qwt,er,ir,g1,ef,f1,f2',io]
   ·obtain⟨a2,a4,e3⟩:=e2
    refine⟨a2,a4,?_⟩;rw[e3];simp only[_v,ho,I0,Ko]
def _qh(h:List _qwp) (seats:Int):List Rat:=Dh h.length (seats:Rat)
theorem _Qy(h:List _qwp){seats:Int}(h0:0<=seats) (h6:seats<=6):_zr 1 (_qh h seats):=⟨1,by decide,by decide,λq hq=>by
 rw[List.eq_of_mem_replicate hq];refine⟨_v5 1 seats,by exact_mod_cast h0,?_⟩;have h1:(seats:Rat)<=((6:Nat):Rat):=by exact_mod_cast h6
 have h2:((6:Nat):Rat)<=((1*2^80:Nat):Rat):=by
  obtain⟨x,hx⟩:∃x:Nat,1*2^80=x:=⟨_,rfl⟩
  have:6<=x:=by rw[<-hx];decide
  rw[hx]
  exact_mod_cast this
 exact Ht h1 h2⟩
theorem _qev(h:List _qwp) (kh:okH h) (k:okW h) (seats:Int) (h0:0<=seats) (h6:seats<=6):_v6 [_I h,.int seats]=some (_vr (_v h 6 (_qh h seats) [])):=by
 have hs:=_Qy h h0 h6;have hl:(_qh h seats).length=h.length:=by simp[_qh]
 have hll:=_jb h;have hlc:(_Wm h []).length<=6:=le_trans (length_filter_le _ _) hll;obtain⟨f1,f2'⟩:=_Wg h kh k (_qh h seats) hl hs (by omega) [] (by simp);obtain⟨ρ',e1,a2,a4,rfl⟩:=_Qk h kh k (some (.sh (.int seats))) 6 (_qh h seats) [] 1 hl hs (by omega) (by simpa using hlc) (by simp);have hfp:_y [_I h,.int seats]=some (_qy (_qh h seats)):=by
  have fr:frD (seats:Rat)=.tup [.int seats,.int 1]:=by simp[frD]
  have hc:_vn (geN 0) qT (oE (_qvz (_k (_qvy 1) (_k (fC (.int 1)) _qwg)))) (h.map _zb) [none,some (.int seats)]=some (h.map λ_=>O.sh (frD (seats:Rat))):=by
   have:=_z (inj:=_zb) (g:=geN 0) (c:=qT) (e:=oE (_qvz (_k (_qvy 1) (_k (fC (.int 1)) _qwg)))) (λρ=>∃d,ρ=[d,some (.int seats)]) (λ_=>true) (λ_=>O.sh (frD (seats:Rat))) h [none,some (.int seats)] ⟨_,rfl⟩ (by
    rintro p _ ρ ⟨d,rfl⟩;exact⟨_,rfl,⟨_,rfl⟩,rfl,λ_=>by simp[_qwt,fr]⟩)
   rwa[Au.mpr (by simp)]at this
  have hd:oDs (h.map λ_=>O.sh (frD (seats:Rat)))=some ((_qh h seats).map frD):=by
   rw[_xw (g:=λ_=>frD (seats:Rat)) (λ_=>by simp) h];simp[_qh,List.map_const']
  have hh':h.length<=100000:=by have:=k.len;omega
  simp[_y,_qv9,_qv7,ini,_q8,_xn,mkD,hh',_qwt,hc,hd];rfl
 have io:=_Wt (_T (_J h (_qh h seats) []));have er:∀l:List (Int×Rat×List Rat),D.lst (l.map _qva)=_vr l:=λ_=>rfl;simp only[map_nil,Kf]at e1 f1 f2';generalize _v h 6 (_qh h seats) []=R at*;generalize _J h (_qh h seats) []=ws at*;have f1':_xz [_I h,_qy (_qh h seats),.lst []]=some (_Wf ws):=f1;simp[_v6,_qv9,_qv7,ini,_Kh,_qwt,hfp,f1',f2',io,e1];exact er R
abbrev _qwl:=Int×Rat×List Rat
def _qvf:List Rat->List _qwl->Nat->List Rat
 |P,_,0=>P
 |_,row::R,t+1=>_qvf row.2.2 R t
 |_,[],_+1=>[]
theorem _Jh(P:List Rat) (R:List _qwl):_qvf P R 0=P:=by cases R<;>rfl
theorem _K4:∀(P:List Rat) (R:List _qwl) (t:Nat) (row:_qwl),R[t]?=some row->_qvf P R (t+1)=row.2.2
 |_,[],_,_,e=>by simp at e
 |P,r::R,0,row,e=>by
  have e:r=row:=by simpa using e
  subst e;show _qvf r.2.2 R 0=r.2.2;cases R<;>rfl
 |P,r::R,t+1,row,e=>_K4 r.2.2 R t row (by simpa using e)
structure RowOk(h:List _qwp) (ch:List Int) (P:List Rat) (row:_qwl):Prop where
 liked:row.1∈_q h
 new:row.1∉ch
 rate:_kj h P row.1 (_quv h)=some row.2.1
 least:∀d r',d∈_q h->d∉ch->_kj h P d (_quv h)=some r'->row.2.1<=r'
 paid:row.2.2=_j9 h P row.1 row.2.1
 first:∀d r',d∈_q h->d∉ch->d<row.1->_kj h P d (_quv h)=some r'->row.2.1<r'
structure PurOk(h:List _qwp) (t:Nat) (P:List Rat):Prop where
 len:P.length=h.length
 size:_zr t P
theorem _ws:∀(l:List (Int×Rat)) (a o:Int×Rat),(∀q∈l,a.1<q.1)->l.Pairwise (λa b=>a.1<b.1)->l.foldl _R (some a)=some o->(a=o\/a.1<o.1/\o.2<a.2)/\∀q∈l,q.1<o.1->o.2<q.2
 | [],a,o,_,_,e=>by
  have e:a=o:=by simpa using e
  exact⟨.inl e,by simp⟩
 | b :: l,a,o,h1,h2,e=>by
  rw[List.foldl_cons]at e;rw[pairwise_cons]at h2;simp only[_R]at e;have hab:=h1 b (by simp)
  by_cases hlt:b.2<a.2
  ·rw[if_pos hlt]at e
   obtain⟨i1,i2⟩:=_ws l b o h2.1 h2.2 e;refine⟨.inr ?_,λq hq hqo=>?_⟩
   ·rcases i1 with z|⟨z1,z2⟩
    ·rw[<-z];exact⟨hab,hlt⟩
    ·exact⟨by omega,by grind⟩
   ·rcases An.mp hq with z|hq
    ·subst z
     rcases i1 with y|⟨y1,y2⟩
     ·rw[y]at hqo;omega
     ·exact y2
    ·exact i2 q hq hqo
  ·rw[if_neg hlt]at e
   obtain⟨i1,i2⟩:=_ws l a o (λq hq=>h1 q (by simp[hq])) h2.2 e;refine⟨i1,λq hq hqo=>?_⟩;rcases An.mp hq with z|hq
   ·subst z
    rcases i1 with y|⟨y1,y2⟩
    ·rw[<-y]at hqo;omega
    ·grind
   ·exact i2 q hq hqo
theorem _Vs{l:List (Int×Rat)}{o:Int×Rat}(hs:l.Pairwise (λa b=>a.1<b.1)) (e:_T l=some o):∀q∈l,q.1<o.1->o.2<q.2:=by
 cases l with
 |nil=>intro q hq;simp at hq
 |cons a l=>
  rw[pairwise_cons]at hs;obtain⟨i1,i2⟩:=_ws l a o hs.1 hs.2 e;intro q hq hqo;rcases An.mp hq with z|hq
  ·subst z
   rcases i1 with y|⟨y1,y2⟩
   ·rw[y]at hqo;omega
   ·exact y2
  ·exact i2 q hq hqo
theorem _Yr(h:List _qwp) (P:List Rat) (ch:List Int):(_J h P ch).Pairwise (λa b=>a.1<b.1):=by
 unfold _J;have hr:((_q h).filter λc=>!has ch c).Pairwise (· < ·):=List.Pairwise.sublist (List.filter_sublist.trans (_X5 h)) _Kx;refine List.Pairwise.filterMap _ (λa b hab x hx y hy=>?_) hr;cases ha:_kj h P a (_quv h)with
 |none=>rw[ha]at hx;cases hx
 |some r=>cases hb:_kj h P b (_quv h)with
  |none=>rw[hb]at hy;cases hy
  |some r'=>
   rw[ha]at hx;rw[hb]at hy;have hx:(a,r)=x:=by simpa using hx
   have hy:(b,r')=y:=by simpa using hy
   subst hx hy;exact hab
theorem _qmf{h:List _qwp}(k:okW h){t:Nat}{P:List Rat}(pk:PurOk h t P) (ht:t<=18){ch:List Int}{o:Int×Rat}(ho:_T (_J h P ch)=some o):RowOk h ch P (o.1,o.2,_j9 h P o.1 o.2)/\PurOk h (t+1) (_j9 h P o.1 o.2):=by
 obtain⟨w1,w2,w3⟩:=_vf (_j4 ho);have hN:=_Q2 k (_Jt w1);refine⟨⟨w1,w2,w3,λd r' h1 h2 h3=>_Vr ho (d,r') (_kv h1 h2 h3),rfl,λd r' h1 h2 h4 h3=>_Vs (_Yr h P ch) ho (d,r') (_kv h1 h2 h3) h4⟩,⟨by rw[_qbp];exact pk.len,_Xx k pk.len pk.size ht w1 hN w3⟩⟩
theorem _Qj{h:List _qwp}(k:okW h):∀(n:Nat) (P:List Rat) (ch:List Int) (t0:Nat),PurOk h t0 P->t0+n<=18->(_Wm h ch).length<=n->
  (∀t row,(_v h n P ch)[t]?=some row->PurOk h (t0+t) (_qvf P (_v h n P ch) t)/\RowOk h (ch++((_v h n P ch).take t).map (·.1)) (_qvf P (_v h n P ch) t) row)/\
  PurOk h (t0+(_v h n P ch).length) (_qvf P (_v h n P ch) (_v h n P ch).length)/\(∀d∈_q h,d∉ch++(_v h n P ch).map (·.1)->_kj h (_qvf P (_v h n P ch) (_v h n P ch).length) d (_quv h)=none)
 |0,P,ch,t0,pk,ht,hn=>by
  refine⟨λt row e=>by simp[_v]at e,pk,λd h1 h2=>?_⟩
  have:=_Qr (P:=P) (show(_Wm h ch).length=0 by omega)
  cases hq:_kj h P d (_quv h)with
  |none=>exact hq
  |some r=>
   have:=_kv h1 (by simpa[_v]using h2) hq
   rw[‹_J h P ch=[]›]at this;cases this
 | n + 1,P,ch,t0,pk,ht,hn=>by
  cases ho:_T (_J h P ch)with
  |none=>
   have e:_v h (n+1) P ch=[]:=by simp only[_v,ho]
   rw[e];refine⟨λt row e=>by simp at e,pk,λd h1 h2=>?_⟩;cases hq:_kj h P d (_quv h)with
   |none=>exact hq
   |some r=>
    have:=_kv h1 (by simpa using h2) hq
    rw[_Yw ho]at this;cases this
  |some o=>
   have e:_v h (n+1) P ch=(o.1,o.2,_j9 h P o.1 o.2)::_v h n (_j9 h P o.1 o.2) (ch++[o.1]):=by simp only[_v,ho]
   rw[e];obtain⟨s1,s2⟩:=_qmf k pk (by omega) ho;have lt:=_qcj s1.liked s1.new;obtain⟨i1,i2,i3⟩:=_Qj k n (_j9 h P o.1 o.2) (ch++[o.1]) (t0+1) s2 (by omega) (by simp only at lt;omega);refine⟨λt row et=>?_,?_,λd h1 h2=>?_⟩
   ·cases t with
    |zero=>
     have er:(o.1,o.2,_j9 h P o.1 o.2)=row:=by simpa using et
     subst er;exact⟨by rw[_Jh];exact pk,by rw[_Jh];simpa using s1⟩
    |succ t=>
     obtain⟨j1,j2⟩:=i1 t row (by simpa using et);refine⟨?_,?_⟩
     ·have:t0+(t+1)=t0+1+t:=by omega
      rw[this];exact j1
     ·have ee:ch++(((o.1,o.2,_j9 h P o.1 o.2)::_v h n (_j9 h P o.1 o.2) (ch++[o.1])).take (t+1)).map (·.1)=(ch++[o.1])++((_v h n (_j9 h P o.1 o.2) (ch++[o.1])).take t).map (·.1):=by simp
      rw[ee];exact j2
   ·have:t0+((o.1,o.2,_j9 h P o.1 o.2)::_v h n (_j9 h P o.1 o.2) (ch++[o.1])).length=t0+1+(_v h n (_j9 h P o.1 o.2) (ch++[o.1])).length:=by simp;omega
    rw[this];exact i2
   ·exact i3 d h1 (by simpa using h2)
theorem _qi4(R:List (Int×Rat×List Rat)) (hl:R.length<=1000):_N [_vr R]=some (_r (R.map (·.1))):=by
 have hc:_vn (geN 0) qT (oE (f2 dIx (_qvy 0) (fC (.int 0)))) (R.map _qva) [none]=some (R.map λr=>O.sh (.int r.1)):=by
  have:=_z (inj:=_qva) (g:=geN 0) (c:=qT) (e:=oE (f2 dIx (_qvy 0) (fC (.int 0)))) (λρ=>∃d,ρ=[d]) (λ_=>true) (λr=>O.sh (.int r.1)) R [none] ⟨_,rfl⟩ (by
   rintro r _ ρ ⟨d,rfl⟩
   have:dIx (_qva r) (.int 0)=some (.int r.1):=_qga
   exact⟨_,rfl,⟨_,rfl⟩,rfl,λ_=>by simp[this]⟩)
  rwa[Au.mpr (by simp)]at this
 have hd:oDs (R.map λr=>O.sh (.int r.1))=some ((R.map (·.1)).map .int):=by
  have:=_xw (f:=λr:Int×Rat×List Rat=>O.sh (.int r.1)) (g:=λr=>D.int r.1) (λp=>by simp) R
  rw[this,map_map];rfl
 have lg:_Jr (_vr R)=some (R.map _qva):=rfl;have hl':R.length<=100000:=by omega
 simp[_N,_qv9,_qv7,ini,_jy,_xn,mkD,lg,hl',_qwt,hc,hd,_qfy,-map_map]
theorem _qet(R:List _qwl):shp 20 (_vr R)=true:=by
 unfold _vr;rw[_qh5];refine _Zu.mpr λd hd=>?_;obtain⟨r,_,rfl⟩:=Ag.mp hd
 have:_qv5 17 (r.2.2.map frD)=true:=_Zu.mpr λd hd=>by
  obtain⟨q,_,rfl⟩:=Ag.mp hd;simp[frD]
 simp[_qva,frD,_qy,this]
theorem _qeu(R:List _qwl):dEq (_vr R) (.lst [])=some (.bl (decide (R=[]))):=by
 have e:eqD (_vr R) (.lst [])=decide (R=[]):=by cases R<;>simp[_vr,eqD,_qw1]
 simp[dEq,_qet,e]
theorem _qkh(P:List Rat) (R:List _qwl) (hR:R≠[]):dIx (_vr R) (.int (-1))=some (_qva (R.getLast hR))/\_qvf P R R.length=(R.getLast hR).2.2:=by
 have hl:0<R.length:=Hm.mpr hR;have hg:R[R.length-1]?=some (R.getLast hR):=by rw[List.getLast_eq_getElem,getElem?_eq_getElem]
 refine⟨?_,?_⟩
 ·have hi:ixP R.length (-1)=some (R.length-1):=by
   unfold ixP;rw[if_neg (by omega),if_pos (by omega)];congr 1;omega
  simp only[dIx,_vr,atP,length_map,hi,Option.bind_some,getElem?_map,hg,Option.map_some]
 ·have:=_K4 P R (R.length-1) _ hg
  rwa[show R.length-1+1=R.length by omega]at this
theorem _qkx(h:List _qwp) (hh:h.length<=100) (seats:Int):_y [_I h,.int seats]=some (_qy (_qh h seats)):=by
 have fr:frD (seats:Rat)=.tup [.int seats,.int 1]:=by simp[frD]
 have hc:_vn (geN 0) qT (oE (_qvz (_k (_qvy 1) (_k (fC (.int 1)) _qwg)))) (h.map _zb) [none,some (.int seats)]=some (h.map λ_=>O.sh (frD (seats:Rat))):=by
  have:=_z (inj:=_zb) (g:=geN 0) (c:=qT) (e:=oE (_qvz (_k (_qvy 1) (_k (fC (.int 1)) _qwg)))) (λρ=>∃d,ρ=[d,some (.int seats)]) (λ_=>true) (λ_=>O.sh (frD (seats:Rat))) h [none,some (.int seats)] ⟨_,rfl⟩ (by
   rintro p _ ρ ⟨d,rfl⟩;exact⟨_,rfl,⟨_,rfl⟩,rfl,λ_=>by simp[_qwt,fr]⟩)
  rwa[Au.mpr (by simp)]at this
 have hd:oDs (h.map λ_=>O.sh (frD (seats:Rat)))=some ((_qh h seats).map frD):=by
  rw[_xw (g:=λ_=>frD (seats:Rat)) (λ_=>by simp) h];simp[_qh,List.map_const']
 have hh':h.length<=100000:=by omega
 simp[_y,_qv9,_qv7,ini,_q8,_xn,mkD,hh',_qwt,hc,hd];rfl
theorem _qo1(h:List _qwp) (hh:h.length<=100) (seats:Int) (R:List _qwl):_qk [_I h,.int seats,_vr R]=some (_qy (_qvf (_qh h seats) R R.length)):=by
 have en:=_qeu R;have f:=_qkx h hh seats
 by_cases hR:R=[]
 ·rw[decide_eq_true hR]at en
  have ep:_qvf (_qh h seats) R R.length=_qh h seats:=by rw[hR];exact _Jh _ _
  rw[ep];simp[_qk,_qv9,_qv7,ini,_jo,en,f,_qwt]
 ·rw[decide_eq_false hR]at en
  obtain⟨l1,l2⟩:=_qkh (_qh h seats) R hR;have x2:dIx (_qva (R.getLast hR)) (.int 2)=some (_qy (R.getLast hR).2.2):=rfl;rw[l2];generalize R.getLast hR=last at*;simp[_qk,_qv9,_qv7,ini,_jo,en,l1,x2,_qwt]
@[irreducible] def _t(h:List _qwp) (seats:Int):List _qwl:=_v h 6 (_qh h seats) []
@[irreducible] def _zj(h:List _qwp) (seats:Int):List _qwl:=_Wv h seats 6 (_qvf (_qh h seats) (_t h seats) (_t h seats).length) (_Xl ((_t h seats).map (·.1)))
@[irreducible] def _qdw(h:List _qwp) (seats:Int):List Int:=_Xl ((_t h seats).map (·.1)++(_zj h seats).map (·.1))
theorem _x6(h:List _qwp) (seats:Int):_t h seats=_v h 6 (_qh h seats) []:=by unfold _t;rfl
theorem _k1(h:List _qwp) (seats:Int):_zj h seats=_Wv h seats 6 (_qvf (_qh h seats) (_t h seats) (_t h seats).length) (_Xl ((_t h seats).map (·.1))):=by unfold _zj;rfl
theorem _qgj(h:List _qwp) (seats:Int):_qdw h seats=_Xl ((_t h seats).map (·.1)++(_zj h seats).map (·.1)):=by unfold _qdw;rfl
theorem _qar{l:List Int}(hl:l.length<64):_qlu [_r l]=some ((_Xl l).map .int):=by
 simp only[_qlu,_r,_ky,Option.bind_some,hl,if_true]
theorem _qen(l:List Int):(_Xl l).length=l.length:=(_vd l).length_eq
theorem _Vz{h:List _qwp}{seats:Int}:∀(n:Nat) (P:List Rat) (ch:List Int),(_Wv h seats n P ch).length<=n
 |0,P,ch=>by simp[_Wv]
 |n+1,P,ch=>by
  cases ho:_T (_jg h P ch seats)with
  |none=>simp only[_Wv,ho];simp
  |some o=>
   have:=_Vz (h:=h) (seats:=seats) n (_W h P o) (ch++[o.1])
   simp only[_Wv,ho,length_cons];omega
theorem _we{h:List _qwp}:∀(n:Nat) (P:List Rat) (ch:List Int),(_v h n P ch).length<=n
 |0,P,ch=>by simp[_v]
 |n+1,P,ch=>by
  cases ho:_T (_J h P ch)with
  |none=>simp only[_v,ho];simp
  |some o=>
   have:=_we (h:=h) n (_j9 h P o.1 o.2) (ch++[o.1])
   simp only[_v,ho,length_cons];omega
theorem _qdt{h:List _qwp}(k:okW h) (seats:Int) (hse:0<=seats/\seats<=6):PurOk h (1+(_t h seats).length) (_qvf (_qh h seats) (_t h seats) (_t h seats).length)/\(∀d∈_q h,d∉(_t h seats).map (·.1)->_kj h (_qvf (_qh h seats) (_t h seats) (_t h seats).length) d (_quv h)=none):=by
 have pk0:PurOk h 1 (_qh h seats):=⟨by simp[_qh],_Qy h hse.1 hse.2⟩;have hlc:(_Wm h []).length<=6:=le_trans (length_filter_le _ _) (_jb h);obtain⟨r1,r2,r3⟩:=_Qj k 6 (_qh h seats) [] 1 pk0 (by omega) hlc;rw[<-_x6]at r2 r3;exact⟨r2,λd h1 h2=>r3 d h1 (by rw[Kf];exact h2)⟩
theorem _qli(h:List _qwp) (kh:okH h) (k:okW h) (seats:Int) (hse:0<=seats/\seats<=6):_Wl [_I h,.int seats]=some (.tup [_r (_qdw h seats),_vr (_t h seats),_vr (_zj h seats)]):=by
 have ro:_v6 [_I h,.int seats]=some (_vr (_t h seats)):=by rw[_x6];exact _qev h kh k seats hse.1 hse.2
 have l1:(_t h seats).length<=6:=by rw[_x6];exact _we 6 _ _
 have l2:(_zj h seats).length<=6:=by rw[_k1];exact _Vz 6 _ _
 have c1:=_qi4 (_t h seats) (by omega);have c2:=_qi4 (_zj h seats) (by omega);have hh:=k.len;have la:=_qo1 h (by omega) seats (_t h seats);obtain⟨e1,_⟩:=_qdt k seats hse;have h12:1+(_t h seats).length<=12:=by omega
 have hs6:(_Xl ((_t h seats).map (·.1))).length<=6:=by rw[_qen,length_map];exact l1
 have gr:=_qks h kh k (_qvf (_qh h seats) (_t h seats) (_t h seats).length) e1.len e1.size h12 (_Xl ((_t h seats).map (·.1))) hs6 seats hse.2;rw[<-_k1]at gr;have s1:=_qar (l:=(_t h seats).map (·.1)) (by simp;omega);have s2:=_qar (l:=(_t h seats).map (·.1)++(_zj h seats).map (·.1)) (by simp;omega);have eB:_Xl ((_t h seats).map (·.1)++(_zj h seats).map (·.1))=_qdw h seats:=(_qgj h seats).symm;rw[eB]at s2;have hcat:_qw6 (_r ((_t h seats).map (·.1))) (_r ((_zj h seats).map (·.1)))=some (((_t h seats).map (·.1)++(_zj h seats).map (·.1)).map .int):=by
  have:((_t h seats).map (·.1)).length+((_zj h seats).map (·.1)).length<=100000:=by simp;omega
  simp only[_qw6,_r,length_map,_qwt]at this⊢;rw[if_pos this,map_append]
 generalize _qvf (_qh h seats) (_t h seats) (_t h seats).length=P at*;generalize _t h seats=B at*;generalize _zj h seats=A at*;generalize _qdw h seats=M at*;have z1:∀l:List Int,oD (ow (l.map .int))=some (_r l):=λl=>_Vy l;generalize hCB:B.map (·.1)++A.map (·.1)=CB at*;generalize B.map (·.1)=CA at*;generalize A.map (·.1)=CC at*;generalize _Xl CA=SA at*;have im1:imm (_r CA)=false:=by simp[_r]
 have im2:imm (_vr B)=false:=by simp[_vr]
 have im3:imm (_vr A)=false:=by simp[_vr]
 simp[_Wl,_qv9,_qv7,ini,_qe6,ro,c1,c2,la,gr,s1,s2,hcat,z1,im1,im2,im3,_qwt]
def _qvm(names:List Str) (k:Int):Str:=names.getD k.toNat ⟨#[]⟩
def _qi9(n:Nat) (s:List Int):Prop:=∀k∈s,0<=k/\k< (n:Int)
theorem _Zt{α:Type}{f:α->D}{n:Nat}:∀{l:List α},(∀a∈l,shp n (f a)=true)->_qv5 n (l.map f)=true
 | [],_=>rfl
 |a::l,h=>by
  rw[map_cons,_qv5,h a (by simp),_Zt λb hb=>h b (mem_cons_of_mem _ hb)];rfl
def bsR(h:List _qwp) (seats:Int):List Int:=(_t h seats).map (·.1)++(_zj h seats).map (·.1)
theorem _Kz{h:List _qwp}:∀(n:Nat) (P:List Rat) (ch:List Int),∀r∈_v h n P ch,r.1∈_q h
 |0,_,_,r,hr=>by cases hr
 |n+1,P,ch,r,hr=>by
  unfold _v at hr;cases e:_T (_J h P ch)with
  |none=>rw[e]at hr;cases hr
  |some o=>
   rw[e]at hr;rcases An.mp hr with rfl|hr
   ·exact(_vf (_j4 e)).1
   ·exact _Kz n _ _ r hr
theorem _qhv{h:List _qwp}{seats:Int}:∀(n:Nat) (P:List Rat) (ch:List Int),∀r∈_Wv h seats n P ch,r.1∈_q h
 |0,_,_,r,hr=>by cases hr
 | n + 1,P,ch,r,hr=>by
  unfold _Wv at hr;cases e:_T (_jg h P ch seats)with
  |none=>rw[e]at hr;cases hr
  |some o=>
   rw[e]at hr;rcases An.mp hr with rfl|hr
   ·have:=_j4 e
    unfold _jg at this;split at this
    ·cases this
    ·obtain⟨c,hc,rfl⟩:=Ag.mp this
     exact(Ay.mp hc).1
   ·exact _qhv n _ _ r hr
theorem bs_in{h:List _qwp}{seats:Int}:∀c∈bsR h seats,c∈_q h:=by
 intro c hc;rcases C6.mp hc with hc|hc
 ·obtain⟨r,hr,rfl⟩:=Ag.mp hc
  rw[_x6]at hr;exact _Kz _ _ _ r hr
 ·obtain⟨r,hr,rfl⟩:=Ag.mp hc
  rw[_k1]at hr;exact _qhv _ _ _ r hr
theorem _qds{n:Nat}{h:List _qwp}{seats:Int}(hb:∀p∈h,_qi9 n p.2):_qi9 n (bsR h seats):=by
 intro k hk
 have:=(Ay.mp (bs_in k hk)).2
 obtain⟨p,hp,e⟩:=Js.mp this;exact hb p hp k (_vm.mp e)
theorem _qs5(h:List _qwp) (seats:Int):(_t h seats).length<=6/\(_zj h seats).length<=6:=⟨by rw[_x6];exact _we 6 _ _,by rw[_k1];exact _Vz 6 _ _⟩
theorem law_true(ns:List Int) (h:ns.length<=63):_qlt [.lst (ns.map .int)]=some (.bl true):=_qfo ns h
theorem _Yv{n:Nat}{h:List _qwp}(hb:∀p∈h,_qi9 n p.2){s:List Int}(hs:s.Sublist (_q h)):_qi9 n s:=by
 intro k hk
 have:=(Ay.mp (hs.subset hk)).2
 obtain⟨p,hp,e⟩:=Js.mp this;exact hb p hp k (_vm.mp e)
theorem _qkf{h:List _qwp}{seats:Int}{mem s:List Int}(hl:_qhq h seats mem=some s):s.Sublist (_q h):=by
 unfold _qhq at hl;exact(_wn _ s).mp (Il hl)
theorem _qs4(seats:Int):bsR [] seats=[]:=by
 apply Gw.mpr;intro c hc
 have:=bs_in c hc
 simp[_q]at this
theorem _qkg(seats:Int) (mem:List Int):_qhq [] seats mem=none:=by
 have e:_q []=[]:=by simp[_q]
 unfold _qhq;rw[e];simp[_xb,_Zh]
end L_k66
set_option maxHeartbeats 1000000
namespace L_k66
open PySem PySem.Spec PyProof.Rows L2 DL
def top(i:Nat):Stmt:=PySem.Challenge.pw_pursebench_k66_whole_heap_alone.main.body.getD i (.Pass ⟨0,0,0,0⟩)
abbrev _xe:Stmt:=top 34
abbrev _qb7:Stmt:=top 21
abbrev _qb3:Stmt:=top 24
abbrev _vy:Stmt:=top 1
abbrev _zv:Stmt:=top 7
abbrev _Z4:Stmt:=top 6
abbrev _Z2:Stmt:=top 5
abbrev _Jd:Stmt:=top 17
abbrev _jr:Stmt:=top 22
abbrev _v0:Stmt:=top 23
abbrev _vz:Stmt:=top 2
abbrev _qb0:Stmt:=top 18
abbrev _qiu:Stmt:=top 31
abbrev _qb2:Stmt:=top 4
abbrev _Z1:Stmt:=top 36
abbrev _qb1:Stmt:=top 20
abbrev _xd:Stmt:=top 33
abbrev _qiw:Stmt:=top 32
abbrev _Z0:Stmt:=top 35
abbrev _js:Stmt:=top 40
abbrev _Jc:Stmt:=top 3
abbrev _qir:Stmt:=top 26
abbrev _qaz:Stmt:=top 28
abbrev _qiv:Stmt:=top 19
abbrev _jp:Stmt:=top 29
abbrev _qb4:Stmt:=top 27
abbrev _xr:Stmt:=top 39
abbrev _qb6:Stmt:=top 38
abbrev _jq:Stmt:=top 44
abbrev _qb5:Stmt:=top 42
abbrev _Je:Stmt:=top 45
abbrev _wd:Stmt:=top 43
abbrev _v1:Stmt:=top 52
abbrev _qix:Stmt:=top 57
structure Txt(mg:Str->Option Value):Prop where
 z_abs:mg "abs"=none
 z_all:mg "all"=none
 z_enumerate:mg "enumerate"=none
 z_len:mg "len"=none
 z_list:mg "list"=none
 z_set:mg "set"=none
 z_sorted:mg "sorted"=none
 z_sum:mg "sum"=none
 z_zip:mg "zip"=none
section
variable{P:Ak}{w:World}{K:Frag}{mg:Str->Option Value}{base:Heap}
theorem _w9:FnScope ["heap","seats"] ["heap","seats"] (_e _xe):=fsc
theorem _Qc{f:Addr}{fd:Am}(F:Fun K "first_purses" "first_purses" _xe f fd) (T:Txt mg):FnOk P w K mg base CX0 1 f fd ["heap","seats"] (spD K 2 _y):=
 FnOk.d (fnO F _w9 (k:=0) (n:=2) (m:=2) (b:=_q8) rfl rfl λcdv A outer s H E hr=>
  (_m (_G (DO.m _ (_U (cl:=_) (N':=["pile","seats"]) (js:=[none,some 1]) (by o_reads) (by exact(_H (_g 0 (pv 0)))) (λ_ _ _ q=>_D q) (by exact λ_ _ _ _ _=>(_B 0 (pgc 0))) (by exact λ_ _ _ _ _=>_qv) (by exact λ_ _ _ _ _=>(DE.o (_Qe (_a (_g 1 (pv 1)) (_a _s _l))))))))))
theorem _qiq:FnScope ["one","other"] ["one","other"] (_e _qb7):=fsc
theorem _qjx{f:Addr}{fd:Am}(F:Fun K "below" "below" _qb7 f fd) (T:Txt mg):FnOk P w K mg base CX0 1 f fd ["one","other"] (spD K 2 _km):=
 FnOk.d (fnO F _qiq (k:=0) (n:=2) (m:=2) (b:=_qe7) rfl rfl λcdv A outer s H E hr=>
  (_m (_G (DE.m _ (_qg6 _qjl _qf7 (_xa _L _K (_q6 (_g 0 (pv 0)) _s (λ_ _=>rfl)) (_q6 (_g 1 (pv 1)) _s (λ_ _=>rfl))) (_xa _L _K (_q6 (_g 1 (pv 1)) _s (λ_ _=>rfl)) (_q6 (_g 0 (pv 0)) _s (λ_ _=>rfl))) (_P _))))))
theorem _Q8:FnScope ["offers","found","offer"] ["offers"] (_e _qb3):=fsc
theorem _qjs{f:Addr}{fd:Am}(F:Fun K "least" "least" _qb3 f fd) (T:Txt mg) (G_below:Fn P w K mg base 1 "below" ["one","other"] (spD K 2 _km)):FnOk P w K mg base CX0 2 f fd ["offers"] (spD K 1 _x1):=
 FnOk.d (fnO F _Q8 (k:=1) (n:=1) (m:=3) (b:=_qe4) rfl rfl λcdv A outer s H E hr=>
  (_h (_F 1 (_p (i:=1) _Q8.nd rfl (.inl rfl) (DE.m _ _V9)))
   (_h (_V5 A6 rfl (_g 0 (pv 0)) (_zq 2 (_qj (i:=2) _Q8.nd rfl (.inl rfl))) (_m (_Y1 (DW.dt (dw_or (_j6 _qqq _qqm (_g 1 (pv 1)) _V9 (_P _)) (_qop (_qd8 (_jh G_below (hm hr) rfl (_a (_q6 (_g 2 (pv 2)) _s (λ_ _=>rfl)) (_a (_q6 (_g 1 (pv 1)) _s (λ_ _=>rfl)) _l))))))) (_m (_F 1 (_p (i:=1) _Q8.nd rfl (.inl rfl) (DE.m _ (_g 2 (pv 2)))))) _j7)))
   (_m (_G (DE.m _ (_g 1 (pv 1))))))))
theorem _Zv:FnScope ["heap"] ["heap"] (_e _vy):=fsc
theorem _Vj{f:Addr}{fd:Am}(F:Fun K "weight_of" "weight_of" _vy f fd) (T:Txt mg):FnOk P w K mg base CX0 1 f fd ["heap"] (spD K 1 _X):=
 FnOk.d (fnO F _Zv (k:=0) (n:=1) (m:=1) (b:=_ke) rfl rfl λcdv A outer s H E hr=>
  (_m (_G (DE.m _ (_qi (_Xa rfl) _J9 rfl T.z_sum _qlg (_a (DO.de (_U (cl:=_) (N':=["weight","marks"]) (js:=[none,none]) (by o_reads) (by exact(_H (_g 0 (pv 0)))) (λ_ _ _ q=>_D q) (by exact λ_ _ _ _ _=>(_W0 rfl (_jm (_B 0 (pgc 0)) (_jm (_B 1 (pgc 1)) _J7)))) (by exact λ_ _ _ _ _=>_qv) (by exact λ_ _ _ _ _=>(DE.o (_g 0 (pv 0)))))) _l))))))
theorem _Xp:FnScope ["pile","some"] ["pile","some"] (_e _zv):=fsc
theorem _Xy{f:Addr}{fd:Am}(F:Fun K "likes_each" "likes_each" _zv f fd) (T:Txt mg):FnOk P w K mg base CX0 1 f fd ["pile","some"] (spD K 2 _qg):=
 FnOk.d (fnO F _Xp (k:=0) (n:=2) (m:=2) (b:=_z3) rfl rfl λcdv A outer s H E hr=>
  (_m (_G (DE.m _ (_qi (_Xb rfl) _W7 rfl T.z_all _qlh (_a (DO.de (_U (cl:=_) (N':=["candidate","pile"]) (js:=[none,some 0]) (by o_reads) (by exact(_H (_g 1 (pv 1)))) (λ_ _ _ q=>_D q) (by exact λ_ _ _ _ _=>(_B 0 (pgc 0))) (by exact λ_ _ _ _ _=>_qv) (by exact λ_ _ _ _ _=>(DE.o (_qg6 (_Vh (_qea hr)) _qf8 (_g 0 (pv 0)) (_q6 (_g 1 (pv 1)) _s (λ_ _=>rfl)) (by rfl)))))) _l))))))
theorem _qer:FnScope ["heap","some"] ["heap","some"] (_e _Z4):=fsc
theorem _qff{f:Addr}{fd:Am}(F:Fun K "agreed" "agreed" _Z4 f fd) (T:Txt mg) (G_likes_each:Fn P w K mg base 1 "likes_each" ["pile","some"] (spD K 2 _qg)):FnOk P w K mg base CX0 2 f fd ["heap","some"] (spO K 2 _jt):=
 fnO F _qer (k:=1) (n:=2) (m:=2) (b:=_Kl) rfl rfl λcdv A outer s H E hr=>
  (_m (_G (DO.m _ (_U (cl:=_) (N':=["place","pile","some"]) (js:=[none,none,some 1]) (by o_reads) (by exact(_qbk rfl T.z_enumerate (_g 0 (pv 0)))) (λ_ _ _ q=>_W3 q) (by exact λ_ _ _ _ _=>(_W0 rfl (_jm (_B 0 (pgc 0)) (_jm (_B 1 (pgc 1)) _J7)))) (by exact λ_ _ _ _ _=>(_kb (_qd8 (_jh G_likes_each (hm hr) rfl (_a (_g 1 (pv 1)) (_a (_g 2 (pv 2)) _l)))))) (by exact λ_ _ _ _ _=>(DE.o (_g 0 (pv 0))))))))
theorem _qeq:FnScope ["heap","candidate"] ["heap","candidate"] (_e _Z2):=fsc
theorem _qfd{f:Addr}{fd:Am}(F:Fun K "likers" "likers" _Z2 f fd) (T:Txt mg) (G_agreed:Fn P w K mg base 2 "agreed" ["heap","some"] (spO K 2 _jt)):FnOk P w K mg base CX0 3 f fd ["heap","candidate"] (spO K 2 _ja):=
 fnO F _qeq (k:=2) (n:=2) (m:=2) (b:=_Kk) rfl rfl λcdv A outer s H E hr=>
  (_m (_G (DO.m _ (_qeb G_agreed (hm hr) rfl (_a (_g 0 (pv 0)) (_a (DO.de (_J6 (_a (_g 1 (pv 1)) _l))) _l))))))
theorem _j1:FnScope ["one","other","greater","rest","remainder"] ["one","other"] (_e _Jd):=fsc
theorem _qc1{f:Addr}{fd:Am}(F:Fun K "divisor" "divisor" _Jd f fd) (T:Txt mg):FnOk P w K mg base CX0 1 f fd ["one","other"] (spD K 2 _xg):=
 FnOk.d (fnO F _j1 (k:=0) (n:=2) (m:=5) (b:=_Xg) rfl rfl λcdv A outer s H E hr=>
  (_h (_F 2 (_p (i:=2) _j1.nd rfl (.inl rfl) (DE.m _ (_qi _qdr _W8 rfl T.z_abs _qp4 (_a (_g 0 (pv 0)) _l)))))
   (_h (_F 3 (_p (i:=3) _j1.nd rfl (.inl rfl) (DE.m _ (_qi _qdr _W8 rfl T.z_abs _qp4 (_a (_g 1 (pv 1)) _l)))))
   (_h (_V4 A6 (_j6 (_qf9 hr.units) _qqk (_g 3 (pv 3)) _s (_P _)) (_h (_F 4 (_p (i:=4) _j1.nd rfl (.inl rfl) (DE.m _ (_xa _qbx _qbu (_g 2 (pv 2)) (_g 3 (pv 3))))))
   (_h (_F 2 (_p (i:=2) _j1.nd rfl (.inl rfl) (DE.m _ (_g 3 (pv 3)))))
   (_m (_F 3 (_p (i:=3) _j1.nd rfl (.inl rfl) (DE.m _ (_g 4 (pv 4)))))))))
   (_m (_G (DE.m _ (_g 2 (pv 2)))))))))
theorem _S:FnScope ["fractions","bottom","top","own"] ["fractions"] (_e _jr):=fsc
theorem _wl{f:Addr}{fd:Am}(F:Fun K "common_bottom" "common_bottom" _jr f fd) (T:Txt mg) (G_divisor:Fn P w K mg base 1 "divisor" ["one","other"] (spD K 2 _xg)):FnOk P w K mg base CX0 2 f fd ["fractions"] (spD K 1 _E):=
 FnOk.d (fnO F _S (k:=1) (n:=1) (m:=4) (b:=_jx) rfl rfl λcdv A outer s H E hr=>
  (_h (_F 1 (_p (i:=1) _S.nd rfl (.inl rfl) (DE.m _ _s)))
   (_h (_V5 A6 rfl (_g 0 (pv 0)) (_ql9 rfl (_kc (_zq 2 (_qj (i:=2) _S.nd rfl (.inl rfl))) (_kc (_zq 3 (_qj (i:=3) _S.nd rfl (.inl rfl))) _qdd))) (_m (_F 1 (_p (i:=1) _S.nd rfl (.inl rfl) (DE.m _ (_xa _L _K (_g 1 (pv 1)) (_xa _Wc _K9 (_g 3 (pv 3)) (_jh G_divisor (hm hr) rfl (_a (_g 1 (pv 1)) (_a (_g 3 (pv 3)) _l))))))))))
   (_m (_G (DE.m _ (_g 1 (pv 1))))))))
theorem _Zx:FnScope ["bottom","fractions"] ["bottom","fractions"] (_e _v0):=fsc
theorem _Vl{f:Addr}{fd:Am}(F:Fun K "tops_over" "tops_over" _v0 f fd) (T:Txt mg):FnOk P w K mg base CX0 1 f fd ["bottom","fractions"] (spD K 2 _qs):=
 FnOk.d (fnO F _Zx (k:=0) (n:=2) (m:=2) (b:=_kg) rfl rfl λcdv A outer s H E hr=>
  (_m (_G (DO.m _ (_U (cl:=_) (N':=["top","own","bottom"]) (js:=[none,none,some 0]) (by o_reads) (by exact(_H (_g 1 (pv 1)))) (λ_ _ _ q=>_D q) (by exact λ_ _ _ _ _=>(_W0 rfl (_jm (_B 0 (pgc 0)) (_jm (_B 1 (pgc 1)) _J7)))) (by exact λ_ _ _ _ _=>_qv) (by exact λ_ _ _ _ _=>(DE.o (_xa _L _K (_g 0 (pv 0)) (_xa _Wc _K9 (_g 2 (pv 2)) (_g 1 (pv 1)))))))))))
theorem _Zw:FnScope ["heap","places"] ["heap","places"] (_e _vz):=fsc
theorem _Vk{f:Addr}{fd:Am}(F:Fun K "weight_at" "weight_at" _vz f fd) (T:Txt mg):FnOk P w K mg base CX0 1 f fd ["heap","places"] (spD K 2 _Y):=
 FnOk.d (fnO F _Zw (k:=0) (n:=2) (m:=2) (b:=_kf) rfl rfl λcdv A outer s H E hr=>
  (_m (_G (DE.m _ (_qi (_Xa rfl) _J9 rfl T.z_sum _qlg (_a (DO.de (_U (cl:=_) (N':=["place","heap"]) (js:=[none,some 0]) (by o_reads) (by exact(_H (_g 1 (pv 1)))) (λ_ _ _ q=>_D q) (by exact λ_ _ _ _ _=>(_B 0 (pgc 0))) (by exact λ_ _ _ _ _=>_qv) (by exact λ_ _ _ _ _=>(DE.o (_q6 (_q6 (_g 1 (pv 1)) (_g 0 (pv 0)) (λ_ _=>rfl)) _s (λ_ _=>rfl)))))) _l))))))
theorem _Zy:FnScope ["top","bottom","common"] ["top","bottom"] (_e _qb0):=fsc
theorem _qjo{f:Addr}{fd:Am}(F:Fun K "share" "share" _qb0 f fd) (T:Txt mg) (G_divisor:Fn P w K mg base 1 "divisor" ["one","other"] (spD K 2 _xg)):FnOk P w K mg base CX0 2 f fd ["top","bottom"] (spD K 2 _xy):=
 FnOk.d (fnO F _Zy (k:=1) (n:=2) (m:=3) (b:=_qe1) rfl rfl λcdv A outer s H E hr=>
  (_h (_Y1 (_j6 (_Vi hr.units) _qbw (_g 1 (pv 1)) _s (_P _)) (_m _ql4) _j7)
   (_h (_F 2 (_p (i:=2) _Zy.nd rfl (.inl rfl) (DE.m _ (_jh G_divisor (hm hr) rfl (_a (_g 0 (pv 0)) (_a (_g 1 (pv 1)) _l))))))
   (_h (_Y1 (_j6 _qjl _qf7 (_g 1 (pv 1)) _s (_P _)) (_m (_F 2 (_p (i:=2) _Zy.nd rfl (.inl rfl) (DE.m _ (de_un _Yi _qgt (_g 2 (pv 2))))))) _j7)
   (_m (_G (DE.m _ (_Qe (_a (_xa _Wc _K9 (_g 0 (pv 0)) (_g 2 (pv 2))) (_a (_xa _Wc _K9 (_g 1 (pv 1)) (_g 2 (pv 2))) _l))))))))))
theorem _zk:FnScope ["heap","purses","candidate","price","places","bottom","tops","rest","weight","top","place"] ["heap","purses","candidate","price"] (_e _qiu):=fsc
theorem _qne{f:Addr}{fd:Am}(F:Fun K "rate" "rate" _qiu f fd) (T:Txt mg) (G_likers:Fn P w K mg base 3 "likers" ["heap","candidate"] (spO K 2 _ja)) (G_common_bottom:Fn P w K mg base 2 "common_bottom" ["fractions"] (spD K 1 _E)) (G_tops_over:Fn P w K mg base 1 "tops_over" ["bottom","fractions"] (spD K 2 _qs)) (G_weight_at:Fn P w K mg base 1 "weight_at" ["heap","places"] (spD K 2 _Y)) (G_share:Fn P w K mg base 2 "share" ["top","bottom"] (spD K 2 _xy)):FnOk P w K mg base CX0 4 f fd ["heap","purses","candidate","price"] (spD K 4 _Vp):=
 FnOk.d (fnO F _zk (k:=3) (n:=4) (m:=11) (b:=_qgm) rfl rfl λcdv A outer s H E hr=>
  (_h (_F 4 (_p (i:=4) _zk.nd rfl (.inl rfl) (DO.m _ (_qeb G_likers (hm hr) rfl (_a (_g 0 (pv 0)) (_a (_g 2 (pv 2)) _l))))))
   (_h (_F 5 (_p (i:=5) _zk.nd rfl (.inl rfl) (DE.m _ (_jh G_common_bottom (hm hr) rfl (_a (DO.de (_U (cl:=_) (N':=["place","purses"]) (js:=[none,some 1]) (by o_reads) (by exact(_H (_g 4 (pv 4)))) (λ_ _ _ q=>_D q) (by exact λ_ _ _ _ _=>(_B 0 (pgc 0))) (by exact λ_ _ _ _ _=>_qv) (by exact λ_ _ _ _ _=>(DE.o (_q6 (_g 1 (pv 1)) (_g 0 (pv 0)) (λ_ _=>rfl)))))) _l)))))
   (_h (_F 6 (_p (i:=6) _zk.nd rfl (.inl rfl) (DE.m _ (_jh G_tops_over (hm hr) rfl (_a (_g 5 (pv 5)) (_a (DO.de (_U (cl:=_) (N':=["place","purses"]) (js:=[none,some 1]) (by o_reads) (by exact(_H (_g 4 (pv 4)))) (λ_ _ _ q=>_D q) (by exact λ_ _ _ _ _=>(_B 0 (pgc 0))) (by exact λ_ _ _ _ _=>_qv) (by exact λ_ _ _ _ _=>(DE.o (_q6 (_g 1 (pv 1)) (_g 0 (pv 0)) (λ_ _=>rfl)))))) _l))))))
   (_h (_F 7 (_p (i:=7) _zk.nd rfl (.inl rfl) (DE.m _ (_xa _L _K (_g 3 (pv 3)) (_g 5 (pv 5))))))
   (_h (_F 8 (_p (i:=8) _zk.nd rfl (.inl rfl) (DE.m _ (_jh G_weight_at (hm hr) rfl (_a (_g 0 (pv 0)) (_a (_g 4 (pv 4)) _l))))))
   (_h (_V5 A6 rfl (DO.de (_V7 rfl rfl rfl T.z_sorted T.z_zip (_a (_g 6 (pv 6)) (_a (_g 4 (pv 4)) _l)))) (_ql9 rfl (_kc (_zq 9 (_qj (i:=9) _zk.nd rfl (.inl rfl))) (_kc (_zq 10 (_qj (i:=10) _zk.nd rfl (.inl rfl))) _qdd))) (_h (_Y1 (_j6 op_le _qn8 (_g 7 (pv 7)) (_xa _L _K (_g 8 (pv 8)) (_g 9 (pv 9))) (_P _)) (_m (_G (DE.m _ (_jh G_share (hm hr) rfl (_a (_g 7 (pv 7)) (_a (_xa _L _K (_g 8 (pv 8)) (_g 5 (pv 5))) _l)))))) _j7)
   (_h (_F 7 (_p (i:=7) _zk.nd rfl (.inl rfl) (DE.m _ (_xa _Vg _K7 (_g 7 (pv 7)) (_xa _L _K (_q6 (_q6 (_g 0 (pv 0)) (_g 10 (pv 10)) (λ_ _=>rfl)) _s (λ_ _=>rfl)) (_g 9 (pv 9)))))))
   (_m (_F 8 (_p (i:=8) _zk.nd rfl (.inl rfl) (DE.m _ (_xa _Vg _K7 (_g 8 (pv 8)) (_q6 (_q6 (_g 0 (pv 0)) (_g 10 (pv 10)) (λ_ _=>rfl)) _s (λ_ _=>rfl))))))))))
   (_m (_G (DE.m _ _V9))))))))))
theorem _Q7:FnScope ["heap","found","weight","marks"] ["heap"] (_e _qb2):=fsc
theorem _qjr{f:Addr}{fd:Am}(F:Fun K "liked" "liked" _qb2 f fd) (T:Txt mg):FnOk P w K mg base CX0 1 f fd ["heap"] (spO K 1 _zn):=
 fnO F _Q7 (k:=0) (n:=1) (m:=4) (b:=_qe3) rfl rfl λcdv A outer s H E hr=>
  (_h (_F 1 (_p (i:=1) _Q7.nd rfl (.inl rfl) (DO.m _ (_J6 _l))))
   (_h (_V5 A6 rfl (_g 0 (pv 0)) (_ql9 rfl (_kc (_zq 2 (_qj (i:=2) _Q7.nd rfl (.inl rfl))) (_kc (_zq 3 (_qj (i:=3) _Q7.nd rfl (.inl rfl))) _qdd))) (_m (_qrt (i:=1) (_q4 (_qjh Cg PySem.F.slot_list_extend PySem.F.type_list_extend _qca (_Ze (pv 1)) (_c (_g 3 (pv 3)) _o))))))
   (_m (_G (DO.m _ (_V8 rfl rfl rfl T.z_sorted T.z_set (_g 1 (pv 1))))))))
theorem _ks:FnScope ["heap","purses","rows","chosen","price","rated"] ["heap","purses","rows"] (_e _Z1):=fsc
theorem _qfc{f:Addr}{fd:Am}(F:Fun K "offers" "offers" _Z1 f fd) (T:Txt mg) (G_weight_of:Fn P w K mg base 1 "weight_of" ["heap"] (spD K 1 _X)) (G_rate:Fn P w K mg base 4 "rate" ["heap","purses","candidate","price"] (spD K 4 _Vp)) (G_liked:Fn P w K mg base 1 "liked" ["heap"] (spO K 1 _zn)):FnOk P w K mg base CX0 5 f fd ["heap","purses","rows"] (spD K 3 _xz):=
 FnOk.d (fnO F _ks (k:=4) (n:=3) (m:=6) (b:=_Kj) rfl rfl λcdv A outer s H E hr=>
  (_h (_F 3 (_p (i:=3) _ks.nd rfl (.inr rfl) (DO.m _ (_U (cl:=_) (N':=["row"]) (js:=[none]) (by o_reads) (by exact(_H (_g 2 (pv 2)))) (λ_ _ _ q=>_D q) (by exact λ_ _ _ _ _=>(_B 0 (pgc 0))) (by exact λ_ _ _ _ _=>_qv) (by exact λ_ _ _ _ _=>(DE.o (_q6 (_g 0 (pv 0)) _s (λ_ _=>rfl))))))))
   (_h (_F 4 (_p (i:=4) _ks.nd rfl (.inr rfl) (DE.m _ (_jh G_weight_of (hm hr) rfl (_a (_g 0 (pv 0)) _l)))))
   (_h (_qd9 (i:=5) (cl:=_) (N':=["candidate","heap","purses","price","chosen"]) (js:=[none,some 0,some 1,some 4,some 3]) (by o_reads) (by exact(_H (DO.de (_qeb G_liked (hm hr) rfl (_a (_g 0 (pv 0)) _l))))) (λ_ _ _ q=>_D q) (by exact λ_ _ _ _ _=>(_B 0 (pgc 0))) (by exact λ_ _ _ _ _=>(_kb (_j6 (_Wb (_qea hr)) _K8 (_g 0 (pv 0)) (_g 4 (pv 4)) (by rfl)))) (by exact λ_ _ _ _ _=>(DE.o (_Qe (_a (_g 0 (pv 0)) (_a (_jh G_rate (hm hr) rfl (_a (_g 1 (pv 1)) (_a (_g 2 (pv 2)) (_a (_g 0 (pv 0)) (_a (_g 3 (pv 3)) _l))))) _l))))) _ks.nd rfl rfl rfl)
   (_m (_G (DO.m _ (_U (cl:=_) (N':=["offer"]) (js:=[none]) (by o_reads) (by exact(_H (_g 5 (pv 5)))) (λ_ _ _ q=>_D q) (by exact λ_ _ _ _ _=>(_B 0 (pgc 0))) (by exact λ_ _ _ _ _=>(_kb (_j6 _qby _qbv (_q6 (_g 0 (pv 0)) _s (λ_ _=>rfl)) _V9 (_P _)))) (by exact λ_ _ _ _ _=>(DE.o (_g 0 (pv 0))))))))))))
theorem _qip:FnScope ["one","other"] ["one","other"] (_e _qb1):=fsc
theorem _qjq{f:Addr}{fd:Am}(F:Fun K "minus" "minus" _qb1 f fd) (T:Txt mg) (G_share:Fn P w K mg base 2 "share" ["top","bottom"] (spD K 2 _xy)):FnOk P w K mg base CX0 3 f fd ["one","other"] (spD K 2 _Qt):=
 FnOk.d (fnO F _qip (k:=2) (n:=2) (m:=2) (b:=_qe2) rfl rfl λcdv A outer s H E hr=>
  (_m (_G (DE.m _ (_jh G_share (hm hr) rfl (_a (_xa _Vg _K7 (_xa _L _K (_q6 (_g 0 (pv 0)) _s (λ_ _=>rfl)) (_q6 (_g 1 (pv 1)) _s (λ_ _=>rfl))) (_xa _L _K (_q6 (_g 1 (pv 1)) _s (λ_ _=>rfl)) (_q6 (_g 0 (pv 0)) _s (λ_ _=>rfl)))) (_a (_xa _L _K (_q6 (_g 0 (pv 0)) _s (λ_ _=>rfl)) (_q6 (_g 1 (pv 1)) _s (λ_ _=>rfl))) _l)))))))
theorem _w8:FnScope ["purse","due"] ["purse","due"] (_e _xd):=fsc
theorem _Qb{f:Addr}{fd:Am}(F:Fun K "purse_behind" "purse_behind" _xd f fd) (T:Txt mg) (G_below:Fn P w K mg base 1 "below" ["one","other"] (spD K 2 _km)) (G_minus:Fn P w K mg base 3 "minus" ["one","other"] (spD K 2 _Qt)):FnOk P w K mg base CX0 4 f fd ["purse","due"] (spD K 2 _Z):=
 FnOk.d (fnO F _w8 (k:=3) (n:=2) (m:=2) (b:=_q7) rfl rfl λcdv A outer s H E hr=>
  (_h (_Y1 (_qd8 (_jh G_below (hm hr) rfl (_a (_g 0 (pv 0)) (_a (_g 1 (pv 1)) _l)))) (_m (_G (DE.m _ (_Qe (_a _s (_a _s _l)))))) _j7)
   (_m (_G (DE.m _ (_jh G_minus (hm hr) rfl (_a (_g 0 (pv 0)) (_a (_g 1 (pv 1)) _l))))))))
theorem _qax:FnScope ["heap","purses","candidate","due","behind","place"] ["heap","purses","candidate","due"] (_e _qiw):=fsc
theorem _qng{f:Addr}{fd:Am}(F:Fun K "paid" "paid" _qiw f fd) (T:Txt mg) (G_purse_behind:Fn P w K mg base 4 "purse_behind" ["purse","due"] (spD K 2 _Z)) (G_likers:Fn P w K mg base 3 "likers" ["heap","candidate"] (spO K 2 _ja)):FnOk P w K mg base CX0 5 f fd ["heap","purses","candidate","due"] (spD K 4 _qce):=
 FnOk.d (fnO F _qax (k:=4) (n:=4) (m:=6) (b:=_qll) rfl rfl λcdv A outer s H E hr=>
  (_h (_F 4 (_p (i:=4) _qax.nd rfl (.inl rfl) (DO.m _ (_Wz _xi _Zi rfl T.z_list _Zj (_a (_g 1 (pv 1)) _l)))))
   (_h (_V5 A6 rfl (DO.de (_qeb G_likers (hm hr) rfl (_a (_g 0 (pv 0)) (_a (_g 2 (pv 2)) _l)))) (_zq 5 (_qj (i:=5) _qax.nd rfl (.inl rfl))) (_m (_qrs (i:=4) (_qqa (DE.m _ (_jh G_purse_behind (hm hr) rfl (_a (_q6 (_g 1 (pv 1)) (_g 5 (pv 5)) (λ_ _=>rfl)) (_a (_g 3 (pv 3)) _l)))) (_qqf (_Ze (pv 4)) (_g 5 (pv 5)) _qin)))))
   (_m (_G (DE.m _ (_g 4 (pv 4))))))))
theorem _x8:FnScope ["heap","seats","purses","rows","offer"] ["heap","seats"] (_e _Z0):=fsc
theorem _qfb{f:Addr}{fd:Am}(F:Fun K "rounds" "rounds" _Z0 f fd) (T:Txt mg) (G_first_purses:Fn P w K mg base 1 "first_purses" ["heap","seats"] (spD K 2 _y)) (G_least:Fn P w K mg base 2 "least" ["offers"] (spD K 1 _x1)) (G_offers:Fn P w K mg base 5 "offers" ["heap","purses","rows"] (spD K 3 _xz)) (G_paid:Fn P w K mg base 5 "paid" ["heap","purses","candidate","due"] (spD K 4 _qce)):FnOk P w K mg base CX0 6 f fd ["heap","seats"] (spD K 2 _v6):=
 FnOk.d (fnO F _x8 (k:=5) (n:=2) (m:=5) (b:=_Kh) rfl rfl λcdv A outer s H E hr=>
  (_h (_F 2 (_p (i:=2) _x8.nd rfl (.inl rfl) (DE.m _ (_jh G_first_purses (hm hr) rfl (_a (_g 0 (pv 0)) (_a (_g 1 (pv 1)) _l))))))
   (_h (_F 3 (_p (i:=3) _x8.nd rfl (.inl rfl) (DO.m _ (_J6 _l))))
   (_h (_F 4 (_p (i:=4) _x8.nd rfl (.inl rfl) (DE.m _ (_jh G_least (hm hr) rfl (_a (_jh G_offers (hm hr) rfl (_a (_g 0 (pv 0)) (_a (_g 2 (pv 2)) (_a (_g 3 (pv 3)) _l)))) _l)))))
   (_h (_V4 A6 (_j6 _qby _qbv (_g 4 (pv 4)) _V9 (_P _)) (_h (_F 2 (_p (i:=2) _x8.nd rfl (.inl rfl) (DE.m _ (_jh G_paid (hm hr) rfl (_a (_g 0 (pv 0)) (_a (_g 2 (pv 2)) (_a (_q6 (_g 4 (pv 4)) _s (λ_ _=>rfl)) (_a (_q6 (_g 4 (pv 4)) _s (λ_ _=>rfl)) _l))))))))
   (_h (_ql5 (i:=3) (_q4 (_qjh Cg C0 C1 _zc (_Ze (pv 3)) (_c (DE.m _ (_Qe (_a (_q6 (_g 4 (pv 4)) _s (λ_ _=>rfl)) (_a (_q6 (_g 4 (pv 4)) _s (λ_ _=>rfl)) (_a (_g 2 (pv 2)) _l))))) _o))))
   (_m (_F 4 (_p (i:=4) _x8.nd rfl (.inl rfl) (DE.m _ (_jh G_least (hm hr) rfl (_a (_jh G_offers (hm hr) rfl (_a (_g 0 (pv 0)) (_a (_g 2 (pv 2)) (_a (_g 3 (pv 3)) _l)))) _l)))))))))
   (_m (_G (DE.m _ (_g 3 (pv 3))))))))))
theorem _wc:FnScope ["rows"] ["rows"] (_e _js):=fsc
theorem _wm{f:Addr}{fd:Am}(F:Fun K "candidates_of" "candidates_of" _js f fd) (T:Txt mg):FnOk P w K mg base CX0 1 f fd ["rows"] (spD K 1 _N):=
 FnOk.d (fnO F _wc (k:=0) (n:=1) (m:=1) (b:=_jy) rfl rfl λcdv A outer s H E hr=>
  (_m (_G (DO.m _ (_U (cl:=_) (N':=["row"]) (js:=[none]) (by o_reads) (by exact(_H (_g 0 (pv 0)))) (λ_ _ _ q=>_D q) (by exact λ_ _ _ _ _=>(_B 0 (pgc 0))) (by exact λ_ _ _ _ _=>_qv) (by exact λ_ _ _ _ _=>(DE.o (_q6 (_g 0 (pv 0)) _s (λ_ _=>rfl)))))))))
theorem _qav:FnScope ["heap","amounts","places"] ["heap","amounts","places"] (_e _Jc):=fsc
theorem _qbz{f:Addr}{fd:Am}(F:Fun K "weighed" "weighed" _Jc f fd) (T:Txt mg):FnOk P w K mg base CX0 1 f fd ["heap","amounts","places"] (spD K 3 _vi):=
 FnOk.d (fnO F _qav (k:=0) (n:=3) (m:=3) (b:=_Xd) rfl rfl λcdv A outer s H E hr=>
  (_m (_G (DE.m _ (_qi (_Xa rfl) _J9 rfl T.z_sum _qlg (_a (DO.de (_U (cl:=_) (N':=["place","amounts","heap"]) (js:=[none,some 1,some 0]) (by o_reads) (by exact(_H (_g 2 (pv 2)))) (λ_ _ _ q=>_D q) (by exact λ_ _ _ _ _=>(_B 0 (pgc 0))) (by exact λ_ _ _ _ _=>_qv) (by exact λ_ _ _ _ _=>(DE.o (_xa _L _K (_q6 (_q6 (_g 2 (pv 2)) (_g 0 (pv 0)) (λ_ _=>rfl)) _s (λ_ _=>rfl)) (_q6 (_g 1 (pv 1)) (_g 0 (pv 0)) (λ_ _=>rfl))))))) _l))))))
theorem _Ky:FnScope ["heap","purses","candidate","places","bottom","missing"] ["heap","purses","candidate"] (_e _qir):=fsc
theorem _qnb{f:Addr}{fd:Am}(F:Fun K "wait" "wait" _qir f fd) (T:Txt mg) (G_likers:Fn P w K mg base 3 "likers" ["heap","candidate"] (spO K 2 _ja)) (G_common_bottom:Fn P w K mg base 2 "common_bottom" ["fractions"] (spD K 1 _E)) (G_weight_of:Fn P w K mg base 1 "weight_of" ["heap"] (spD K 1 _X)) (G_weighed:Fn P w K mg base 1 "weighed" ["heap","amounts","places"] (spD K 3 _vi)) (G_tops_over:Fn P w K mg base 1 "tops_over" ["bottom","fractions"] (spD K 2 _qs)) (G_share:Fn P w K mg base 2 "share" ["top","bottom"] (spD K 2 _xy)) (G_weight_at:Fn P w K mg base 1 "weight_at" ["heap","places"] (spD K 2 _Y)):FnOk P w K mg base CX0 4 f fd ["heap","purses","candidate"] (spD K 3 _Vo):=
 FnOk.d (fnO F _Ky (k:=3) (n:=3) (m:=6) (b:=_qgl) rfl rfl λcdv A outer s H E hr=>
  (_h (_F 3 (_p (i:=3) _Ky.nd rfl (.inl rfl) (DO.m _ (_qeb G_likers (hm hr) rfl (_a (_g 0 (pv 0)) (_a (_g 2 (pv 2)) _l))))))
   (_h (_F 4 (_p (i:=4) _Ky.nd rfl (.inl rfl) (DE.m _ (_jh G_common_bottom (hm hr) rfl (_a (_g 1 (pv 1)) _l)))))
   (_h (_F 5 (_p (i:=5) _Ky.nd rfl (.inl rfl) (DE.m _ (_xa _Vg _K7 (_xa _L _K (_jh G_weight_of (hm hr) rfl (_a (_g 0 (pv 0)) _l)) (_g 4 (pv 4))) (_jh G_weighed (hm hr) rfl (_a (_g 0 (pv 0)) (_a (_jh G_tops_over (hm hr) rfl (_a (_g 4 (pv 4)) (_a (_g 1 (pv 1)) _l))) (_a (_g 3 (pv 3)) _l))))))))
   (_h (_Y1 (_j6 op_le _qn8 (_g 5 (pv 5)) _s (_P _)) (_m (_G (DE.m _ (_Qe (_a _s (_a _s _l)))))) _j7)
   (_m (_G (DE.m _ (_jh G_share (hm hr) rfl (_a (_g 5 (pv 5)) (_a (_xa _L _K (_jh G_weight_at (hm hr) rfl (_a (_g 0 (pv 0)) (_a (_g 3 (pv 3)) _l))) (_g 4 (pv 4))) _l)))))))))))
theorem _qio:FnScope ["heap","purses","chosen","seats"] ["heap","purses","chosen","seats"] (_e _qaz):=fsc
theorem _qjm{f:Addr}{fd:Am}(F:Fun K "waits" "waits" _qaz f fd) (T:Txt mg) (G_wait:Fn P w K mg base 4 "wait" ["heap","purses","candidate"] (spD K 3 _Vo)) (G_liked:Fn P w K mg base 1 "liked" ["heap"] (spO K 1 _zn)):FnOk P w K mg base CX0 5 f fd ["heap","purses","chosen","seats"] (spD K 4 _kk):=
 FnOk.d (fnO F _qio (k:=4) (n:=4) (m:=4) (b:=_Ye) rfl rfl λcdv A outer s H E hr=>
  (_h (_Y1 (_j6 op_ge _qn9 (_qi _u _jn rfl T.z_len _z1 (_a (_g 2 (pv 2)) _l)) (_g 3 (pv 3)) (_P _)) (_m (_G (DO.m _ (_J6 _l)))) _j7)
   (_m (_G (DO.m _ (_U (cl:=_) (N':=["candidate","heap","purses","chosen"]) (js:=[none,some 0,some 1,some 2]) (by o_reads) (by exact(_H (DO.de (_qeb G_liked (hm hr) rfl (_a (_g 0 (pv 0)) _l))))) (λ_ _ _ q=>_D q) (by exact λ_ _ _ _ _=>(_B 0 (pgc 0))) (by exact λ_ _ _ _ _=>(_kb (_j6 (_Wb (_qea hr)) _K8 (_g 0 (pv 0)) (_g 3 (pv 3)) (by rfl)))) (by exact λ_ _ _ _ _=>(DE.o (_Qe (_a (_g 0 (pv 0)) (_a (_jh G_wait (hm hr) rfl (_a (_g 1 (pv 1)) (_a (_g 2 (pv 2)) (_a (_g 0 (pv 0)) _l)))) _l)))))))))))
theorem _qmj:FnScope ["one","other"] ["one","other"] (_e _qiv):=fsc
theorem _qnf{f:Addr}{fd:Am}(F:Fun K "plus" "plus" _qiv f fd) (T:Txt mg) (G_share:Fn P w K mg base 2 "share" ["top","bottom"] (spD K 2 _xy)):FnOk P w K mg base CX0 3 f fd ["one","other"] (spD K 2 _X2):=
 FnOk.d (fnO F _qmj (k:=2) (n:=2) (m:=2) (b:=_qlk) rfl rfl λcdv A outer s H E hr=>
  (_m (_G (DE.m _ (_jh G_share (hm hr) rfl (_a (_xa _We _Wa (_xa _L _K (_q6 (_g 0 (pv 0)) _s (λ_ _=>rfl)) (_q6 (_g 1 (pv 1)) _s (λ_ _=>rfl))) (_xa _L _K (_q6 (_g 1 (pv 1)) _s (λ_ _=>rfl)) (_q6 (_g 0 (pv 0)) _s (λ_ _=>rfl)))) (_a (_xa _L _K (_q6 (_g 0 (pv 0)) _s (λ_ _=>rfl)) (_q6 (_g 1 (pv 1)) _s (λ_ _=>rfl))) _l)))))))
theorem _xq:FnScope ["heap","purses","offer","places"] ["heap","purses","offer"] (_e _jp):=fsc
theorem _wj{f:Addr}{fd:Am}(F:Fun K "purses_behind" "purses_behind" _jp f fd) (T:Txt mg) (G_likers:Fn P w K mg base 3 "likers" ["heap","candidate"] (spO K 2 _ja)) (G_plus:Fn P w K mg base 3 "plus" ["one","other"] (spD K 2 _X2)):FnOk P w K mg base CX0 4 f fd ["heap","purses","offer"] (spD K 3 _qc):=
 FnOk.d (fnO F _xq (k:=3) (n:=3) (m:=4) (b:=_jv) rfl rfl λcdv A outer s H E hr=>
  (_h (_F 3 (_p (i:=3) _xq.nd rfl (.inr rfl) (DO.m _ (_qeb G_likers (hm hr) rfl (_a (_g 0 (pv 0)) (_a (_q6 (_g 2 (pv 2)) _s (λ_ _=>rfl)) _l))))))
   (_m (_G (DO.m _ (_U (cl:=_) (N':=["place","purse","places","offer"]) (js:=[none,none,some 3,some 2]) (by o_reads) (by exact(_qbk rfl T.z_enumerate (_g 1 (pv 1)))) (λ_ _ _ q=>_W3 q) (by exact λ_ _ _ _ _=>(_W0 rfl (_jm (_B 0 (pgc 0)) (_jm (_B 1 (pgc 1)) _J7)))) (by exact λ_ _ _ _ _=>_qv) (by exact λ_ _ _ _ _=>(DE.o (de_if (_j6 (_Vh (_qea hr)) _qf8 (_g 0 (pv 0)) (_g 2 (pv 2)) (by rfl)) (_Qe (_a _s (_a _s _l))) (_jh G_plus (hm hr) rfl (_a (_g 1 (pv 1)) (_a (_q6 (_g 3 (pv 3)) _s (λ_ _=>rfl)) _l))))))))))))
theorem _vw:FnScope ["heap","purses","members","seats","chosen","rows","offer"] ["heap","purses","members","seats"] (_e _qb4):=fsc
theorem _qju{f:Addr}{fd:Am}(F:Fun K "grown" "grown" _qb4 f fd) (T:Txt mg) (G_least:Fn P w K mg base 2 "least" ["offers"] (spD K 1 _x1)) (G_waits:Fn P w K mg base 5 "waits" ["heap","purses","chosen","seats"] (spD K 4 _kk)) (G_purses_behind:Fn P w K mg base 4 "purses_behind" ["heap","purses","offer"] (spD K 3 _qc)):FnOk P w K mg base CX0 6 f fd ["heap","purses","members","seats"] (spD K 4 _X3):=
 FnOk.d (fnO F _vw (k:=5) (n:=4) (m:=7) (b:=_qe5) rfl rfl λcdv A outer s H E hr=>
  (_h (_F 4 (_p (i:=4) _vw.nd rfl (.inl rfl) (DO.m _ (_Wz _xi _Zi rfl T.z_list _Zj (_a (_g 2 (pv 2)) _l)))))
   (_h (_F 5 (_p (i:=5) _vw.nd rfl (.inl rfl) (DO.m _ (_J6 _l))))
   (_h (_F 6 (_p (i:=6) _vw.nd rfl (.inl rfl) (DE.m _ (_jh G_least (hm hr) rfl (_a (_jh G_waits (hm hr) rfl (_a (_g 0 (pv 0)) (_a (_g 1 (pv 1)) (_a (_g 4 (pv 4)) (_a (_g 3 (pv 3)) _l))))) _l)))))
   (_h (_V4 A6 (_j6 _qby _qbv (_g 6 (pv 6)) _V9 (_P _)) (_h (_F 1 (_p (i:=1) _vw.nd rfl (.inl rfl) (DE.m _ (_jh G_purses_behind (hm hr) rfl (_a (_g 0 (pv 0)) (_a (_g 1 (pv 1)) (_a (_g 6 (pv 6)) _l)))))))
   (_h (_ql5 (i:=5) (_q4 (_qjh Cg C0 C1 _zc (_Ze (pv 5)) (_c (DE.m _ (_Qe (_a (_q6 (_g 6 (pv 6)) _s (λ_ _=>rfl)) (_a (_q6 (_g 6 (pv 6)) _s (λ_ _=>rfl)) (_a (_g 1 (pv 1)) _l))))) _o))))
   (_h (_ql5 (i:=4) (_q4 (_qjh Cg C0 C1 _zc (_Ze (pv 4)) (_c (DE.m _ (_q6 (_g 6 (pv 6)) _s (λ_ _=>rfl))) _o))))
   (_m (_F 6 (_p (i:=6) _vw.nd rfl (.inl rfl) (DE.m _ (_jh G_least (hm hr) rfl (_a (_jh G_waits (hm hr) rfl (_a (_g 0 (pv 0)) (_a (_g 1 (pv 1)) (_a (_g 4 (pv 4)) (_a (_g 3 (pv 3)) _l))))) _l))))))))))
   (_m (_G (DE.m _ (_g 5 (pv 5))))))))))
theorem _Ja:FnScope ["heap","seats","rows"] ["heap","seats","rows"] (_e _xr):=fsc
theorem _Jp{f:Addr}{fd:Am}(F:Fun K "last_purses" "last_purses" _xr f fd) (T:Txt mg) (G_first_purses:Fn P w K mg base 1 "first_purses" ["heap","seats"] (spD K 2 _y)):FnOk P w K mg base CX0 2 f fd ["heap","seats","rows"] (spD K 3 _qk):=
 FnOk.d (fnO F _Ja (k:=1) (n:=3) (m:=3) (b:=_jo) rfl rfl λcdv A outer s H E hr=>
  (_h (_Y1 (_j6 (_Vi hr.units) _qbw (_g 2 (pv 2)) (DO.de (_J6 _l)) (_P _)) (_m (_G (DE.m _ (_jh G_first_purses (hm hr) rfl (_a (_g 0 (pv 0)) (_a (_g 1 (pv 1)) _l)))))) _j7)
   (_m (_G (DE.m _ (_q6 (_q6 (_g 2 (pv 2)) (de_un _Yi _qgt _s) (λ_ _=>rfl)) _s (λ_ _=>rfl)))))))
theorem _Jb:FnScope ["heap","seats","bought","chosen","added"] ["heap","seats"] (_e _qb6):=fsc
theorem _qjw{f:Addr}{fd:Am}(F:Fun K "bench" "bench" _qb6 f fd) (T:Txt mg) (G_rounds:Fn P w K mg base 6 "rounds" ["heap","seats"] (spD K 2 _v6)) (G_candidates_of:Fn P w K mg base 1 "candidates_of" ["rows"] (spD K 1 _N)) (G_grown:Fn P w K mg base 6 "grown" ["heap","purses","members","seats"] (spD K 4 _X3)) (G_last_purses:Fn P w K mg base 2 "last_purses" ["heap","seats","rows"] (spD K 3 _qk)):FnOk P w K mg base CX0 7 f fd ["heap","seats"] (spD K 2 _Wl):=
 FnOk.d (fnO F _Jb (k:=6) (n:=2) (m:=5) (b:=_qe6) rfl rfl λcdv A outer s H E hr=>
  (_h (_F 2 (_p (i:=2) _Jb.nd rfl (.inl rfl) (DE.m _ (_jh G_rounds (hm hr) rfl (_a (_g 0 (pv 0)) (_a (_g 1 (pv 1)) _l))))))
   (_h (_F 3 (_p (i:=3) _Jb.nd rfl (.inl rfl) (DE.m _ (_jh G_candidates_of (hm hr) rfl (_a (_g 2 (pv 2)) _l)))))
   (_h (_F 4 (_p (i:=4) _Jb.nd rfl (.inl rfl) (DE.m _ (_jh G_grown (hm hr) rfl (_a (_g 0 (pv 0)) (_a (_jh G_last_purses (hm hr) rfl (_a (_g 0 (pv 0)) (_a (_g 1 (pv 1)) (_a (_g 2 (pv 2)) _l)))) (_a (DO.de (_qdb _wz _wx rfl T.z_sorted _zh (_a (_g 3 (pv 3)) _l))) (_a (_g 1 (pv 1)) _l))))))))
   (_m (_G (DO.m _ (_qor (_J8 (_qdb _wz _wx rfl T.z_sorted _zh (_a (DO.de (do_op _Wd _qbt (_g 3 (pv 3)) (_jh G_candidates_of (hm hr) rfl (_a (_g 4 (pv 4)) _l)))) _l)) (_J8 (DE.o (_g 2 (pv 2))) (_J8 (DE.o (_g 4 (pv 4))) _qi2)))))))))))
theorem _wb:FnScope ["heap","place","members"] ["heap","place","members"] (_e _jq):=fsc
theorem _wk{f:Addr}{fd:Am}(F:Fun K "members_liked" "members_liked" _jq f fd) (T:Txt mg):FnOk P w K mg base CX0 1 f fd ["heap","place","members"] (spD K 3 _M):=
 FnOk.d (fnO F _wb (k:=0) (n:=3) (m:=3) (b:=_jw) rfl rfl λcdv A outer s H E hr=>
  (_m (_G (DO.m _ (_U (cl:=_) (N':=["member","heap","place"]) (js:=[none,some 0,some 1]) (by o_reads) (by exact(_H (_g 2 (pv 2)))) (λ_ _ _ q=>_D q) (by exact λ_ _ _ _ _=>(_B 0 (pgc 0))) (by exact λ_ _ _ _ _=>(_kb (_j6 (_Vh (_qea hr)) _qf8 (_g 0 (pv 0)) (_q6 (_q6 (_g 1 (pv 1)) (_g 2 (pv 2)) (λ_ _=>rfl)) _s (λ_ _=>rfl)) (by rfl)))) (by exact λ_ _ _ _ _=>(DE.o (_g 0 (pv 0)))))))))
theorem _qay:FnScope ["heap","seats","some","group","agreeing"] ["heap","seats","some","group"] (_e _qb5):=fsc
theorem _qjv{f:Addr}{fd:Am}(F:Fun K "claim" "claim" _qb5 f fd) (T:Txt mg) (G_agreed:Fn P w K mg base 2 "agreed" ["heap","some"] (spO K 2 _jt)) (G_weight_at:Fn P w K mg base 1 "weight_at" ["heap","places"] (spD K 2 _Y)) (G_weight_of:Fn P w K mg base 1 "weight_of" ["heap"] (spD K 1 _X)):FnOk P w K mg base CX0 3 f fd ["heap","seats","some","group"] (spD K 4 _kl):=
 FnOk.d (fnO F _qay (k:=2) (n:=4) (m:=5) (b:=_Q0) rfl rfl λcdv A outer s H E hr=>
  (_h (_Y1 (DW.dt (dw_or (_j6 (_Vi hr.units) _qbw (_qi _u _jn rfl T.z_len _z1 (_a (_g 2 (pv 2)) _l)) _s (_P _)) (_qop (_j6 (_Vi hr.units) _qbw (_qi _u _jn rfl T.z_len _z1 (_a (_g 3 (pv 3)) _l)) _s (_P _))))) (_m (_G (DE.m _ de_bl))) _j7)
   (_h (_F 4 (_p (i:=4) _qay.nd rfl (.inr rfl) (DO.m _ (_qeb G_agreed (hm hr) rfl (_a (_g 0 (pv 0)) (_a (_g 2 (pv 2)) _l))))))
   (_h (_Y1 (_qrr (_qd8 (_qi (_Xb rfl) _W7 rfl T.z_all _qlh (_a (DO.de (_U (cl:=_) (N':=["place","agreeing"]) (js:=[none,some 4]) (by o_reads) (by exact(_H (_g 3 (pv 3)))) (λ_ _ _ q=>_D q) (by exact λ_ _ _ _ _=>(_B 0 (pgc 0))) (by exact λ_ _ _ _ _=>_qv) (by exact λ_ _ _ _ _=>(DE.o (_qg6 (_Vh (_qea hr)) _qf8 (_g 0 (pv 0)) (_g 1 (pv 1)) (by rfl)))))) _l)))) (_m (_G (DE.m _ de_bl))) _j7)
   (_m (_G (DE.m _ (_qg6 op_ge _qn9 (_xa _L _K (_g 1 (pv 1)) (_jh G_weight_at (hm hr) rfl (_a (_g 0 (pv 0)) (_a (_g 3 (pv 3)) _l)))) (_xa _L _K (_qi _u _jn rfl T.z_len _z1 (_a (_g 2 (pv 2)) _l)) (_jh G_weight_of (hm hr) rfl (_a (_g 0 (pv 0)) _l))) (_P _)))))))))
theorem _z8:FnScope ["candidates","found","candidate"] ["candidates"] (_e _Je):=fsc
theorem _qc2{f:Addr}{fd:Am}(F:Fun K "choices" "choices" _Je f fd) (T:Txt mg):FnOk P w K mg base CX0 1 f fd ["candidates"] (spD K 1 _vj):=
 FnOk.d (fnO F _z8 (k:=0) (n:=1) (m:=3) (b:=_Xh) rfl rfl λcdv A outer s H E hr=>
  (_h (_F 1 (_p (i:=1) _z8.nd rfl (.inl rfl) (DO.m _ (_qos (_J8 (_J6 _l) _qi2)))))
   (_h (_V5 A6 rfl (_g 0 (pv 0)) (_zq 2 (_qj (i:=2) _z8.nd rfl (.inr rfl))) (_m (_F 1 (_p (i:=1) _z8.nd rfl (.inl rfl) (DO.m _ (do_op _Wd _qbt (_g 1 (pv 1)) (DO.de (_U (cl:=_) (N':=["some","candidate"]) (js:=[none,some 2]) (by o_reads) (by exact(_H (_g 1 (pv 1)))) (λ_ _ _ q=>_D q) (by exact λ_ _ _ _ _=>(_B 0 (pgc 0))) (by exact λ_ _ _ _ _=>_qv) (by exact λ_ _ _ _ _=>(do_op _Wd _qbt (_g 0 (pv 0)) (DO.de (_J6 (_a (_g 1 (pv 1)) _l)))))))))))))
   (_m (_G (DE.m _ (_g 1 (pv 1))))))))
theorem _vv:FnScope ["heap","seats","members","some","group"] ["heap","seats","members"] (_e _wd):=fsc
theorem _Yq{f:Addr}{fd:Am}(F:Fun K "left_out" "left_out" _wd f fd) (T:Txt mg) (G_members_liked:Fn P w K mg base 1 "members_liked" ["heap","place","members"] (spD K 3 _M)) (G_agreed:Fn P w K mg base 2 "agreed" ["heap","some"] (spO K 2 _jt)) (G_claim:Fn P w K mg base 3 "claim" ["heap","seats","some","group"] (spD K 4 _kl)) (G_choices:Fn P w K mg base 1 "choices" ["candidates"] (spD K 1 _vj)) (G_liked:Fn P w K mg base 1 "liked" ["heap"] (spO K 1 _zn)):FnOk P w K mg base CX0 4 f fd ["heap","seats","members"] (spD K 3 _x0):=
 FnOk.d (fnO F _vv (k:=3) (n:=3) (m:=5) (b:=_vo) rfl rfl λcdv A outer s H E hr=>
  (_h (_V5 A6 rfl (_jh G_choices (hm hr) rfl (_a (DO.de (_qeb G_liked (hm hr) rfl (_a (_g 0 (pv 0)) _l))) _l)) (_zq 3 (_qj (i:=3) _vv.nd rfl (.inr rfl))) (_h (_qd9 (i:=4) (cl:=_) (N':=["place","some","heap","members"]) (js:=[none,some 3,some 0,some 2]) (by o_reads) (by exact(_H (DO.de (_qeb G_agreed (hm hr) rfl (_a (_g 0 (pv 0)) (_a (_g 3 (pv 3)) _l)))))) (λ_ _ _ q=>_D q) (by exact λ_ _ _ _ _=>(_B 0 (pgc 0))) (by exact λ_ _ _ _ _=>(_kb (_j6 _qjl _qf7 (_qi _u _jn rfl T.z_len _z1 (_a (_jh G_members_liked (hm hr) rfl (_a (_g 2 (pv 2)) (_a (_g 0 (pv 0)) (_a (_g 3 (pv 3)) _l)))) _l)) (_qi _u _jn rfl T.z_len _z1 (_a (_g 1 (pv 1)) _l)) (_P _)))) (by exact λ_ _ _ _ _=>(DE.o (_g 0 (pv 0)))) _vv.nd rfl rfl rfl)
   (_m (_Y1 (_qd8 (_jh G_claim (hm hr) rfl (_a (_g 0 (pv 0)) (_a (_g 1 (pv 1)) (_a (_g 3 (pv 3)) (_a (_g 4 (pv 4)) _l)))))) (_m (_G (DE.m _ (_Qe (_a (_g 3 (pv 3)) (_a (_g 4 (pv 4)) _l)))))) _j7))))
   (_m (_G (DE.m _ _V9)))))
theorem _Zz:FnScope ["script","k"] ["script","k"] (_e _v1):=fsc
theorem _Vm{f:Addr}{fd:Am}(F:Fun K "_law_cell" "_law_cell" _v1 f fd) (T:Txt mg):FnOk P w K mg base CX0 1 f fd ["script","k"] (spD K 2 _O):=
 FnOk.d (fnO F _Zz (k:=0) (n:=2) (m:=2) (b:=_j8) rfl rfl λcdv A outer s H E hr=>
  (_h (_Y1 (_j6 _qjl _qf7 (_g 1 (pv 1)) (_qi _u _jn rfl T.z_len _z1 (_a (_g 0 (pv 0)) _l)) (_P _)) (_m (_G (DE.m _ (_q6 (_g 0 (pv 0)) (_g 1 (pv 1)) (λ_ _=>rfl))))) _j7)
   (_h (_Y1 (_j6 (_Vi hr.units) _qbw (_g 0 (pv 0)) (DO.de (_J6 _l)) (_P _)) (_m (_G (DE.m _ (_xa _We _Wa (_xa _L _K (_xa _L _K (_g 1 (pv 1)) (_g 1 (pv 1))) _s) (_xa _L _K _s (_g 1 (pv 1))))))) _j7)
   (_m (_G (DE.m _ (_xa _qbx _qbu (_xa _L _K (_xa _We _Wa (_xa _We _Wa (_q6 (_g 0 (pv 0)) (_xa _qbx _qbu (_g 1 (pv 1)) (_qi _u _jn rfl T.z_len _z1 (_a (_g 0 (pv 0)) _l))) (λ_ _=>rfl)) (_xa _L _K (_xa _L _K (_g 1 (pv 1)) (_g 1 (pv 1))) _s)) _s) _s) _s)))))))
end
abbrev _zw:Stmt:=top 53
def _qgz(K:Frag):Sp:=λvs H Q _=>∃(F:Hp) (a:Addr) (ns:List Int) (at_ many:Nat),vs=[.ref a,.int (at_:Int),.int (many:Int)]/\_qwk F H/\SqE K F a (ns.map V.int)/\ns.length<=63/\at_+many<=900/\many<=12/\
 ∀(l:Addr) (H':Hp) (names:List Str),_qwk H H'->H l=none->H' l=some (.lst (names.map V.str))->names.length=many->names.Nodup->(∀x∈names,_qw x)->Q (.ref l) H'
section
variable{P:Ak}{w:World}{K:Frag}{mg:Str->Option Value}{base:Heap}
theorem _x:FnScope ["script","at","many","letters","names","k","rest","size","name","j"] ["script","at","many"] (_e _zw):=fsc
theorem _Xz{f:Addr}{fd:Am}(F:Fun K "_law_names" "_law_names" _zw f fd) (T:Txt mg) (zr:mg "range"=none) (G:Fn P w K mg base 1 "_law_cell" ["script","k"] (spD K 2 _O)):FnOk P w K mg base CX0 2 f fd ["script","at","many"] (_qgz K):=by
 obtain⟨fc,fdc,okc,mc,kc,bc⟩:=G;refine F.ok _x (k:=1) (λvs H Q E h=>by obtain⟨_,_,_,_,_,rfl,_⟩:=h;rfl) λcdv A outer s H vs Q E hr h=>⟨_,_j (_p (i:=3) _x.nd rfl (.inl rfl) _qn3) (_j (_p (i:=4) _x.nd rfl (.inl rfl) (_Qa _o)) (_j
  (_Jg A6 rfl (_vc rfl zr (_c (pv 2) _o)) (_qj (i:=5) _x.nd rfl (.inl rfl))
   (_j (_p (i:=6) _x.nd rfl (.inl rfl) (_q5 okc (hm hr) rfl mc kc bc .nil _jf (_c (pv 0) (_c (_jk _zy (pv 1) (pv 5)) _o))))
   (_j (_p (i:=7) _x.nd rfl (.inl rfl) (_jk _zy _n (_jk _ve (pv 6) _n)))
   (_j (_p (i:=8) _x.nd rfl (.inl rfl) _qn3)
   (_j (_Jg A6 rfl (_vc rfl zr (_c (pv 7) _o)) (_qj (i:=9) _x.nd rfl (.inl rfl))
    (_j (_p (i:=6) _x.nd rfl (.inl rfl) (_jk _Qq (pv 6) _n))
    (_w (_p (i:=8) _x.nd rfl (.inl rfl) (_jk _wi (pv 8) (_Jm _qki (pv 3) (_jk _ve (pv 6) _n) (λ_ _=>rfl)))))))
   (_j (_qbh A6 (_qo (_Vh (_qea hr)) (pv 8) (pv 4) (by rfl))
    (_w (_p (i:=8) _x.nd rfl (.inl rfl) (_jk _wi (_Jm _qki (pv 3) (_jk _ve (_jk _zy (_qjh PySem.F.plainAttrs_str PySem.F.slot_str_index PySem.F.type_str_index _qk4 (pv 3) (_c (_Jm _qki (pv 8) _n (λ_ _=>rfl)) _o)) _n) _n) (λ_ _=>rfl)) (_qjf _qmg (pv 8) (_Xu _n) _vb)))))
   (_w (_q4 (_qjh Cg C0 C1 _zc (pv 4) (_c (pv 8) _o))))))))))
  (_w (_xs (pv 4))))),?_⟩
 obtain⟨F0,a,ns,at_,many,rfl,sm,ha,hn,h9,hm,k⟩:=h;refine⟨by show 0<=Aj;decide,λl hl=>?_⟩;refine⟨_,rfl,(many:Int),rfl,by omega,by omega,_kz (n:=((many:Nat):Int).toNat) (λi σ' H'=>∃c5 c6 c7 c8 c9 names,σ'=[some (.ref a),some (.int (at_:Int)),some (.int (many:Int)),some (.str _xm),some (.ref l),c5,c6,c7,c8,c9]/\_qwk H H'/\H' l=some (.lst (names.map V.str))/\names.length=i/\names.Nodup/\∀x∈names,_qw x)
  ⟨none,none,none,none,none,[],rfl,_i hl,_b,rfl,nodup_nil,by simp⟩ (λi σ' H' hi hI=>?_) λσ' H' hI=>?_⟩
 ·obtain⟨c5,c6,c7,c8,c9,names,rfl,s1,hl1,hnl,hnd,hok⟩:=hI
  have hi':i<many:=by simpa using hi
  have ce:=_qdm ns (at_+i) (by omega);rw[show(((at_+i:Nat):Nat):Int)=(at_:Int)+(0+(i:Int)) by omega]at ce;refine⟨_,rfl,_,rfl,_,rfl,_,_,rfl,rfl,F0,[MB._r ns,.int ((at_:Int)+(0+(i:Int)))],_,sm.trans s1,.cons (.lst ha (_qx ns)) (.cons (.int _) .nil),rfl,ce,λv F' H2 e2 r2=>?_⟩;cases r2;generalize cellOf ns (at_+i)=c;have s2:=s1.trans e2.hh;have hl2:=e2.hh _ _ hl1;clear e2 hl1 s1;refine⟨_,rfl,_,_,rfl,rfl,(by show(0:Int)<8;decide),_,_,rfl,rfl,?_⟩;have b0:=Co c (b:=8) (by decide);have b1:=Bt c (b:=8) (by decide);dsimp only;generalize hsz:1+c%8=size;refine⟨_,rfl,size,rfl,by omega,by omega,_kz (n:=size.toNat) (λj σ3 H3=>∃(r:Int) (x:Str) (c9:Option V),σ3=[some (.ref a),some (.int (at_:Int)),some (.int (many:Int)),some (.str _xm),some (.ref l),some (.int (0+(i:Int))),some (.int r),some (.int size),some (.str x),c9]/\H3=H2/\x.length=j/\∀d∈x.cps.toList,97<=d/\d<123)
   ⟨c,"",c9,rfl,rfl,rfl,λd hd=>by rw[show(C8 "").cps.toList=[] by decide+kernel]at hd;cases hd⟩ (λj σ3 H3 hj hI=>?_) λσ3 H3 hI=>?_⟩
  ·obtain⟨r,x,c9,rfl,rfl,hx,hxl⟩:=hI
   have q0:=Co (r/8) (b:=26) (by decide);have q1:=Bt (r/8) (b:=26) (by decide);refine⟨_,rfl,_,_,rfl,rfl,⟨by decide,by decide⟩,?_⟩;refine⟨_,rfl,_,rfl,_,rfl,_,_,rfl,rfl,(by show(0:Int)<26;decide),_xm,_,_,rfl,rfl,_Qu,_w3 q0 q1,_,_,rfl,rfl,?_,?_⟩
   ·show x.length+1<=Aj
    rw[Ao];omega
   ·refine⟨_,_,_,rfl,rfl,?_,λd hd=>?_⟩
    ·rw[_k7,_qgy,length_append,<-_k7,hx];rfl
    ·rw[_qgy]at hd
     rcases C6.mp hd with hd|hd
     ·exact hxl d hd
     ·simp at hd;omega
  ·obtain⟨r,x,c9,rfl,rfl,hx,hxl⟩:=hI
   have hx0:_qw x:=⟨by omega,by omega,hxl⟩;clear hxl;obtain⟨m0,_,hm0⟩:=_qlq hx0 names (by omega);refine⟨λm σ4 H4=>∃y,σ4=[some (.ref a),some (.int (at_:Int)),some (.int (many:Int)),some (.str _xm),some (.ref l),some (.int (0+(i:Int))),some (.int r),some (.int size),some (.str y),c9]/\H4=H3/\_qw y/\adv m y∉names,⟨m0,x,rfl,rfl,hx0,hm0⟩,?_⟩;rintro m σ4 H4 ⟨y,rfl,rfl,hy,hadv⟩;refine⟨_,rfl,_,rfl,H4,.str y,names.map D.str,false,_qwk.refl _,.str y,.lst (.inl (.inl hl2)) (_z9 names),_wa hy 20,_j0 hok 19,_,rfl,?_⟩;simp only[Aw,if_false];rw[_k0]
   by_cases hin:y∈names
   ·rw[decide_eq_true hin,if_pos rfl]
    have hm1:1<=m:=by
     rcases Nat.eq_zero_or_pos m with e|e
     ·subst e;rw[_qlp hy]at hadv;exact absurd hin hadv
     ·exact e
    refine⟨λσ5 H5=>∃z,σ5=[some (.ref a),some (.int (at_:Int)),some (.int (many:Int)),some (.str _xm),some (.ref l),some (.int (0+(i:Int))),some (.int r),some (.int size),some (.str z),c9]/\H5=H4/\_qw z/\adv (m-1) z∉names,λσ5 H5 hz=>⟨m-1,by omega,hz⟩,?_⟩;obtain⟨c,t,ec,h1,h2,ey⟩:=_vg hy;obtain⟨_qvb,ho⟩:=_X6 (c-97) (by omega);rw[show 97+(c-97)=c by omega]at ho;have at0:atI y.cps.toList (0:Int)=some c:=by rw[ec];exact _Zm (j:=0) rfl
    have hyl:y.length<=Aj:=by rw[Ao];have:=hy.2.1;omega
    have q0:=Co (((c-97:Nat):Int)+1) (b:=26) (by decide);have q1:=Bt (((c-97:Nat):Int)+1) (b:=26) (by decide);refine⟨_,rfl,_,rfl,rfl,_,rfl,y,_,c,rfl,rfl,hyl,at0,_xm,⟨#[c]⟩,c-97,_qvb,rfl,rfl,ho,_,_,rfl,rfl,_,_,rfl,rfl,(by show(0:Int)<26;decide),_xm,_,_,rfl,rfl,_Qu,_w3 q0 q1,_,rfl,_,rfl,y,rfl,rfl,rfl,hy.1,hyl,_,_,rfl,rfl,?_,?_⟩
    ·show 1+(y.cps.toList.drop 1).toArray.size<=Aj
     rw[Ao]
     have:=hy.2.1
     rw[_k7]at this;simp at this⊢;omega
    ·have e5:((⟨#[97+((((c-97:Nat):Int)+1)%26).toNat]⟩:Str)++(⟨(y.cps.toList.drop 1).toArray⟩:Str))=adv 1 y:=by
      rw[_qp3,_Zn ec,ec];congr 3
     refine⟨_,?_,rfl,_qse hy 1,?_⟩
     ·rw[e5];rfl
     ·rw[_qpe hy,show 1+(m-1)=m by omega];exact hadv
   ·rw[decide_eq_false hin,if_neg (by simp)]
    refine⟨_,rfl,.inl ⟨rfl,_,SqL.of hl2⟩,_,rfl,l,_,_,rfl,rfl,hl2,?_,?_⟩
    ·rw[length_map,Ao];omega
    ·refine⟨_,_,_,_,_,names++[y],rfl,λb u hb=>?_,?_,by simp[hnl],?_,λz hz=>?_⟩
     ·rw[_f (_d hb hl)];exact s2 _ _ hb
     ·rw[_b,map_append];rfl
     ·exact Jb.mpr ⟨hnd,by simp,λp hp q hq=>by simp at hq;subst hq;rintro rfl;exact hin hp⟩
     ·rcases C6.mp hz with hz|hz
      ·exact hok z hz
      ·simp at hz;subst hz;exact hy
 ·obtain⟨c5,c6,c7,c8,c9,names,rfl,s1,hl1,hnl,hnd,hok⟩:=hI
  exact⟨_,rfl,k l H' names s1 hl hl1 (by simpa using hnl) hnd hok⟩
end
abbrev _qis:Stmt:=top 8
abbrev sInit:Stmt:=_x4 (top 50) 0
abbrev _qiy:Stmt:=_x4 (top 50) 1
abbrev sCast:Stmt:=_x4 (top 50) 2
abbrev sLift:Stmt:=_x4 (top 50) 3
abbrev sLay:Stmt:=_x4 (top 50) 4
abbrev sHeap:Stmt:=_x4 (top 50) 5
abbrev _qiz:Stmt:=_x4 (top 50) 6
abbrev _qj1:Stmt:=_x4 (top 50) 7
abbrev _qj0:Stmt:=_x4 (top 50) 8
abbrev _Z5:Stmt:=_x4 (top 50) 10
abbrev sNums:Stmt:=_x4 (top 50) 9
theorem sb:¬ (("standing":Str)="ballots"):=by decide+kernel
def flds(l d:Addr):List (Str×V):=_qvd "ballots" (.ref d) (_qvd "standing" (.ref l) [])
theorem _wt(l d:Addr):(flds l d).lookup ("standing":Str)=some (.ref l):=by
 unfold flds;rw[_qt,if_neg sb,_qt,if_pos rfl]
theorem _kp(l d:Addr):(flds l d).lookup ("ballots":Str)=some (.ref d):=by
 unfold flds;rw[_qt,if_pos rfl]
theorem _C{l d:Addr}{m:Str}(h1:¬m="ballots":=by decide+kernel) (h2:¬m="standing":=by decide+kernel):(flds l d).lookup m=none:=by
 unfold flds;rw[_qt,if_neg h1,_qt,if_neg h2];rfl
abbrev _qwr:=List (List Int×Int)
def kd(kv:_qwr):List (List Key×V):=kv.map λp=>(p.1.map Sum.inl,.int p.2)
def look(kv:_qwr) (k:List Int):Option Int:=(kv.find? λp=>decide (p.1=k)).map (·.2)
def put(kv:_qwr) (k:List Int) (v:Int):_qwr:=if(look kv k).isSome=true then kv.map λp=>if p.1=k then(p.1,v)else p else kv++[(k,v)]
def drop(kv:_qwr) (k:List Int):_qwr:=kv.filter λp=>decide (p.1≠k)
theorem _wp(kv:_qwr) (k:List Int):_quw (kd kv) (k.map Sum.inl)=(look kv k).map V.int:=by
 unfold _quw kd look;rw[List.find?_map]
 have:((λx:List Key×V=>decide (x.1=k.map Sum.inl))∘λp:List Int×Int=>(p.1.map Sum.inl,V.int p.2))=λp=>decide (p.1=k):=by
  funext p
  simp only[Fp]
  by_cases e:p.1=k
  ·simp[e]
  ·simp[e];exact λz=>e (_X9 z)
 rw[this];cases kv.find? λp=>decide (p.1=k)<;>rfl
theorem _qoq(kv:_qwr) (k:List Int):_qg5 (kd kv) (k.map Sum.inl)=kd (drop kv k):=by
 unfold _qg5 kd drop;rw[List.filter_map];congr 1;apply List.filter_congr;intro p _;simp only[Fp]
 by_cases e:p.1=k
 ·simp[e]
 ·simp[e];exact λz=>e (_X9 z)
theorem _qms(kv:_qwr) (k:List Int) (v:Int):_qvc (kd kv) (k.map Sum.inl) (.int v)=kd (put kv k v):=by
 have any:((kd kv).any λx=>decide (x.1=k.map Sum.inl))=(look kv k).isSome:=by
  rw[_xo,_wp];cases look kv k<;>rfl
 unfold _qvc put;rw[any]
 by_cases h:(look kv k).isSome=true
 ·rw[if_pos h,if_pos h]
  unfold kd;rw[map_map,map_map];apply map_congr_left;intro p _;simp only[Fp]
  by_cases e:p.1=k
  ·simp[e]
  ·rw[if_neg e,if_neg λz=>e (_X9 z)]
 ·rw[if_neg h,if_neg h]
  unfold kd;rw[map_append];rfl
theorem _qft(kv:_qwr):(kd kv).length=kv.length:=by simp[kd]
structure HallAt(C:Addr) (H:Hp) (p l d:Addr) (names:List Str) (kv:_qwr):Prop where
 ob:∃dx,H p=some (.ins C dx (flds l d))
 st:H l=some (.lst (names.map V.str))
 ba:H d=some (.dT (kd kv))
theorem HallAt.keep{C:Addr}{H H':Hp}{p l d:Addr}{names:List Str}{kv:_qwr}(h:HallAt C H p l d names kv) (s:_qwk H H'):HallAt C H' p l d names kv:=by
 obtain⟨⟨dx,h1⟩,h2,h3⟩:=h;exact⟨⟨dx,s _ _ h1⟩,s _ _ h2,s _ _ h3⟩
structure Hx(K:Frag) (mg:Str->Option Value) (C:Addr):Prop where
 cl:Cls K C
 nS:_Zo K C "standing"
 nB:_Zo K C "ballots"
 mgC:mg "Hall"=some (.ref C)
 m6:∃t,mg "MOST_STANDING"=some (.int 6 t)
 m12:∃t,mg "MOST_PILES"=some (.int 12 t)
 m18:∃t,mg "MOST_BALLOTS"=some (.int 1000000000000000000 t)
 zr:mg "range"=none
 zlen:mg "len"=none
 zlist:mg "list"=none
 ztuple:mg "tuple"=none
 zsorted:mg "sorted"=none
 zmax:mg "max"=none
 zmin:mg "min"=none
 zall:mg "all"=none
 zenum:mg "enumerate"=none
 zisi:mg "isinstance"=none
def _qii(C:Addr):Sp:=λvs H Q _=>∃(p dx:Addr),vs=[.ref p]/\H p=some (.ins C dx [])/\∀(l d:Addr) (H':Hp),H l=none->H d=none->HallAt C H' p l d [] []->(∀b o,H b=some o->b≠p->H' b=some o)->Q .non H'
def _qan(C:Addr):Sp:=λvs H Q _=>∃(p l d:Addr) (names:List Str) (kv:_qwr) (x:Str),vs=[.ref p,.str x]/\HallAt C H p l d names kv/\names.length<6/\x∉names/\_qw x/\(∀y∈names,_qw y)/\Q .non (upd H l (.lst ((names++[x]).map V.str)))
def _qao(C:Addr):Sp:=λvs H Q _=>∃(p l d:Addr) (names:List Str) (kv:_qwr),vs=[.ref p]/\HallAt C H p l d names kv/\∀n,H n=none->Q (.ref n) (upd H n (.lst (names.map V.str)))
def spLay(C:Addr):Sp:=λvs H Q _=>∃(p l d b:Addr) (names:List Str) (kv:_qwr) (k:List Int) (v:Int),vs=[.ref p,.ref b,.int v]/\HallAt C H p l d names kv/\kv.length<=12/\H b=some (.tup (k.map V.int))/\
 Q .non (upd H d (.dT (kd (if v=0 then drop kv k else put kv k v))))
section
variable{P:Ak}{w:World}{K:Frag}{mg:Str->Option Value}{base:Heap}{C:Addr}
theorem scI:FnScope ["self"] ["self"] (_e sInit):=fsc
theorem _qnj{f:Addr}{fd:Am}(F:Fun K "__init__" "Hall.__init__" sInit f fd) (T:Hx K mg C):FnOk P w K mg base CX0 1 f fd ["self"] (_qii C):=by
 refine F.ok scI (λvs H Q E h=>?_) (λcdv A outer s H vs Q E hr h=>?_)
 ·obtain⟨p,dx,rfl,_⟩:=h
  rfl
 ·obtain⟨p,dx,rfl,hp,k⟩:=h
  refine⟨_,_j (_qmv (pv 0) (_Qa _o) rfl) (_w (_qmv (pv 0) _Jn rfl)),?_⟩;refine⟨by show 0<=Aj;decide,λl hl=>?_⟩;have npl:p≠l:=_d hp hl;refine⟨_,rfl,p,C,dx,[],rfl,(by rw[_f npl];exact hp),T.cl,T.nS,(by show 0<1000;decide),?_⟩;intro d hd;have npd:p≠d:=by rintro rfl;rw[_b]at hd;cases hd
  have nld:l≠d:=by rintro rfl;rw[_f npl.symm,_b]at hd;cases hd
  rw[_f npd.symm,_f nld.symm]at hd;refine⟨_,rfl,p,C,dx,_,rfl,(by rw[_f npd,_b]),T.cl,T.nB,(by show 1<1000;decide),?_⟩;refine k l d _ hl hd ⟨⟨dx,_b⟩,by rw[_f npl.symm,_f nld,_f npl.symm,_b];rfl,by rw[_f npd.symm,_b];rfl⟩ λb o e hb=>?_;rw[_f hb,_f (_d e hd),_f hb,_f (_d e hl)];exact e
theorem scS:FnScope ["self","name"] ["self","name"] (_e _qiy):=fsc
theorem _qjn{f:Addr}{fd:Am}(F:Fun K "stand" "Hall.stand" _qiy f fd) (T:Hx K mg C):FnOk P w K mg base CX0 1 f fd ["self","name"] (_qan C):=by
 obtain⟨t6,h6⟩:=T.m6;refine F.ok scS (k:=0) (λvs H Q E h=>?_) (λcdv A outer s H vs Q E hr h=>?_)
 ·obtain⟨_,_,_,_,_,_,rfl,_⟩:=h
  rfl
 ·obtain⟨p,l,d,names,kv,x,rfl,S,h6l,hin,hx,hok,k⟩:=h
  obtain⟨⟨dx,h1⟩,h2,h3⟩:=id S;refine⟨_,_j (_Z7 (_qo (_Vh (_qea hr)) (pv 1) (_v4 (pv 0) rfl) (by rfl)) _Qn _jj)
   (_j (_Z7 (_qo op_ge (_qn _u rfl T.zlen _z1 (_c (_v4 (pv 0) rfl) _o)) (_qbn (v:=.int 6) rfl h6 ⟨t6,rfl⟩) (_P _)) _Qn _jj)
   (_w (_q4 (_qjh Cg C0 C1 _zc (_v4 (pv 0) rfl) (_c (pv 1) _o))))),?_⟩
  refine⟨_,rfl,_,rfl,p,C,dx,_,_,rfl,h1,T.cl,T.nS,_wt _ _,H,.str x,names.map D.str,false,_qwk.refl _,.str x,.lst (.inl (.inl h2)) (_z9 names),_wa hx 20,_j0 hok 19,_,rfl,?_⟩;simp only[Aw,if_false];rw[_k0,decide_eq_false hin];refine _qvp ?_;refine⟨_,rfl,p,C,dx,_,_,rfl,h1,T.cl,T.nS,_wt _ _,l,_,rfl,.inl (SqL.of h2),_,_,rfl,rfl,_,rfl,?_⟩;rw[length_map,decide_eq_false (show¬ (6:Int)<=(names.length:Int) by omega)];refine _qvp ?_;refine⟨_,rfl,p,C,dx,_,_,rfl,h1,T.cl,T.nS,_wt _ _,.inl ⟨rfl,_,SqL.of h2⟩,_,rfl,l,_,_,rfl,rfl,h2,by rw[length_map,Ao];omega,?_⟩;rw[map_append]at k;exact k
theorem scN:FnScope ["self"] ["self"] (_e _qiz):=fsc
theorem _qjp{f:Addr}{fd:Am}(F:Fun K "names" "Hall.names" _qiz f fd) (T:Hx K mg C):FnOk P w K mg base CX0 1 f fd ["self"] (_qao C):=by
 refine F.ok scN (λvs H Q E h=>?_) (λcdv A outer s H vs Q E hr h=>?_)
 ·obtain⟨_,_,_,_,_,rfl,_⟩:=h
  rfl
 ·obtain⟨p,l,d,names,kv,rfl,S,k⟩:=h
  obtain⟨⟨dx,h1⟩,h2,h3⟩:=id S;refine⟨_,_w (_xs (_qz _xi rfl T.zlist _Zj (_c (_v4 (pv 0) rfl) _o))),?_⟩;exact⟨_,rfl,p,C,dx,_,_,rfl,h1,T.cl,T.nS,_wt _ _,l,_,rfl,.inl (SqL.of h2),λn hn=>k n hn⟩
theorem scL:FnScope ["self","marks","many"] ["self","marks","many"] (_e sLay):=fsc
theorem _qqr{f:Addr}{fd:Am}(F:Fun K "lay" "Hall.lay" sLay f fd) (T:Hx K mg C):FnOk P w K mg base CX0 1 f fd ["self","marks","many"] (spLay C):=by
 refine F.ok scL (λvs H Q E h=>?_) (λcdv A outer s H vs Q E hr h=>?_)
 ·obtain⟨_,_,_,_,_,_,_,_,rfl,_⟩:=h
  rfl
 ·obtain⟨p,l,d,b,names,kv,k,v,rfl,S,h12,hb,q⟩:=h
  obtain⟨⟨dx,h1⟩,h2,h3⟩:=id S;have hb':H b=some (.tup ((k.map Sum.inl:List Key).map kV)):=by rw[_zp];exact hb
  refine⟨_,_w (_Z7 (_qo op_eq (pv 2) _n (_P _)) (_w (_q4 (_qf4 (_Wu hr) (_v4 (pv 0) rfl) (pv 1) _Yp ⟨rfl,rfl,rfl,rfl⟩)))
   (_w (_qbi (_Wu hr) (_v4 (pv 0) rfl) (pv 1) (pv 2) rfl))),?_⟩
  refine⟨_,rfl,rfl,_,rfl,?_⟩
  by_cases hv:v=0
  ·subst hv
   rw[if_pos rfl]at q;refine _qvo ?_;refine⟨_,rfl,p,C,dx,_,_,rfl,h1,T.cl,T.nB,_kp _ _,d,rfl,.inr ⟨_,.inl h3⟩,_,rfl,kd kv,k.map Sum.inl,b,h3,rfl,hb',λv hv=>?_,λhv=>?_⟩
   ·rw[_qoq];exact q
   ·rw[_wp]at hv
    have:drop kv k=kv:=by
     unfold drop;rw[Au];intro p hp
     simp
     rintro rfl
     have:(kv.find? λx=>decide (x.1=p.1))≠none:=by
      rw[ne_eq,Fu];intro z;exact z p hp (by simp)
     cases e:kv.find? λx=>decide (x.1=p.1)with
     |none=>exact this e
     |some y=>unfold look at hv;rw[e]at hv;cases hv
    rw[this]at q;have e2:upd H d (.dT (kd kv))=H:=by
     funext c
     by_cases hc:c=d
     ·subst hc;rw[_b,h3]
     ·rw[_f hc]
    rw[e2]at q;exact q
  ·rw[if_neg hv]at q
   rw[decide_eq_false (by simp[hv])];refine _qvp ?_;refine⟨_,rfl,_,rfl,p,C,dx,_,_,rfl,h1,T.cl,T.nB,_kp _ _,_,rfl,d,_,rfl,DPut.t (k:=k.map Sum.inl) h3 hb' (by rw[_qft,Ao];omega),?_⟩;rw[_qms];exact q
end
def _qvl(st xs:List Str):List Int:=(st.zipIdx.filter λp=>decide (p.1∈xs)).map λp=>(p.2:Int)
theorem _qsc(st xs:List Str):((xs.map λy=>decide (y∈st)).all id)=decide (∀y∈xs,y∈st):=by
 rw[Az]
 simp
def _qek(C:Addr):Sp:=λvs H Q _=>∃(p l d z:Addr) (names:List Str) (kv:_qwr) (xs:List Str),vs=[.ref p,.ref z]/\HallAt C H p l d names kv/\H z=some (.lst (xs.map V.str))/\names.length<=6/\xs.length<=9/\(∀y∈names,_qw y)/\(∀y∈xs,_qw y)/\
 (∀y∈xs,y∈names)/\∀r H',_qwk H H'->H r=none->H' r=some (.lst ((_qvl names xs).map V.int))->Q (.ref r) H'
def strV:V->Str
 | .str x=>x
 |_=>""
section
variable{P:Ak}{w:World}{K:Frag}{mg:Str->Option Value}{base:Heap}{C:Addr}
theorem scM:FnScope ["self","names"] ["self","names"] (_e sNums):=fsc
theorem _qnh{f:Addr}{fd:Am}(F:Fun K "numbers_of" "Hall.numbers_of" sNums f fd) (T:Hx K mg C):FnOk P w K mg base CX0 1 f fd ["self","names"] (_qek C):=by
 refine F.ok scM (k:=0) (λvs H Q E h=>?_) (λcdv A outer s H vs Q E hr h=>?_)
 ·obtain⟨_,_,_,_,_,_,_,rfl,_⟩:=h
  rfl
 ·obtain⟨p,l,d,z,names,kv,xs,rfl,S,hz,h6,h9,hok,hxs,hall,kq⟩:=h
  obtain⟨⟨dx,h1⟩,h2,h3⟩:=id S;refine⟨_,_j (_Z7 (_qmu (_qmt (_qn (_Xb rfl) rfl T.zall _qlh (_c (_xv (cl:=_) (N':=["name","self"]) (js:=[none,some 0]) (tc:=_Qi) (te:=tOp (rInD K false) (_qv1 0) (tFld K (_qv1 1) "standing")) (by o_reads)
    (_H (pv 1)) (λ_ _ _ _ _=>pgc 0) pif0
    (λ_ _ _ _ _=>_wh (_qhj rfl (_qea hr)) (pv 0) (_qhe rfl (pv 1) rfl) (by rfl))) _o)))) _Qn _jj)
   (_w (_xs (_xv (cl:=_) (N':=["number","name","names"]) (js:=[none,none,some 1]) (g:=gTup K 2 (_qd0 (_z0 0) (_qd0 (_z0 1) gNil))) (tc:=tTest (tOp (rInD K false) (_qv1 1) (_qv1 2))) (te:=_qv1 0) (by o_reads)
    (_qbk rfl T.zenum (_v4 (pv 0) rfl)) (λ_ _ _ _ _=>_qhd rfl rfl (_xu (pgc 0) (_xu (pgc 1) _Xv)))
    (λ_ _ _ _ _=>.inr ⟨_,rfl,_qo (_qhj rfl (_qea hr)) (pv 1) (pv 2) (by rfl)⟩) (λ_ _ _ _ _=>pv 0)))),?_⟩
  refine⟨_,rfl,z,rfl,⟨_,SqL.of hz⟩,_ww (SqL.of hz) (by rw[length_map,Ao];omega) (λ_=>true) (λv=>.bl (decide (strV v∈names))) (λσ=>∃c,σ=[c,some (.ref p)]) ⟨none,rfl⟩ (λi x σ' H' hx hS sm=>?_) λr hr'=>?_⟩
  ·obtain⟨c,rfl⟩:=hS
   obtain⟨y,hy,rfl⟩:∃y∈xs,x=V.str y:=by
    rw[getElem?_map]at hx;cases e:xs[i]? with
    |none=>rw[e]at hx;cases hx
    |some q=>rw[e]at hx;exact⟨q,mem_of_getElem? e,(Option.some.inj hx).symm⟩
   refine⟨⟨_,rfl⟩,λR h=>h,λR _ h=>?_⟩;refine⟨_,rfl,_,rfl,p,C,dx,_,_,rfl,sm _ _ h1,T.cl,T.nS,_wt _ _,H',.str y,names.map D.str,false,_qwk.refl _,.str y,.lst (.inl (.inl (sm _ _ h2))) (_z9 names),_wa (hxs y hy) 20,_j0 hok 19,?_⟩;simp only[Aw,if_false];rw[_k0];exact h
  ·rw [Au.mpr (by simp),map_map]
   have sm1:_qwk H (upd H r (.lst (xs.map ((λv=>V.bl (decide (strV v∈names)))∘V.str)))):=_i hr';refine⟨r,xs.map λy=>decide (y∈names),rfl,?_,?_⟩
   ·rw[map_map];exact SqL.of _b
   ·rw[_qsc]
    refine⟨_,rfl,?_⟩;generalize upd H r (.lst (xs.map ((λv=>V.bl (decide (strV v∈names)))∘V.str)))=H1 at sm1⊢;rw[decide_eq_true hall];refine _qvp ?_;refine⟨_,rfl,p,C,dx,_,_,rfl,sm1 _ _ h1,T.cl,T.nS,_wt _ _,l,rfl,⟨_,SqL.of (sm1 _ _ h2)⟩,_qdh (SqL.of (sm1 _ _ h2)) (by rw[length_map,Ao];omega) (λ_ v=>decide (strV v∈xs)) (λi _=>.int (i:Int)) (λσ=>∃c c',σ=[c,c',some (.ref z)]) ⟨none,none,rfl⟩ (λi x σ' H' hx hS sm=>?_) λr2 H2 hr2 sm2 hl2=>?_⟩
    ·obtain⟨c,c',rfl⟩:=hS
     obtain⟨y,hy,rfl⟩:∃y∈names,x=V.str y:=by
      rw[getElem?_map]at hx;cases e:names[i]? with
      |none=>rw[e]at hx;cases hx
      |some q=>rw[e]at hx;exact⟨q,mem_of_getElem? e,(Option.some.inj hx).symm⟩
     refine⟨⟨_,_,rfl⟩,λR h=>?_,λR _ h=>⟨_,rfl,h⟩⟩;refine⟨_,rfl,_,rfl,H',.str y,xs.map D.str,false,_qwk.refl _,.str y,.lst (.inl (.inl (sm _ _ (sm1 _ _ hz)))) (_z9 xs),_wa (hok y hy) 20,_j0 hxs 19,_,rfl,?_⟩;simp only[Aw,if_false];rw[_k0];exact h
    ·refine kq r2 H2 (sm1.trans sm2) (sm1.free hr2) ?_
     rw[hl2];congr 2;unfold _qvl;rw[List.zipIdx_map,List.filter_map,map_map,map_map];rfl
end
def lay(kv:_qwr) (k:List Int) (v:Int):_qwr:=if v=0 then drop kv k else put kv k v
def wt(kv:_qwr) (k:List Int):Int:=(look kv k).getD 0
def _qij(C:Addr):Sp:=λvs H Q _=>∃(p l d z:Addr) (names:List Str) (kv:_qwr) (xs:List Str) (v:Int),vs=[.ref p,.int v,.ref z]/\HallAt C H p l d names kv/\H z=some (.lst (xs.map V.str))/\names.length<=6/\xs.length<=9/\kv.length<=12/\(∀y∈names,_qw y)/\(∀y∈xs,_qw y)/\(∀y∈xs,y∈names)/\
 ((look kv (_qvl names xs)).isSome=true\/kv.length<12)/\wt kv (_qvl names xs)+v<=10^18/\∀H',(∀b o,H b=some o->b≠d->H' b=some o)->H' d=some (.dT (kd (lay kv (_qvl names xs) (wt kv (_qvl names xs)+v))))->Q .non H'
def spLift(C:Addr):Sp:=λvs H Q _=>∃(p l d z:Addr) (names:List Str) (kv:_qwr) (xs:List Str) (v:Int),vs=[.ref p,.int v,.ref z]/\HallAt C H p l d names kv/\H z=some (.lst (xs.map V.str))/\names.length<=6/\xs.length<=9/\kv.length<=12/\(∀y∈names,_qw y)/\(∀y∈xs,_qw y)/\(∀y∈xs,y∈names)/\
 v<=wt kv (_qvl names xs)/\∀H',(∀b o,H b=some o->b≠d->H' b=some o)->H' d=some (.dT (kd (lay kv (_qvl names xs) (wt kv (_qvl names xs)-v))))->Q .non H'
def swap(kv:_qwr):List (Int×List Int):=kv.map λp=>(p.2,p.1)
def _qel(K:Frag) (C:Addr):Sp:=λvs H Q _=>∃(p l d:Addr) (names:List Str) (kv:_qwr),vs=[.ref p]/\HallAt C H p l d names kv/\kv.length<60/\(∀q∈kv,q.1.length<60)/\
 ∀v F' H' A,Own K F' H' v (.lst ((_Xm (swap kv)).map _qbj)) A->_qwk F' H'->(∀b,A b->F' b=none/\H b=none)->_qwk H H'->Q v H'
section
variable{P:Ak}{w:World}{K:Frag}{mg:Str->Option Value}{base:Heap}{C:Addr}
theorem scC:FnScope ["self","many","names","marks","together"] ["self","many","names"] (_e sCast):=fsc
theorem _qnl{f fn fl:Addr}{fd fdn fdl:Am}(F:Fun K "cast" "Hall.cast" sCast f fd) (T:Hx K mg C) (GN:FnOk P w K mg base CX0 1 fn fdn ["self","names"] (_qek C)) (bN:L2.Binds K fdn ["self","names"] []) (mN:Meth K C "numbers_of" fn)
  (GL:FnOk P w K mg base CX0 1 fl fdl ["self","marks","many"] (spLay C)) (bL:L2.Binds K fdl ["self","marks","many"] []) (mL:Meth K C "lay" fl):FnOk P w K mg base CX0 2 f fd ["self","many","names"] (_qij C):=by
 obtain⟨t12,h12⟩:=T.m12;obtain⟨t18,h18⟩:=T.m18;refine F.ok scC (k:=1) (λvs H Q E h=>?_) (λcdv A outer s H vs Q E hr h=>?_)
 ·obtain⟨_,_,_,_,_,_,_,_,rfl,_⟩:=h
  rfl
 ·obtain⟨p,l,d,z,names,kv,xs,v,rfl,S,hz,h6,h9,hkv,hok,hxs,hin,hfull,hbig,kq⟩:=h
  obtain⟨⟨dx,h1⟩,h2,h3⟩:=id S;refine⟨_,_j (_p (i:=3) scC.nd rfl (.inl rfl) (_qz _ql rfl T.ztuple _kd (_c (_qb (pv 0) T.cl mN GN hr bN .nil _jf (_c (pv 2) _o)) _o)))
   (_j (_Z7 (PW.pt (_qq9 (_qj9 (_qf5 (_Wu hr) (pv 3) (_v4 (pv 0) rfl))) (_qmr (_qo op_ge (_qn _W9 rfl T.zlen _z1 (_c (_v4 (pv 0) rfl) _o)) (_qbn (v:=.int 12) rfl h12 ⟨t12,rfl⟩) (_P _))))) _Qn _jj)
   (_j (_p (i:=4) scC.nd rfl (.inl rfl) (_jk _zy (_Jo (_Wu hr) (_v4 (pv 0) rfl) (pv 3) _n ⟨rfl,rfl,rfl,rfl⟩) (pv 1)))
   (_j (_Z7 (_qo op_gt (pv 4) (_qbn (v:=.int 1000000000000000000) rfl h18 ⟨t18,rfl⟩) (_P _)) _Qn _jj)
   (_w (_q4 (_qb (pv 0) T.cl mL GL hr bL .nil _jf (_c (pv 3) (_c (pv 4) _o)))))))),?_⟩
  refine⟨_,rfl,p,dx,_,rfl,h1,_C,_,rfl,p,l,d,z,names,kv,xs,rfl,S,hz,h6,h9,hok,hxs,hin,λr H1 sm1 hr0 hr1'=>?_⟩;generalize hk:_qvl names xs=k at*;refine⟨r,_,rfl,.inl ⟨SqL.of hr1',λb hb=>?_⟩⟩;have sm2:_qwk H (upd H1 b (.tup (k.map V.int))):=sm1.trans (_i hb);have hb2:(upd H1 b (.tup (k.map V.int))) b=some (.tup ((k.map Sum.inl:List Key).map kV)):=by rw[_b,_zp]
  have hb2':(upd H1 b (.tup (k.map V.int))) b=some (.tup (k.map V.int)):=_b;generalize upd H1 b (.tup (k.map V.int))=H2 at sm2 hb2 hb2'⊢;have S2:=S.keep sm2;have g:_qww H2 d (.ref b) (_quw (kd kv) (k.map Sum.inl)):=_qww.t S2.ba hb2;rw[_wp]at g;have big:(((look kv k).map V.int).getD (.int 0))=.int (wt kv k):=by unfold wt;cases look kv k<;>rfl
  refine⟨_,rfl,_,rfl,p,C,dx,_,_,rfl,sm2 _ _ h1,T.cl,T.nB,_kp _ _,d,_,rfl,g,_,rfl,?_⟩;rw[show((look kv k).map V.int).isSome=(look kv k).isSome by cases look kv k<;>rfl];have hb18:¬ (1000000000000000000:Int)<wt kv k+v:=λh=>absurd (Int.lt_of_lt_of_le h hbig) (by decide)
  by_cases hs:(look kv k).isSome=true
  ·rw[hs]
   refine _qvp ?_;refine _qvp ?_;refine⟨_,rfl,p,C,dx,_,_,rfl,sm2 _ _ h1,T.cl,T.nB,_kp _ _,d,rfl,.inr ⟨_,.inl S2.ba⟩,_,rfl,_,g,?_⟩;rw[big];refine⟨_,rfl,_,_,rfl,rfl,?_⟩;refine⟨_,rfl,_,_,rfl,rfl,_,rfl,?_⟩;rw[decide_eq_false hb18];refine _qvp ?_;exact⟨_,rfl,p,dx,_,rfl,sm2 _ _ h1,_C,_,rfl,_,rfl,p,l,d,b,names,kv,k,_,rfl,S2,hkv,hb2',kq _ (λc o hc hcd=>by rw[_f hcd];exact sm2 _ _ hc) _b⟩
  ·have hs':(look kv k).isSome=false:=by simpa using hs
   rw[hs'];refine _qvo ?_;refine⟨_,rfl,p,C,dx,_,_,rfl,sm2 _ _ h1,T.cl,T.nB,_kp _ _,d,_,rfl,S2.ba,_,_,rfl,rfl,_,rfl,?_⟩;have hl12:¬ (12:Int)<=((kd kv).length:Int):=by rw[_qft];have:=hfull.resolve_left hs;omega
   rw[decide_eq_false hl12];refine _qvp ?_;refine⟨_,rfl,p,C,dx,_,_,rfl,sm2 _ _ h1,T.cl,T.nB,_kp _ _,d,rfl,.inr ⟨_,.inl S2.ba⟩,_,rfl,_,g,?_⟩;rw[big];refine⟨_,rfl,_,_,rfl,rfl,?_⟩;refine⟨_,rfl,_,_,rfl,rfl,_,rfl,?_⟩;rw[decide_eq_false hb18];refine _qvp ?_;exact⟨_,rfl,p,dx,_,rfl,sm2 _ _ h1,_C,_,rfl,_,rfl,p,l,d,b,names,kv,k,_,rfl,S2,hkv,hb2',kq _ (λc o hc hcd=>by rw[_f hcd];exact sm2 _ _ hc) _b⟩
theorem scF:FnScope ["self","many","names","marks","lying"] ["self","many","names"] (_e sLift):=fsc
theorem _qni{f fn fl:Addr}{fd fdn fdl:Am}(F:Fun K "lift" "Hall.lift" sLift f fd) (T:Hx K mg C) (GN:FnOk P w K mg base CX0 1 fn fdn ["self","names"] (_qek C)) (bN:L2.Binds K fdn ["self","names"] []) (mN:Meth K C "numbers_of" fn)
  (GL:FnOk P w K mg base CX0 1 fl fdl ["self","marks","many"] (spLay C)) (bL:L2.Binds K fdl ["self","marks","many"] []) (mL:Meth K C "lay" fl):FnOk P w K mg base CX0 2 f fd ["self","many","names"] (spLift C):=by
 refine F.ok scF (k:=1) (λvs H Q E h=>?_) (λcdv A outer s H vs Q E hr h=>?_)
 ·obtain⟨_,_,_,_,_,_,_,_,rfl,_⟩:=h
  rfl
 ·obtain⟨p,l,d,z,names,kv,xs,v,rfl,S,hz,h6,h9,hkv,hok,hxs,hin,hv,kq⟩:=h
  obtain⟨⟨dx,h1⟩,h2,h3⟩:=id S;refine⟨_,_j (_p (i:=3) scF.nd rfl (.inl rfl) (_qz _ql rfl T.ztuple _kd (_c (_qb (pv 0) T.cl mN GN hr bN .nil _jf (_c (pv 2) _o)) _o)))
   (_j (_p (i:=4) scF.nd rfl (.inl rfl) (_Jo (_Wu hr) (_v4 (pv 0) rfl) (pv 3) _n ⟨rfl,rfl,rfl,rfl⟩))
   (_j (_Z7 (_qo _qjl (pv 4) (pv 1) (_P _)) _Qn _jj)
   (_w (_q4 (_qb (pv 0) T.cl mL GL hr bL .nil _jf (_c (pv 3) (_c (_jk _Vg (pv 4) (pv 1)) _o))))))),?_⟩
  refine⟨_,rfl,p,dx,_,rfl,h1,_C,_,rfl,p,l,d,z,names,kv,xs,rfl,S,hz,h6,h9,hok,hxs,hin,λr H1 sm1 hr0 hr1'=>?_⟩;generalize hk:_qvl names xs=k at*;refine⟨r,_,rfl,.inl ⟨SqL.of hr1',λb hb=>?_⟩⟩;have sm2:_qwk H (upd H1 b (.tup (k.map V.int))):=sm1.trans (_i hb);have hb2:(upd H1 b (.tup (k.map V.int))) b=some (.tup ((k.map Sum.inl:List Key).map kV)):=by rw[_b,_zp]
  have hb2':(upd H1 b (.tup (k.map V.int))) b=some (.tup (k.map V.int)):=_b;generalize upd H1 b (.tup (k.map V.int))=H2 at sm2 hb2 hb2'⊢;have S2:=S.keep sm2;have g:_qww H2 d (.ref b) (_quw (kd kv) (k.map Sum.inl)):=_qww.t S2.ba hb2;rw[_wp]at g;have big:(((look kv k).map V.int).getD (.int 0))=.int (wt kv k):=by unfold wt;cases look kv k<;>rfl
  refine⟨_,rfl,p,C,dx,_,_,rfl,sm2 _ _ h1,T.cl,T.nB,_kp _ _,d,rfl,.inr ⟨_,.inl S2.ba⟩,_,rfl,_,g,?_⟩;rw[big];refine⟨_,rfl,_,rfl,_,_,rfl,rfl,_,rfl,?_⟩;rw[decide_eq_false (show¬wt kv k<v by omega)];refine _qvp ?_;exact⟨_,rfl,p,dx,_,rfl,sm2 _ _ h1,_C,_,rfl,_,rfl,_,rfl,_,_,rfl,rfl,p,l,d,b,names,kv,k,_,rfl,S2,hkv,hb2',kq _ (λc o hc hcd=>by rw[_f hcd];exact sm2 _ _ hc) _b⟩
end
section
variable{P:Ak}{w:World}{K:Frag}{mg:Str->Option Value}{base:Heap}{C:Addr}
theorem _Xo:FnScope ["heap","weights","weight","marks","key"] ["heap"] (_e _qis):=fsc
theorem _qnc{f:Addr}{fd:Am}(F:Fun K "tidy" "tidy" _qis f fd) (T:Hx K mg C):FnOk P w K mg base CX0 2 f fd ["heap"] (spO K 1 _qm7):=
 F.ok _Xo (k:=1) (λvs H Q E h=>by obtain⟨F,ds,d,_,r,hl,_⟩:=h;rw[r.length,hl];rfl) λcdv A outer s H vs Q E hr h=>⟨_,_j (_p (i:=1) _Xo.nd rfl (.inr rfl) _Jn) (_j
  (_Jg A6 rfl (_H (pv 0)) (_qf3 rfl (_xu (_qj (i:=2) _Xo.nd rfl (.inl rfl)) (_xu (_qj (i:=3) _Xo.nd rfl (.inl rfl)) _Xv)))
   (_j (_p (i:=4) _Xo.nd rfl (.inl rfl) (_qz _ql rfl T.ztuple _kd (_c (pv 3) _o)))
   (_w (_qbi (_Wu hr) (pv 1) (pv 4) (_jk _zy (_Jo (_Wu hr) (pv 1) (pv 4) _n ⟨rfl,rfl,rfl,rfl⟩) (pv 2)) rfl))))
  (_w (_xs (_xv (cl:=_) (N':=["key","weights"]) (js:=[none,some 1]) (tc:=_Qi) (te:=tTup (_w7 (tDGet (_qv1 1) (_qv1 0)) (_w7 (tCB (rLOf K) (_w7 (_qv1 0) _qv2)) _qv2))) (by o_reads)
   (_H (_qn (_wy hr.units rfl) rfl T.zsorted _zh (_c (pv 1) _o)))
   (λ_ _ _ _ _=>pgc 0)
   pif0
   (λ_ _ _ _ _=>_qbl (_c (_K5 (_Wu hr) (pv 1) (pv 0) (λ_ _=>rfl)) (_c (_qz (_qdq rfl) rfl T.zlist _Zj (_c (pv 0) _o)) _o))))))),by
  obtain⟨F0,ds,o,sm,r,hl,hg,k⟩:=h;exact _qai sm r hl hg k⟩
theorem scH:FnScope ["self"] ["self"] (_e sHeap):=fsc
theorem _Yy(kv:_qwr):_qlx (.lst (kv.map DL.pkvD))=some (swap kv):=by
 have one:∀p:List Int×Int,_qo5 (DL.pkvD p)=some (p.2,p.1):=by
  intro p
  have:∀l:List Int,(l.map D.int).mapM kInt=some l:=by
   intro l
   induction l with
   |nil=>rfl
   |cons a l ih=>rw[map_cons,mapM_cons,ih];rfl
  simp[_qo5,DL.pkvD,_qo6,this]
 unfold _qlx swap
 induction kv with
 |nil=>rfl
 |cons p kv ih=>
  simp only[map_cons,mapM_cons,one]at ih⊢;rw[ih];rfl
theorem _qaj{kv:_qwr}(h:kv.length<60) (hm:∀q∈kv,q.1.length<60):_qm7 [.lst (kv.map DL.pkvD)]=some (.lst ((_Xm (swap kv)).map _qbj)):=by
 unfold _qm7;dsimp only;rw[_Yy];simp only[Option.bind_some];rw[if_pos];refine⟨by simpa[swap]using h,?_⟩;rw[all_eq_true];intro p hp;obtain⟨q,hq,rfl⟩:=Ag.mp hp;exact decide_eq_true (hm q hq)
theorem _qnk{f:Addr}{fd:Am}(F:Fun K "heap" "Hall.heap" sHeap f fd) (T:Hx K mg C) (G:Fn P w K mg base 2 "tidy" ["heap"] (spO K 1 _qm7)):FnOk P w K mg base CX0 3 f fd ["self"] (_qel K C):=by
 obtain⟨ft,fdt,okt,mt,kt,bt⟩:=G;refine F.ok scH (k:=2) (λvs H Q E h=>?_) (λcdv A outer s H vs Q E hr h=>?_)
 ·obtain⟨_,_,_,_,_,rfl,_⟩:=h
  rfl
 ·obtain⟨p,l,d,names,kv,rfl,S,h60,hm60,k⟩:=h
  obtain⟨⟨dx,h1⟩,h2,h3⟩:=id S;refine⟨_,_w (_xs (_q5 okt hr rfl mt kt bt .nil _jf (_c (_qn2 (_xv (cl:=_) (N':=["marks","many"]) (js:=[none,none]) (g:=gTup K 2 (_qd0 (_z0 0) (_qd0 (_z0 1) gNil))) (tc:=_Qi) (te:=tTup (_w7 (_qv1 1) (_w7 (tCB (rLOf K) (_w7 (_qv1 0) _qv2)) _qv2))) (by o_reads)
   (_qf2 (_v4 (pv 0) rfl)) (λ_ _ _ _ _=>_qhd rfl rfl (_xu (pgc 0) (_xu (pgc 1) _Xv)))
   pif0 (λ_ _ _ _ _=>_qbl (_c (pv 1) (_c (_qz (_qdq rfl) rfl T.zlist _Zj (_c (pv 0) _o)) _o))))) _o))),?_⟩
  refine⟨_,rfl,p,C,dx,_,_,rfl,h1,T.cl,T.nB,_kp _ _,d,kd kv,rfl,h3,λo=>?_⟩;have sd:∀b u,H b=some u->b≠d->(upd H d (.frz o (.dT (kd kv)))) b=some u:=λb u hb hbd=>by rw[_f hbd];exact hb
  have fd:(upd H d (.frz o (.dT (kd kv)))) d=some (.frz o (.dT (kd kv))):=_b;generalize hH1:upd H d (.frz o (.dT (kd kv)))=H1 at sd fd;refine _Y3 (kv:=kv) fd (by rw[Ao];omega) ⟨none,none,rfl⟩ λn H2 F2 hn sm2 hd2 sF2 Fd Fl hts=>?_;obtain⟨ts,hts1,hts2⟩:=hts;refine⟨d,o,.dT (kd kv),hd2,λo' u' z=>?_,?_⟩
  ·have z':H d=some (.frz o' u'):=z
   rw[h3]at z';cases z'
  ·have ndn:n≠d:=by rintro rfl;rw[fd]at hn;cases hn
   have sF3:_qwk F2 (upd H2 d (.dT (kd kv))):=λb u hb=>by rw[_f (_d hb Fd)];exact sF2 _ _ hb
   have smH:_qwk H (upd H2 d (.dT (kd kv))):=λb u hb=>by
    by_cases hbd:b=d
    ·subst hbd;rw[_b,<-h3,hb]
    ·rw[_f hbd];exact sm2 _ _ (sd _ _ hb hbd)
   refine⟨_,[.lst (kv.map DL.pkvD)],_,_qwk.refl _,.cons (.lst (.inl (.inl (by rw[_f ndn];exact hts1))) ((_v3 sF3).2 hts2)) .nil,rfl,_qaj h60 hm60,λv F' H3 A e ow hA=>?_⟩;exact k v F' H3 A ow e.fh (λb hb=>⟨(hA b hb).1,smH.free (hA b hb).2⟩) (smH.trans e.hh)
end
def hp(kv:_qwr):List MB._qwp:=(_ju (kv.map (·.1))).map λk=>(wt kv k,k)
theorem _j3{kv:_qwr}{k:List Int}(h:k∈kv.map (·.1)):look kv k=some (wt kv k):=by
 unfold wt;cases e:look kv k with
 |some y=>rfl
 |none=>
  exfalso;unfold look at e;cases e2:kv.find? λp=>decide (p.1=k)with
  |some y=>rw[e2]at e;cases e
  |none=>
   obtain⟨p,hp,rfl⟩:=Ag.mp h
   have:=Fu.mp e2 p hp
   simp at this
theorem _qm0:∀{kv:_qwr},(kv.map (·.1)).Nodup->∀m,wtK (swap kv) m=wt kv m
 | [],_,m=>rfl
 | p :: kv,hn,m=>by
  rw[map_cons,nodup_cons]at hn;have ih:=_qm0 hn.2 m
  by_cases e:p.1=m
  ·have z:wt kv m=0:=by
    unfold wt look
    have:(kv.find? λp=>decide (p.1=m))=none:=by
     rw[Fu];intro q hq
     simp
     intro e2;exact hn.1 (by rw[e,<-e2];exact Ag.mpr ⟨q,hq,rfl⟩)
    rw[this];rfl
   have h1:wt (p::kv) m=p.2:=by unfold wt look;rw[Gj (by simpa using e)];rfl
   rw[h1];unfold wtK swap at ih⊢;rw[map_cons,filter_cons_of_pos (by simpa using e),map_cons,sum_cons,ih,z];omega
  ·have h1:wt (p::kv) m=wt kv m:=by unfold wt look;rw[J4 (by simpa using e)]
   rw[h1,<-ih];unfold wtK swap;rw[map_cons,filter_cons_of_neg (by simpa using e)]
theorem _xp{kv:_qwr}(hn:(kv.map (·.1)).Nodup):oD (.lst ((_Xm (swap kv)).map _qbj))=some (MB._I (hp kv)):=by
 have e:(swap kv).map (λp=>p.2)=kv.map (·.1):=by unfold swap;rw[map_map];rfl
 have e2:_Xm (swap kv)=hp kv:=by
  unfold _Xm hp;rw[e];apply map_congr_left;intro m _;rw[_qm0 hn]
 rw[e2];have ow:∀l:List Int,oDs (l.map (O.sh∘D.int))=some (l.map D.int):=by
  intro l
  induction l with
  |nil=>rfl
  |cons a l ih=>simp[oDs,oD,ih]
 have one:∀l:List MB._qwp,oDs (l.map _qbj)=some (l.map MB._zb):=by
  intro l
  induction l with
  |nil=>rfl
  |cons a l ih=>
   have h1:oD (_qbj a)=some (MB._zb a):=by
    simp[_qbj,MB._zb,MB._r,oD,oDs,DL.ow,ow]
   simp only[map_cons,oDs];rw[h1];refine Eq.trans (congrArg (λz=>(some (MB._zb a)).bind λd=>z.map (d:: ·)) ih) ?_;rfl
 unfold MB._I;simp only[oD];rw[one];rfl
structure Good(names:List Str) (kv:_qwr):Prop where
 len:names.length<=6
 ok:∀y∈names,_qw y
 nd:names.Nodup
 l12:kv.length<=12
 kn:(kv.map (·.1)).Nodup
 sub:∀q∈kv,q.1.Sublist ((Ap names.length).map fun(i:Nat)=>(i:Int))
theorem _qmh{n:Nat}(h:n<=6):((Ap n).map fun(i:Nat)=>(i:Int)).Sublist MB.six:=by
 have:MB.six=(Ap 6).map fun(i:Nat)=>(i:Int):=by decide
 rw[this];exact Gy _ (Mc.mpr h)
theorem Good.okH{names:List Str}{kv:_qwr}(g:Good names kv):MB.okH (hp kv):=by
 intro p hp;obtain⟨k,hk,rfl⟩:=Ag.mp hp;obtain⟨q,hq,rfl⟩:=Ag.mp (MT.mem_keys.mp hk);exact(g.sub q hq).trans (_qmh g.len)
theorem Good.hlen{names:List Str}{kv:_qwr}(g:Good names kv):(hp kv).length<=12:=by
 have:=MT.keys_len (kv.map (·.1))
 rw[length_map]at this
 have:=g.l12
 unfold hp;rw[length_map];omega
theorem Good.below{names:List Str}{kv:_qwr}(g:Good names kv):∀p∈hp kv,_qi9 names.length p.2:=by
 intro p hp k hk;obtain⟨m,hm,rfl⟩:=Ag.mp hp;obtain⟨q,hq,rfl⟩:=Ag.mp (MT.mem_keys.mp hm);obtain⟨i,hi,rfl⟩:=Ag.mp ((g.sub q hq).subset hk)
 have:=Ax.mp hi
 omega
theorem Good.kl{names:List Str}{kv:_qwr}(g:Good names kv):∀q∈kv,q.1.length<60:=λq hq=>by
 have:=(g.sub q hq).length_le
 have:=g.len
 simp at*;omega
def _Q4(K:Frag) (C:Addr):Sp:=λvs H Q _=>∃(p l d z:Addr) (names:List Str) (kv:_qwr) (s:List Int),vs=[.ref p,.ref z]/\HallAt C H p l d names kv/\SqL K H z (s.map V.int)/\_qi9 names.length s/\s.length<=100/\
 ∀r,H r=none->Q (.ref r) (upd H r (.lst ((s.map λk=>_qvm names k).map V.str)))
def intV:V->Int
 | .int i=>i
 |_=>0
theorem _qkj{X:Cx}{K:Frag}(h:X.K=K):IxR X (rIxL K):=by subst h;exact _Wo
theorem ix_tK{X:Cx}{K:Frag}(h:X.K=K):IxR X (rIxT K):=by subst h;exact _Yz
theorem nm_at{names:List Str}{k:Int}(h0:0<=k) (h1:k< (names.length:Int)):atI (names.map V.str) k=some (.str (_qvm names k)):=by
 obtain⟨i,rfl⟩:=F5 h0;have hi:i<names.length:=by omega
 refine _Zm ?_;unfold _qvm;simp[hi]
section
variable{P:Ak}{w:World}{K:Frag}{mg:Str->Option Value}{base:Heap}{C:Addr}
theorem scO:FnScope ["self","numbers"] ["self","numbers"] (_e _Z5):=fsc
theorem _qc0{f:Addr}{fd:Am}(F:Fun K "names_of" "Hall.names_of" _Z5 f fd) (T:Hx K mg C):FnOk P w K mg base CX0 1 f fd ["self","numbers"] (_Q4 K C):=by
 refine F.ok scO (k:=0) (λvs H Q E h=>?_) (λcdv A outer s H vs Q E hr h=>?_)
 ·obtain⟨_,_,_,_,_,_,_,rfl,_⟩:=h
  rfl
 ·obtain⟨p,l,d,z,names,kv,s,rfl,S,hz,hb,h100,k⟩:=h
  obtain⟨⟨dx,h1⟩,h2,h3⟩:=id S;refine⟨_,_w (_xs (_xv (cl:=_) (N':=["number","self"]) (js:=[none,some 0]) (tc:=_Qi) (te:=tOp (rIxL K) (tFld K (_qv1 1) "standing") (_qv1 0)) (by o_reads)
    (_H (pv 1)) (λ_ _ _ _ _=>pgc 0) pif0
    (λ_ _ _ _ _=>_Jm (_qkj rfl) (_qhe rfl (pv 1) rfl) (pv 0) (λ_ _=>rfl)))),?_⟩
  refine⟨_,rfl,z,rfl,⟨_,hz⟩,_ww hz (by rw[length_map,Ao];omega) (λ_=>true) (λv=>.str (_qvm names (intV v))) (λσ=>∃c,σ=[c,some (.ref p)]) ⟨none,rfl⟩ (λi x σ' H' hx hS sm=>?_) λr hr'=>?_⟩
  ·obtain⟨c,rfl⟩:=hS
   obtain⟨y,hy,rfl⟩:∃y∈s,x=V.int y:=by
    rw[getElem?_map]at hx;cases e:s[i]? with
    |none=>rw[e]at hx;cases hx
    |some q=>rw[e]at hx;exact⟨q,mem_of_getElem? e,(Option.some.inj hx).symm⟩
   exact⟨⟨_,rfl⟩,λR h=>h,λR _ h=>⟨_,rfl,p,C,dx,_,_,rfl,sm _ _ h1,T.cl,T.nS,_wt _ _,_,rfl,l,_,y,_,rfl,rfl,SqL.of (sm _ _ h2),nm_at (hb y hy).1 (hb y hy).2,h⟩⟩
  ·rw[Au.mpr (by simp),map_map]
   have:=k r hr'
   rw[map_map]at this;exact this
end
theorem _za{K:Frag}{F:Hp}:∀{ns:List Int}{vs:List V},Reps K F vs (ns.map D.int)->vs=ns.map V.int
 | [],_,h=>by cases h;rfl
 |n::ns,_,h=>by
  cases h with
  |cons h t=>cases h;rw[_za t];rfl
theorem _qjz(st xs:List Str):(_qvl st xs).Sublist ((Ap st.length).map fun(i:Nat)=>(i:Int)):=by
 have e:st.zipIdx.map (λp=>p.2)=Ap st.length:=by simp[List.zipIdx_map_snd,List.range_eq_range']
 rw[<-e,map_map];exact Gy (λp:Str×Nat=>(p.2:Int)) filter_sublist
theorem _qob{st:List Str}{y:Str}(h:y∈st):∃hi:idxS st y<st.length,st[idxS st y]=y:=by
 have hi:idxS st y<st.length:=List.findIdx_lt_length_of_exists ⟨y,h,by simp⟩;refine⟨hi,?_⟩
 have:=List.findIdx_getElem (p:=λx=>decide (x=y)) (xs:=st) (w:=hi)
 exact of_decide_eq_true this
theorem _qoa{st:List Str}(hn:st.Nodup){i:Nat}(hi:i<st.length):idxS st st[i]=i:=by
 obtain⟨h1,h2⟩:=_qob (st:=st) (y:=st[i]) (getElem_mem hi);apply Dt;intro ne;rcases Nat.lt_or_gt_of_ne ne with lt|lt
 ·exact(Bj.mp hn _ _ h1 hi lt) h2
 ·exact(Bj.mp hn _ _ hi h1 lt) h2.symm
theorem _qk6{st xs:List Str}{a:Int}:a∈_qvl st xs↔ ∃(i:Nat) (hi:i<st.length),st[i]∈xs/\a=(i:Int):=by
 unfold _qvl;rw[mem_map];constructor
 ·rintro⟨⟨y,i⟩,hp,rfl⟩
  obtain⟨h1,h2⟩:=Ay.mp hp
  have:=Hi.mp h1
  simp at this;obtain⟨hi,rfl⟩:=Ai.mp this;exact⟨i,hi,by simpa using h2,rfl⟩
 ·rintro⟨i,hi,hx,rfl⟩
  refine⟨(st[i],i),Ay.mpr ⟨Hi.mpr (by simp[hi]),by simpa using hx⟩,rfl⟩
theorem _qik(h:List MB._qwp):shp 20 (MB._I h)=true:=
 _Zt λp _=>by
  show(shp 18 (.int p.1)&&(_qv5 17 (p.2.map D.int)&&true))=true;rw[_Zt λk _=>rfl];rfl
theorem _qr9(kv:_qwr):kd kv=dkv (kv.map λp=>(p.1,V.int p.2)):=by unfold kd dkv;rw[map_map];rfl
theorem _Z8{X:Cx}{elt target iter:Expr}{ifs:List Expr}{scope:Scope}{pos:Pos}{cl:List (Str×Addr)}{N':List Str}{js:List (Option Nat)}{wi:TI}{g:TG}{tc:TT}{te:TE}{i:Nat}{y:Str}{py spos:Pos}(hN:X.N.Nodup) (hi':X.N[i]?=some y) (hy:X.env.scope.names.lookup y=some .local)
  (hsw:Hu (.ListComp elt [⟨target,iter,ifs,0⟩] scope pos) (some (.Name y py)) spos.line X.env=pure true) (k:CompOk X scope cl N' js) (hi:PI X target iter wi)
  (hg:∀C s₀ H₀ ex pn,PG (_V X N' scope cl C s₀ H₀ ex pn) target g) (ht:∀C s₀ H₀ ex pn,PIfs (_V X N' scope cl C s₀ H₀ ex pn) ifs tc) (he:∀C s₀ H₀ ex pn,PE (_V X N' scope cl C s₀ H₀ ex pn) elt te) (hs:∀x,Cj iter X.env x=pure x:=by intro _;rfl):
  PS X (.Assign [.Name y py] (.ListComp elt [⟨target,iter,ifs,0⟩] scope pos) spos) (tAsg (_qei wi g tc te js) (_z0 i)):=
 _qhb hN hi' hy hsw k.calm hi (_zg k.clo) k.free k.hcl k.hhas k.cell k.kind k.names hg ht he hs
def _qux(n:Nat):List Int:=(Ap n).map fun(i:Nat)=>(i:Int)
structure Lot(names:List Str) (B:Int) (kv:_qwr):Prop where
 kn:(kv.map (·.1)).Nodup
 sub:∀q∈kv,q.1.Sublist (_qux names.length)
 wts:∀q∈kv,1<=q.2/\q.2<=B
 cnt:(drop kv []).length<=6
theorem _qg4{kv:_qwr}{k:List Int}(h:k∉kv.map (·.1)):drop kv k=kv:=by
 unfold drop;rw[Au];intro p hp
 simp
 rintro rfl;exact h (Ag.mpr ⟨p,hp,rfl⟩)
theorem _V6:∀{kv:_qwr}(k:List Int),(kv.map (·.1)).Nodup->kv.length<=(drop kv k).length+1
 | [],k,_=>by simp
 |p::kv,k,h=>by
  rw[map_cons,nodup_cons]at h
  by_cases e:p.1=k
  ·have e1:drop (p::kv) k=drop kv k:=by unfold drop;rw[filter_cons_of_neg (by simp[e])]
   rw[e1,_qg4 (by rw[<-e];exact h.1)]
   simp
  ·have e1:drop (p::kv) k=p::drop kv k:=by unfold drop;rw[filter_cons_of_pos (by simp[e])]
   have:=_V6 k h.2
   rw[e1,length_cons,length_cons];omega
theorem Lot.good{names:List Str}{B:Int}{kv:_qwr}(g:Lot names B kv) (h6:names.length<=6) (ok:∀y∈names,_qw y) (nd:names.Nodup):Good names kv:=
 ⟨h6,ok,nd,by have:=_V6 [] g.kn;have:=g.cnt;omega,g.kn,g.sub⟩
theorem Lot.mono{names:List Str}{B B':Int}{kv:_qwr}(g:Lot names B kv) (h:B<=B'):Lot names B' kv:=
 ⟨g.kn,g.sub,λq hq=>⟨(g.wts q hq).1,F9 (g.wts q hq).2 h⟩,g.cnt⟩
theorem _qcn(kv:_qwr) (k:List Int) (v:Int):(put kv k v).map (·.1)=if(look kv k).isSome=true then kv.map (·.1)else kv.map (·.1)++[k]:=by
 unfold put;split
 ·rw[map_map]
  apply map_congr_left;intro p _;simp only[Fp];split<;>rfl
 ·rw[map_append];rfl
theorem _qno{kv:_qwr}{k:List Int}(h:¬ (look kv k).isSome=true):k∉kv.map (·.1):=λz=>h (by rw[_j3 z];rfl)
theorem _qhn{kv:_qwr}{k:List Int}{v:Int}{q:List Int×Int}(h:q∈put kv k v):q=(k,v)\/q∈kv:=by
 unfold put at h;split at h
 ·obtain⟨p,hp,rfl⟩:=Ag.mp h
  split
  ·rename_i e;rw[e];exact .inl rfl
  ·exact .inr hp
 ·rcases C6.mp h with h|h
  ·exact .inr h
  ·exact .inl (Ek.mp h)
theorem _qj8(kv:_qwr) (k:List Int) (v:Int):(put kv k v).length=if(look kv k).isSome=true then kv.length else kv.length+1:=by
 have:=congrArg List.length (_qcn kv k v)
 rw[length_map]at this;rw[this];split<;>simp
theorem _qnw{names:List Str}{B:Int}{kv:_qwr}(g:Lot names B kv){k:List Int}{v:Int}(hk:k.Sublist (_qux names.length)) (hv:1<=v/\v<=B) (hc:(drop (put kv k v) []).length<=6):Lot names B (put kv k v):=by
 refine⟨?_,λq hq=>?_,λq hq=>?_,hc⟩
 ·rw[_qcn]
  split
  ·exact g.kn
  ·rename_i hs
   exact Jb.mpr ⟨g.kn,by simp,λa ha b hb=>by simp at hb;subst hb;rintro rfl;exact _qno hs ha⟩
 ·rcases _qhn hq with rfl|hq
  ·exact hk
  ·exact g.sub q hq
 ·rcases _qhn hq with rfl|hq
  ·exact hv
  ·exact g.wts q hq
theorem _Js{kv:_qwr}{k:List Int}{v:Int}(h:look kv k=some v):(k,v)∈kv:=by
 unfold look at h;cases e:kv.find? λp=>decide (p.1=k)with
 |none=>rw[e]at h;cases h
 |some q=>
  rw[e]at h;cases h;have h1:=Il e;have h2:=List.find?_some e;simp at h2;rw[<-h2];exact h1
theorem Lot.wt{names:List Str}{B:Int}{kv:_qwr}(g:Lot names B kv) (h0:0<=B) (k:List Int):0<=wt kv k/\wt kv k<=B:=by
 unfold L_k66.wt;cases e:look kv k with
 |none=>exact⟨K7 _,h0⟩
 |some v=>have:=g.wts _ (_Js e);exact⟨by show 0<=v;omega,this.2⟩
theorem Lot.wt1{names:List Str}{B:Int}{kv:_qwr}(g:Lot names B kv){k:List Int}(h:(look kv k).isSome=true):1<=L_k66.wt kv k:=by
 unfold L_k66.wt;cases e:look kv k with
 |none=>rw[e]at h;cases h
 |some v=>exact(g.wts _ (_Js e)).1
theorem _qad{n:Nat}{k:Int}(h:k∈_qux n):0<=k/\k< (n:Int):=by
 obtain⟨i,hi,rfl⟩:=Ag.mp h
 have:=Ax.mp hi
 omega
theorem _qgr(n:Nat):(_qux n).Pairwise (· < ·):=by
 unfold _qux;rw[pairwise_map];exact Ge.imp λh=>by omega
theorem _qnn(st xs:List Str):(_qvl st xs).Pairwise (· < ·):=(_qgr st.length).sublist (_qjz st xs)
theorem _Jq{names:List Str}{i:Nat}(hi:i<names.length):_qvm names (i:Int)=names[i]:=by
 unfold _qvm;simp[hi]
theorem _X1{names:List Str}{k:List Int}(hk:k.Sublist (_qux names.length)):∀y∈k.map λj=>_qvm names j,y∈names:=by
 intro y hy;obtain⟨j,hj,rfl⟩:=Ag.mp hy;obtain⟨i,hi,rfl⟩:=Ag.mp (hk.subset hj);rw[_Jq (Ax.mp hi)];exact getElem_mem _
theorem _X0{names:List Str}(nd:names.Nodup){k:List Int}(hk:k.Sublist (_qux names.length)):_qvl names (k.map λj=>_qvm names j)=k:=by
 refine _zf (_qnn _ _) ((_qgr _).sublist hk) λx=>?_;rw[_qk6];constructor
 ·rintro⟨i,hi,hx,rfl⟩
  obtain⟨j,hj,e⟩:=Ag.mp hx;obtain⟨i',hi',rfl⟩:=Ag.mp (hk.subset hj);have h':=Ax.mp hi';rw[_Jq h']at e
  have:i'=i:=by
   rw[<-_qoa nd h',<-_qoa nd hi,e]
  rw[<-this];exact hj
 ·intro hx
  obtain⟨i,hi,rfl⟩:=Ag.mp (hk.subset hx);have h':=Ax.mp hi;exact⟨i,h',Ag.mpr ⟨_,hx,_Jq h'⟩,rfl⟩
abbrev _Z3:Stmt:=top 55
def pows6:List Int:=[1,2,4,8,16,32]
theorem _qjd:∀i:Nat,i<6->atI (pows6.map V.int) (i:Int)=some (.int (2^i)):=by decide+kernel
theorem _qjc:∀i:Nat,i<6->(0:Int)<2^i/\(2:Int)^i<1073741824:=by decide+kernel
theorem _Kt(n:Nat):_qux (n+1)=_qux n++[(n:Int)]:=by
 unfold _qux;rw[List.range_succ,map_append];rfl
theorem _qie{m n:Nat}(h:m<=n):(_qux m).Sublist (_qux n):=Gy _ (Mc.mpr h)
structure Fil(C:Addr) (H0:Hp) (p l d n lo:Addr) (names:List Str) (H:Hp) (kv:_qwr) (B:Int):Prop where
 keep:∀b o,H0 b=some o->b≠l->b≠d->H b=some o
 hall:HallAt C H p l d names kv
 hlo:H lo=some (.dT (kd kv))
 hn:H n=some (.lst (names.map V.str))
 lot:Lot names B kv
 nd:lo≠d
 l0:H0 lo=none
theorem Fil.keepS{C:Addr}{H0 H H':Hp}{p l d n lo:Addr}{names:List Str}{kv:_qwr}{B:Int}(f:Fil C H0 p l d n lo names H kv B) (s:_qwk H H'):Fil C H0 p l d n lo names H' kv B:=
 ⟨λb o h1 h2 h3=>s _ _ (f.keep b o h1 h2 h3),f.hall.keep s,s _ _ f.hlo,s _ _ f.hn,f.lot,f.nd,f.l0⟩
theorem _qom{C:Addr}{H0 H H7 H8:Hp}{p l d n lo:Addr}{names:List Str}{kv kv':_qwr}{B B':Int}(f:Fil C H0 p l d n lo names H kv B) (kp:∀b o,H b=some o->b≠d->H7 b=some o) (hd:H7 d=some (.dT (kd kv'))) (s:_qwk H7 H8) (lot:Lot names B' kv'):
  Fil C H0 p l d n lo names (upd H8 lo (.dT (kd kv'))) kv' B':=by
 obtain⟨dx,h1⟩:=f.hall.ob;have k2:∀b o,H b=some o->b≠d->b≠lo->(upd H8 lo (.dT (kd kv'))) b=some o:=λb o hb h1 h2=>by rw[_f h2];exact s _ _ (kp _ _ hb h1)
 refine⟨λb o hb h1 h2=>k2 _ _ (f.keep b o hb h1 h2) h2 (_d hb f.l0),⟨⟨dx,?_⟩,?_,?_⟩,_b,?_,lot,f.nd,f.l0⟩
 ·exact k2 _ _ h1 (_xf h1 f.hall.ba nofun) (_xf h1 f.hlo nofun)
 ·exact k2 _ _ f.hall.st (_xf f.hall.st f.hall.ba nofun) (_xf f.hall.st f.hlo nofun)
 ·rw[_f f.nd.symm];exact s _ _ hd
 ·exact k2 _ _ f.hn (_xf f.hn f.hall.ba nofun) (_xf f.hn f.hlo nofun)
theorem _qcm{kv:_qwr}{k:List Int}{v:Int}(h:1<=v):lay kv k v=put kv k v:=by unfold lay;rw[if_neg (by omega)]
theorem lims3{r:Int}(h0:0<=r) (h:r<3):∃w:Int,atI [V.int 4,V.int 4,V.int (10^(9:Int).toNat)] r=some (.int w)/\1<=w/\w<=1000000000:=by
 obtain⟨i,rfl⟩:=F5 h0
 have:i=0\/i=1\/i=2:=by omega
 rcases this with rfl|rfl|rfl
 ·exact⟨4,rfl,by decide,by decide⟩
 ·exact⟨4,rfl,by decide,by decide⟩
 ·exact⟨1000000000,rfl,by decide,by decide⟩
def lims6:List Int:=[6,6,6,6,5,4]
theorem _qk9:∀i:Nat,i<6->∃w,atI (lims6.map V.int) (i:Int)=some (.int w)/\w<=6:=λi hi=>by
 have:i=0\/i=1\/i=2\/i=3\/i=4\/i=5:=by omega
 rcases this with rfl|rfl|rfl|rfl|rfl|rfl
 ·exact⟨6,rfl,by decide⟩
 ·exact⟨6,rfl,by decide⟩
 ·exact⟨6,rfl,by decide⟩
 ·exact⟨6,rfl,by decide⟩
 ·exact⟨5,rfl,by decide⟩
 ·exact⟨4,rfl,by decide⟩
theorem _qme(names:List Str) (ks:List Int):((ks.map V.int).filter λ_=>true).map (λv=>V.str (_qvm names (intV v)))=(ks.map λj=>_qvm names j).map V.str:=by
 rw[Au.mpr (by simp),map_map,map_map];rfl
theorem _qgd{K:Frag}{z:Addr}{xs:List V}{j:Nat}{te:TE}{js:List (Option Nat)}{σ:L2.St}{H:Hp}{Q:Addr->Hp->Prop}(hz:SqT K H z xs) (hlen:xs.length<Aj) (e:V->V) (S:L2.St->Prop) (hS:S (mkS js σ))
  (step:∀(x:V) (σ':L2.St) (H':Hp),x∈xs->S σ'->_qwk H H'->S (σ'.set j (some x))/\(∀R:VK,R (e x) H'->te (σ'.set j (some x)) H' R))
  (k:∀l,H l=none->Q l (upd H l (.lst (xs.map e)))):
  ∀l,H l=none->∃W:Nat->Nat->L2.St->Hp->Prop,(∃m,W 0 m (mkS js σ) (upd H l (.lst [])))/\∀i m σ H,W i m σ H->
   ((Itt K z).stop i H/\Q l H)\/((Itt K z).go i H/\∀x H',(Itt K z).yld i H x H'->_z0 j x σ H' λσ2 H2=>_Qi σ2 H2 λb H3=>
     if b=true then te σ2 H3 λy H4=>∃acc,H4 l=some (.lst acc)/\acc.length<Aj/\∃m',m'<m/\W (i+1) m' σ2 (upd H4 l (.lst (acc++[y])))else∃m',m'<m/\W (i+1) m' σ2 H3):=by
 intro l hl;refine⟨λi m σ' H'=>m=xs.length-i/\i<=xs.length/\S σ'/\H'=upd H l (.lst ((xs.take i).map e)),⟨_,rfl,zero_le _,hS,by simp⟩,?_⟩;rintro i m σ' H' ⟨rfl,hi,hs,rfl⟩;have sm:_qwk H (upd H l (.lst ((xs.take i).map e))):=_i hl
 by_cases hlt:i<xs.length
 ·refine .inr ⟨⟨xs,xs[i],seqT sm hz,by simp[hlt]⟩,λx H2 y=>?_⟩
  obtain⟨rfl,y⟩:=y;have hx:=y xs (seqT sm hz);rw[getElem?_eq_getElem hlt]at hx;obtain rfl:=(Option.some.inj hx).symm;obtain⟨s1,s3⟩:=step xs[i] σ' _ (getElem_mem hlt) hs sm;dsimp only[_Qi,_z0];rw[if_pos rfl];refine s3 _ ⟨_,_b,by rw[length_map,length_take];omega,_,(by omega:xs.length- (i+1)<xs.length-i),rfl,hlt,s1,?_⟩;rw[take_succ_eq_append_getElem hlt,map_append]
  funext b
  by_cases hb:b=l
  ·subst hb;rw[_b,_b];rfl
  ·rw[_f hb,_f hb,_f hb]
 ·have e1:i=xs.length:=by omega
  subst e1;refine .inl ⟨⟨xs,seqT sm hz,le_refl _⟩,?_⟩;rw[take_length];exact k l hl
theorem _qih(names:List Str) (ks:List Int):(ks.map V.int).map (λv=>V.str (_qvm names (intV v)))=(ks.map λj=>_qvm names j).map V.str:=by
 rw[map_map,map_map];rfl
theorem _qgs{H:Hp}{a:Addr}{o o':HO}:upd (upd H a o) a o'=upd H a o':=by
 funext b
 by_cases hb:b=a
 ·subst hb;rw[_b,_b]
 ·rw[_f hb,_f hb,_f hb]
def _qap(K:Frag) (C:Addr):Sp:=λvs H Q _=>∃(F:Hp) (p l d a n:Addr) (ns:List Int) (names:List Str),vs=[.ref p,.ref a,.ref n]/\HallAt C H p l d [] []/\_qwk F H/\SqE K F a (ns.map V.int)/\ns.length<=63/\F l=none/\F d=none/\H n=some (.lst (names.map V.str))/\n≠l/\1<=names.length/\names.length<=6/\names.Nodup/\(∀y∈names,_qw y)/\
 ∀lo H' kv,H lo=none->Fil C H p l d n lo names H' kv 51000000000->Q (.ref lo) H'
def Tf(C:Addr) (H0:Hp) (p a l d n:Addr) (names:List Str):TS:=λD σ H=>∃(lo r:Addr) (ks:List Int) (kv:_qwr) (mv B:Int) (c4 c5 c6:Option V),σ=[some (.ref p),some (.ref a),some (.ref n),some (.ref lo),c4,c5,c6,some (.ref r),some (.int mv)]/\Fil C H0 p l d n lo names H kv B/\H r=some (.lst (ks.map V.int))/\ks.Sublist (_qux names.length)/\(1<=mv/\mv<=1000000000)/\(0<=B/\B<=51000000000)/\kv.length<=6/\((look kv ks).isSome=true\/kv.length<6)/\
 ∀H' kv',Fil C H0 p l d n lo names H' kv' (B+1000000000)->kv'.length<=6->D.nx σ H'
section
variable{P:Ak}{w:World}{K:Frag}{mg:Str->Option Value}{base:Heap}{C:Addr}
theorem _xc:FnScope ["hall","script","names","lots","name","k","cell","marks","many"] ["hall","script","names"] (_e _Z3):=fsc
theorem _qfe{f fS fC:Addr}{fd fdS fdC:Am}(F:Fun K "_law_filled" "_law_filled" _Z3 f fd) (T:Hx K mg C) (Gc:Fn P w K mg base 1 "_law_cell" ["script","k"] (spD K 2 _O)) (GS:FnOk P w K mg base CX0 1 fS fdS ["self","name"] (_qan C)) (bS:L2.Binds K fdS ["self","name"] []) (mS:Meth K C "stand" fS)
  (GC:FnOk P w K mg base CX0 2 fC fdC ["self","many","names"] (_qij C)) (bC:L2.Binds K fdC ["self","many","names"] []) (mC:Meth K C "cast" fC):FnOk P w K mg base CX0 3 f fd ["hall","script","names"] (_qap K C):=by
 obtain⟨fc,fdc,okc,mc,kc,bc⟩:=Gc;refine F.ok _xc (k:=2) (λvs H Q E h=>?_) (λcdv A outer s H vs Q E hr h=>?_)
 ·obtain⟨_,_,_,_,_,_,_,_,rfl,_⟩:=h
  rfl
 ·obtain⟨F0,p,l,d,a,n,ns,names,rfl,S,sm0,ha,h63,Fl,Fd,hn,nnl,h1n,h6,nd,hok,k⟩:=h
  have hr1:Room 1 _:=hm hr;refine⟨_,_j (_p (i:=3) _xc.nd rfl (.inl rfl) _Jn)
   (_j (_Jg A6 rfl (_H (pv 2)) (_qj (i:=4) _xc.nd rfl (.inl rfl)) (_w (_q4 (_qb (pv 0) T.cl mS GS hr1 bS .nil _jf (_c (pv 4) _o)))))
   (_j (_Jg A6 rfl (_qf1 rfl T.zr (_c _n (_c (_qn (_qgh rfl) rfl T.zmax _qs3 (_c _n (_c (_qn (_qgg rfl) rfl T.zmin _qs2 (_c (_qn _u rfl T.zlen _z1 (_c (pv 1) _o)) (_c _n _o))) _o))) _o))) (_qj (i:=5) _xc.nd rfl (.inl rfl))
    (_j (_p (i:=6) _xc.nd rfl (.inr rfl) (_jk _ve (_jk _qqp (_q5 okc hr1 rfl mc kc bc .nil _jf (_c (pv 1) (_c (pv 5) _o))) _n) _n))
    (_j (_Z8 (i:=7) _xc.nd rfl rfl rfl (cl:=_) (N':=["j","cell"]) (js:=[none,some 6]) (by o_reads)
     (_vc rfl T.zr (_c (_qn _u rfl T.zlen _z1 (_c (pv 2) _o)) _o))
     (λ_ _ _ _ _=>pgc 0)
     (λ_ _ _ _ _=>.inr ⟨_,rfl,_qo op_eq (_jk _ve (_jk _Qq (pv 1) (_Jm (_qkj (K:=K) rfl) (_Qa (_c _n (_c _n (_c _n (_c _n (_c _n (_c _n _o))))))) (pv 0) (λ_ _=>rfl))) _n) _n (_P _)⟩)
     (λ_ _ _ _ _=>pv 0))
    (_j (_p (i:=8) _xc.nd rfl (.inl rfl) (_jk _zy _n (_jk _ve (_jk _Qq (pv 6) _n) (_Jm _Wo (_Qa (_c _n (_c _n (_c (_jk _qqo _n _n) _o)))) (_jk _ve (_jk _Qq (pv 6) _n) _n) (λ_ _=>rfl)))))
    (_w (_Z7 (PW.pt (pw_or (_qj9 (_qqj (_Wu hr) (_qz _ql rfl T.ztuple _kd (_c (pv 7) _o)) (pv 3))) (_qj7 (_qo _qjl (_qn _W9 rfl T.zlen _z1 (_c (pv 3) _o)) (_Jm _Wo (_Qa (_c _n (_c _n (_c _n (_c _n (_c _n (_c _n _o))))))) (_jk _Vg (_qn _u rfl T.zlen _z1 (_c (pv 2) _o)) _n) (λ_ _=>rfl)) (_P _)))))
     (PSs.imp (t':=Tf C H p a l d n names) (_j (_q4 (_qb (pv 0) T.cl mC GC hr bC .nil _jf (_c (pv 8) (_c (_xv (cl:=_) (N':=["j","names"]) (js:=[none,some 2]) (tc:=_Qi) (te:=tOp (rIxL K) (_qv1 1) (_qv1 0)) (by o_reads)
      (_H (pv 7)) (λ_ _ _ _ _=>pgc 0) pif0 (λ_ _ _ _ _=>_Jm (_qkj rfl) (pv 1) (pv 0) (λ_ _=>rfl))) _o))))
     (_w (_qbi (_Wu hr) (pv 3) (_qz _ql rfl T.ztuple _kd (_c (pv 7) _o)) (_jk _zy (_Jo (_Wu hr) (pv 3) (_qz _ql rfl T.ztuple _kd (_c (pv 7) _o)) _n ⟨rfl,rfl,rfl,rfl⟩) (pv 8)) rfl))) ?_) _jj))))))
   (_w (_xs (pv 3))))),?_⟩
  ·rintro Dn σ H6 ⟨lo,r,ks,kv,mv,B,c4,c5,c6,rfl,f6,hr6,hks,hmv,hB,hl6,hf,q⟩
   obtain⟨dx,h1⟩:=f6.hall.ob;have hkl:ks.length<=6:=by have:=hks.length_le;simp[_qux]at this;omega
   have big:(((look kv ks).map V.int).getD (.int 0))=.int (wt kv ks):=by unfold wt;cases look kv ks<;>rfl
   have wtb:=f6.lot.wt hB.1 ks;have pl:(put kv ks (wt kv ks+mv)).length<=6:=by
    rw[_qj8];rcases hf with h|h
    ·rw[if_pos h];exact hl6
    ·split<;>omega
   refine⟨_,rfl,p,dx,_,rfl,h1,_C,_,rfl,_,rfl,r,rfl,⟨_,SqL.of hr6⟩,_ww (SqL.of hr6) (by rw[length_map,Ao];omega) (λ_=>true) (λv=>.str (_qvm names (intV v))) (λσ=>∃c,σ=[c,some (.ref n)]) ⟨none,rfl⟩ (λi2 x σ3 H3 hx hS sm=>?_) λz hz=>?_⟩
   ·obtain⟨c0,rfl⟩:=hS
    rw[getElem?_map]at hx;obtain⟨y,hy,rfl⟩:=C7.mp hx;have hy':=_qad (hks.subset (mem_of_getElem? hy));exact⟨⟨_,rfl⟩,λR h=>h,λR _ h=>⟨_,rfl,_,rfl,n,_,y,_,rfl,rfl,SqL.of (sm _ _ f6.hn),nm_at hy'.1 hy'.2,h⟩⟩
   ·rw[_qme]
    have smz:_qwk H6 (upd H6 z (.lst ((ks.map λj=>_qvm names j).map V.str))):=_i hz;have hz7:(upd H6 z (.lst ((ks.map λj=>_qvm names j).map V.str))) z=some (.lst ((ks.map λj=>_qvm names j).map V.str)):=_b;generalize upd H6 z (.lst ((ks.map λj=>_qvm names j).map V.str))=H7 at smz hz7⊢;have f7:=f6.keepS smz;refine⟨p,l,d,z,names,kv,ks.map λj=>_qvm names j,mv,rfl,f7.hall,hz7,h6,by rw[length_map];omega,by omega,hok,λy hy=>hok y (_X1 hks y hy),_X1 hks,?_⟩;rw[_X0 nd hks];refine⟨hf.imp id (λh=>by omega),by omega,λH8 kp8 hd8=>?_⟩;have hr8:=kp8 _ _ (smz _ _ hr6) (_xf (smz _ _ hr6) f7.hall.ba nofun);have hlo8:=kp8 _ _ f7.hlo f7.nd;refine⟨_,rfl,lo,rfl,.inr ⟨_,.inl hlo8⟩,_,rfl,r,_,rfl,.inl ⟨SqL.of hr8,λb2 hb2=>?_⟩⟩;have sm9:_qwk H8 (upd H8 b2 (.tup (ks.map V.int))):=_i hb2;have hb9:(upd H8 b2 (.tup (ks.map V.int))) b2=some (.tup ((ks.map Sum.inl:List Key).map kV)):=by rw[_b,_zp]
    generalize upd H8 b2 (.tup (ks.map V.int))=H9 at sm9 hb9⊢;have g9:_qww H9 lo (.ref b2) (_quw (kd kv) (ks.map Sum.inl)):=_qww.t (sm9 _ _ hlo8) hb9;rw[_wp]at g9;refine⟨_,g9,?_⟩;rw[big];refine⟨_,rfl,_,_,rfl,rfl,_,rfl,_,rfl,r,_,rfl,.inl ⟨SqL.of (sm9 _ _ hr8),λb3 hb3=>?_⟩⟩;have sm10:_qwk H9 (upd H9 b3 (.tup (ks.map V.int))):=_i hb3;have hb10:(upd H9 b3 (.tup (ks.map V.int))) b3=some (.tup ((ks.map Sum.inl:List Key).map kV)):=by rw[_b,_zp]
    generalize upd H9 b3 (.tup (ks.map V.int))=H10 at sm10 hb10⊢;refine⟨lo,_,rfl,DPut.t (k:=ks.map Sum.inl) (sm10 _ _ (sm9 _ _ hlo8)) hb10 (by rw[_qft,Ao];omega),?_⟩;rw[_qms];rw[_qcm (by omega)]at hd8;exact q _ _ (_qom f7 kp8 hd8 (sm9.trans sm10) (_qnw (f6.lot.mono (by omega)) hks (by omega) (le_trans (length_filter_le _ _) pl))) pl
  ·intro lo hlo
   have sm1:_qwk H (upd H lo (.dT [])):=_i hlo;have lo1:(upd H lo (.dT [])) lo=some (.dT (kd [])):=_b;have nld:lo≠d:=(_d S.ba hlo).symm;have nll:lo≠l:=(_d S.st hlo).symm;generalize upd H lo (.dT [])=H1 at sm1 lo1⊢;have S1:=S.keep sm1;have hn1:=sm1 _ _ hn;refine⟨_,rfl,n,rfl,⟨_,SqL.of hn1⟩,_J1 (K:=K) (a:=n) (xs:=names.map V.str) (λi σ' H'=>(∃c4,σ'=[some (.ref p),some (.ref a),some (.ref n),some (.ref lo),c4,none,none,none,none])/\HallAt C H' p l d (names.take i) []/\∀b o,H1 b=some o->b≠l->H' b=some o)
    ⟨⟨_,rfl⟩,by rw[List.take_zero];exact S1,λb o h _=>h⟩ (λi σ' H' hi hI=>SqL.of (hI.2.2 _ _ hn1 nnl)) (λi x σ' H' hx hI=>?_) λσ' H' hI=>?_⟩
   ·obtain⟨⟨c4,rfl⟩,S2,kp⟩:=hI
    rw[getElem?_map]at hx;obtain⟨x,hx',rfl⟩:=C7.mp hx;obtain⟨hi,rfl⟩:=Ai.mp hx';obtain⟨⟨dx,h1⟩,h2,h3⟩:=id S2;have hnot:names[i]∉names.take i:=λhm=>by
     obtain⟨j,hj,e⟩:=getElem_of_mem hm;rw[List.getElem_take]at e;have hj':j<i:=by rw[length_take]at hj;omega
     exact Bj.mp nd j i (by omega) hi hj' e
    refine⟨_,rfl,p,dx,_,rfl,h1,_C,_,rfl,p,l,d,names.take i,[],names[i],rfl,S2,by rw[length_take];omega,hnot,hok _ (getElem_mem hi),λy hy=>hok y (K8 hy),⟨_,rfl⟩,?_,λb o hb hbl=>?_⟩
    ·rw[take_succ_eq_append_getElem hi]
     exact⟨⟨dx,by rw[_f (_xf h1 h2 nofun)];exact h1⟩,_b,by rw[_f (_xf h3 h2 nofun)];exact h3⟩
    ·rw[_f hbl];exact kp b o hb hbl
   ·obtain⟨⟨c4,rfl⟩,S2,kp⟩:=hI
    rw[length_map,take_length]at S2;have fil0:Fil C H p l d n lo names H' [] (((0:Nat):Int)*1000000000):=⟨λb o h hbl _=>kp b o (sm1 _ _ h) hbl,S2,kp _ _ lo1 nll,kp _ _ hn1 nnl,⟨by simp,by simp,by simp,by simp[drop]⟩,nld,hlo⟩;clear S2 kp S1 hn1 lo1 sm1;have sF:∀{H2:Hp}{kv:_qwr}{B:Int},Fil C H p l d n lo names H2 kv B->_qwk _ H2:=λf b o hb=>f.keep b o (sm0 _ _ hb) (_d hb Fl) (_d hb Fd);have hj:∀j:Int,j=(if(if(63:Int)< ((ns.map V.int).length:Int)then(63:Int)else((ns.map V.int).length:Int))>18 then(if(63:Int)< ((ns.map V.int).length:Int)then(63:Int)else((ns.map V.int).length:Int))else 18)->18<=j/\j<=63:=by
     intro j e;rw[length_map]at e;split at e<;>split at e<;>omega
    refine⟨_,rfl,a,_,rfl,.inl (_qv6 (sF fil0) ha).l,_,_,rfl,_,_,rfl,_,_,rfl,⟨by decide,by decide,by have:=hj _ rfl;omega,by have:=hj _ rfl;omega⟩,
     _kz (λi σ' H'=>∃c5 c6 c7 c8 kv,σ'=[some (.ref p),some (.ref a),some (.ref n),some (.ref lo),c4,c5,c6,c7,c8]/\Fil C H p l d n lo names H' kv (i*1000000000)/\kv.length<=6)
      ⟨_,_,_,_,[],rfl,fil0,by simp⟩ (λi σ' H' hi hI=>?_) λσ' H' hI=>?_⟩
    ·obtain⟨c5,c6,c7,c8,kv,rfl,f,hl6⟩:=hI
     have hi51:i<51:=by have:=hj _ rfl;omega
     have ce:=_qdm ns (12+i) (by omega);rw[show(((12+i:Nat):Nat):Int)=12+(i:Int) by omega]at ce;refine⟨_,rfl,_,rfl,F0,[MB._r ns,.int (12+(i:Int))],_,sF f,.cons (.lst ha (_qx ns)) (.cons (.int _) .nil),rfl,ce,λv F' H2 e2 r2=>?_⟩;cases r2;generalize cellOf ns (12+i)=c0;refine⟨_,_,rfl,rfl,.inr ⟨by decide,by decide⟩,_,_,rfl,rfl,(by show(0:Int)<2147483647;decide),?_⟩;dsimp only;generalize c0*48271%2147483647=c;have f2:=f.keepS e2.hh;clear ce hi hj sF e2 fil0;refine⟨_,rfl,n,_,rfl,.inl (SqL.of f2.hn),_,rfl,by rw[length_map];omega,by rw[length_map];omega,λr hr'=>?_⟩;refine⟨λi2 m σ3 H3=>m=names.length-i2/\i2<=names.length/\(∃c0,σ3=[c0,some (.int c)])/\_qwk H2 H3/\∃ks,H3 r=some (.lst ((ks:List Int).map V.int))/\ks.Sublist (_qux i2),⟨_,rfl,zero_le _,⟨none,rfl⟩,_i hr',[],_b,List.nil_sublist _⟩,?_⟩;rintro i2 m σ3 H3 ⟨rfl,hi2,⟨c0,rfl⟩,sm3,ks,hr3,hsub⟩;have hkl:ks.length<=6:=by have:=hsub.length_le;simp[_qux]at this;omega
     by_cases hlt:i2<names.length
     ·refine .inr ⟨by show i2< ((names.map V.str).length:Int).toNat;rw[length_map];omega,λx H4 yl=>?_⟩
      obtain⟨e1,rfl⟩:=yl;rw[e1];have e0:(0:Int)+(i2:Int)=(i2:Int):=by omega
      rw[e0];refine⟨_,rfl,by show 6<=Aj;decide,λq hq=>⟨_,rfl,q,_,_,_,rfl,rfl,SqL.of _b,_qjd i2 (by omega),_,_,rfl,rfl,_qjc i2 (by omega),_,_,rfl,rfl,(by show(0:Int)<2;decide),rfl,_,rfl,?_⟩⟩;have sq:_qwk H3 (upd H3 q (.lst (pows6.map V.int))):=_i hq;have sm2:=sm3.trans sq;have hy2:=sq _ _ hr3;refine ite2 (λ_=>?_) λ_=>?_
      ·refine⟨_,rfl,_,hy2,by rw[length_map,Ao];omega,_,(by omega:names.length- (i2+1)<names.length-i2),rfl,hlt,⟨_,rfl⟩,λb o hb=>?_,ks++[(i2:Int)],by rw[_b,map_append];rfl,?_⟩
       ·rw[_f (_d hb hr')];exact sm2 _ _ hb
       ·rw[_Kt];exact hsub.append (List.Sublist.refl _)
      ·refine⟨_,(by omega:names.length- (i2+1)<names.length-i2),rfl,hlt,⟨_,rfl⟩,sm2,ks,hy2,?_⟩
       rw[_Kt];exact hsub.trans (Jj _ _)
     ·refine .inl ⟨by show((names.map V.str).length:Int).toNat<=i2;rw[length_map];omega,?_⟩
      have hks:ks.Sublist (_qux names.length):=hsub.trans (_qie hi2);clear hsub hlt hi2;have f3:=f2.keepS sm3;obtain⟨w3,hw,w0,w1⟩:=lims3 (Co (c/256) (b:=3) (by decide)) (Bt (c/256) (b:=3) (by decide));refine⟨_,rfl,_,_,rfl,rfl,⟨by decide,by decide⟩,_,_,rfl,rfl,⟨by decide,by decide,by decide⟩,by show 3<=Aj;decide,λq hq=>⟨_,rfl,_,_,rfl,rfl,⟨by decide,by decide⟩,_,_,rfl,rfl,(by show(0:Int)<3;decide),q,_,_,_,rfl,rfl,SqL.of _b,hw,_,_,rfl,rfl,(by show(0:Int)<w3;omega),_,_,rfl,rfl,?_⟩⟩;have sm4:_qwk H3 (upd H3 q (.lst [V.int 4,V.int 4,V.int (10^(9:Int).toNat)])):=_i hq;generalize upd H3 q (.lst [V.int 4,V.int 4,V.int (10^(9:Int).toNat)])=H4 at sm4⊢;have hr4:=sm4 _ _ hr3;have f4:=f3.keepS sm4;have mv0:=Co (c/64) (b:=w3) (by omega);have mv1:=Bt (c/64) (b:=w3) (by omega);dsimp only;generalize hmv:1+c/64%w3=mv;clear hw hq hr' hr3 sm3 sm4 f2 f3;refine⟨_,rfl,r,_,rfl,.inl ⟨SqL.of hr4,λb hb=>?_⟩⟩;have sm5:_qwk H4 (upd H4 b (.tup (ks.map V.int))):=_i hb;have hb5:(upd H4 b (.tup (ks.map V.int))) b=some (.tup ((ks.map Sum.inl:List Key).map kV)):=by rw[_b,_zp]
      generalize upd H4 b (.tup (ks.map V.int))=H5 at sm5 hb5⊢;have f5:=f4.keepS sm5;have hr5:=sm5 _ _ hr4;have g5:_qww H5 lo (.ref b) (_quw (kd kv) (ks.map Sum.inl)):=_qww.t f5.hlo hb5;rw[_wp]at g5;refine⟨_,rfl,lo,_,rfl,g5,_,rfl,?_⟩;rw[show((look kv ks).map V.int).isSome=(look kv ks).isSome by cases look kv ks<;>rfl];have e51:((i+1:Nat):Int)*1000000000=(i:Int)*1000000000+1000000000:=by omega
      clear f4 g5
      by_cases hs:(look kv ks).isSome=true
      ·rw[hs]
       refine _qvo ?_;refine _qvo ?_;exact⟨lo,r,ks,kv,mv,_,_,_,_,rfl,f5,hr5,hks,by omega,by omega,hl6,.inl hs,λH' kv' f' l'=>⟨_,_,_,_,kv',rfl,by rw[e51];exact f',l'⟩⟩
      ·rw[show(look kv ks).isSome=false by simpa using hs]
       refine _qvp ?_;obtain⟨w6,hw6,w6b⟩:=_qk9 (names.length-1) (by omega);refine⟨_,rfl,lo,_,rfl,f5.hlo,by show 6<=Aj;decide,λq hq=>⟨_,rfl,n,_,rfl,.inl (SqL.of ((_i hq) _ _ f5.hn)),_,_,rfl,rfl,q,_,_,_,rfl,rfl,SqL.of _b,(by rw[length_map,show(names.length:Int)-1=((names.length-1:Nat):Int) by omega];exact hw6),_,_,rfl,rfl,_,rfl,?_⟩⟩;have sm6:_qwk H5 (upd H5 q (.lst [V.int 6,V.int 6,V.int 6,V.int 6,V.int 5,V.int 4])):=_i hq;have f6:=f5.keepS sm6;have hr6:=sm6 _ _ hr5;generalize upd H5 q (.lst [V.int 6,V.int 6,V.int 6,V.int 6,V.int 5,V.int 4])=H6 at sm6 f6 hr6⊢;rw[_qft];refine ite2 (λhd=>?_) λ_=>?_
       ·have hl:kv.length<6:=by have:=of_decide_eq_true hd;omega
        exact⟨lo,r,ks,kv,mv,_,_,_,_,rfl,f6,hr6,hks,by omega,by omega,hl6,.inr hl,λH' kv' f' l'=>⟨_,_,_,_,kv',rfl,by rw[e51];exact f',l'⟩⟩
       ·exact⟨_,_,_,_,kv,rfl,⟨f6.keep,f6.hall,f6.hlo,f6.hn,f6.lot.mono (by omega),f6.nd,f6.l0⟩,hl6⟩
    ·obtain⟨c5,c6,c7,c8,kv,rfl,f,_⟩:=hI
     refine⟨_,rfl,k lo _ kv hlo ⟨f.keep,f.hall,f.hlo,f.hn,f.lot.mono ?_,f.nd,f.l0⟩⟩
     have:=hj _ rfl
     omega
end
theorem _qld{K:Frag}{z:Addr}{xs ys:List V}{j:Nat}{te:TE}{js:List (Option Nat)}{σ:L2.St}{H:Hp}{Q:Addr->Hp->Prop}(hz:SqL K H z xs) (hy:ys.length=xs.length) (hlen:xs.length<Aj) (S:L2.St->Prop) (hS:S (mkS js σ))
  (step:∀(i:Nat) (x y:V) (σ':L2.St) (H':Hp),xs[i]?=some x->ys[i]?=some y->S σ'->_qwk H H'->S (σ'.set j (some x))/\(∀R:VK,R y H'->te (σ'.set j (some x)) H' R))
  (k:∀l,H l=none->Q l (upd H l (.lst ys))):
  ∀l,H l=none->∃W:Nat->Nat->L2.St->Hp->Prop,(∃m,W 0 m (mkS js σ) (upd H l (.lst [])))/\∀i m σ H,W i m σ H->
   ((Itl K z).stop i H/\Q l H)\/((Itl K z).go i H/\∀x H',(Itl K z).yld i H x H'->_z0 j x σ H' λσ2 H2=>_Qi σ2 H2 λb H3=>
     if b=true then te σ2 H3 λy H4=>∃acc,H4 l=some (.lst acc)/\acc.length<Aj/\∃m',m'<m/\W (i+1) m' σ2 (upd H4 l (.lst (acc++[y])))else∃m',m'<m/\W (i+1) m' σ2 H3):=by
 intro l hl;refine⟨λi m σ' H'=>m=xs.length-i/\i<=xs.length/\S σ'/\H'=upd H l (.lst (ys.take i)),⟨_,rfl,zero_le _,hS,by simp⟩,?_⟩;rintro i m σ' H' ⟨rfl,hi,hs,rfl⟩;have sm:_qwk H (upd H l (.lst (ys.take i))):=_i hl
 by_cases hlt:i<xs.length
 ·have hlt':i<ys.length:=by omega
  refine .inr ⟨⟨xs,xs[i],sm.seq hz,by simp[hlt]⟩,λx H2 y=>?_⟩;obtain⟨rfl,y⟩:=y;obtain⟨s1,s3⟩:=step i x ys[i] σ' _ (y xs (sm.seq hz)) (getElem?_eq_getElem hlt') hs sm;dsimp only[_Qi,_z0];rw[if_pos rfl];refine s3 _ ⟨_,_b,by rw[length_take];omega,_,(by omega:xs.length- (i+1)<xs.length-i),rfl,hlt,s1,?_⟩;rw[take_succ_eq_append_getElem hlt',_qgs]
 ·have e1:i=xs.length:=by omega
  subst e1;refine .inl ⟨⟨xs,sm.seq hz,le_refl _⟩,?_⟩;rw[<-hy,take_length];exact k l hl
theorem _qmk{K:Frag}{F:Hp}:∀{R:List _qwl}{vs:List V},Reps K F vs (R.map _qva)->∀{i:Nat}{x:V},vs[i]?=some x->∃t ws r,x=.ref t/\R[i]?=some r/\SqT K F t (.int r.1::ws)
 | [],_,h,i,x,e=>by cases h;cases e
 | r :: R,_,h,i,x,e=>by
  cases h with
  |cons h1 h2=>
   cases i with
   |succ i=>exact _qmk h2 (by simpa using e)
   |zero=>
    cases h1 with
    |tup hT q=>
     cases q with
     |cons a q=>
      cases a;cases e;exact⟨_,_,r,rfl,rfl,hT⟩
def _Y8(h:List MB._qwp) (seats:Int) (names:List Str):List Str:=(bsR h seats).map λk=>_qvm names k
def _qh1(K:Frag) (C:Addr):Sp:=λvs H Q _=>∃(p l d:Addr) (names:List Str) (kv:_qwr) (seats:Int),vs=[.ref p,.int seats]/\HallAt C H p l d names kv/\Good names kv/\okW (hp kv)/\(0<=seats/\seats<=6)/\
 ∀r H',_qwk H H'->H r=none->H' r=some (.lst ((_Y8 (hp kv) seats names).map V.str))->Q (.ref r) H'
section
variable{P:Ak}{w:World}{K:Frag}{mg:Str->Option Value}{base:Heap}{C:Addr}
theorem scB:FnScope ["self","seats","told"] ["self","seats"] (_e _qj1):=fsc
theorem _qc3{f fH fO:Addr}{fd fdH fdO:Am}(F:Fun K "bench_of" "Hall.bench_of" _qj1 f fd) (T:Hx K mg C)
  (GH:FnOk P w K mg base CX0 3 fH fdH ["self"] (_qel K C)) (bH:L2.Binds K fdH ["self"] []) (mH:Meth K C "heap" fH) (GO:FnOk P w K mg base CX0 1 fO fdO ["self","numbers"] (_Q4 K C)) (bO:L2.Binds K fdO ["self","numbers"] []) (mO:Meth K C "names_of" fO)
  (Gb:Fn P w K mg base 7 "bench" ["heap","seats"] (spD K 2 _Wl)):FnOk P w K mg base CX0 8 f fd ["self","seats"] (_qh1 K C):=by
 obtain⟨fb,fdb,okb,mb,kb,bb⟩:=Gb;refine F.ok scB (k:=7) (λvs H Q E h=>?_) (λcdv A outer s H vs Q E hr h=>?_)
 ·obtain⟨_,_,_,_,_,_,rfl,_⟩:=h
  rfl
 ·obtain⟨p,l,d,names,kv,seats,rfl,S,g,okw,hse,k⟩:=h
  obtain⟨⟨dx,h1⟩,h2,h3⟩:=id S;have hr1:Room 1 _:=hm hr;have hr3:Room 3 _:=hm hr;refine⟨_,_j (_p (i:=2) scB.nd rfl (.inl rfl) (_q5 okb hr rfl mb kb bb .nil _jf (_c (_zx (pv 0) T.cl mH GH hr3 bH .nil _jf) (_c (pv 1) _o))))
   (_w (_xs (_qb (pv 0) T.cl mO GO hr1 bO .nil _jf (_c (_xv (cl:=_) (N':=["row"]) (js:=[none]) (tc:=_Qi) (te:=tOp (rIxT K) (_qv1 0) (tC (.int 0))) (by o_reads)
    (_H (_jk _Wd (_Jm _Yz (pv 2) _n (λ_ _=>rfl)) (_Jm _Yz (pv 2) _n (λ_ _=>rfl)))) (λ_ _ _ _ _=>pgc 0) pif0
    (λ_ _ _ _ _=>_Jm (ix_tK rfl) (pv 0) _n (λ_ _=>rfl))) _o)))),?_⟩
  refine⟨_,rfl,p,dx,_,rfl,h1,_C,p,l,d,names,kv,rfl,S,by have:=g.l12;omega,g.kl,λv2 F2 H2 A2 ow2 sF2 hA2 sm2=>?_⟩;have rf:=ow2.rep sF2 (_xp g.kn) (λ_ _=>rfl);clear ow2 sF2 hA2;refine⟨_,rfl,H2,[MB._I (hp kv),.int seats],_,_qwk.refl _,.cons rf (.cons (.int _) .nil),rfl,_qli (hp kv) g.okH okw seats hse,λv3 F3 H3 e3 r3=>?_⟩;have s3:=sm2.trans e3.hh;have bel:=_qds (seats:=seats) g.below;obtain⟨l1,l2⟩:=_qs5 (hp kv) seats;unfold _Y8 bsR at k;unfold bsR at bel;generalize _t (hp kv) seats=R1 at*;generalize _zj (hp kv) seats=R2 at*;cases r3 with
  | @tup a vs _ hT rr=>
  cases rr with
  |cons ra rr=>
  cases rr with
  |cons rb rr=>
  cases rr with
  |cons rc rr=>
  cases rr;clear ra;cases rb with
  | @lst z1 vs1 _ hq1 rr1=>
  cases rc with
  | @lst z2 vs2 _ hq2 rr2=>
  have rows:=rr1.append rr2;rw[<-map_append]at rows bel;rw[<-map_append]at k;have lv:(vs1++vs2).length=(R1++R2).length:=by have:=rows.length;simpa using this
  have hT3:=seqT e3.fh hT;have l12:(R1++R2).length<=12:=by rw[length_append];omega
  clear hT;refine⟨_,rfl,p,dx,_,rfl,s3 _ _ h1,_C,_,rfl,a,_,_,_,rfl,rfl,hT3,rfl,_,rfl,a,_,_,_,rfl,rfl,hT3,rfl,z1,z2,_,_,rfl,rfl,_qv6 e3.fh hq1,_qv6 e3.fh hq2,by rw[<-length_append,lv,Ao];omega,λq hq=>?_⟩;have sm4:_qwk H3 (upd H3 q (.lst (vs1++vs2))):=_i hq;have hq4:(upd H3 q (.lst (vs1++vs2))) q=some (.lst (vs1++vs2)):=_b;generalize upd H3 q (.lst (vs1++vs2))=H4 at sm4 hq4⊢;have s4:=s3.trans sm4;refine⟨q,rfl,⟨_,SqL.of hq4⟩,_qld (ys:=((R1++R2).map (·.1)).map V.int) (SqL.of hq4) (by rw[length_map,length_map];exact lv.symm) (by rw[lv,Ao];omega) (λσ=>∃c,σ=[c]) ⟨none,rfl⟩ (λi x y σ' H' hx hy hS sm=>?_) λz hz=>?_⟩
  ·obtain⟨c,rfl⟩:=hS
   obtain⟨t,ws,r,rfl,hr',hTr⟩:=_qmk rows hx;rw[getElem?_map,getElem?_map,hr']at hy;cases hy;exact⟨⟨_,rfl⟩,λR h=>⟨_,rfl,t,_,_,_,rfl,rfl,seqT (e3.fh.trans (sm4.trans sm)) hTr,_Zm (j:=0) rfl,h⟩⟩
  ·have smz:_qwk H4 (upd H4 z (.lst (((R1++R2).map (·.1)).map V.int))):=_i hz
   have hz5:(upd H4 z (.lst (((R1++R2).map (·.1)).map V.int))) z=some (.lst (((R1++R2).map (·.1)).map V.int)):=_b;generalize upd H4 z (.lst (((R1++R2).map (·.1)).map V.int))=H5 at smz hz5⊢;have s5:=s4.trans smz;exact⟨p,l,d,z,names,kv,_,rfl,S.keep s5,SqL.of hz5,bel,by rw[length_map];omega,λr hr=>k r _ (s5.trans (_i hr)) (s5.free hr) _b⟩
end
theorem _qhc {K:Frag} {F:Hp}:∀ {h:List MB._qwp} {vs:List V},Reps K F vs (h.map MB._zb)->∀ {i:Nat} (hi:i < h.length),∃ t q,vs[i]?=some (.ref t)/\SqT K F t [.int h[i].1,.ref q]/\SqE K F q (h[i].2.map V.int)
 | [],_,_,i,hi=>by cases hi
 | p :: h,_,r,i,hi=>by
  cases r with
  |cons r1 r2=>
   cases i with
   |succ i=>exact _qhc r2 (by simpa using hi)
   |zero=>
    cases r1 with
    |tup hT r=>
     cases r with
     |cons a r=>
      cases a;cases r with
      |cons b r=>
       cases r;cases b with
       |lst hq rr=>
        rw[_za rr]at hq;exact⟨_,_,rfl,hT,hq⟩
theorem _qge{K:Frag}{z:Addr}{xs:List V}{j:Nat}{te:TE}{js:List (Option Nat)}{σ:L2.St}{H:Hp}{Q:Addr->Hp->Prop}(hz:SqL K H z xs) (hlen:xs.length<Aj) (S:L2.St->Prop) (hS:S (mkS js σ))
  (step:∀(x:V) (σ':L2.St) (H':Hp),x∈xs->S σ'->_qwk H H'->S (σ'.set j (some x))/\∀R:VK,(∀y H2,_qwk H' H2->R y H2)->te (σ'.set j (some x)) H' R)
  (k:∀l H',_qwk H H'->Q l H'):
  ∀l,H l=none->∃W:Nat->Nat->L2.St->Hp->Prop,(∃m,W 0 m (mkS js σ) (upd H l (.lst [])))/\∀i m σ H,W i m σ H->
   ((Itl K z).stop i H/\Q l H)\/((Itl K z).go i H/\∀x H',(Itl K z).yld i H x H'->_z0 j x σ H' λσ2 H2=>_Qi σ2 H2 λb H3=>
     if b=true then te σ2 H3 λy H4=>∃acc,H4 l=some (.lst acc)/\acc.length<Aj/\∃m',m'<m/\W (i+1) m' σ2 (upd H4 l (.lst (acc++[y])))else∃m',m'<m/\W (i+1) m' σ2 H3):=by
 intro l hl;refine⟨λi m σ' H'=>m=xs.length-i/\i<=xs.length/\S σ'/\_qwk H H'/\∃ys,ys.length=i/\H' l=some (.lst ys),⟨_,rfl,zero_le _,hS,_i hl,[],rfl,_b⟩,?_⟩;rintro i m σ' H' ⟨rfl,hi,hs,sm,ys,hy,hl'⟩
 by_cases hlt:i<xs.length
 ·refine .inr ⟨⟨xs,xs[i],sm.seq hz,by simp[hlt]⟩,λx H2 y=>?_⟩
  obtain⟨rfl,y⟩:=y;obtain⟨s1,s3⟩:=step x σ' _ (mem_of_getElem? (y xs (sm.seq hz))) hs sm;dsimp only[_Qi,_z0];rw[if_pos rfl];refine s3 _ λw H3 s3'=>⟨_,s3' _ _ hl',by omega,_,(by omega:xs.length- (i+1)<xs.length-i),rfl,hlt,s1,λb o hb=>?_,_,by rw[length_append,hy];rfl,_b⟩;rw[_f (_d hb hl)];exact s3' _ _ (sm _ _ hb)
 ·have e1:i=xs.length:=by omega
  subst e1;exact .inl ⟨⟨xs,sm.seq hz,le_refl _⟩,k l H' sm⟩
def _qh0(K:Frag) (C:Addr):Sp:=λvs H Q _=>∃(p l d z:Addr) (names:List Str) (kv:_qwr) (xs:List Str) (seats:Int),vs=[.ref p,.int seats,.ref z]/\HallAt C H p l d names kv/\H z=some (.lst (xs.map V.str))/\xs.length<=9/\(∀y∈xs,y∈names)/\Good names kv/\seats.natAbs<2^63/\
 ∀v H',_qwk H H'->decide (v=.non)=(_qhq (hp kv) seats (_qvl names xs)).isNone->Q v H'
theorem _qk0(st xs:List Str):(_qvl st xs).length<=st.length:=by
 unfold _qvl;rw[length_map];exact le_trans (length_filter_le _ _) (by simp)
theorem _qrk{h:List MB._qwp}{mem s:List Int}{i:Nat}(hi:i∈_qvu h mem s):i<h.length:=by
 unfold _qvu _qwe at hi;exact Ax.mp (Ay.mp (Ay.mp hi).1).1
theorem _qoe(h:List MB._qwp) (mem s:List Int):(_qvu h mem s).length<=h.length:=by
 unfold _qvu _qwe;refine le_trans (length_filter_le _ _) (le_trans (length_filter_le _ _) ?_)
 simp
section
variable{P:Ak}{w:World}{K:Frag}{mg:Str->Option Value}{base:Heap}{C:Addr}
theorem scJ:FnScope ["self","seats","names","members","heap","found"] ["self","seats","names"] (_e _qj0):=fsc
theorem _qjt{f fM fH fO:Addr}{fd fdM fdH fdO:Am}(F:Fun K "judge" "Hall.judge" _qj0 f fd) (T:Hx K mg C) (GM:FnOk P w K mg base CX0 1 fM fdM ["self","names"] (_qek C)) (bM:L2.Binds K fdM ["self","names"] []) (mM:Meth K C "numbers_of" fM)
  (GH:FnOk P w K mg base CX0 3 fH fdH ["self"] (_qel K C)) (bH:L2.Binds K fdH ["self"] []) (mH:Meth K C "heap" fH) (GO:FnOk P w K mg base CX0 1 fO fdO ["self","numbers"] (_Q4 K C)) (bO:L2.Binds K fdO ["self","numbers"] []) (mO:Meth K C "names_of" fO)
  (Gl:Fn P w K mg base 4 "left_out" ["heap","seats","members"] (spD K 3 _x0)):FnOk P w K mg base CX0 5 f fd ["self","seats","names"] (_qh0 K C):=by
 obtain⟨fl,fdl,okl,ml,kl,bl⟩:=Gl;refine F.ok scJ (k:=4) (λvs H Q E h=>?_) (λcdv A outer s H vs Q E hr h=>?_)
 ·obtain⟨_,_,_,_,_,_,_,_,rfl,_⟩:=h
  rfl
 ·obtain⟨p,l,d,z,names,kv,xs,seats,rfl,S,hz,h9,hin,g,hse,k⟩:=h
  obtain⟨⟨dx,h1⟩,h2,h3⟩:=id S;have hr1:Room 1 _:=hm hr;have hr3:Room 3 _:=hm hr;refine⟨_,_j (_p (i:=3) scJ.nd rfl (.inl rfl) (_qb (pv 0) T.cl mM GM hr1 bM .nil _jf (_c (pv 2) _o)))
   (_j (_p (i:=4) scJ.nd rfl (.inr rfl) (_zx (pv 0) T.cl mH GH hr3 bH .nil _jf))
   (_j (_p (i:=5) scJ.nd rfl (.inl rfl) (_q5 okl hr rfl ml kl bl .nil _jf (_c (pv 4) (_c (pv 1) (_c (pv 3) _o)))))
   (_j (_Z7 (_qj9 (_qqi (pv 5))) (_w (_xs _Yp)) _jj)
   (_w (_xs (_qbl (_c (_qb (pv 0) T.cl mO GO hr1 bO .nil _jf (_c (_Jm _Yz (pv 5) _n (λ_ _=>rfl)) _o))
    (_c (_xv (cl:=_) (N':=["place","self","heap"]) (js:=[none,some 0,some 4]) (tc:=_Qi) (by o_reads)
     (_H (_Jm _Yz (pv 5) _n (λ_ _=>rfl))) (λ_ _ _ _ _=>pgc 0) pif0
     (λ_ _ _ _ _=>_qb (pv 1) T.cl mO GO hr1 bO .nil _jf (_c (_Jm (ix_tK (K:=K) rfl) (_Jm (_qkj (K:=K) rfl) (pv 2) (pv 0) (λ_ _=>rfl)) _n (λ_ _=>rfl)) _o))) _o)))))))),?_⟩
  refine⟨_,rfl,p,dx,_,rfl,h1,_C,_,rfl,p,l,d,z,names,kv,xs,rfl,S,hz,g.len,h9,g.ok,λy hy=>g.ok y (hin y hy),hin,λr H1 sm1 hr0 hr1'=>?_⟩;refine⟨_,rfl,p,dx,_,rfl,sm1 _ _ h1,_C,p,l,d,names,kv,rfl,S.keep sm1,by have:=g.l12;omega,g.kl,λv2 F2 H2 A2 ow2 sF2 hA2 sm2=>?_⟩;have rf:=ow2.rep sF2 (_xp g.kn) (λ_ _=>rfl);clear ow2 sF2 hA2;generalize hh:hp kv=h at*;have hh12:h.length<=12:=by rw[<-hh];exact g.hlen
  have okh:MB.okH h:=by rw[<-hh];exact g.okH
  have bel:∀p∈h,_qi9 names.length p.2:=by rw[<-hh];exact g.below
  have nl:=_qk0 names xs;have gl6:=g.len;generalize _qvl names xs=mem at*;refine⟨_,rfl,_,rfl,_,rfl,H2,[MB._I h,.int seats,MB._r mem],_,_qwk.refl _,.cons rf (.cons (.int _) (.cons (.lst (.inl (.inl (sm2 _ _ hr1'))) (_qx _)) .nil)),rfl,_qnz h okh (by omega) seats hse mem (by omega),λv3 F3 H3 e3 r3=>?_⟩;have smA:=sm1.trans (sm2.trans e3.hh);refine⟨_,rfl,_,rfl,?_⟩;unfold leftD at r3;cases hl:_qhq h seats mem with
  |none=>
   rw[hl]at r3 k;cases r3;refine _qvo ?_;exact k _ _ smA rfl
  |some s=>
   rw[hl]at r3 k;dsimp only at r3 k;cases r3 with
   | @tup a vs _ hT rr=>
   cases rr with
   |cons ra rr=>
   cases rr with
   |cons rb rr=>
   cases rr;cases ra with
   | @lst z0 vs0 _ hq0 rr0=>
   cases rb with
   | @lst z1 vs1 _ hq1 rr1=>
   rw[_za rr0]at hq0;rw[_za rr1]at hq1;clear rr0 rr1;have hsub:=_qkf hl;have bs:_qi9 names.length s:=_Yv bel hsub;have s6:s.length<=100:=by
    have:=hsub.length_le
    have:=MB._jb h
    omega
   clear hsub;have hT3:=seqT e3.fh hT;have hq03:=_qv6 e3.fh hq0;have hq13:=_qv6 e3.fh hq1;clear hT hq0 hq1;refine _qvp ?_;refine⟨_,rfl,p,dx,_,rfl,smA _ _ h1,_C,_,rfl,a,_,_,_,rfl,rfl,hT3,rfl,p,l,d,z0,names,kv,s,rfl,S.keep smA,hq03.l,bs,s6,λr0 hr0'=>?_⟩;have sm4:_qwk H3 (upd H3 r0 (.lst ((s.map λk=>_qvm names k).map V.str))):=_i hr0';generalize upd H3 r0 (.lst ((s.map λk=>_qvm names k).map V.str))=H4 at sm4⊢;cases rf with
   | @lst zh vh _ hqh rrh=>
   have gL:=_qoe h mem s;refine⟨_,rfl,a,_,_,_,rfl,rfl,seqT sm4 hT3,rfl,z1,rfl,⟨_,(_qv6 sm4 hq13).l⟩,_qge (_qv6 sm4 hq13).l (by rw[length_map,length_map,Ao];omega) (λσ=>∃c,σ=[c,some (.ref p),some (.ref zh)]) ⟨none,rfl⟩ (λx σ' H' hx hS sm'=>?_) λn H5 sm5=>?_⟩
   ·obtain⟨c,rfl⟩:=hS
    rw[map_map]at hx;obtain⟨i,hi,rfl⟩:=Ag.mp hx;have hi':=_qrk hi;obtain⟨t,q,hv,hTq,hEq⟩:=_qhc rrh hi';have smB:=sm4.trans sm';have smC:=e3.hh.trans smB;have hlen:h[i].2.length<=100:=by have:=okh.len _ (getElem_mem hi');omega
    exact⟨⟨_,rfl⟩,λR hR=>⟨_,rfl,p,dx,_,rfl,smB _ _ (smA _ _ h1),_C,_,rfl,_,rfl,zh,_,_,_,rfl,rfl,(_qv6 smC hqh).l,_Zm hv,t,_,_,_,rfl,rfl,seqT smC hTq,rfl,p,l,d,q,names,kv,_,rfl,S.keep (smA.trans smB),(_qv6 smC hEq).l,bel _ (getElem_mem hi'),hlen,λr hr=>hR _ _ (_i hr)⟩⟩
   ·exact⟨by show 2<=Aj;decide,λt ht=>k _ _ (smA.trans (sm4.trans (sm5.trans (_i ht)))) rfl⟩
end
abbrev _qit:Stmt:=top 54
def pows:List Int:=[1,2,4,8,16,32,64,128,256]
def spSome(K:Frag):Sp:=λvs H Q _=>∃(n:Addr) (c:Int) (names:List Str),vs=[.ref n,.int c]/\H n=some (.lst (names.map V.str))/\names.length<=9/\names.Nodup/\
 ∀r H' ys,_qwk H H'->H r=none->H' r=some (.lst ((ys:List Str).map V.str))->(∀y∈ys,y∈names)->ys.Nodup->ys.length<=9->Q (.ref r) H'
section
variable{P:Ak}{w:World}{K:Frag}{mg:Str->Option Value}{base:Heap}{C:Addr}
theorem _qmy:∀i:Nat,i<9->atI (pows.map V.int) (i:Int)=some (.int (2^i)):=by decide+kernel
theorem _qmx:∀i:Nat,i<9->(0:Int)<2^i/\(2:Int)^i<1073741824:=by decide+kernel
theorem _qaw:FnScope ["names","cell","some"] ["names","cell"] (_e _qit):=fsc
theorem _qnd{f:Addr}{fd:Am}(F:Fun K "_law_some" "_law_some" _qit f fd) (T:Hx K mg C):FnOk P w K mg base CX0 1 f fd ["names","cell"] (spSome K):=by
 refine F.ok _qaw (k:=0) (λvs H Q E h=>?_) (λcdv A outer s H vs Q E hr h=>?_)
 ·obtain⟨_,_,_,rfl,_⟩:=h
  rfl
 ·obtain⟨n,c,names,rfl,hn,h9,nd,k⟩:=h
  refine⟨_,_j (_Z8 (i:=2) _qaw.nd rfl rfl rfl (cl:=_) (N':=["k","names","cell"]) (js:=[none,some 0,some 1]) (by o_reads)
    (_vc rfl T.zr (_c (_qn _u rfl T.zlen _z1 (_c (pv 0) _o)) _o))
    (λ_ _ _ _ _=>pgc 0)
    (λ_ _ _ _ _=>.inr ⟨_,rfl,_qo op_eq (_jk _ve (_jk _Qq (pv 2) (_Jm (_qkj (K:=K) rfl) (_Qa (_c _n (_c _n (_c _n (_c _n (_c _n (_c _n (_c _n (_c _n (_c _n _o)))))))))) (pv 0) (λ_ _=>rfl))) _n) _n (_P _)⟩)
    (λ_ _ _ _ _=>_Jm (_qkj (K:=K) rfl) (pv 1) (pv 0) (λ_ _=>rfl)))
   (_j (_Z7 (_qo op_eq (_jk _ve (_jk _Qq (pv 1) _n) _n) _n (_P _)) (_w (_p (i:=2) _qaw.nd rfl (.inl rfl) (_ku (pv 2) _vb _vb (_Xu (_qn1 _Yi _n))))) _jj)
   (_w (_xs (pv 2)))),?_⟩
  refine⟨_,rfl,n,_,rfl,.inl (SqL.of hn),_,rfl,by rw[length_map];omega,by rw[length_map];omega,λr hr'=>?_⟩;refine⟨λi m σ' H'=>m=names.length-i/\i<=names.length/\(∃c0,σ'=[c0,some (.ref n),some (.int c)])/\_qwk H H'/\∃ys,H' r=some (.lst ((ys:List Str).map V.str))/\ys.Sublist (names.take i),⟨_,rfl,zero_le _,⟨none,rfl⟩,_i hr',[],_b,.slnil⟩,?_⟩;rintro i m σ' H' ⟨rfl,hi,⟨c0,rfl⟩,sm,ys,hy,hsub⟩;have hyl:ys.length<=9:=by have:=hsub.length_le;rw[length_take]at this;omega
  by_cases hlt:i<names.length
  ·refine .inr ⟨by show i< ((names.map V.str).length:Int).toNat;rw[length_map];omega,λx H2 yl=>?_⟩
   obtain⟨e1,rfl⟩:=yl;rw[e1];have e0:(0:Int)+(i:Int)=(i:Int):=by omega
   rw[e0];refine⟨_,rfl,by show 9<=Aj;decide,λq hq=>⟨_,rfl,q,_,_,_,rfl,rfl,SqL.of _b,_qmy i (by omega),_,_,rfl,rfl,_qmx i (by omega),_,_,rfl,rfl,(by show(0:Int)<2;decide),rfl,_,rfl,?_⟩⟩;have sq:_qwk H' (upd H' q (.lst (pows.map V.int))):=_i hq;have sm2:=sm.trans sq;have hy2:=sq _ _ hy;have tk:names.take (i+1)=names.take i++[names[i]]:=take_succ_eq_append_getElem hlt;refine ite2 (λ_=>?_) λ_=>?_
   ·refine⟨_,rfl,_,rfl,n,_,_,_,rfl,rfl,SqL.of (sm2 _ _ hn),_Zm (v:=.str names[i]) (by simp[hlt]),_,hy2,by rw[length_map,Ao];omega,_,(by omega:names.length- (i+1)<names.length-i),rfl,hlt,⟨_,rfl⟩,λb o hb=>?_,ys++[names[i]],by rw[_b,map_append];rfl,?_⟩
    ·rw[_f (_d hb hr')];exact sm2 _ _ hb
    ·rw[tk];exact hsub.append (List.Sublist.refl _)
   ·refine⟨_,(by omega:names.length- (i+1)<names.length-i),rfl,hlt,⟨_,rfl⟩,sm2,ys,hy2,?_⟩
    rw[tk];exact hsub.trans (Jj _ _)
  ·refine .inl ⟨by show((names.map V.str).length:Int).toNat<=i;rw[length_map];omega,?_⟩
   have hs2:ys.Sublist names:=hsub.trans (Iv _ _);have hm:∀y∈ys,y∈names:=λy h=>hs2.subset h;have hnd:ys.Nodup:=hs2.nodup nd;refine⟨_,rfl,_,_,rfl,rfl,⟨by decide,by decide⟩,_,_,rfl,rfl,(by show(0:Int)<2;decide),rfl,_,rfl,?_⟩;refine ite2 (λ_=>?_) λ_=>?_
   ·refine⟨_,rfl,_,rfl,_,rfl,r,_,rfl,SqL.of hy,by decide,by rw[MB._xt,length_reverse,length_map,Ao];omega,λp hp=>⟨_,rfl,?_⟩⟩
    rw[MB._xt,<-map_reverse];exact k p _ ys.reverse (sm.trans (_i hp)) (sm.free hp) _b (λy h=>hm y (Ff.mp h)) (by rw[List.Nodup,Kp];exact hnd.imp λh=>h.symm) (by rw[length_reverse];exact hyl)
   ·exact⟨_,rfl,k r _ ys sm hr' hy hm hnd hyl⟩
end
theorem _qcg{kv:_qwr}{k:List Int}(h:k∉kv.map (·.1)):look kv k=none:=by
 unfold look
 have:(kv.find? λp=>decide (p.1=k))=none:=by
  rw[Fu];intro p hp e;exact h (Ag.mpr ⟨p,hp,of_decide_eq_true e⟩)
 rw[this];rfl
theorem _kw{kv:_qwr}{k:List Int}{a:Int}(h:k∉kv.map (·.1)):look (kv++[(k,a)]) k=some a:=by
 have e:=_qcg h;unfold look at e⊢;rw[List.find?_append];cases f:kv.find? λp=>decide (p.1=k)with
 |some y=>rw[f]at e;cases e
 |none=>simp
theorem _qa5{kv:_qwr}{k:List Int}{a:Int}(h:k∉kv.map (·.1)):wt (kv++[(k,a)]) k=a:=by unfold wt;rw[_kw h];rfl
theorem _qfn{kv:_qwr}{k:List Int}{a:Int}(h:k∉kv.map (·.1)) (ha:1<=a):lay kv k (wt kv k+a)=kv++[(k,a)]:=by
 have e:=_qcg h;have w:wt kv k=0:=by unfold wt;rw[e];rfl
 rw[w,Int.zero_add,_qcm ha];unfold put;rw[e];rfl
theorem _Vt{kv:_qwr}{k:List Int}{a b:Int}(h:k∉kv.map (·.1)) (hb:1<=b):lay (kv++[(k,a)]) k b=kv++[(k,b)]:=by
 rw[_qcm hb];unfold put;rw[_kw h,if_pos (show(some a).isSome=true from rfl),map_append];congr 1
 ·refine(map_congr_left (g:=id) λq hq=>?_).trans (by simp)
  have:q.1≠k:=λe=>h (Ag.mpr ⟨q,hq,e⟩)
  simp[this]
 ·simp
theorem _qc6(st xs:List Str):_qvl st xs.reverse=_qvl st xs:=by unfold _qvl;simp
def ksR(kv:_qwr):List (List Int):=(_ju (kv.map (·.1))).reverse
def rv(kv:_qwr) (i:Nat):_qwr:=((ksR kv).take i).map λk=>(k,wt kv k)
def rvA(kv:_qwr):_qwr:=(ksR kv).map λk=>(k,wt kv k)
theorem _qh6(kv:_qwr) (i:Nat):(rv kv i).map (·.1)=(ksR kv).take i:=by unfold rv;rw[map_map];exact List.map_id _
theorem _Jf(kv:_qwr):(rvA kv).map (·.1)=ksR kv:=by unfold rvA;rw[map_map];exact List.map_id _
theorem _qq5(kv:_qwr):rv kv (ksR kv).length=rvA kv:=by unfold rv rvA;rw[take_length]
theorem _qo4(kv:_qwr):(ksR kv).Nodup:=by
 unfold ksR;rw[List.Nodup,Kp];have h:=MT.keys_ris (kv.map (·.1));unfold MT.Ris at h;refine h.imp fun{a b} h e=>?_;subst e;rw[MT.lex_irr]at h;cases h
theorem _X7{kv:_qwr}{k:List Int}:k∈ksR kv↔k∈kv.map (·.1):=by unfold ksR;rw[Ff];exact MT.mem_keys
theorem _qq6{kv:_qwr}{k:List Int}(h:k∈kv.map (·.1)):wt (rvA kv) k=wt kv k:=by
 have hk:k∈(rvA kv).map (·.1):=by rw[_Jf];exact _X7.mpr h
 have:=_Js (_j3 hk)
 unfold rvA at this;obtain⟨q,hq,e⟩:=Ag.mp this;have e1:q=k:=congrArg Prod.fst e;have e2:wt kv q=wt (rvA kv) k:=congrArg Prod.snd e;rw[<-e2,e1]
theorem _qq7(kv:_qwr):hp (rvA kv)=hp kv:=by
 have e:_ju ((rvA kv).map (·.1))=_ju (kv.map (·.1)):=MT.ris_eq (MT.keys_ris _) (MT.keys_ris _) λx=>by rw[MT.mem_keys,MT.mem_keys,_Jf];exact _X7
 unfold hp;rw[e];apply map_congr_left;intro k hk;rw[_qq6 (MT.mem_keys.mp hk)]
theorem _qht(kv:_qwr):(ksR kv).length<=kv.length:=by unfold ksR;rw[length_reverse];have:=MT.keys_len (kv.map (·.1));rw[length_map]at this;exact this
theorem _qj2{names:List Str}{kv:_qwr}(g:Good names kv):Good names (rvA kv):=by
 refine⟨g.len,g.ok,g.nd,?_,by rw[_Jf];exact _qo4 kv,λq hq=>?_⟩
 ·have:=_qht kv
  have:=g.l12
  unfold rvA;rw[length_map];omega
 ·have:q.1∈ksR kv:=by rw[<-_Jf];exact Ag.mpr ⟨q,hq,rfl⟩
  obtain⟨r,hr,e⟩:=Ag.mp (_X7.mp this);rw[<-e];exact g.sub r hr
abbrev _qb8:Stmt:=top 56
def Ta(C:Addr) (H0:Hp) (lo n p l d z:Addr) (names:List Str) (kv:_qwr) (k:List Int) (e:Int) (i:Nat) (c:Int):TS:=λE σ H=>∃(b:Addr) (pt:Int) (c4:Option V),σ=[some (.ref lo),some (.ref n),some (.int c),some (.ref p),c4,some (.ref b),some (.ref z),some (.int pt)]/\HallAt C H p l d names (rv kv i++[(k,wt kv k+e)])/\H z=some (.lst ((k.map λj=>_qvm names j).map V.str))/\(∀a o,H0 a=some o->a≠l->a≠d->H a=some o)/\
 ∀H',(∀a o,H a=some o->a≠d->H' a=some o)->HallAt C H' p l d names (rv kv i++[(k,wt kv k)])->E.nx σ H'
def _qh2(C:Addr):Sp:=λvs H Q _=>∃(lo n:Addr) (names:List Str) (kv:_qwr) (B c:Int),vs=[.ref lo,.ref n,.int c]/\H lo=some (.dT (kd kv))/\H n=some (.lst (names.map V.str))/\Lot names B kv/\0<=B/\B<=1000000000000/\names.length<=6/\names.Nodup/\(∀y∈names,_qw y)/\
 ∀p l d H',_qwk H H'->HallAt C H' p l d names (rvA kv)->Q (.ref p) H'
section
variable{P:Ak}{w:World}{K:Frag}{mg:Str->Option Value}{base:Heap}{C:Addr}
theorem _vx:FnScope ["lots","names","cell","hall","name","marks","some","part"] ["lots","names","cell"] (_e _qb8):=fsc
set_option maxHeartbeats 8000000 in
theorem _qjy{f fI fS fC fF:Addr}{fd fdI fdS fdC fdF:Am}(F:Fun K "_law_again" "_law_again" _qb8 f fd) (T:Hx K mg C) (M:Mk K C fI) (GI:FnOk P w K mg base CX0 1 fI fdI ["self"] (_qii C)) (bI:L2.Binds K fdI ["self"] []) (GS:FnOk P w K mg base CX0 1 fS fdS ["self","name"] (_qan C)) (bS:L2.Binds K fdS ["self","name"] []) (mS:Meth K C "stand" fS)
  (GC:FnOk P w K mg base CX0 2 fC fdC ["self","many","names"] (_qij C)) (bC:L2.Binds K fdC ["self","many","names"] []) (mC:Meth K C "cast" fC) (GF:FnOk P w K mg base CX0 2 fF fdF ["self","many","names"] (spLift C)) (bF:L2.Binds K fdF ["self","many","names"] []) (mF:Meth K C "lift" fF):FnOk P w K mg base CX0 3 f fd ["lots","names","cell"] (_qh2 C):=by
 refine F.ok _vx (k:=2) (λvs H Q E h=>?_) (λcdv A outer s H vs Q E hr h=>?_)
 ·obtain⟨_,_,_,_,_,_,rfl,_⟩:=h
  rfl
 ·obtain⟨lo,n,names,kv,B,c,rfl,hlo,hn,lot,hB0,hB,h6,nd,hok,k⟩:=h
  have hr1:Room 1 _:=hm hr;have hr2:Room 2 _:=hr;have e0:=Co c (b:=5) (by decide);have e5:=Bt c (b:=5) (by decide);have g:=lot.good h6 hok nd;have l7:(ksR kv).length<=7:=by
   have:=_qht kv
   have:=_V6 [] lot.kn
   have:=lot.cnt
   omega
  have kin:∀k∈ksR kv,k.Sublist (_qux names.length)/\1<=wt kv k/\wt kv k<=B:=λk hk=>by
   have hm:=_X7.mp hk;have h1:=_Js (_j3 hm);exact⟨lot.sub _ h1,lot.wts _ h1⟩
  refine⟨_,_j (_p (i:=3) _vx.nd rfl (.inl rfl) (_qbm M GI hr2 rfl T.mgC bI .nil _jf))
   (_j (_Jg A6 rfl (_H (pv 1)) (_qj (i:=4) _vx.nd rfl (.inl rfl)) (_w (_q4 (_qb (pv 3) T.cl mS GS hr1 bS .nil _jf (_c (pv 4) _o)))))
   (_j (_Jg A6 rfl (_H (_ku (_qn (_wy hr.units rfl) rfl T.zsorted _zh (_c (pv 0) _o)) _vb _vb (_Xu (_qn1 _Yi _n)))) (_qj (i:=5) _vx.nd rfl (.inl rfl))
    (_j (_Z8 (i:=6) _vx.nd rfl rfl rfl (cl:=_) (N':=["j","names"]) (js:=[none,some 1]) (tc:=_Qi) (te:=tOp (rIxL K) (_qv1 1) (_qv1 0)) (by o_reads)
     (_qqe (pv 5)) (λ_ _ _ _ _=>pgc 0) pif0 (λ_ _ _ _ _=>_Jm (_qkj rfl) (pv 1) (pv 0) (λ_ _=>rfl)))
    (_j (_p (i:=7) _vx.nd rfl (.inl rfl) (_jk _zy _n (_jk _ve (pv 2) (_K5 (_Wu hr) (pv 0) (pv 5) (λ_ _=>rfl)))))
    (_j (_q4 (_qb (pv 3) T.cl mC GC hr2 bC .nil _jf (_c (pv 7) (_c (_ku (pv 6) _vb _vb (_Xu (_qn1 _Yi _n))) _o))))
    (_j (_q4 (_qb (pv 3) T.cl mC GC hr2 bC .nil _jf (_c (_jk _zy _n (_jk _ve (pv 2) _n)) (_c (pv 6) _o))))
    (_j (_Z7 (_qo _qjl (pv 7) (_K5 (_Wu hr) (pv 0) (pv 5) (λ_ _=>rfl)) (_P _)) (_w (_q4 (_qb (pv 3) T.cl mC GC hr2 bC .nil _jf (_c (_jk _Vg (_K5 (_Wu hr) (pv 0) (pv 5) (λ_ _=>rfl)) (pv 7)) (_c (pv 6) _o))))) _jj)
    (PSs.imp (t':=λE σ H1=>∃H0 p l d z k i,k∈ksR kv/\k∉(ksR kv).take i/\i<7/\Ta C H0 lo n p l d z names kv k (1+c%5) i c E σ H1) (_w (_q4 (_qb (pv 3) T.cl mF GF hr2 bF .nil _jf (_c (_jk _zy _n (_jk _ve (pv 2) _n)) (_c (pv 6) _o))))) ?_)))))))
   (_w (_xs (pv 3))))),?_⟩
  ·rintro E σ H1 ⟨H0,p,l,d,z,kk,i,hk,hnew,hi7,b,pt,c4,rfl,S1,hz,kp,q⟩
   obtain⟨hks,w1,w2⟩:=kin kk hk;have hkl:kk.length<=6:=by have:=hks.length_le;simp[_qux]at this;omega
   have nk:kk∉(rv kv i).map (·.1):=by rw[_qh6];exact hnew
   have ln:(rv kv i).length<=7:=by unfold rv;rw[length_map,length_take];omega
   obtain⟨dx,o1⟩:=S1.ob;refine⟨_,rfl,p,dx,_,rfl,o1,_C,_,rfl,_,_,rfl,rfl,(by show(0:Int)<5;decide),_,_,rfl,rfl,_,rfl,p,l,d,z,names,_,kk.map λj=>_qvm names j,1+c%5,rfl,S1,hz,h6,by rw[length_map];omega,by rw[length_append];show _+1<=12;omega,hok,λy hy=>hok y (_X1 hks y hy),_X1 hks,?_⟩;rw[_X0 nd hks,_qa5 nk];refine⟨by omega,λH2 kp2 hd2=>?_⟩;rw[show wt kv kk+(1+c%5)- (1+c%5)=wt kv kk by omega,_Vt nk w1]at hd2;exact q H2 kp2 ⟨⟨dx,kp2 _ _ o1 (_xf o1 S1.ba nofun)⟩,kp2 _ _ S1.st (_xf S1.st S1.ba nofun),hd2⟩
  intro p dx np ndx nep;refine⟨p,dx,rfl,_b,λl d H3 hl hd S3 kp3=>⟨rfl,?_⟩⟩;have s2:_qwk H (upd (upd H dx (.own p)) p (.ins C dx [])):=λb o e=>by
   rw[_f (_d e np),_f (_d e ndx)];exact e
  have s3:_qwk H H3:=λb o e=>kp3 b o (s2 _ _ e) (_d e np);have hl0:=s2.free hl;have hd0:=s2.free hd;have nl:n≠l:=_d hn hl0;have hn3:=s3 _ _ hn;clear kp3 hl hd np ndx nep s2;refine⟨_,rfl,n,rfl,⟨_,SqL.of hn3⟩,_J1 (K:=K) (a:=n) (xs:=names.map V.str) (λi σ' H'=>(∃c4,σ'=[some (.ref lo),some (.ref n),some (.int c),some (.ref p),c4,none,none,none])/\HallAt C H' p l d (names.take i) []/\∀b o,H3 b=some o->b≠l->H' b=some o)
   ⟨⟨_,rfl⟩,by rw[List.take_zero];exact S3,λb o h _=>h⟩ (λi σ' H' hi hI=>SqL.of (hI.2.2 _ _ hn3 nl)) (λi x σ' H' hx hI=>?_) λσ' H' hI=>?_⟩
  ·obtain⟨⟨c4,rfl⟩,S2,kp⟩:=hI
   rw[getElem?_map]at hx;obtain⟨x,hx',rfl⟩:=C7.mp hx;obtain⟨hi,rfl⟩:=Ai.mp hx';obtain⟨⟨dx,h1⟩,h2,h3⟩:=id S2;have hnot:names[i]∉names.take i:=λhm=>by
    obtain⟨j,hj,e⟩:=getElem_of_mem hm;rw[List.getElem_take]at e;have hj':j<i:=by rw[length_take]at hj;omega
    exact Bj.mp nd j i (by omega) hi hj' e
   refine⟨_,rfl,p,dx,_,rfl,h1,_C,_,rfl,p,l,d,names.take i,[],names[i],rfl,S2,by rw[length_take];omega,hnot,hok _ (getElem_mem hi),λy hy=>hok y (K8 hy),⟨_,rfl⟩,?_,λb o hb hbl=>?_⟩
   ·rw[take_succ_eq_append_getElem hi]
    exact⟨⟨dx,by rw[_f (_xf h1 h2 nofun)];exact h1⟩,_b,by rw[_f (_xf h3 h2 nofun)];exact h3⟩
   ·rw[_f hbl];exact kp b o hb hbl
  obtain⟨⟨c4,rfl⟩,S2,kp⟩:=hI;rw[length_map,take_length]at S2;have keep:∀b o,H b=some o->b≠l->b≠d->H' b=some o:=λb o h h1 _=>kp b o (s3 _ _ h) h1;have nlol:lo≠l:=_d hlo hl0;have nlod:lo≠d:=_d hlo hd0;have nnd:n≠d:=_d hn hd0;clear kp s3 S3 hn3;have hlo':H' lo=some (.dT (dkv (kv.map λp=>(p.1,V.int p.2)))):=by rw[<-_qr9];exact keep _ _ hlo nlol nlod
  have ek:(kv.map λp=>(p.1,V.int p.2)).map (·.1)=kv.map (·.1):=by rw[map_map];rfl
  refine⟨_,rfl,lo,_,rfl,hlo',by rw[length_map];have:=g.l12;omega,λz0 bs hz0 hlen hbs=>?_⟩;rw[ek]at hlen hbs;have sm1:_qwk H' (upd H' z0 (.lst (bs.map V.ref))):=_i hz0;have hz1:(upd H' z0 (.lst (bs.map V.ref))) z0=some (.lst (bs.map V.ref)):=_b;generalize upd H' z0 (.lst (bs.map V.ref))=H1 at sm1 hz1 hbs⊢;have hlK:bs.length=(ksR kv).length:=by unfold ksR;rw[length_reverse];exact hlen
  refine⟨_,rfl,_,rfl,z0,_,rfl,SqL.of hz1,by decide,by rw[MB._xt,length_reverse,length_map,Ao];omega,λy hy=>?_⟩;rw[MB._xt,<-map_reverse];have sm2:=sm1.trans (_i (o:=.lst (bs.reverse.map V.ref)) hy);have hy2:(upd H1 y (.lst (bs.reverse.map V.ref))) y=some (.lst (bs.reverse.map V.ref)):=_b;have S4:=S2.keep sm2;have keep2:∀b o,H b=some o->b≠l->b≠d->(upd H1 y (.lst (bs.reverse.map V.ref))) b=some o:=λb o h h1 h2=>sm2 _ _ (keep b o h h1 h2);have nyl:y≠l:=(_d (sm1 _ _ S2.st) hy).symm;have nyd:y≠d:=(_d (sm1 _ _ S2.ba) hy).symm;have hbR:∀j (hj:j<bs.reverse.length),∃kk,(ksR kv)[j]?=some kk/\(upd H1 y (.lst (bs.reverse.map V.ref))) bs.reverse[j]=some (.tup (kk.map V.int))/\bs.reverse[j]≠d:=by
   intro j hj;rw[length_reverse]at hj;have e1:bs.reverse[j]'(by rw[length_reverse];exact hj)=bs[bs.length-1-j]:=List.getElem_reverse ..;have h1:=sm2 _ _ (hbs (bs.length-1-j) (by omega));refine⟨(_ju (kv.map (·.1))).getD (bs.length-1-j) [],?_,?_,?_⟩
   ·unfold ksR
    rw[List.getElem?_reverse (by omega),<-hlen];rw[getD_eq_getElem?_getD,getElem?_eq_getElem (by omega)];rfl
   ·rw[e1];exact h1
   ·rw[e1];exact _xf h1 S4.ba nofun
  clear hbs hlo' ek hz1 sm1 hz0 hy sm2 hlen keep S2;generalize upd H1 y (.lst (bs.reverse.map V.ref))=H5 at hy2 S4 keep2 hbR⊢;have lR:(bs.reverse.map V.ref).length=(ksR kv).length:=by rw[length_map,length_reverse,hlK]
  refine⟨y,rfl,⟨_,SqL.of hy2⟩,_J1 (K:=K) (a:=y) (xs:=bs.reverse.map V.ref) (λi σ' H'=>(∃c4 c5 c6 c7,σ'=[some (.ref lo),some (.ref n),some (.int c),some (.ref p),c4,c5,c6,c7])/\HallAt C H' p l d names (rv kv i)/\∀b o,H5 b=some o->b≠d->H' b=some o)
   ⟨⟨_,_,_,_,rfl⟩,S4,λb o h _=>h⟩ (λi σ' H' hi hI=>SqL.of (hI.2.2 _ _ hy2 nyd)) (λi x σ' H' hx hI=>?_) λσ' H' hI=>?_⟩
  ·obtain⟨⟨c4',c5,c6,c7,rfl⟩,S6,kp⟩:=hI
   have hib:i<bs.reverse.length:=by
    apply Dt;intro h;rw[getElem?_map,Kk (by omega)]at hx;cases hx
   rw[getElem?_map,getElem?_eq_getElem hib]at hx;obtain rfl:=(Option.some.inj hx).symm;obtain⟨kk,hkk,hb,nbd⟩:=hbR i hib;have hik:i< (ksR kv).length:=by rw[length_reverse]at hib;omega
   have ekk:(ksR kv)[i]=kk:=by rw[getElem?_eq_getElem hik]at hkk;exact Option.some.inj hkk
   have hk:kk∈ksR kv:=by rw[<-ekk];exact getElem_mem hik
   have hnew:kk∉(ksR kv).take i:=λhm=>by
    obtain⟨j,hj,e⟩:=List.mem_take_iff_getElem.mp hm;exact Bj.mp (_qo4 kv) j i (by omega) hik (by omega) (e.trans ekk.symm)
   obtain⟨hks,w1,w2⟩:=kin kk hk;have hkl:kk.length<=6:=by have:=hks.length_le;simp[_qux]at this;omega
   have nk:kk∉(rv kv i).map (·.1):=by rw[_qh6];exact hnew
   have ln:(rv kv i).length<=7:=by unfold rv;rw[length_map,length_take];omega
   have hb':=kp _ _ hb nbd;generalize bs.reverse[i]=b at hb hb' nbd⊢;have hn':=kp _ _ (keep2 _ _ hn nl nnd) nnd;have hlo':=kp _ _ (keep2 _ _ hlo nlol nlod) nlod;refine⟨_,rfl,b,rfl,⟨_,.inl (.inl hb')⟩,_qgd (xs:=kk.map V.int) (.inl (.inl hb')) (by rw[length_map,Ao];omega) (λv=>.str (_qvm names (intV v))) (λσ=>∃c,σ=[c,some (.ref n)]) ⟨none,rfl⟩ (λx σ' H2 hx hS sm=>?_) λz hz=>?_⟩
   ·obtain⟨c0,rfl⟩:=hS
    obtain⟨y0,hy0,rfl⟩:=Ag.mp hx;have hy':=_qad (hks.subset hy0);exact⟨⟨_,rfl⟩,λR h=>⟨_,rfl,_,rfl,n,_,y0,_,rfl,rfl,SqL.of (sm _ _ hn'),nm_at hy'.1 hy'.2,h⟩⟩
   ·rw[_qih]
    have sz:=_i (o:=.lst ((kk.map λj=>_qvm names j).map V.str)) hz;have hz7:(upd H' z (.lst ((kk.map λj=>_qvm names j).map V.str))) z=some (.lst ((kk.map λj=>_qvm names j).map V.str)):=_b;have nzd:z≠d:=(_d S6.ba hz).symm;generalize upd H' z (.lst ((kk.map λj=>_qvm names j).map V.str))=H7 at sz hz7⊢;have S7:=S6.keep sz;have dg:∀{Hx:Hp},Hx lo=some (.dT (kd kv))->Hx b=some (.tup (kk.map V.int))->_qww Hx lo (.ref b) (some (.int (wt kv kk))):=fun{Hx} h1 h2=>by
     have h3:Hx b=some (.tup ((kk.map Sum.inl:List Key).map kV)):=by rw[_zp];exact h2
     have:=_qww.t h1 h3
     rw[_wp,_j3 (_X7.mp hk)]at this;exact this
    have xok:∀y∈kk.map λj=>_qvm names j,_qw y:=λy hy=>hok y (_X1 hks y hy);have m0:=Co c (b:=wt kv kk) (by omega);have m1:=Bt c (b:=wt kv kk) (by omega);refine⟨_,rfl,_,rfl,_,rfl,lo,_,rfl,dg (sz _ _ hlo') (sz _ _ hb'),_,_,rfl,rfl,(by show(0:Int)<wt kv kk;omega),_,_,rfl,rfl,?_⟩;dsimp only;generalize hpt:1+c%wt kv kk=pt;have p1:1<=pt/\pt<=wt kv kk:=by omega
    clear hpt m0 m1;obtain⟨dx,o1⟩:=S7.ob;refine⟨_,rfl,p,dx,_,rfl,o1,_C,_,rfl,_,rfl,_,rfl,_,rfl,z,_,rfl,SqL.of hz7,by decide,by rw[MB._xt,length_reverse,length_map,length_map,Ao];omega,λr hr0=>?_⟩;rw[MB._xt,<-map_reverse];have sr:=_i (o:=.lst ((kk.map λj=>_qvm names j).reverse.map V.str)) hr0;have hnr:_qvl names (kk.map λj=>_qvm names j).reverse=kk:=by rw[_qc6,_X0 nd hks]
    refine⟨p,l,d,r,names,rv kv i,(kk.map λj=>_qvm names j).reverse,pt,rfl,S7.keep sr,_b,h6,by rw[length_reverse,length_map];omega,by omega,hok,λy hy=>xok y (Ff.mp hy),λy hy=>_X1 hks y (Ff.mp hy),?_⟩;rw[hnr];refine⟨.inr (by omega),by rw[show wt (rv kv i) kk=0 by unfold L_k66.wt;rw[_qcg nk];rfl];omega,λH8 kp8 hd8=>?_⟩;rw[_qfn nk p1.1]at hd8;have k8:∀a o,H7 a=some o->a≠d->H8 a=some o:=λa o h h1=>kp8 a o (sr _ _ h) h1;have S8:HallAt C H8 p l d names (rv kv i++[(kk,pt)]):=⟨⟨dx,k8 _ _ o1 (_xf o1 S7.ba nofun)⟩,k8 _ _ S7.st (_xf S7.st S7.ba nofun),hd8⟩;have hz8:=k8 _ _ hz7 nzd;obtain⟨dx,o1⟩:=S8.ob;have l8:∀a:Int,(rv kv i++[(kk,a)]).length<=8:=λa=>by rw[length_append];show _+1<=8;omega
    refine⟨_,rfl,p,dx,_,rfl,o1,_C,_,rfl,_,_,rfl,rfl,(by show(0:Int)<5;decide),_,_,rfl,rfl,_,rfl,p,l,d,z,names,_,kk.map λj=>_qvm names j,1+c%5,rfl,S8,hz8,h6,by rw[length_map];omega,by have:=l8 pt;omega,hok,xok,_X1 hks,?_⟩;rw[_X0 nd hks,_qa5 nk,_kw nk];refine⟨.inl rfl,by omega,λH9 kp9 hd9=>?_⟩;rw[_Vt nk (by omega)]at hd9;have S9:HallAt C H9 p l d names (rv kv i++[(kk,pt+(1+c%5))]):=⟨⟨dx,kp9 _ _ o1 (_xf o1 S8.ba nofun)⟩,kp9 _ _ S8.st (_xf S8.st S8.ba nofun),hd9⟩;have k9:∀a o,H7 a=some o->a≠d->H9 a=some o:=λa o h h1=>kp9 a o (k8 a o h h1) h1;have hz9:=k9 _ _ hz7 nzd;have dg9:=dg (k9 _ _ (sz _ _ hlo') nlod) (k9 _ _ (sz _ _ hb') nbd);have fin:∀{H10:Hp}{σ:L2.St}{c4:Option V}{E:Ends},σ=[some (.ref lo),some (.ref n),some (.int c),some (.ref p),c4,some (.ref b),some (.ref z),some (.int pt)]->(∀a o,H9 a=some o->a≠d->H10 a=some o)->HallAt C H10 p l d names (rv kv i++[(kk,wt kv kk+(1+c%5))])->(∀H',(∀a o,H10 a=some o->a≠d->H' a=some o)->HallAt C H' p l d names (rv kv (i+1))->E.nx σ H')->∃H0 p l d z k i,k∈ksR kv/\k∉(ksR kv).take i/\i<7/\Ta C H0 lo n p l d z names kv k (1+c%5) i c E σ H10:=fun{H10 σ c4 E} e k10 S10 q=>⟨H5,p,l,d,z,kk,i,hk,hnew,by omega,b,pt,c4,e,S10,k10 _ _ hz9 nzd,λa o h _ h1=>k10 _ _ (k9 _ _ (sz _ _ (kp _ _ h h1)) h1) h1,λH' k' S'=>q H' k' (by
     have er:rv kv (i+1)=rv kv i++[(kk,wt kv kk)]:=by
      unfold rv;rw[take_succ_eq_append_getElem hik,map_append,ekk];rfl
     rw[er];exact S')⟩
    have kall:∀{H10 H':Hp},(∀a o,H9 a=some o->a≠d->H10 a=some o)->(∀a o,H10 a=some o->a≠d->H' a=some o)->∀a o,H5 a=some o->a≠d->H' a=some o:=λk10 k' a o h h1=>k' _ _ (k10 _ _ (k9 _ _ (sz _ _ (kp _ _ h h1)) h1) h1) h1;refine⟨_,rfl,_,rfl,_,rfl,lo,_,rfl,dg9,_,_,rfl,rfl,_,rfl,?_⟩
    by_cases hlt:pt<wt kv kk
    ·rw[decide_eq_true hlt]
     refine _qvo ?_;obtain⟨dx,o1⟩:=S9.ob;refine⟨_,rfl,p,dx,_,rfl,o1,_C,_,rfl,_,rfl,lo,_,rfl,dg9,_,rfl,_,_,rfl,rfl,_,rfl,p,l,d,z,names,_,kk.map λj=>_qvm names j,wt kv kk-pt,rfl,S9,hz9,h6,by rw[length_map];omega,by have:=l8 (pt+(1+c%5));omega,hok,xok,_X1 hks,?_⟩;rw[_X0 nd hks,_qa5 nk,_kw nk];refine⟨.inl rfl,by omega,λHA kpA hdA=>?_⟩;rw[show pt+(1+c%5)+(wt kv kk-pt)=wt kv kk+(1+c%5) by omega,_Vt nk (by omega)]at hdA;exact fin rfl kpA ⟨⟨dx,kpA _ _ o1 (_xf o1 S9.ba nofun)⟩,kpA _ _ S9.st (_xf S9.st S9.ba nofun),hdA⟩ λH' k' S'=>⟨⟨_,_,_,_,rfl⟩,S',kall kpA k'⟩
    ·rw[decide_eq_false hlt]
     refine _qvp ?_;have ep:pt=wt kv kk:=by omega
     refine fin rfl (λ_ _ h _=>h) (by rw[<-ep];exact S9) λH' k' S'=>⟨⟨_,_,_,_,rfl⟩,S',kall (λ_ _ h _=>h) k'⟩
  ·obtain⟨⟨c4',c5,c6,c7,rfl⟩,S6,kp⟩:=hI
   rw[lR,_qq5]at S6;exact⟨_,rfl,k p l d _ (λb o hb=>kp _ _ (keep2 _ _ hb (_d hb hl0) (_d hb hd0)) (_d hb hd0)) S6⟩
end
theorem _qr4{K:Frag}{F0:Hp}{vs:List V}{ds:List D}{dd:D}(r:Reps K F0 vs ds) (hl:ds.length=1) (hg:lawD ds=some dd):∃(a:Addr) (ns:List Int),vs=[.ref a]/\SqE K F0 a (ns.map V.int)/\ns.length<=63/\dd=.bl true:=by
 cases r with
 |nil=>cases hl
 |cons r1 r=>cases r with
  |cons _ _=>cases hl
  |nil=>
   obtain⟨ns,hn,hg⟩:=bind_some hg;split at hg
   ·rename_i h63
    cases hg;have e:=_X8 hn;subst e;cases r1 with
    |lst hq rr=>
     refine⟨_,ns,rfl,?_,h63,rfl⟩
     have:∀{vs:List V}{ns:List Int},Reps K F0 vs (ns.map D.int)->vs=ns.map V.int:=by
      intro vs ns
      induction ns generalizing vs with
      |nil=>intro h;cases h;rfl
      |cons n ns ih=>
       intro h;cases h with
       |cons h t=>cases h;rw[ih t];rfl
     rw[<-this rr];exact hq
   ·cases hg
theorem Lot.okW{names:List Str}{B:Int}{kv:_qwr}(g:Lot names B kv) (hB0:0<=B) (hB:B<=1000000000000) (l12:(hp kv).length<=12):okW (hp kv):=by
 refine⟨λp hp=>?_,λp hp=>?_,by omega⟩
 ·obtain⟨k,hk,rfl⟩:=Ag.mp hp
  exact g.wt1 (by rw[_j3 (MT.mem_keys.mp hk)];rfl)
 ·obtain⟨k,hk,rfl⟩:=Ag.mp hp
  have:=(g.wt hB0 k).2
  show L_k66.wt kv k<2^72;omega
theorem iteNe{d e:D}{A B:Prop}(h:eqD d e=true) (hB:B):if(if true=true then !eqD d e else eqD d e)=true then A else B:=by
 rw[h];exact hB
theorem _kt{K:Frag}{H:Hp}{r:Addr}{xs:List Str}(h:H r=some (.lst (xs.map V.str))):Rep K H (.ref r) (.lst (xs.map D.str)):=.lst (.inl (.inl h)) (_z9 _)
structure Both(C:Addr) (H:Hp) (n p l d p2 l2 d2:Addr) (names:List Str) (kv:_qwr):Prop where
 s1:HallAt C H p l d names kv
 s2:HallAt C H p2 l2 d2 names (rvA kv)
 hn:H n=some (.lst (names.map V.str))
theorem Both.keep{C:Addr}{H H':Hp}{n p l d p2 l2 d2:Addr}{names:List Str}{kv:_qwr}(b:Both C H n p l d p2 l2 d2 names kv) (s:_qwk H H'):Both C H' n p l d p2 l2 d2 names kv:=⟨b.s1.keep s,b.s2.keep s,s _ _ b.hn⟩
section
variable{P:Ak}{w:World}{K:Frag}{mg:Str->Option Value}{base:Heap}{C:Addr}
theorem _Q9:FnScope ["script","names","hall","lots","other","k","seats","some","empty"] ["script"] (_e _qix):=fsc
set_option maxHeartbeats 8000000 in
theorem _qqs{f fI fB fN fH fJ:Addr}{fd fdI fdB fdN fdH fdJ:Am}(F:Fun K "law" "law" _qix f fd) (T:Hx K mg C) (Gn:Fn P w K mg base 2 "_law_names" ["script","at","many"] (_qgz K)) (Gc:Fn P w K mg base 1 "_law_cell" ["script","k"] (spD K 2 _O))
  (Gf:Fn P w K mg base 3 "_law_filled" ["hall","script","names"] (_qap K C)) (Gs:Fn P w K mg base 1 "_law_some" ["names","cell"] (spSome K)) (Ga:Fn P w K mg base 3 "_law_again" ["lots","names","cell"] (_qh2 C))
  (M:Mk K C fI) (GI:FnOk P w K mg base CX0 1 fI fdI ["self"] (_qii C)) (bI:L2.Binds K fdI ["self"] []) (GB:FnOk P w K mg base CX0 8 fB fdB ["self","seats"] (_qh1 K C)) (bB:L2.Binds K fdB ["self","seats"] []) (mB:Meth K C "bench_of" fB)
  (GN:FnOk P w K mg base CX0 1 fN fdN ["self"] (_qao C)) (bN:L2.Binds K fdN ["self"] []) (mN:Meth K C "names" fN) (GH:FnOk P w K mg base CX0 3 fH fdH ["self"] (_qel K C)) (bH:L2.Binds K fdH ["self"] []) (mH:Meth K C "heap" fH)
  (GJ:FnOk P w K mg base CX0 5 fJ fdJ ["self","seats","names"] (_qh0 K C)) (bJ:L2.Binds K fdJ ["self","seats","names"] []) (mJ:Meth K C "judge" fJ):FnOk P w K mg base CX0 12 f fd ["script"] (spD K 1 _qlt):=by
 obtain⟨fn,fdn,okn,mn_,kn,bn⟩:=Gn;obtain⟨fc,fdc,okc,mc,kc,bc⟩:=Gc;obtain⟨ff,fdf,okf,mf,kf,bf⟩:=Gf;obtain⟨fs,fds,oks,ms,ks,bs⟩:=Gs;obtain⟨fa,fda,oka,ma,ka,ba⟩:=Ga;refine F.ok _Q9 (k:=11) (λvs H Q E h=>by obtain⟨F,ds,d,_,r,hl,_⟩:=h;rw[r.length,hl];rfl) λcdv A outer s H vs Q E hr h=>?_;have hr1:Room 1 _:=hm hr;have hr2:Room 2 _:=hm hr;have hr3:Room 3 _:=hm hr;have hr5:Room 5 _:=hm hr;have hr8:Room 8 _:=hm hr;obtain⟨F0,ds,dd,sm0,r,hl,hg,k⟩:=h;obtain⟨a,ns,rfl,ha,h63,rfl⟩:=_qr4 r hl hg;clear r hl hg;have ce:∀(j:Nat),j<=1000->_O [MB._r ns,.int (j:Int)]=some (.int (cellOf ns j)):=λj hj=>_qdm ns j hj;refine⟨_,_j (_p (i:=1) _Q9.nd rfl (.inl rfl) (_q5 okn hr2 rfl mn_ kn bn .nil _jf (_c (pv 0) (_c _n (_c (_jk _zy _n (_jk _ve (_q5 okc hr1 rfl mc kc bc .nil _jf (_c (pv 0) (_c (_n) _o))) _n)) _o)))))
  (_j (_p (i:=2) _Q9.nd rfl (.inl rfl) (_qbm M GI hr2 rfl T.mgC bI .nil _jf))
  (_j (_p (i:=3) _Q9.nd rfl (.inl rfl) (_q5 okf hr3 rfl mf kf bf .nil _jf (_c (pv 2) (_c (pv 0) (_c (pv 1) _o)))))
  (_j (_p (i:=4) _Q9.nd rfl (.inl rfl) (_q5 oka hr3 rfl ma ka ba .nil _jf (_c (pv 3) (_c (pv 1) (_c (_q5 okc hr1 rfl mc kc bc .nil _jf (_c (pv 0) (_c (_n) _o))) _o)))))
  (_j (_Z7 (PW.pt (pw_or (_qo (_qf9 hr.units) (_zx (pv 2) T.cl mH GH hr3 bH .nil _jf) (_zx (pv 4) T.cl mH GH hr3 bH .nil _jf) (_P _)) (_qj7 (_qo (_qf9 hr.units) (_zx (pv 2) T.cl mN GN hr1 bN .nil _jf) (_zx (pv 4) T.cl mN GN hr1 bN .nil _jf) (_P _))))) (_w (_xs pe_bl)) _jj)
  (_j (_Jg A6 rfl (_vc rfl T.zr (_c _n _o)) (_qj (i:=5) _Q9.nd rfl (.inl rfl))
   (_j (_p (i:=6) _Q9.nd rfl (.inl rfl) (_jk _zy _n (_jk _ve (_q5 okc hr1 rfl mc kc bc .nil _jf (_c (pv 0) (_c (_jk _zy _n (pv 5)) _o))) _n)))
   (_j (_p (i:=7) _Q9.nd rfl (.inl rfl) (_q5 oks hr1 rfl ms ks bs .nil _jf (_c (pv 1) (_c (_q5 okc hr1 rfl mc kc bc .nil _jf (_c (pv 0) (_c (_jk _zy _n (pv 5)) _o))) _o))))
   (_j (_Z7 (_qo (_qf9 hr.units) (_qb (pv 2) T.cl mB GB hr8 bB .nil _jf (_c (pv 6) _o)) (_qb (pv 4) T.cl mB GB hr8 bB .nil _jf (_c (pv 6) _o)) (_P _)) (_w (_xs pe_bl)) _jj)
   (_w (_Z7 (_qo op_ne (_wh _qfa (_qb (pv 2) T.cl mJ GJ hr5 bJ .nil _jf (_c (pv 6) (_c (pv 7) _o))) _Yp (_P _)) (_wh _qfa (_qb (pv 4) T.cl mJ GJ hr5 bJ .nil _jf (_c (pv 6) (_c (_ku (pv 7) _vb _vb (_Xu (_qn1 _Yi _n))) _o))) _Yp (_P _)) (_P _)) (_w (_xs pe_bl)) _jj))))))
  (_j (_p (i:=8) _Q9.nd rfl (.inl rfl) (_q5 oka hr3 rfl ma ka ba .nil _jf (_c _Jn (_c (pv 1) (_c _n _o)))))
  (_w (_xs (_qn4 (_wh (_Vi hr.units) (_zx (pv 8) T.cl mH GH hr3 bH .nil _jf) (_Qa _o) (_P _)) (_qn4 (_wh (_Vi hr.units) (_qb (pv 8) T.cl mB GB hr8 bB .nil _jf (_c (_n) _o)) (_Qa _o) (_P _)) (_qqh (_wh _qfa (_qb (pv 8) T.cl mJ GJ hr5 bJ .nil _jf (_c (_n) (_c (pv 1) _o))) _Yp (_P _))))))))))))),?_⟩
 refine⟨_,rfl,_,rfl,F0,[MB._r ns,.int 4],_,sm0,.cons (.lst ha (_qx ns)) (.cons (.int _) .nil),rfl,ce 4 (by omega),λv1 F1 H1 e1 r1=>?_⟩;cases r1;refine⟨_,_,rfl,rfl,(by show(0:Int)<6;decide),_,_,rfl,rfl,?_⟩;have c0:=Co (cellOf ns 4) (b:=6) (by decide);have c1:=Bt (cellOf ns 4) (b:=6) (by decide);obtain⟨m,hm⟩:∃m:Nat,1+cellOf ns 4%6=(m:Int):=⟨(1+cellOf ns 4%6).toNat,by omega⟩;dsimp only;rw[hm];refine⟨F0,a,ns,0,m,rfl,sm0.trans e1.hh,ha,h63,by omega,by omega,λn H2 names s2 hn0 hn2 hnl nd hok=>?_⟩;have h6:names.length<=6:=by omega
 have s02:=e1.hh.trans s2;intro p dx np ndx nep;refine⟨p,dx,rfl,_b,λl d H3 hl hd S3 kp3=>⟨rfl,?_⟩⟩;have sx:_qwk H2 (upd (upd H2 dx (.own p)) p (.ins C dx [])):=λb o e=>by
  rw[_f (_d e np),_f (_d e ndx)];exact e
 have s3:_qwk H2 H3:=λb o e=>kp3 b o (sx _ _ e) (_d e np);have l2:H2 l=none:=sx.free hl;have d2:H2 d=none:=sx.free hd;have s03:=s02.trans s3;clear sx kp3 hl hd np ndx nep;refine⟨_,rfl,_,rfl,_,rfl,F0,p,l,d,a,n,ns,names,rfl,S3,sm0.trans s03,ha,h63,(sm0.trans s02).free l2,(sm0.trans s02).free d2,s3 _ _ hn2,_d hn2 l2,by omega,h6,nd,hok,λlo H4 kv hlo f4=>?_⟩;have l0:H l=none:=s02.free l2;have d0:H d=none:=s02.free d2;have s4:_qwk H H4:=λb o hb=>f4.keep b o (s03 _ _ hb) (_d hb l0) (_d hb d0);have g:=f4.lot.good h6 hok nd;have gR:=_qj2 g;have okw:=f4.lot.okW (by decide) (by decide) g.hlen;have eh:=_qq7 kv;have okwR:okW (hp (rvA kv)):=by rw[eh];exact okw
 have cellR:∀{Hx:Hp}(j:Nat),j<=1000->_qwk H Hx->∀Q':VK,(∀H',_qwk Hx H'->Q' (.int (cellOf ns j)) H')->spD K 2 _O [.ref a,.int (j:Int)] Hx Q' E0:=λj hj sx Q' q=>⟨F0,[MB._r ns,.int (j:Int)],_,sm0.trans sx,.cons (.lst ha (_qx ns)) (.cons (.int _) .nil),rfl,ce j hj,λv F' H' e r=>by cases r;exact q _ e.hh⟩;refine⟨_,rfl,_,rfl,_,rfl,cellR 7 (by decide) s4 _ λH5 s5=>?_⟩;have f5:=f4.keepS s5;refine⟨lo,n,names,kv,_,_,rfl,f5.hlo,f5.hn,f5.lot,by decide,by decide,h6,nd,hok,λp2 l2' d2' H6 s6 SR=>?_⟩;have B6:Both C H6 n p l d p2 l2' d2' names kv:=⟨f5.hall.keep s6,SR,s6 _ _ f5.hn⟩;have sH6:=s4.trans (s5.trans s6);clear f5 f4 SR s5 s6 s4 S3 s3 s03 l2 d2 hn2 hn0 s02 s2 e1 hm c0 c1 hlo;have shh:shp 20 (MB._I (hp kv))=true:=_qik _;have shn:shp 20 (.lst (names.map D.str))=true:=_j0 hok 19;obtain⟨dx,o1⟩:=B6.s1.ob;refine⟨_,rfl,p,dx,_,rfl,o1,_C,p,l,d,names,kv,rfl,B6.s1,by have:=g.l12;omega,g.kl,λv7 F7 H7 A7 ow7 sF7 hA7 s7=>?_⟩;have rf7:=ow7.rep sF7 (_xp g.kn) (λ_ _=>rfl);clear ow7 sF7 hA7 o1;have B7:=B6.keep s7;obtain⟨dx,o1⟩:=B7.s2.ob;refine⟨_,rfl,p2,dx,_,rfl,o1,_C,p2,l2',d2',names,rvA kv,rfl,B7.s2,by have:=gR.l12;omega,gR.kl,λv8 F8 H8 A8 ow8 sF8 hA8 s8=>?_⟩;have rf8:=ow8.rep sF8 (_xp gR.kn) (λ_ _=>rfl);rw[eh]at rf8;clear ow8 sF8 hA8 o1;refine⟨H8,_,_,_qwk.refl _,(_v3 s8).1 rf7,rf8,shh,shh,_,rfl,iteNe (_ka shh) ?_⟩;have B8:=B7.keep s8;have sH8:=sH6.trans (s7.trans s8);clear rf7 rf8 B7 B6 s7 s8 sH6;obtain⟨dx,o1⟩:=B8.s1.ob;refine⟨_,rfl,p,dx,_,rfl,o1,_C,p,l,d,names,kv,rfl,B8.s1,λn9 hn9=>?_⟩;have s9:=_i (o:=.lst (names.map V.str)) hn9;have h9:(upd H8 n9 (.lst (names.map V.str))) n9=some (.lst (names.map V.str)):=_b;generalize upd H8 n9 (.lst (names.map V.str))=H9 at s9 h9⊢;have B9:=B8.keep s9;obtain⟨dx,o1⟩:=B9.s2.ob;refine⟨_,rfl,p2,dx,_,rfl,o1,_C,p2,l2',d2',names,rvA kv,rfl,B9.s2,λnA hnA=>?_⟩;have sA:=_i (o:=.lst (names.map V.str)) hnA;refine⟨_,_,_,_qwk.refl _,_kt (sA _ _ h9),_kt _b,shn,shn,_,rfl,iteNe (_ka shn) ?_⟩;have BA:=B9.keep sA;have sHA:=sH8.trans (s9.trans sA);generalize upd H9 nA (.lst (names.map V.str))=HA at BA sHA⊢;clear B9 B8 s9 sA h9 hn9 hnA sH8 o1;refine⟨2,rfl,by decide,by decide,_kz (n:=2) (λi σ' H'=>∃c5 c6 c7 c8,σ'=[some (.ref a),some (.ref n),some (.ref p),some (.ref lo),some (.ref p2),c5,c6,c7,c8]/\Both C H' n p l d p2 l2' d2' names kv/\_qwk H H')
  ⟨_,_,_,_,rfl,BA,sHA⟩ (λi σ' H' hi hI=>?_) λσ' H' hI=>?_⟩
 ·obtain⟨c5,c6,c7,c8,rfl,B,sH⟩:=hI
  have hi2:i<2:=hi;have q5:=cellR (Hx:=H') (5+i) (by omega) sH;rw[show(((5+i:Nat):Nat):Int)=5+(0+(i:Int)) by omega]at q5;refine⟨_,rfl,_,rfl,_,_,rfl,rfl,q5 _ λH1 s1=>?_⟩;refine⟨_,_,rfl,rfl,(by show(0:Int)<6;decide),_,_,rfl,rfl,?_⟩;have c0:=Co (cellOf ns (5+i)) (b:=6) (by decide);have c1:=Bt (cellOf ns (5+i)) (b:=6) (by decide);dsimp only;generalize hs:1+cellOf ns (5+i)%6=seats;have hse:0<=seats/\seats<=6:=by omega
  have B1:=B.keep s1;have sH1:=sH.trans s1;clear hs c0 c1 q5;have q8:=cellR (Hx:=H1) (8+i) (by omega) sH1;rw[show(((8+i:Nat):Nat):Int)=8+(0+(i:Int)) by omega]at q8;refine⟨_,rfl,_,rfl,_,rfl,_,_,rfl,rfl,q8 _ λH2 s2=>?_⟩;have B2:=B1.keep s2;refine⟨n,_,names,rfl,B2.hn,by omega,nd,λz H3 ys s3 hz0 hz hys ynd y9=>?_⟩;have B3:=B2.keep s3;have sH3:=sH1.trans (s2.trans s3);clear B2 B1 s1 s2 s3 q8 hz0 sH1 B sH;obtain⟨dx,o1⟩:=B3.s1.ob;refine⟨_,rfl,p,dx,_,rfl,o1,_C,_,rfl,p,l,d,names,kv,seats,rfl,B3.s1,g,okw,hse,λr4 H4 s4 _ h4=>?_⟩;have B4:=B3.keep s4;obtain⟨dx,o1⟩:=B4.s2.ob;refine⟨_,rfl,p2,dx,_,rfl,o1,_C,_,rfl,p2,l2',d2',names,rvA kv,seats,rfl,B4.s2,gR,okwR,hse,λr5 H5 s5 _ h5=>?_⟩;rw[eh]at h5;have shb:shp 20 (.lst ((_Y8 (hp kv) seats names).map D.str))=true:=by
   refine _j0 (λy hy=>?_) 19;unfold _Y8 at hy;obtain⟨c,hc,rfl⟩:=Ag.mp hy;obtain⟨h0,h1⟩:=_qds (seats:=seats) g.below c hc;obtain⟨j,rfl⟩:=F5 h0;rw[_Jq (by omega)];exact hok _ (getElem_mem _)
  refine⟨H5,_,_,_qwk.refl _,_kt (s5 _ _ h4),_kt h5,shb,shb,_,rfl,iteNe (_ka shb) ?_⟩;have B5:=B4.keep s5;have sH5:=sH3.trans (s4.trans s5);have hz5:=s5 _ _ (s4 _ _ hz);clear B4 B3 s4 s5 h4 h5 sH3 hz o1;obtain⟨dx,o1⟩:=B5.s1.ob;refine⟨_,rfl,p,dx,_,rfl,o1,_C,_,rfl,_,rfl,p,l,d,z,names,kv,ys,seats,rfl,B5.s1,hz5,y9,hys,g,by omega,λv6 H6 s6 e6=>?_⟩;have B6:=B5.keep s6;obtain⟨dx,o1⟩:=B6.s2.ob;refine⟨rfl,_,rfl,p2,dx,_,rfl,o1,_C,_,rfl,_,rfl,_,rfl,_,rfl,z,_,rfl,SqL.of (s6 _ _ hz5),by decide,by rw[MB._xt,length_reverse,length_map,Ao];omega,λy hy=>?_⟩;rw[MB._xt,<-map_reverse];refine⟨p2,l2',d2',y,names,rvA kv,ys.reverse,seats,rfl,B6.s2.keep (_i hy),_b,by rw[length_reverse];exact y9,λx hx=>hys x (Ff.mp hx),gR,by omega,λv7 H7 s7 e7=>?_⟩;rw[_qc6,eh]at e7;refine⟨rfl,rfl,_,rfl,?_⟩;rw[show decide (V.bl (decide (v6=.non))=V.bl (decide (v7=.non)))=true by rw[e6,e7];simp];refine _qvp ?_;have s67:=s6.trans ((_i hy).trans s7);exact⟨_,_,_,_,rfl,B5.keep s67,sH5.trans s67⟩
 ·obtain⟨c5,c6,c7,c8,rfl,B,sH⟩:=hI
  intro lo2 hlo2;have s1:=_i (o:=.dT []) hlo2;have l1:(upd H' lo2 (.dT [])) lo2=some (.dT (kd [])):=_b;generalize upd H' lo2 (.dT [])=H1 at s1 l1⊢;refine⟨_,rfl,lo2,n,names,[],0,0,rfl,l1,s1 _ _ B.hn,⟨by simp,by simp,by simp,by simp[drop]⟩,by decide,by decide,h6,nd,hok,λp3 l3 d3 H2 s2 SE=>?_⟩;have SE:HallAt C H2 p3 l3 d3 names []:=SE;have g0:Good names []:=⟨h6,hok,nd,by simp,by simp,by simp⟩;have h0:hp []=[]:=rfl;have sH2:=sH.trans (s1.trans s2);have hn2:=s2 _ _ (s1 _ _ B.hn);obtain⟨dx,o1⟩:=SE.ob;refine⟨_,rfl,p3,dx,_,rfl,o1,_C,p3,l3,d3,names,[],rfl,SE,by show 0<60;decide,(λq hq=>by cases hq),λv3 F3 H3 A3 ow3 sF3 hA3 s3=>?_⟩;have rf3:=ow3.rep sF3 (_xp g0.kn) (λ_ _=>rfl);refine⟨by show 0<=Aj;decide,λe4 he4=>?_⟩;have s4:=_i (o:=.lst []) he4;refine⟨_,.lst [],.lst [],_qwk.refl _,(_v3 s4).1 rf3,.lst (.inl (.inl _b)) .nil,rfl,rfl,?_⟩;simp only[Aw,if_false];rw[_ka (n:=20) rfl];refine⟨_,rfl,_qvo ?_⟩;have SE4:=SE.keep (s3.trans s4);have sH4:=sH2.trans (s3.trans s4);have hn4:=s4 _ _ (s3 _ _ hn2);generalize upd H3 e4 (.lst [])=H4 at SE4 sH4 hn4⊢;clear rf3 ow3 sF3 hA3 s4 he4 s3 o1;obtain⟨dx,o1⟩:=SE4.ob;refine⟨_,rfl,p3,dx,_,rfl,o1,_C,p3,l3,d3,names,[],3,rfl,SE4,g0,by rw[h0];exact⟨by simp,by simp,by simp⟩,by decide,λr5 H5 s5 _ h5=>?_⟩;rw[h0,show _Y8 [] 3 names=[] by unfold _Y8;rw[_qs4];rfl]at h5;refine⟨by show 0<=Aj;decide,λe6 he6=>?_⟩;have s6:=_i (o:=.lst []) he6;refine⟨_,.lst [],.lst [],_qwk.refl _,.lst (.inl (.inl (s6 _ _ h5))) .nil,.lst (.inl (.inl _b)) .nil,rfl,rfl,?_⟩;simp only[Aw,if_false];rw[_ka (n:=20) rfl];refine⟨_,rfl,_qvo ?_⟩;have s56:=s5.trans s6;have SE6:=SE4.keep s56;obtain⟨dx,o1⟩:=SE6.ob;refine⟨_,rfl,p3,dx,_,rfl,o1,_C,_,rfl,p3,l3,d3,n,names,[],names,1,rfl,SE6,s56 _ _ hn4,by omega,λ_ h=>h,g0,by decide,λv7 H7 s7 e7=>⟨rfl,?_⟩⟩;rw[h0,_qkg]at e7;rw[e7];have sm:=sH4.trans (s56.trans s7);exact k (.bl true) F0 _ ⟨_qwk.refl _,sm0.trans sm,sm,λ_ _ h=>.inl h⟩ (.bl true)
end
def Dn(K:Frag) (x:Str) (st:Stmt):Prop:=∃(f:Addr) (od an:Option Addr) (sl:Array (Option Value)) (oc kV dc pm cd ct:Value),nsIn K Ar x=some (some (.ref f))/\K.lookup f=some ⟨oc,od,.func (fnOf x x (_jd st) (_q1 st) (_e st) .none kV dc pm an cd ct),sl⟩/\My K cd x=true/\Hb K (.ref f)=true
theorem dm{K:Frag}{x:Str}{st:Stmt}{f:Addr}{od an:Option Addr}{sl:Array (Option Value)}{oc kV dc pm cd ct:Value}(a:nsIn K Ar x=some (some (.ref f))) (l:K.lookup f=some ⟨oc,od,.func (fnOf x x (_jd st) (_q1 st) (_e st) .none kV dc pm an cd ct),sl⟩) (c:My K cd x=true) (k:Hb K (.ref f)=true):Dn K x st:=⟨f,od,an,sl,oc,kV,dc,pm,cd,ct,a,l,c,k⟩
theorem dn{P:Ak}{w:World}{K:Frag}{mg:Str->Option Value}{base h:Heap}(X:K.In h) (G:h.Ns Ar mg){x:Str}{st:Stmt}{k:Nat}{ps:List Str}{sp:Sp}(d:Dn K x st) (ok:∀{f:Addr}{fd:Am},Fun K x x st f fd->FnOk P w K mg base CX0 k f fd ps sp) (b:∀(kV doc pm:Value) (an:Option Addr) (cdv ct:Value) (us:List Value),us.length=ps.length->Hz (fnOf x x (_jd st) (_q1 st) (_e st) .none kV doc pm an cdv ct) ⟨us,[]⟩=pure (ps.zip us)):Fn P w K mg base k x ps sp:=by
 obtain⟨f,od,an,sl,oc,kV,dc,pm,cd,ct,a,l,c,kk⟩:=d;have F:=_qkv (st:=st) l c kk;exact⟨_,_,ok F,mg_of X G a,kk,F.binds (ps:=ps) b⟩
theorem dn1{P:Ak}{w:World}{K:Frag}{mg:Str->Option Value}{base h:Heap}(X:K.In h) (G:h.Ns Ar mg){x p0:Str}{st:Stmt}{k:Nat}{sp:Sp}(d:Dn K x st) (ok:∀{f:Addr}{fd:Am},Fun K x x st f fd->FnOk P w K mg base CX0 k f fd [p0] sp) (b:∀(kV doc pm:Value) (an:Option Addr) (cdv ct:Value) a0,Hz (fnOf x x (_jd st) (_q1 st) (_e st) .none kV doc pm an cdv ct) ⟨[a0],[]⟩=pure ([p0].zip [a0])):Fn P w K mg base k x [p0] sp:=
 dn X G d ok λ_ _ _ _ _ _ us hl=>by
  obtain⟨a0,rfl⟩:=Cm.mp hl;exact b _ _ _ _ _ _ a0
theorem dn2{P:Ak}{w:World}{K:Frag}{mg:Str->Option Value}{base h:Heap}(X:K.In h) (G:h.Ns Ar mg){x p0 p1:Str}{st:Stmt}{k:Nat}{sp:Sp}(d:Dn K x st) (ok:∀{f:Addr}{fd:Am},Fun K x x st f fd->FnOk P w K mg base CX0 k f fd [p0,p1] sp) (b:∀(kV doc pm:Value) (an:Option Addr) (cdv ct:Value) a0 a1,Hz (fnOf x x (_jd st) (_q1 st) (_e st) .none kV doc pm an cdv ct) ⟨[a0,a1],[]⟩=pure ([p0,p1].zip [a0,a1])):Fn P w K mg base k x [p0,p1] sp:=
 dn X G d ok λ_ _ _ _ _ _ us hl=>by
  cases us with
  |nil=>cases hl
  |cons a0 us=>
   obtain⟨a1,rfl⟩:=Cm.mp (Nat.succ.inj hl);exact b _ _ _ _ _ _ a0 a1
theorem dn3{P:Ak}{w:World}{K:Frag}{mg:Str->Option Value}{base h:Heap}(X:K.In h) (G:h.Ns Ar mg){x p0 p1 p2:Str}{st:Stmt}{k:Nat}{sp:Sp}(d:Dn K x st) (ok:∀{f:Addr}{fd:Am},Fun K x x st f fd->FnOk P w K mg base CX0 k f fd [p0,p1,p2] sp) (b:∀(kV doc pm:Value) (an:Option Addr) (cdv ct:Value) a0 a1 a2,Hz (fnOf x x (_jd st) (_q1 st) (_e st) .none kV doc pm an cdv ct) ⟨[a0,a1,a2],[]⟩=pure ([p0,p1,p2].zip [a0,a1,a2])):Fn P w K mg base k x [p0,p1,p2] sp:=
 dn X G d ok fun _ _ _ _ _ _ us hl=>by
  cases us with
  |nil=>cases hl
  |cons a0 us=>
   cases us with
   |nil=>cases hl
   |cons a1 us=>
    obtain⟨a2,rfl⟩:=Cm.mp (Nat.succ.inj (Nat.succ.inj hl));exact b _ _ _ _ _ _ a0 a1 a2
theorem dn4{P:Ak}{w:World}{K:Frag}{mg:Str->Option Value}{base h:Heap}(X:K.In h) (G:h.Ns Ar mg){x p0 p1 p2 p3:Str}{st:Stmt}{k:Nat}{sp:Sp}(d:Dn K x st) (ok:∀{f:Addr}{fd:Am},Fun K x x st f fd->FnOk P w K mg base CX0 k f fd [p0,p1,p2,p3] sp) (b:∀(kV doc pm:Value) (an:Option Addr) (cdv ct:Value) a0 a1 a2 a3,Hz (fnOf x x (_jd st) (_q1 st) (_e st) .none kV doc pm an cdv ct) ⟨[a0,a1,a2,a3],[]⟩=pure ([p0,p1,p2,p3].zip [a0,a1,a2,a3])):Fn P w K mg base k x [p0,p1,p2,p3] sp:=
 dn X G d ok fun _ _ _ _ _ _ us hl=>by
  cases us with
  |nil=>cases hl
  |cons a0 us=>
   cases us with
   |nil=>cases hl
   |cons a1 us=>
    cases us with
    |nil=>cases hl
    |cons a2 us=>
     obtain⟨a3,rfl⟩:=Cm.mp (Nat.succ.inj (Nat.succ.inj (Nat.succ.inj hl)));exact b _ _ _ _ _ _ a0 a1 a2 a3
def Dx(K:Frag) (C:Addr) (x y:Str) (st:Stmt):Prop:=∃(f:Addr) (od an:Option Addr) (sl:Array (Option Value)) (oc kV dc pm cd ct:Value),A9 K (.ref C) x=some (some (.ref f))/\Ho K (.ref f)=true/\K.lookup f=some ⟨oc,od,.func (fnOf x y (_jd st) (_q1 st) (_e st) .none kV dc pm an cd ct),sl⟩/\My K cd y=true/\Hb K (.ref f)=true
theorem dx{K:Frag}{C:Addr}{x y:Str}{st:Stmt}{f:Addr}{od an:Option Addr}{sl:Array (Option Value)}{oc kV dc pm cd ct:Value}(a:A9 K (.ref C) x=some (some (.ref f))) (i:Ho K (.ref f)=true) (l:K.lookup f=some ⟨oc,od,.func (fnOf x y (_jd st) (_q1 st) (_e st) .none kV dc pm an cd ct),sl⟩) (c:My K cd y=true) (k:Hb K (.ref f)=true):Dx K C x y st:=⟨f,od,an,sl,oc,kV,dc,pm,cd,ct,a,i,l,c,k⟩
theorem mx{P:Ak}{w:World}{K:Frag}{mg:Str->Option Value}{base:Heap}{C:Addr}{x y:Str}{st:Stmt}{k:Nat}{ps:List Str}{sp:Sp}(d:Dx K C x y st) (ok:∀{f:Addr}{fd:Am},Fun K x y st f fd->FnOk P w K mg base CX0 k f fd ps sp) (b:∀(kV doc pm:Value) (an:Option Addr) (cdv ct:Value) (us:List Value),us.length=ps.length->Hz (fnOf x y (_jd st) (_q1 st) (_e st) .none kV doc pm an cdv ct) ⟨us,[]⟩=pure (ps.zip us)):∃f fd,FnOk P w K mg base CX0 k f fd ps sp/\L2.Binds K fd ps []/\Meth K C x f:=by
 obtain⟨f,od,an,sl,oc,kV,dc,pm,cd,ct,a,i,l,c,kk⟩:=d;have F:=_qkv (st:=st) l c kk;exact⟨_,_,ok F,F.binds (ps:=ps) b,a,i,kk⟩
theorem len1{p0:Str}{Q:List Value->Prop}(h:∀a0,Q [a0]) (us:List Value) (hl:us.length=[p0].length):Q us:=by
 obtain⟨a0,rfl⟩:=Cm.mp hl;exact h a0
theorem len2{p0 p1:Str}{Q:List Value->Prop}(h:∀a0 a1,Q [a0,a1]) (us:List Value) (hl:us.length=[p0,p1].length):Q us:=by
 cases us with
 |nil=>cases hl
 |cons a0 us=>exact len1 (p0:=p1) (Q:=λus=>Q (a0::us)) (h a0) us (Nat.succ.inj hl)
theorem len3{p0 p1 p2:Str}{Q:List Value->Prop}(h:∀a0 a1 a2,Q [a0,a1,a2]) (us:List Value) (hl:us.length=[p0,p1,p2].length):Q us:=by
 cases us with
 |nil=>cases hl
 |cons a0 us=>exact len2 (p0:=p1) (p1:=p2) (Q:=λus=>Q (a0::us)) (h a0) us (Nat.succ.inj hl)
theorem all_mk{l:Hd}{w:World}{K:Frag}{h:Heap}{mg:Str->Option Value}{fa C:Addr}{tk0 tk1 tk2:Tok}(X:K.In h) (G:h.Ns Ar mg) (hfa:mg "law"=some (.ref fa))
  (aC:nsIn K Ar "Hall"=some (some (.ref C)))
  (d0:Dn K "first_purses" _xe)
  (d1:Dn K "below" _qb7)
  (d2:Dn K "least" _qb3)
  (d3:Dn K "weight_of" _vy)
  (d4:Dn K "likes_each" _zv)
  (d5:Dn K "agreed" _Z4)
  (d6:Dn K "likers" _Z2)
  (d7:Dn K "divisor" _Jd)
  (d8:Dn K "common_bottom" _jr)
  (d9:Dn K "tops_over" _v0)
  (d10:Dn K "weight_at" _vz)
  (d11:Dn K "share" _qb0)
  (d12:Dn K "rate" _qiu)
  (d13:Dn K "liked" _qb2)
  (d14:Dn K "offers" _Z1)
  (d15:Dn K "minus" _qb1)
  (d16:Dn K "purse_behind" _xd)
  (d17:Dn K "paid" _qiw)
  (d18:Dn K "rounds" _Z0)
  (d19:Dn K "candidates_of" _js)
  (d20:Dn K "weighed" _Jc)
  (d21:Dn K "wait" _qir)
  (d22:Dn K "waits" _qaz)
  (d23:Dn K "plus" _qiv)
  (d24:Dn K "purses_behind" _jp)
  (d25:Dn K "grown" _qb4)
  (d26:Dn K "last_purses" _xr)
  (d27:Dn K "bench" _qb6)
  (d28:Dn K "members_liked" _jq)
  (d29:Dn K "claim" _qb5)
  (d30:Dn K "choices" _Je)
  (d31:Dn K "left_out" _wd)
  (d32:Dn K "_law_cell" _v1)
  (d33:Dn K "tidy" _qis)
  (d34:Dn K "_law_names" _zw)
  (d35:Dn K "_law_filled" _Z3)
  (d36:Dn K "_law_some" _qit)
  (d37:Dn K "_law_again" _qb8)
  (d38:Dn K "law" _qix)
  (e0:Dx K C "__init__" "Hall.__init__" sInit)
  (e1:Dx K C "stand" "Hall.stand" _qiy)
  (e2:Dx K C "heap" "Hall.heap" sHeap)
  (e3:Dx K C "cast" "Hall.cast" sCast)
  (e4:Dx K C "lift" "Hall.lift" sLift)
  (e5:Dx K C "lay" "Hall.lay" sLay)
  (e6:Dx K C "numbers_of" "Hall.numbers_of" sNums)
  (e7:Dx K C "names_of" "Hall.names_of" _Z5)
  (e8:Dx K C "names" "Hall.names" _qiz)
  (e9:Dx K C "bench_of" "Hall.bench_of" _qj1)
  (e10:Dx K C "judge" "Hall.judge" _qj0)
  (pg:Fb K C Str.empty=true)
  (hd:F6 K C=true)
  (po:Ip K C=true)
  (sa:A9 K (.ref C) "__setattr__"=some (some (.builtin "object.__setattr__")))
  (mk:J7 K C=true)
  (kc:Hb K (.ref C)=true)
  (nS:A9 K (.ref C) "standing"=some none)
  (nB:A9 K (.ref C) "ballots"=some none)
  (y0:nsIn K Ar "MOST_STANDING"=some (some (.int 6 tk0)))
  (y1:nsIn K Ar "MOST_PILES"=some (some (.int 12 tk1)))
  (y2:nsIn K Ar "MOST_BALLOTS"=some (some (.int 1000000000000000000 tk2)))
  (z0:nsIn K Ar "range"=some none)
  (z1:nsIn K Ar "len"=some none)
  (z2:nsIn K Ar "list"=some none)
  (z3:nsIn K Ar "tuple"=some none)
  (z4:nsIn K Ar "sorted"=some none)
  (z5:nsIn K Ar "max"=some none)
  (z6:nsIn K Ar "min"=some none)
  (z7:nsIn K Ar "all"=some none)
  (z8:nsIn K Ar "enumerate"=some none)
  (z9:nsIn K Ar "isinstance"=some none)
  (z10:nsIn K Ar "abs"=some none)
  (z11:nsIn K Ar "set"=some none)
  (z12:nsIn K Ar "sum"=some none)
  (z13:nsIn K Ar "zip"=some none):
  ∃fd:Am,(∀(s:Shared) (v:Value),Ir s fd ⟨[v],[]⟩ [("script",v)])/\∀base:Heap,K.In base->base.Ns Ar mg->FnOk l.prog w K mg base CX0 12 fa fd ["script"] (spD K 1 _qlt):=by
 obtain⟨f,od,an,sl,oc,kV,dc,pm,cd,ct,a,l1,c,kk⟩:=d38;have e:=hfa.symm.trans (mg_of X G a);cases e;have T:Hx K mg C:=⟨⟨pg,hd,po,sa⟩,nS,nB,mg_of X G aC,⟨_,mg_of X G y0⟩,⟨_,mg_of X G y1⟩,⟨_,mg_of X G y2⟩,Bo X G z0,Bo X G z1,Bo X G z2,Bo X G z3,Bo X G z4,Bo X G z5,Bo X G z6,Bo X G z7,Bo X G z8,Bo X G z9⟩;have T1:Txt mg:=⟨Bo X G z10,Bo X G z7,Bo X G z8,Bo X G z1,Bo X G z2,Bo X G z11,Bo X G z4,Bo X G z12,Bo X G z13⟩;have F:=_qkv (st:=_qix) l1 c kk;refine⟨fnOf "law" "law" (_jd _qix) (_q1 _qix) (_e _qix) .none kV dc pm an cd ct,λs v=>.of_eq rfl,λbase _ _=>?_⟩;have D1:=@dn1 l.prog w K mg base h X G;have D2:=@dn2 l.prog w K mg base h X G;have D3:=@dn3 l.prog w K mg base h X G;have D4:=@dn4 l.prog w K mg base h X G;have G_first_purses:=D2 d0 (λF=>_Qc F T1) λ_ _ _ _ _ _ _ _=>rfl;have G_below:=D2 d1 (λF=>_qjx F T1) λ_ _ _ _ _ _ _ _=>rfl;have G_least:=D1 d2 (λF=>_qjs F T1 G_below) λ_ _ _ _ _ _ _=>rfl;have G_weight_of:=D1 d3 (λF=>_Vj F T1) λ_ _ _ _ _ _ _=>rfl;have G_likes_each:=D2 d4 (λF=>_Xy F T1) λ_ _ _ _ _ _ _ _=>rfl;have G_agreed:=D2 d5 (λF=>_qff F T1 G_likes_each) λ_ _ _ _ _ _ _ _=>rfl;have G_likers:=D2 d6 (λF=>_qfd F T1 G_agreed) λ_ _ _ _ _ _ _ _=>rfl;have G_divisor:=D2 d7 (λF=>_qc1 F T1) λ_ _ _ _ _ _ _ _=>rfl;have G_common_bottom:=D1 d8 (λF=>_wl F T1 G_divisor) λ_ _ _ _ _ _ _=>rfl;have G_tops_over:=D2 d9 (λF=>_Vl F T1) λ_ _ _ _ _ _ _ _=>rfl;have G_weight_at:=D2 d10 (λF=>_Vk F T1) λ_ _ _ _ _ _ _ _=>rfl;have G_share:=D2 d11 (λF=>_qjo F T1 G_divisor) λ_ _ _ _ _ _ _ _=>rfl;have G_rate:=D4 d12 (λF=>_qne F T1 G_likers G_common_bottom G_tops_over G_weight_at G_share) λ_ _ _ _ _ _ _ _ _ _=>rfl;have G_liked:=D1 d13 (λF=>_qjr F T1) λ_ _ _ _ _ _ _=>rfl;have G_offers:=D3 d14 (λF=>_qfc F T1 G_weight_of G_rate G_liked) λ_ _ _ _ _ _ _ _ _=>rfl;have G_minus:=D2 d15 (λF=>_qjq F T1 G_share) λ_ _ _ _ _ _ _ _=>rfl;have G_purse_behind:=D2 d16 (λF=>_Qb F T1 G_below G_minus) λ_ _ _ _ _ _ _ _=>rfl;have G_paid:=D4 d17 (λF=>_qng F T1 G_purse_behind G_likers) λ_ _ _ _ _ _ _ _ _ _=>rfl;have G_rounds:=D2 d18 (λF=>_qfb F T1 G_first_purses G_least G_offers G_paid) λ_ _ _ _ _ _ _ _=>rfl;have G_candidates_of:=D1 d19 (λF=>_wm F T1) λ_ _ _ _ _ _ _=>rfl;have G_weighed:=D3 d20 (λF=>_qbz F T1) λ_ _ _ _ _ _ _ _ _=>rfl;have G_wait:=D3 d21 (λF=>_qnb F T1 G_likers G_common_bottom G_weight_of G_weighed G_tops_over G_share G_weight_at) λ_ _ _ _ _ _ _ _ _=>rfl;have G_waits:=D4 d22 (λF=>_qjm F T1 G_wait G_liked) λ_ _ _ _ _ _ _ _ _ _=>rfl;have G_plus:=D2 d23 (λF=>_qnf F T1 G_share) λ_ _ _ _ _ _ _ _=>rfl;have G_purses_behind:=D3 d24 (λF=>_wj F T1 G_likers G_plus) λ_ _ _ _ _ _ _ _ _=>rfl;have G_grown:=D4 d25 (λF=>_qju F T1 G_least G_waits G_purses_behind) λ_ _ _ _ _ _ _ _ _ _=>rfl;have G_last_purses:=D3 d26 (λF=>_Jp F T1 G_first_purses) λ_ _ _ _ _ _ _ _ _=>rfl;have G_bench:=D2 d27 (λF=>_qjw F T1 G_rounds G_candidates_of G_grown G_last_purses) λ_ _ _ _ _ _ _ _=>rfl;have G_members_liked:=D3 d28 (λF=>_wk F T1) λ_ _ _ _ _ _ _ _ _=>rfl;have G_claim:=D4 d29 (λF=>_qjv F T1 G_agreed G_weight_at G_weight_of) λ_ _ _ _ _ _ _ _ _ _=>rfl;have G_choices:=D1 d30 (λF=>_qc2 F T1) λ_ _ _ _ _ _ _=>rfl;have G_left_out:=D3 d31 (λF=>_Yq F T1 G_members_liked G_agreed G_claim G_choices G_liked) λ_ _ _ _ _ _ _ _ _=>rfl;have G__law_cell:=D2 d32 (λF=>_Vm F T1) λ_ _ _ _ _ _ _ _=>rfl;obtain⟨_,_,oI,bI,mI⟩:=mx (P:=l.prog) (w:=w) (mg:=mg) (base:=base) e0 (λF=>_qnj F T) (λ_ _ _ _ _ _=>len1 λ_=>rfl);obtain⟨_,_,oS,bS,mS⟩:=mx (P:=l.prog) (w:=w) (mg:=mg) (base:=base) e1 (λF=>_qjn F T) (λ_ _ _ _ _ _=>len2 λ_ _=>rfl);obtain⟨_,_,oL,bL,mL⟩:=mx (P:=l.prog) (w:=w) (mg:=mg) (base:=base) e5 (λF=>_qqr F T) (λ_ _ _ _ _ _=>len3 λ_ _ _=>rfl);obtain⟨_,_,oM,bM,mM⟩:=mx (P:=l.prog) (w:=w) (mg:=mg) (base:=base) e6 (λF=>_qnh F T) (λ_ _ _ _ _ _=>len2 λ_ _=>rfl);obtain⟨_,_,oO,bO,mO⟩:=mx (P:=l.prog) (w:=w) (mg:=mg) (base:=base) e7 (λF=>_qc0 F T) (λ_ _ _ _ _ _=>len2 λ_ _=>rfl);obtain⟨_,_,oN,bN,mN⟩:=mx (P:=l.prog) (w:=w) (mg:=mg) (base:=base) e8 (λF=>_qjp F T) (λ_ _ _ _ _ _=>len1 λ_=>rfl);obtain⟨_,_,oC,bC,mC⟩:=mx (P:=l.prog) (w:=w) (mg:=mg) (base:=base) e3 (λF=>_qnl F T oM bM mM oL bL mL) (λ_ _ _ _ _ _=>len3 λ_ _ _=>rfl);obtain⟨_,_,oF,bF,mF⟩:=mx (P:=l.prog) (w:=w) (mg:=mg) (base:=base) e4 (λF=>_qni F T oM bM mM oL bL mL) (λ_ _ _ _ _ _=>len3 λ_ _ _=>rfl);have Gt:=D1 d33 (λF=>_qnc F T) λ_ _ _ _ _ _ _=>rfl;obtain⟨_,_,oH,bH,mH⟩:=mx (P:=l.prog) (w:=w) (mg:=mg) (base:=base) e2 (λF=>_qnk F T Gt) (λ_ _ _ _ _ _=>len1 λ_=>rfl);obtain⟨_,_,oB,bB,mB⟩:=mx (P:=l.prog) (w:=w) (mg:=mg) (base:=base) e9 (λF=>_qc3 F T oH bH mH oO bO mO G_bench) (λ_ _ _ _ _ _=>len2 λ_ _=>rfl);have Gn:=D3 d34 (λF=>_Xz F T1 T.zr G__law_cell) λ_ _ _ _ _ _ _ _ _=>rfl;have Gf:=D3 d35 (λF=>_qfe F T G__law_cell oS bS mS oC bC mC) λ_ _ _ _ _ _ _ _ _=>rfl;have Gs:=D2 d36 (λF=>_qnd F T) λ_ _ _ _ _ _ _ _=>rfl;obtain⟨_,_,oJ,bJ,mJ⟩:=mx (P:=l.prog) (w:=w) (mg:=mg) (base:=base) e10 (λF=>_qjt F T oM bM mM oH bH mH oO bO mO G_left_out) (λ_ _ _ _ _ _=>len3 λ_ _ _=>rfl);have Ga:=D3 d37 (λF=>_qjy F T ⟨mk,mI.at_,mI.fn,kc⟩ oI bI oS bS mS oC bC mC oF bF mF) λ_ _ _ _ _ _ _ _ _=>rfl;exact _qqs F T Gn G__law_cell Gf Gs Ga ⟨mk,mI.at_,mI.fn,kc⟩ oI bI oB bB mB oN bN mN oH bH mH oJ bJ mJ
theorem walk{l:Hd}{qq:Ak}{loose:List Str}{XP:(Str->Option Value)->Heap->Prop}{YP:World->Heap->Prop}{d:DefRec}{K:Params->Frag}(hlaw:∀ns:List Int,ns.length<=63->_qlt [.lst (ns.map .int)]=some (.bl true)) (hn:l.most=some 63) (hdf:d.params.defaults=[])
  (hY:∀(w:World) (h:Heap),YP w h->(K w.params).In h)
  (F:∀(w:World) (mg:Str->Option Value) (fa:Addr) (h:Heap),(K w.params).In h->h.Ns Ar mg->mg d.name=some (.ref fa)->
   ∃fd:Am,(∀(s:Shared) (u:Value),Ir s fd ⟨[u],[]⟩ [("script",u)])/\∀base:Heap,(K w.params).In base->base.Ns Ar mg->FnOk l.prog w (K w.params) mg base CX0 12 fa fd ["script"] (spD (K w.params) 1 _qlt)):
  Ll qq loose XP YP l.row.toRowW d [] (λf vs=>PySem.call f vs):=
 DL._qgo (n:=63) (k:=12) (x:="script") (CX:=λ_=>CX0) (sp:=λw=>spD (K w.params) 1 _qlt) hn (by decide) hdf ⟨rfl,by decide,by decide⟩ hY F (λ_ _ a ns hl hS=>_qr3 (hlaw ns hl) hS) λ_ _ _ _ _ z=>z
end L_k66
namespace PySem.W.Fast
theorem tw8000161155043012774:True:=⟨⟩
theorem tw6996441858020940112:True:=⟨⟩
theorem tw7864467639234819476:True:=⟨⟩
theorem tw9713351536556327621:True:=⟨⟩
theorem tw12155410463961698101:True:=⟨⟩
theorem tw1172590148038246649:True:=⟨⟩
theorem tw4447085724678566977:True:=⟨⟩
theorem tw5942577085422667338:True:=⟨⟩
theorem tw1636156449457050854:True:=⟨⟩
theorem tw2887042476566747275:True:=⟨⟩
theorem tw7285499267398863724:True:=⟨⟩
theorem tw12725146149895884667:True:=⟨⟩
theorem tw13792047103761223200:True:=⟨⟩
theorem tw15916882322015948312:True:=⟨⟩
theorem tw12352652513836001341:True:=⟨⟩
theorem tw17849591622291109895:True:=⟨⟩
theorem tw9277672630368335824:True:=⟨⟩
theorem tw14645126599170019916:True:=⟨⟩
theorem tw3448741702022756921:True:=⟨⟩
theorem tw1983125684357098689:True:=⟨⟩
theorem tw1217145918255926027:True:=⟨⟩
theorem tw17742612000484321617:True:=⟨⟩
theorem tw9139676631445928020:True:=⟨⟩
theorem tw11641632152109611538:True:=⟨⟩
theorem tw10368346471599069676:True:=⟨⟩
theorem tw15789054929210733186:True:=⟨⟩
theorem tw17916501460119126454:True:=⟨⟩
theorem tw16468551445261080170:True:=⟨⟩
theorem tw1256839785922755830:True:=⟨⟩
theorem tw6350507181938874078:True:=⟨⟩
theorem tw5163778410487524683:True:=⟨⟩
theorem tw11088882787990134761:True:=⟨⟩
theorem tw11278718397809031253:True:=⟨⟩
theorem tw18411888198212474643:True:=⟨⟩
theorem tw16233172344131146286:True:=⟨⟩
theorem tw11978056194754289763:True:=⟨⟩
theorem tw18074214083641374429:True:=⟨⟩
theorem tw17137644188189044084:True:=⟨⟩
theorem tw7238399124262108188:True:=⟨⟩
theorem tw12724631364584756084:True:=⟨⟩
theorem tw11924869682942019892:True:=⟨⟩
theorem tw7079772547116736241:True:=⟨⟩
theorem tw5844523799553094706:True:=⟨⟩
theorem tw14471887787716248772:True:=⟨⟩
theorem tw11649331288344064189:True:=⟨⟩
theorem tw6253101510335874442:True:=⟨⟩
theorem tw1565938040968925032:True:=⟨⟩
theorem tw16817053502670783012:True:=⟨⟩
theorem tw2475609384587731982:True:=⟨⟩
theorem tw3246421111966180418:True:=⟨⟩
end PySem.W.Fast
open PySem PySem.W PyProof.Rows
set_option maxRecDepth 100000 in
set_option maxHeartbeats 0 in
theorem PySem.Challenge.cw_pursebench_k66_whole_heap_alone_holds : PySem.Challenge.rw_pursebench_k66_whole_heap_alone.Holds := by
 w_on;o_law;k_head;(case hw=>w_witness2)
 k_fill
 refine L_k66.walk (l:=PySem.Challenge.rw_pursebench_k66_whole_heap_alone) L_k66.law_true rfl rfl (λw h Y=>PySem.W.kIn_of Y) ?F
 case F=>
  intro w mg fa h KX G hmg
  refine' L_k66.all_mk KX G hmg ?_ ?_ ?_ ?_ ?_ ?_ ?_ ?_ ?_ ?_ ?_ ?_ ?_ ?_ ?_ ?_ ?_ ?_ ?_ ?_ ?_ ?_ ?_ ?_ ?_ ?_ ?_ ?_ ?_ ?_ ?_ ?_ ?_ ?_ ?_ ?_ ?_ ?_ ?_ ?_ ?_ ?_ ?_ ?_ ?_ ?_ ?_ ?_ ?_ ?_ ?_ ?_ ?_ ?_ ?_ ?_ ?_ ?_ ?_ ?_ ?_ ?_ ?_ ?_ ?_ ?_ ?_ ?_ ?_ ?_ ?_ ?_ ?_ ?_ ?_ ?_
  all_goals first|(refine' L_k66.dm ?a ?l ?c ?k;(case a=>k_is);(case l=>k_is);(case c=>k_is);(case k=>k_is))|(refine' L_k66.dx ?a ?i ?l ?c ?k;(case a=>k_is);(case i=>k_is);(case l=>k_is);(case c=>k_is);(case k=>k_is))|k_is|skip
